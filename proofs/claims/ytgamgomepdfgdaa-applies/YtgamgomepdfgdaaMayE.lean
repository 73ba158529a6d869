import Derived.Test.YtgamgomepdfgdaaMay
namespace Go.Proofs.Ytgamgomepdfgdaa
open Go.RowKit

theorem edits_cells {w wr : World} {b off : Nat} {l : List Ed} (hb : Below w.heap.size w wr) (hlt : b < w.heap.size)
    (h0 : ∀ i (h : i < l.length), w.cell? ⟨b, off + i * 3, none⟩ = some (.string l[i].1)) (h1 : ∀ i (h : i < l.length), w.cell? ⟨b, off + i * 3 + 1, none⟩ = some (.string l[i].2.1)) (h2 : ∀ i (h : i < l.length), w.cell? ⟨b, off + i * 3 + 2, none⟩ = some (.string l[i].2.2)) :
    (∀ i (h : i < l.length), wr.cell? ⟨b, off + i * 3, none⟩ = some (.string l[i].1)) ∧ (∀ i (h : i < l.length), wr.cell? ⟨b, off + i * 3 + 1, none⟩ = some (.string l[i].2.1)) ∧ (∀ i (h : i < l.length), wr.cell? ⟨b, off + i * 3 + 2, none⟩ = some (.string l[i].2.2)) ∧ b < wr.heap.size :=
  ⟨fun i h => (hb.cell (by exact hlt)).trans (h0 i h), fun i h => (hb.cell (by exact hlt)).trans (h1 i h), fun i h => (hb.cell (by exact hlt)).trans (h2 i h), Nat.lt_of_lt_of_le hlt hb.size⟩

theorem files_cells {w wr : World} {b off : Nat} {l : List Fl} (hb : Below w.heap.size w wr) (hlt : b < w.heap.size)
    (h0 : ∀ i (h : i < l.length), w.cell? ⟨b, off + i * 2, none⟩ = some (.string l[i].1)) (h1 : ∀ i (h : i < l.length), w.cell? ⟨b, off + i * 2 + 1, none⟩ = some (.string l[i].2)) :
    (∀ i (h : i < l.length), wr.cell? ⟨b, off + i * 2, none⟩ = some (.string l[i].1)) ∧ (∀ i (h : i < l.length), wr.cell? ⟨b, off + i * 2 + 1, none⟩ = some (.string l[i].2)) ∧ b < wr.heap.size :=
  ⟨fun i h => (hb.cell (by exact hlt)).trans (h0 i h), fun i h => (hb.cell (by exact hlt)).trans (h1 i h), Nat.lt_of_lt_of_le hlt hb.size⟩

theorem below_box {w wr : World} (hb : Below w.heap.size w wr) (o : Obj) (m : Nat) : Below w.heap.size w ((wr.alloc o).drewN m) :=
  (hb.alloc hb.size o).trans ⟨rfl, rfl, rfl, Nat.le_refl _, fun _ _ => rfl⟩

set_option maxHeartbeats 2000000 in
theorem editsMay_row (l : List Ed) (b off cap : Nat) (w : World) (hlt : b < w.heap.size)
    (h0 : ∀ i (h : i < l.length), w.cell? ⟨b, off + i * 3, none⟩ = some (.string l[i].1)) (h1 : ∀ i (h : i < l.length), w.cell? ⟨b, off + i * 3 + 1, none⟩ = some (.string l[i].2.1)) (h2 : ∀ i (h : i < l.length), w.cell? ⟨b, off + i * 3 + 2, none⟩ = some (.string l[i].2.2))
    (hn1 : 1 ≤ l.length) (hn4 : l.length ≤ 4) :
    Calls Try.prog 20 #[.slice (some ⟨b, off, none⟩) l.length cap] w fun e w' => RetIff e (Good okEd Prod.fst l) ∧ Below w.heap.size w w' := by
  go_enter Try.func20, Try.ntmps20
  go_wp2
  go_loopw [3] (fun i wr => ∃ k : Nat, k ≤ l.length ∧ i = .int .i64 k ∧ Below w.heap.size w wr ∧ Hid (Good okEd Prod.fst (l.take k))) (fun i _ => l.length - (intOf i).toNat)
  case atStart => exact ⟨0, Nat.zero_le _, rfl, Below.refl _ _, Good.nil _ _⟩
  case round =>
    obtain ⟨k, hk, rfl, hb, hs⟩ := hrel
    obtain ⟨g0, g1, g2, gb⟩ := edits_cells hb hlt h0 h1 h2
    clear h0 h1 h2
    by_cases hlk : k < l.length
    · by_cases hok : okEd l[k] = true
      · have H := good_succ (ok := okEd) (key := Prod.fst) hlk
        have HS : Hid ((∀ j (h : j < k), (l[j]'(by omega)).1 ≠ l[k].1) → Good okEd Prod.fst (l.take (k + 1))) := fun h => H.2 ⟨hs.out, hok, h⟩
        obtain ⟨⟨q1, q2⟩, q3, q4, q5⟩ := (okEd_iff _).1 hok
        have q6 : (l[k].2.1.toList == l[k].2.2.toList) = false := (beq_false_iff _ _).2 q5
        clear H hok q5
        go_wp2
        go_loopw [5] (fun i wr' => ∃ j m : Nat, j ≤ k ∧ i = .int .i64 j ∧ wr' = (wr.alloc (.cells #[.string l[k].1, .string l[k].2.1, .string l[k].2.2] 49)).drewN m ∧ Hid (∀ x (h : x < j) (h' : x < l.length), l[x].1 ≠ l[k].1)) (fun i _ => k - (intOf i).toNat)
        case atStart => exact ⟨0, 0, Nat.zero_le _, rfl, rfl, fun x h => by omega⟩
        case round =>
          obtain ⟨j, m, hj, rfl, rfl, hi⟩ := hrel
          by_cases hjk : j < k
          · have hjl : j < l.length := by omega
            go_wp2
            go_quiet (fail)
            go_wp2
            · go_ret
              refine ⟨.no (good_twice hlk hjk ((beq_true_iff _ _).1 ‹_›)), ?_⟩
              simp only [World.drewN_drewN]
              exact below_box hb _ _
            · go_roundw
              case rel => exact ⟨j + 1, _, hjk, by go_num, rfl, fun x hx hx' => by
                  by_cases e : x = j
                  · subst e; exact (beq_false_iff _ _).1 ‹_›
                  · exact hi.out x (by omega) hx'⟩
              case measure => simp [intOf]; omega
          · go_wp2
            go_roundw
            case rel => exact ⟨k + 1, hlk, by go_num, below_box hb _ _, HS.out fun x hx => hi.out x (by omega) (by omega)⟩
            case measure => simp [intOf]; omega
      · have hB : Hid (¬ Good okEd Prod.fst l) := good_stop hlk hok
        have hok' : ¬ ((1 ≤ l[k].1.size ∧ l[k].1.size ≤ 8) ∧ l[k].2.1.size ≤ 8 ∧ l[k].2.2.size ≤ 8 ∧ l[k].2.1 ≠ l[k].2.2) := fun h => hok ((okEd_iff _).2 h)
        have hd : (l[k].2.1.toList == l[k].2.2.toList) = true ∨ l[k].2.1 ≠ l[k].2.2 := by
          by_cases e : l[k].2.1 = l[k].2.2
          · exact .inl ((beq_true_iff _ _).2 e)
          · exact .inr e
        have hc : l[k].1.size < 1 ∨ (1 ≤ l[k].1.size ∧ 8 < l[k].1.size) ∨ (1 ≤ l[k].1.size ∧ l[k].1.size ≤ 8 ∧ 8 < l[k].2.1.size) ∨ (1 ≤ l[k].1.size ∧ l[k].1.size ≤ 8 ∧ l[k].2.1.size ≤ 8 ∧ 8 < l[k].2.2.size) ∨
            (1 ≤ l[k].1.size ∧ l[k].1.size ≤ 8 ∧ l[k].2.1.size ≤ 8 ∧ l[k].2.2.size ≤ 8 ∧ (l[k].2.1.toList == l[k].2.2.toList) = true) := by
          rcases hd with h | h
          · have : l[k].1.size < 1 ∨ (1 ≤ l[k].1.size ∧ 8 < l[k].1.size) ∨ (1 ≤ l[k].1.size ∧ l[k].1.size ≤ 8 ∧ 8 < l[k].2.1.size) ∨ (1 ≤ l[k].1.size ∧ l[k].1.size ≤ 8 ∧ l[k].2.1.size ≤ 8 ∧ 8 < l[k].2.2.size) ∨ (1 ≤ l[k].1.size ∧ l[k].1.size ≤ 8 ∧ l[k].2.1.size ≤ 8 ∧ l[k].2.2.size ≤ 8) := by omega
            rcases this with c | c | c | c | ⟨c, d, e, f⟩
            · exact .inl c
            · exact .inr (.inl c)
            · exact .inr (.inr (.inl c))
            · exact .inr (.inr (.inr (.inl c)))
            · exact .inr (.inr (.inr (.inr ⟨c, d, e, f, h⟩)))
          · have : l[k].1.size < 1 ∨ (1 ≤ l[k].1.size ∧ 8 < l[k].1.size) ∨ (1 ≤ l[k].1.size ∧ l[k].1.size ≤ 8 ∧ 8 < l[k].2.1.size) ∨ (1 ≤ l[k].1.size ∧ l[k].1.size ≤ 8 ∧ l[k].2.1.size ≤ 8 ∧ 8 < l[k].2.2.size) ∨ (1 ≤ l[k].1.size ∧ l[k].1.size ≤ 8 ∧ l[k].2.1.size ≤ 8 ∧ l[k].2.2.size ≤ 8) := by omega
            rcases this with c | c | c | c | ⟨c, d, e, f⟩
            · exact .inl c
            · exact .inr (.inl c)
            · exact .inr (.inr (.inl c))
            · exact .inr (.inr (.inr (.inl c)))
            · exact absurd ⟨⟨c, d⟩, e, f, h⟩ hok'
        clear hok' hd hok
        rcases hc with c | ⟨c, d⟩ | ⟨c, d, e⟩ | ⟨c, d, e, f⟩ | ⟨c, d, e, f, g⟩
        all_goals
          go_wp2
          go_ret
          exact ⟨.no hB.out, hb.alloc hb.size _⟩
    · go_wp2
      go_ret
      refine ⟨.yes ?_, hb⟩
      have := hs.out
      rwa [List.take_of_length_le (by omega)] at this

theorem editsMay_any (l : List Ed) (v : Value) (w : World) (hl : EditsAt w v l) (hn : l.length < 8796093022208) :
    Calls Try.prog 20 #[v] w fun e w' => RetIff e (EditsOK l) ∧ Below w.heap.size w w' := by
  by_cases h : l.length < 1 ∨ 4 < l.length
  · have hv : ∃ a cap, v = .slice a l.length cap := by
      rcases hl with ⟨rfl, a, cap, rfl⟩ | ⟨b, off, cap, rfl, _⟩
      · exact ⟨_, _, rfl⟩
      · exact ⟨_, _, rfl⟩
    obtain ⟨a, cap, rfl⟩ := hv
    refine (editsMay_len l.length cap a w h hn).mono ?_
    rintro e w' ⟨rfl, rfl⟩
    exact ⟨.no fun hg => by unfold EditsOK at hg; omega, Below.refl _ _⟩
  · rcases hl with ⟨rfl, _⟩ | ⟨b, off, cap, rfl, hlt, h0, h1, h2⟩
    · simp at h
    · refine (editsMay_row l b off cap w hlt h0 h1 h2 (by omega) (by omega)).mono ?_
      rintro e w' ⟨⟨r, rfl, hr⟩, hb⟩
      exact ⟨⟨r, rfl, hr.trans ⟨fun hg => ⟨by omega, by omega, hg⟩, fun hg => hg.2.2⟩⟩, hb⟩
end Go.Proofs.Ytgamgomepdfgdaa
