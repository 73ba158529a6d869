import Derived.Test.YtgamgomepdfgdaaNames
import Derived.Lib.QuietBelow
namespace Go.Proofs.Ytgamgomepdfgdaa
open Go.RowKit Go.Sort

theorem names_val (l : List Ed) (q : ByteArray) (v : Value) (w : World) (hl : EditsAt w v l) (hn4 : l.length ≤ 4) (r : Bool) (hr : r = true ↔ ∃ x ∈ l, x.1 = q) :
    Calls Try.prog 35 #[v, .string q] w fun e w' => e = .returned (.bool r) ∧ Below w.heap.size w w' := by
  refine (namesPath_any l q v w hl hn4).mono ?_
  rintro e w' ⟨⟨r', rfl, hr'⟩, hb⟩
  have : r' = r := by
    have := hr'.trans hr.symm
    cases r' <;> cases r <;> simp_all
  exact ⟨by rw [this], hb⟩

theorem mem_take_iff (l : List Ed) (k : Nat) (hk : k < l.length) : (∃ x ∈ l.take k, x.1 = l[k].1) ↔ ∃ j, ∃ h : j < k, (l[j]'(by omega)).1 = l[k].1 := by
  constructor
  · rintro ⟨x, hx, he⟩
    obtain ⟨j, hj, rfl⟩ := List.mem_iff_getElem.1 hx
    rw [List.length_take] at hj
    rw [List.getElem_take] at he
    exact ⟨j, by omega, he⟩
  · rintro ⟨j, hj, he⟩
    exact ⟨_, List.mem_iff_getElem.2 ⟨j, by rw [List.length_take]; omega, by rw [List.getElem_take]⟩, he⟩

theorem edits_take {w : World} {b off cap : Nat} {l : List Ed} (k : Nat) (hk : k ≤ l.length) (hlt : b < w.heap.size)
    (h0 : ∀ i (h : i < l.length), w.cell? ⟨b, off + i * 3, none⟩ = some (.string l[i].1)) (h1 : ∀ i (h : i < l.length), w.cell? ⟨b, off + i * 3 + 1, none⟩ = some (.string l[i].2.1)) (h2 : ∀ i (h : i < l.length), w.cell? ⟨b, off + i * 3 + 2, none⟩ = some (.string l[i].2.2)) :
    EditsAt w (.slice (some ⟨b, off, none⟩) k cap) (l.take k) := by
  have e : (l.take k).length = k := by rw [List.length_take]; omega
  refine .inr ⟨b, off, cap, by rw [e], hlt, fun i h => ?_, fun i h => ?_, fun i h => ?_⟩
  · rw [List.getElem_take]; exact h0 i _
  · rw [List.getElem_take]; exact h1 i _
  · rw [List.getElem_take]; exact h2 i _

theorem below_rg {w wr : World} (hb : Below w.heap.size w wr) (o : Obj) (d : Nat) (os : Array Obj) : Below w.heap.size w (grow (redrawn (wr.alloc o) d) os) :=
  (hb.alloc hb.size o).trans ((below_regrown _ d os).mono (hb.alloc hb.size o).size)

set_option maxHeartbeats 2000000 in
theorem editsMayBe_row (l : List Ed) (b off cap : Nat) (w : World) (hlt : b < w.heap.size)
    (h0 : ∀ i (h : i < l.length), w.cell? ⟨b, off + i * 3, none⟩ = some (.string l[i].1)) (h1 : ∀ i (h : i < l.length), w.cell? ⟨b, off + i * 3 + 1, none⟩ = some (.string l[i].2.1)) (h2 : ∀ i (h : i < l.length), w.cell? ⟨b, off + i * 3 + 2, none⟩ = some (.string l[i].2.2))
    (hn1 : 1 ≤ l.length) (hn4 : l.length ≤ 4) (hcap : l.length ≤ cap) :
    Calls Try.prog 23 #[.slice (some ⟨b, off, none⟩) l.length cap] w fun e w' => RetIff e (Good okEd Prod.fst l) ∧ Below w.heap.size w w' := by
  go_enter Try.func23, Try.ntmps23
  go_wp2
  go_loopw [15] (fun i wr => ∃ k : Nat, k ≤ l.length ∧ i = .int .i64 k ∧ Below w.heap.size w wr ∧ Hid (Good okEd Prod.fst (l.take k))) (fun i _ => l.length - (intOf i).toNat)
  case atStart => exact ⟨0, Nat.zero_le _, rfl, Below.refl _ _, Good.nil _ _⟩
  case round =>
    obtain ⟨k, hk, rfl, hb, hs⟩ := hrel
    obtain ⟨g0, g1, g2, gb⟩ := edits_cells hb hlt h0 h1 h2
    clear h0 h1 h2
    by_cases hlk : k < l.length
    · have hb1 : Below wr.heap.size wr (wr.alloc (.cells #[.string l[k].1, .string l[k].2.1, .string l[k].2.2] 49)) := (Below.refl _ _).alloc (Nat.le_refl _) _
      have cM := fun d os => Calls.regrown_of (d := d) (os := os) (w := wr.alloc (.cells #[.string l[k].1, .string l[k].2.1, .string l[k].2.2] 49)) (editMayBe_any l[k].1 l[k].2.1 l[k].2.2 _)
      have e0 := cell_regrown (w := wr.alloc (.cells #[.string l[k].1, .string l[k].2.1, .string l[k].2.2] 49)) (a := ⟨wr.heap.size, 0, none⟩) (v := .string l[k].1) (by simp)
      have e1 := cell_regrown (w := wr.alloc (.cells #[.string l[k].1, .string l[k].2.1, .string l[k].2.2] 49)) (a := ⟨wr.heap.size, 1, none⟩) (v := .string l[k].2.1) (by simp)
      have e2 := cell_regrown (w := wr.alloc (.cells #[.string l[k].1, .string l[k].2.1, .string l[k].2.2] 49)) (a := ⟨wr.heap.size, 2, none⟩) (v := .string l[k].2.2) (by simp)
      by_cases hok : okEd l[k] = true
      · have hok' : okEdit l[k].1 l[k].2.1 l[k].2.2 = true := hok
        have hvt := edits_take (w := wr) (cap := cap) k hk gb g0 g1 g2
        have hmt := mem_take_iff l k hlk
        by_cases hnm : ∃ x ∈ l.take k, x.1 = l[k].1
        · have cN := fun d os => Calls.regrown_of (d := d) (os := os) (w := wr.alloc (.cells #[.string l[k].1, .string l[k].2.1, .string l[k].2.2] 49)) (names_val (l.take k) l[k].1 _ _ ((hvt.later hb1).later (below_regrown _ d os)) (by rw [List.length_take]; omega) true ⟨fun _ => hnm, fun _ => rfl⟩)
          have hB : Hid (¬ Good okEd Prod.fst l) := by
            obtain ⟨j, hj, he⟩ := hmt.1 hnm
            exact good_twice hlk hj he
          clear hmt hnm hvt hok
          go_wp2
          refine wp_region_quiet_below (by kernel_rfl) (by kernel_rfl) ?_
          repeat (first | go_big_quiet_step (first | exact cM _ _ | exact cN _ _) | quiet_step (first | exact cM _ _ | exact cN _ _))
          refine wpQuiet_nil ?_
          rintro _ ⟨p, rfl⟩
          have hq := below_rg hb (.cells #[.string l[k].1, .string l[k].2.1, .string l[k].2.2] 49) p.d p.os
          generalize grow (redrawn _ p.d) p.os = wq at hq ⊢
          clear cM cN e0 e1 e2
          go_wp2
          go_ret
          exact ⟨.no hB.out, hq⟩
        · have cN := fun d os => Calls.regrown_of (d := d) (os := os) (w := wr.alloc (.cells #[.string l[k].1, .string l[k].2.1, .string l[k].2.2] 49)) (names_val (l.take k) l[k].1 _ _ ((hvt.later hb1).later (below_regrown _ d os)) (by rw [List.length_take]; omega) false ⟨fun h => Bool.noConfusion h, fun h => absurd h hnm⟩)
          have hG : Hid (Good okEd Prod.fst (l.take (k + 1))) := (good_succ hlk).2 ⟨hs.out, hok, fun j hj he => hnm (hmt.2 ⟨j, hj, he⟩)⟩
          clear hmt hnm hvt hok
          go_wp2
          refine wp_region_quiet_below (by kernel_rfl) (by kernel_rfl) ?_
          repeat (first | go_big_quiet_step (first | exact cM _ _ | exact cN _ _) | quiet_step (first | exact cM _ _ | exact cN _ _))
          refine wpQuiet_nil ?_
          rintro _ ⟨p, rfl⟩
          have hq := below_rg hb (.cells #[.string l[k].1, .string l[k].2.1, .string l[k].2.2] 49) p.d p.os
          generalize grow (redrawn _ p.d) p.os = wq at hq ⊢
          clear cM cN e0 e1 e2
          go_wp2
          go_roundw
          case rel => exact ⟨k + 1, hlk, by go_num, hq, hG⟩
          case measure => simp [intOf]; omega
      · have hB : Hid (¬ Good okEd Prod.fst l) := good_stop hlk hok
        have hok' : okEdit l[k].1 l[k].2.1 l[k].2.2 = false := by simpa [okEd] using hok
        clear hok
        go_wp2
        refine wp_region_quiet_below (by kernel_rfl) (by kernel_rfl) ?_
        repeat (first | go_big_quiet_step (exact cM _ _) | quiet_step (exact cM _ _))
        refine wpQuiet_nil ?_
        rintro _ ⟨p, rfl⟩
        have hq := below_rg hb (.cells #[.string l[k].1, .string l[k].2.1, .string l[k].2.2] 49) p.d p.os
        generalize grow (redrawn _ p.d) p.os = wq at hq ⊢
        clear cM e0 e1 e2
        go_wp2
        go_ret
        exact ⟨.no hB.out, hq⟩
    · go_wp2
      go_ret
      refine ⟨.yes ?_, hb⟩
      have := hs.out
      rwa [List.take_of_length_le (by omega)] at this

set_option maxHeartbeats 400000 in
theorem editsMayBe_len (n cap : Nat) (a : Option Addr) (w : World) (h : n < 1 ∨ 4 < n) (hn : n < 8796093022208) :
    Calls Try.prog 23 #[.slice a n cap] w fun e w' => e = .returned (.bool false) ∧ w' = w := by
  rcases h with h | h
  · go_enter Try.func23, Try.ntmps23
    go_wp2
    go_ret
    exact ⟨rfl, rfl⟩
  · have h1 : ¬ n < 1 := by omega
    go_enter Try.func23, Try.ntmps23
    go_wp2
    go_ret
    exact ⟨rfl, rfl⟩

/-- a slice whose capacity is not below its length -/
def CapOK : Value → Prop
  | .slice _ n cap => n ≤ cap
  | _ => True

theorem editsMayBe_any (l : List Ed) (v : Value) (w : World) (hl : EditsAt w v l) (hc : CapOK v) (hn : l.length < 8796093022208) :
    Calls Try.prog 23 #[v] w fun e w' => RetIff e (EditsOK l) ∧ Below w.heap.size w w' := by
  by_cases h : l.length < 1 ∨ 4 < l.length
  · have hv : ∃ a cap, v = .slice a l.length cap := by
      rcases hl with ⟨rfl, a, cap, rfl⟩ | ⟨b, off, cap, rfl, _⟩
      · exact ⟨_, _, rfl⟩
      · exact ⟨_, _, rfl⟩
    obtain ⟨a, cap, rfl⟩ := hv
    refine (editsMayBe_len l.length cap a w h hn).mono ?_
    rintro e w' ⟨rfl, rfl⟩
    exact ⟨.no fun hg => by unfold EditsOK at hg; omega, Below.refl _ _⟩
  · rcases hl with ⟨rfl, _⟩ | ⟨b, off, cap, rfl, hlt, h0, h1, h2⟩
    · simp at h
    · refine (editsMayBe_row l b off cap w hlt h0 h1 h2 (by omega) (by omega) hc).mono ?_
      rintro e w' ⟨⟨r, rfl, hr⟩, hb⟩
      exact ⟨⟨r, rfl, hr.trans ⟨fun hg => ⟨by omega, by omega, hg⟩, fun hg => hg.2.2⟩⟩, hb⟩
end Go.Proofs.Ytgamgomepdfgdaa
