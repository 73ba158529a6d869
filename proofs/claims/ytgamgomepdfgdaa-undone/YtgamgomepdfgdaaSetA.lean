import Derived.Test.YtgamgomepdfgdaaFrom
namespace Go.Proofs.Ytgamgomepdfgdaa
open Go.RowKit Go.Maps

theorem edits_grown {w wr : World} {b off bm : Nat} {l : List Ed} (hg : w.grownBy wr (some bm)) (hne : b ≠ bm) (hlt : b < w.heap.size)
    (h0 : ∀ i (h : i < l.length), w.cell? ⟨b, off + i * 3, none⟩ = some (.string l[i].1)) (h1 : ∀ i (h : i < l.length), w.cell? ⟨b, off + i * 3 + 1, none⟩ = some (.string l[i].2.1)) (h2 : ∀ i (h : i < l.length), w.cell? ⟨b, off + i * 3 + 2, none⟩ = some (.string l[i].2.2)) :
    (∀ i (h : i < l.length), wr.cell? ⟨b, off + i * 3, none⟩ = some (.string l[i].1)) ∧ (∀ i (h : i < l.length), wr.cell? ⟨b, off + i * 3 + 1, none⟩ = some (.string l[i].2.1)) ∧ (∀ i (h : i < l.length), wr.cell? ⟨b, off + i * 3 + 2, none⟩ = some (.string l[i].2.2)) ∧ b < wr.heap.size := by
  have e := hg.block b hlt (by simp [hne])
  exact ⟨fun i h => (World.cell?_of_block (w := w) e).trans (h0 i h), fun i h => (World.cell?_of_block (w := w) e).trans (h1 i h), fun i h => (World.cell?_of_block (w := w) e).trans (h2 i h), Nat.lt_of_lt_of_le hlt hg.size⟩

/-- Apply's answer -/
def SetRes (e : Ending) (w' : World) (b n : Nat) (g : ByteArray → ByteArray) (l : List Ed) : Prop :=
  (e = .returned (.bool true) ∧ (∀ x ∈ l, g x.1 = x.2.1) ∧ ∃ D, w'.ownsMap Try.prog 9 fileElem b (n + l.length) D ∧ MapIs D (edited g l)) ∨
  (e = .returned (.bool false) ∧ ¬ ∀ x ∈ l, g x.1 = x.2.1)

theorem field47 (p b : ByteArray) (w : World) : (Instr.field 47 (.agg #[.string p, .string b]) 1).run Try.prog w = .ok (.string b) w := by kernel_rfl

set_option maxRecDepth 100000 in
set_option maxHeartbeats 2000000 in
theorem setApply_row (l : List Ed) (b off cap bm n : Nat) (D : DataW Unit) (g : ByteArray → ByteArray) (w : World) (hlt : b < w.heap.size) (hne : b ≠ bm)
    (h0 : ∀ i (h : i < l.length), w.cell? ⟨b, off + i * 3, none⟩ = some (.string l[i].1)) (h1 : ∀ i (h : i < l.length), w.cell? ⟨b, off + i * 3 + 1, none⟩ = some (.string l[i].2.1)) (h2 : ∀ i (h : i < l.length), w.cell? ⟨b, off + i * 3 + 2, none⟩ = some (.string l[i].2.2))
    (hn4 : l.length ≤ 4) (hown : w.ownsMap Try.prog 9 fileElem bm n D) (hM : MapIs D g) (hn : n < 8796093022208) (hsz : ∀ x ∈ l, x.1.size ≤ maxLen) :
    Calls Try.prog 24 #[.map (some bm), .slice (some ⟨b, off, none⟩) l.length cap] w fun e w' => SetRes e w' bm n g l ∧ w.grownBy w' (some bm) := by
  have hfd := field47
  go_enter Try.func24, Try.ntmps24
  go_wp2
  go_loopw [11] (fun i wr => ∃ k : Nat, k ≤ l.length ∧ i = .int .i64 k ∧ Below w.heap.size w wr ∧ Hid (∀ j (h : j < k) (h' : j < l.length), g l[j].1 = l[j].2.1)) (fun i _ => l.length - (intOf i).toNat)
  case atStart => exact ⟨0, Nat.zero_le _, rfl, Below.refl _ _, fun j h => by omega⟩
  case round =>
    obtain ⟨k, hk, rfl, hb, hs⟩ := hrel
    by_cases hlk : k < l.length
    · obtain ⟨g0, g1, g2, gb⟩ := edits_cells hb hlt h0 h1 h2
      have hown1 := (ownsMap_below hown hb).alloc (.cells #[.string l[k].1, .string l[k].2.1, .string l[k].2.2] 49)
      have hkm : l[k].1.size ≤ maxLen := hsz _ (List.getElem_mem hlk)
      clear h0 h1 h2 hown
      go_wp2_with (at_lookup; refine look_file _ rfl _ _ rfl bm n D _ hM rfl hown1 l[k].1 hkm rfl ?_; intro p)
      · have hne' : Hid (¬ ∀ x ∈ l, g x.1 = x.2.1) := fun h => by
          have e := h _ (List.getElem_mem hlk)
          have e' : (!((g l[k].1).toList == l[k].2.1.toList)) = true := by assumption
          rw [e] at e'; simp at e'
        go_ret
        exact ⟨.inr ⟨rfl, hne'.out⟩, (grown_of_below hb _).trans (World.grownBy_alloc _ _ _)⟩
      · have hq : Hid (g l[k].1 = l[k].2.1) := (beq_true_iff _ _).1 (by simpa using ‹(!((g l[k].1).toList == l[k].2.1.toList)) = false›)
        go_roundw
        case rel => exact ⟨k + 1, hlk, by go_num, hb.alloc hb.size _, fun x hx hx' => by
                  by_cases e : x = k
                  · subst e; exact hq.out
                  · exact hs.out x (by omega) hx'⟩
        case measure => simp [intOf]; omega
    · have hall : Hid (∀ x ∈ l, g x.1 = x.2.1) := fun x hx => by
        obtain ⟨j, hj, rfl⟩ := List.mem_iff_getElem.1 hx
        exact hs.out j (by omega) hj
      have hgw := grown_of_below hb (some bm)
      have hown1 := ownsMap_below hown hb
      clear hown hs
      go_wp2
      go_loopw [26] (fun i wr => ∃ (k : Nat) (D : DataW Unit), k ≤ l.length ∧ i = .int .i64 k ∧ wr.ownsMap Try.prog 9 fileElem bm (n + k) D ∧ MapIs D (edited g (l.take k)) ∧ w.grownBy wr (some bm)) (fun i _ => l.length - (intOf i).toNat)
      case atStart => exact ⟨0, D, Nat.zero_le _, rfl, hown1, hM, hgw⟩
      case round =>
        clear hM hown1 hgw hb hk D
        obtain ⟨k, D, hk, rfl, hown, hM, hgw⟩ := hrel
        obtain ⟨g0, g1, g2, gb⟩ := edits_grown hgw hne hlt h0 h1 h2
        by_cases hlk : k < l.length
        · have hkm : l[k].1.size ≤ maxLen := hsz _ (List.getElem_mem hlk)
          have hown1 := hown.alloc (.cells #[.string l[k].1, .string l[k].2.1, .string l[k].2.2] 49)
          have hc := put_any bm (n + k) D _ l[k].1 l[k].2.2 _ hown1 hM hkm (by unfold maxLen; omega)
          have He : Hid (edited g (l.take (k + 1)) = upd (edited g (l.take k)) l[k].1 l[k].2.2) := by
            rw [List.take_succ_eq_append_getElem hlk]; exact edited_snoc _ _ _
          clear h0 h1 h2 hown hM hown1
          go_wp2_with (go_at_call 32; refine hc.mono ?_; rintro e w1 ⟨rfl, ⟨D1, hown1, hM1⟩, hg1⟩)
          go_roundw
          case rel => exact ⟨k + 1, D1, hlk, by go_num, hown1, by rw [He.out]; exact hM1, (hgw.trans (World.grownBy_alloc _ _ _)).trans hg1⟩
          case measure => simp [intOf]; omega
        · go_wp2
          go_ret
          have hkl : k = l.length := by omega
          subst hkl
          rw [List.take_length] at hM
          exact ⟨.inl ⟨rfl, hall.out, D, hown, hM⟩, hgw⟩

theorem cells_ne_map {w : World} {b off bm n : Nat} {D : DataW Unit} {v : Value} (h : w.cell? ⟨b, off, none⟩ = some v) (hown : w.ownsMap Try.prog 9 fileElem bm n D) : b ≠ bm := by
  rintro rfl
  obtain ⟨es, clock, hb, _⟩ := hown
  simp [World.cell?, hb] at h

theorem setApply_any (l : List Ed) (v : Value) (bm n : Nat) (D : DataW Unit) (g : ByteArray → ByteArray) (w : World) (hl : EditsAt w v l) (hn1 : 1 ≤ l.length)
    (hn4 : l.length ≤ 4) (hown : w.ownsMap Try.prog 9 fileElem bm n D) (hM : MapIs D g) (hn : n < 8796093022208) (hsz : ∀ x ∈ l, x.1.size ≤ maxLen) :
    Calls Try.prog 24 #[.map (some bm), v] w fun e w' => SetRes e w' bm n g l ∧ w.grownBy w' (some bm) := by
  rcases hl with ⟨rfl, _⟩ | ⟨b, off, cap, rfl, hlt, h0, h1, h2⟩
  · simp at hn1
  · exact setApply_row l b off cap bm n D g w hlt (cells_ne_map (h0 0 (by omega)) hown) h0 h1 h2 hn4 hown hM hn hsz
end Go.Proofs.Ytgamgomepdfgdaa
