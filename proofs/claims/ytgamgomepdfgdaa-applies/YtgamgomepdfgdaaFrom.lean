import Derived.Test.YtgamgomepdfgdaaMapF
import Derived.Test.YtgamgomepdfgdaaMayE
import Derived.Test.YtgamgomepdfgdaaCopyE
namespace Go.Proofs.Ytgamgomepdfgdaa
open Go.RowKit Go.Maps

theorem standsL_snoc {l : List Fl} {f : Fl} (h : ∀ x ∈ l, x.1 ≠ f.1) : standsL (l ++ [f]) = upd (standsL l) f.1 f.2 := by
  funext q
  induction l with
  | nil => simp [standsL, upd]
  | cons x l ih =>
    have ih := ih fun y hy => h y (by simp [hy])
    have hx := h x (by simp)
    by_cases e : x.1 = q
    · rw [List.cons_append, standsL_hit _ _ _ ((beq_true_iff _ _).2 e), upd_other _ _ (by rw [← e]; exact hx.symm), standsL_hit _ _ _ ((beq_true_iff _ _).2 e)]
    · have hb := (beq_false_iff x.1 q).2 e
      rw [List.cons_append, standsL_miss _ _ _ hb, ih]
      unfold upd
      rw [standsL_miss _ _ _ hb]

theorem stands_take_iff {l : List Fl} {k : Nat} (hk : k < l.length) (hg : Good okFl Prod.fst (l.take k)) : standsL (l.take k) l[k].1 ≠ ⟨#[]⟩ ↔ ∃ j, ∃ h : j < k, (l[j]'(by omega)).1 = l[k].1 := by
  constructor
  · intro h
    have := standsL_found h
    obtain ⟨j, hj, e⟩ := List.mem_iff_getElem.1 this
    rw [List.length_take] at hj
    rw [List.getElem_take] at e
    exact ⟨j, by omega, by rw [e]⟩
  · rintro ⟨j, hj, e⟩ h0
    have hm : l[j]'(by omega) ∈ l.take k := List.mem_iff_getElem.2 ⟨j, by rw [List.length_take]; omega, by rw [List.getElem_take]⟩
    have h1 := standsL_mem hg.2 hm
    rw [e, h0] at h1
    have h2 := ((okFl_iff _).1 (hg.1 _ hm)).2.1
    rw [← h1] at h2
    exact absurd h2 (by decide)

/-- From's answer -/
def FromRes (e : Ending) (w w' : World) (l : List Fl) : Prop :=
  (e = .returned (.tuple #[.map (some w.heap.size), .bool true]) ∧ Good okFl Prod.fst l ∧ ∃ D, w'.ownsMap Try.prog 9 fileElem w.heap.size l.length D ∧ MapIs D (standsL l)) ∨
  (e = .returned (.tuple #[.map none, .bool false]) ∧ ¬ Good okFl Prod.fst l)

theorem below_two {w wr : World} (hb : Below w.heap.size w wr) (o o' : Obj) : Below w.heap.size w ((wr.alloc o).alloc o') :=
  (hb.alloc hb.size o).alloc (by have := hb.size; simp; omega) o'

theorem grown_of_below {w w' : World} (hb : Below w.heap.size w w') (row : Option Nat) : w.grownBy w' row := ⟨hb.os, hb.tape, hb.output, hb.size, fun k hk _ => hb.block k hk⟩
theorem ownsMap_below {w w' : World} {b n : Nat} {D : DataW Unit} (h : w.ownsMap Try.prog 9 fileElem b n D) (hb : Below w.heap.size w w') : w'.ownsMap Try.prog 9 fileElem b n D :=
  h.kept (grown_of_below hb none) (by simp)

theorem make58 (n : Int) (w : World) : (Instr.makeMap 58 (some (.int .i64 n))).run Try.prog w = .ok (.map (some w.heap.size)) (w.alloc (.map #[] 0)) := by
  simp [Instr.makeMap, run_underlying under58, asInt]
  rfl

theorem below_draw0 {wr w1 w2 : World} (h : Below w1.heap.size w1 w2) (e : w1.heap = wr.heap) (e1 : w1.os = wr.os) (e2 : w1.tape = wr.tape) (e3 : w1.output = wr.output) : Below wr.heap.size wr w2 :=
  ⟨h.os.trans e1, h.tape.trans e2, h.output.trans e3, by rw [← e]; exact h.size, fun k hk => by rw [← e] at hk ⊢; exact h.block k hk⟩

set_option maxRecDepth 100000 in
set_option maxHeartbeats 2000000 in
theorem from_row (l : List Fl) (b off cap : Nat) (w : World) (hlt : b < w.heap.size) (hn : l.length < 8796093022208)
    (h0 : ∀ i (h : i < l.length), w.cell? ⟨b, off + i * 2, none⟩ = some (.string l[i].1)) (h1 : ∀ i (h : i < l.length), w.cell? ⟨b, off + i * 2 + 1, none⟩ = some (.string l[i].2)) (hsz : ∀ f ∈ l, f.1.size ≤ maxLen) :
    Calls Try.prog 22 #[.slice (some ⟨b, off, none⟩) l.length cap] w fun e w' => FromRes e w w' l ∧ Below w.heap.size w w' := by
  have hmm := make58
  go_enter Try.func22, Try.ntmps22
  go_wp2
  go_loopw [14] (fun i wr => ∃ (k : Nat) (D : DataW Unit), k ≤ l.length ∧ i = .int .i64 k ∧ wr.ownsMap Try.prog 9 fileElem w.heap.size k D ∧ MapIs D (standsL (l.take k)) ∧ Below w.heap.size w wr ∧ Hid (Good okFl Prod.fst (l.take k))) (fun i _ => l.length - (intOf i).toNat)
  case atStart => exact ⟨0, _, Nat.zero_le _, rfl, World.ownsMap_made _ _ _ _, MapIs.made, (Below.refl _ _).alloc (Nat.le_refl _) _, Good.nil _ _⟩
  case round =>
    obtain ⟨k, D, hk, rfl, hown, hM, hb, hs⟩ := hrel
    obtain ⟨g0, g1, gb⟩ := files_cells hb hlt h0 h1
    clear h0 h1 hmm
    by_cases hlk : k < l.length
    · have hkm : l[k].1.size ≤ maxLen := hsz _ (List.getElem_mem hlk)
      have hst := stands_take_iff hlk hs.out
      have hown1 := hown.alloc (.cells #[.string l[k].1, .string l[k].2] 47)
      go_wp2_with (at_lookup; refine look_file_ok _ rfl _ _ rfl w.heap.size k D _ hM rfl hown1 l[k].1 hkm rfl ?_; intro p c r hr)
      · have hB : Hid (¬ Good okFl Prod.fst l) := by
          obtain ⟨j, hj, e⟩ := hst.1 (hr.out.1 ‹r = true›)
          exact good_twice hlk hj e
        go_ret2
        exact ⟨.inr ⟨rfl, hB.out⟩, below_two hb _ _⟩
      · have hr0 : ¬ standsL (l.take k) l[k].1 ≠ ⟨#[]⟩ := fun h => by
          have h1 := hr.out.2 h
          have h2 : r = false := by simpa using ‹¬ r = true›
          rw [h2] at h1; cases h1
        have hf : ∀ j (h : j < k), (l[j]'(by omega)).1 ≠ l[k].1 := fun j hj e => hr0 (hst.2 ⟨j, hj, e⟩)
        have hfr : ∀ x ∈ l.take k, x.1 ≠ l[k].1 := fun x hx e => by
          obtain ⟨j, hj, rfl⟩ := List.mem_iff_getElem.1 hx
          rw [List.length_take] at hj
          rw [List.getElem_take] at e
          exact hf j (by omega) e
        have Hst : Hid (standsL (l.take (k + 1)) = upd (standsL (l.take k)) l[k].1 l[k].2) := by
          rw [List.take_succ_eq_append_getElem hlk]; exact standsL_snoc hfr
        have Hgd : Hid (okFl l[k] = true → Good okFl Prod.fst (l.take (k + 1))) := fun h => (good_succ hlk).2 ⟨hs.out, h, hf⟩
        have Hbd : Hid (¬ okFl l[k] = true → ¬ Good okFl Prod.fst l) := fun h => good_stop hlk h
        clear hst hr hr0 hf hfr
        refine (fileMayBe_any _ _ _).mono ?_
        rintro e w1 ⟨rfl, hb1⟩
        have hB1 : Below w.heap.size w w1 := (below_two hb _ _).trans (hb1.mono (below_two hb _ _).size)
        have hown2 := ownsMap_below ((hown1.alloc (.cells #[.string p, .string c] 47))) hb1
        have c0 : w1.cell? ⟨wr.heap.size, 0, none⟩ = some (.string l[k].1) := (hb1.cell (by simp; omega)).trans (by simp)
        have c1 : w1.cell? ⟨wr.heap.size, 1, none⟩ = some (.string l[k].2) := (hb1.cell (by simp; omega)).trans (by simp)
        generalize hx : (okFill l[k].1 && okFill l[k].2) = x
        have Hx : Hid ((okFill l[k].1 && okFill l[k].2) = x) := hx
        have hwne : some wr.heap.size ≠ some w.heap.size := fun e => by
          have h1 := hown.lt
          injection e with e; omega
        clear hx hb1 hown hown1
        cases x
        · go_wp2
          go_ret2
          exact ⟨.inr ⟨rfl, Hbd.out (by rw [show okFl l[k] = (okFill l[k].1 && okFill l[k].2) from rfl, Hx.out]; exact Bool.false_ne_true)⟩, hB1⟩
        · have hbl : Hid (l[k].2 ≠ ⟨#[]⟩) := fun e => by
            have := ((okFl_iff l[k]).1 Hx.out).2.1
            rw [e] at this; exact absurd this (by decide)
          have hk8 : l[k].1.size ≤ 281474976710656 ∧ l[k].2.size ≤ 281474976710656 := by
            have h1 := ((okFl_iff l[k]).1 Hx.out).1.2
            have h2 := ((okFl_iff l[k]).1 Hx.out).2.2
            constructor <;> omega
          obtain ⟨s0, s1⟩ := hk8
          have hput : Hid (∀ w3, Below w1.heap.size w1 w3 → Calls Try.prog 32 #[.map (some w.heap.size), .agg #[.string l[k].1, .string l[k].2]] w3 fun e w' => e = .returned (.tuple #[]) ∧ (∃ D', w'.ownsMap Try.prog 9 fileElem w.heap.size (k + 1) D' ∧ MapIs D' (standsL (l.take (k + 1)))) ∧ w3.grownBy w' (some w.heap.size)) := fun w3 h3 => by
            rw [Hst.out]
            exact put_any w.heap.size k D _ l[k].1 l[k].2 w3 (ownsMap_below hown2 h3) hM hkm (by unfold maxLen; omega)
          have HB1 : Hid (Below w.heap.size w w1) := hB1
          have Hg1 : Hid (Good okFl Prod.fst (l.take (k + 1))) := Hgd.out Hx.out
          clear hbl hown2 hM hkm Hst Hbd Hgd hb hs g0 g1 gb hB1 Hx hk
          generalize l[k].1 = p at s0 c0 hput
          generalize l[k].2 = o at s1 c1 hput
          go_wp2
          go_region_held_law (fun w' => w'.cell? ⟨wr.heap.size, 0, none⟩ = some (.string p) ∧ w'.cell? ⟨wr.heap.size, 1, none⟩ = some (.string o)) (go_keep) (first
            | (go_at_call 33; refine (clone_any p _ s0).mono ?_; rintro e w2 ⟨rfl, hb2⟩; have k0 : w2.cell? ⟨wr.heap.size, 0, none⟩ = some (.string p) := cell_after hb2 c0; have k1 : w2.cell? ⟨wr.heap.size, 1, none⟩ = some (.string o) := cell_after hb2 c1; have B2 : Hid (Below w1.heap.size w1 w2) := below_draw0 hb2 rfl rfl rfl rfl)
            | (go_at_call 33; refine (clone_any o _ s1).mono ?_; rintro e w3 ⟨rfl, hb3⟩; have k2 := cell_after hb3 k0; have k3 := cell_after hb3 k1; have B3 : Hid (Below w1.heap.size w1 w3) := B2.out.trans (hb3.mono B2.out.size))
            | (go_at_call 32; refine (hput.out _ B3.out).mono ?_; rintro e w4 ⟨rfl, ⟨D4, hown4, hM4⟩, hg4⟩; have k4 : w4.cell? ⟨wr.heap.size, 0, none⟩ = some (.string p) := hg4.cell k2 hwne; have k5 : w4.cell? ⟨wr.heap.size, 1, none⟩ = some (.string o) := hg4.cell k3 hwne))
          have hB3 : Below w.heap.size w w3 := HB1.out.trans (B3.out.mono HB1.out.size)
          have hB4 : Below w.heap.size w w4 := hB3.grown hg4 hB3.size (fun j hj => by cases hj; exact Nat.le_refl _)
          clear k0 k1 k2 k3 k4 k5
          go_wp2
          exact ⟨⟨k + 1, D4, hlk, by go_num, hown4, hM4, hB4, Hg1.out⟩, by simp [intOf]; omega⟩
    · go_wp2
      go_ret2
      have e : l.take k = l := List.take_of_length_le (by omega)
      have hkl : k = l.length := by omega
      subst hkl
      rw [e] at hM
      exact ⟨.inl ⟨rfl, by have := hs.out; rwa [e] at this, D, hown, hM⟩, hb⟩

set_option maxRecDepth 100000 in
set_option maxHeartbeats 1000000 in
theorem from_none (a : Option Addr) (cap : Nat) (w : World) :
    Calls Try.prog 22 #[.slice a 0 cap] w fun e w' => FromRes e w w' [] ∧ Below w.heap.size w w' := by
  have hmm := make58
  go_enter Try.func22, Try.ntmps22
  go_wp2
  go_loop [14] (fun i => i = .int .i64 0) (fun _ => 0)
  case atStart => rfl
  case round =>
    subst hrel
    clear hmm
    go_wp2
    go_ret2
    exact ⟨.inl ⟨rfl, Good.nil _ _, _, World.ownsMap_made _ _ _ _, MapIs.made⟩, (Below.refl _ _).alloc (Nat.le_refl _) _⟩

theorem from_any (l : List Fl) (v : Value) (w : World) (hl : FilesAt w v l) (hn : l.length < 8796093022208) (hsz : ∀ f ∈ l, f.1.size ≤ maxLen) :
    Calls Try.prog 22 #[v] w fun e w' => FromRes e w w' l ∧ Below w.heap.size w w' := by
  rcases hl with ⟨rfl, a, cap, rfl⟩ | ⟨b, off, cap, rfl, hlt, h0, h1⟩
  · exact from_none a cap w
  · exact from_row l b off cap w hlt hn h0 h1 hsz
end Go.Proofs.Ytgamgomepdfgdaa
