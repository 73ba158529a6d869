import Derived.Test.YtgamgomepdfgdaaGreatM16
import Derived.Maps.OwnSet
import Derived.Maps.OwnOps
import Derived.Maps.RangeWalk
import Derived.Test.YtgamgomepdfgdaaGreatM13
import Derived.Test.YtgamgomepdfgdaaGreatProg
import Derived.WalkKit
import Derived.WalkSpells
import Derived.WalkLawsBesides
import Derived.Lib.Bytealg
import Derived.Lib.Strings
import Derived.Lib.Walk
namespace Go.Proofs.YtgamgomepdfgdaaGreat
open Go.RowKit Go.Maps

/-- what a file reads as -/
def fd (p b : ByteArray) : DataW Unit := .agg [.lit (.string p.data.toList), .lit (.string b.data.toList)]
theorem fd_inj {p b q c : ByteArray} (h : fd p b = fd q c) : p = q ∧ b = c := by
  simp only [fd, DataW.agg.injEq, List.cons.injEq, DataW.lit.injEq, Lit.string.injEq, and_true] at h
  exact ⟨eq_of_data h.1, eq_of_data h.2⟩

/-- how an element of the map reads -/
def fileElem : Value → Option (DataW Unit × List MemPlace)
  | .agg ⟨[.string p, .string b]⟩ => some (fd p b, [])
  | _ => none
theorem fileElem_mk (p b : ByteArray) : fileElem (.agg #[.string p, .string b]) = some (fd p b, []) := rfl
theorem fileElem_inv {v : Value} {y : DataW Unit × List MemPlace} (h : fileElem v = some y) : ∃ p b, v = .agg #[.string p, .string b] ∧ y = (fd p b, []) := by
  unfold fileElem at h
  split at h
  · rename_i p b
    exact ⟨p, b, rfl, (Option.some.inj h).symm⟩
  · cases h

abbrev kl (s : ByteArray) : Lit := .string s.data.toList
theorem kl_inj {s t : ByteArray} (h : kl s = kl t) : s = t := eq_of_data (Lit.string.inj h)

/-- the map holds just the files of which g says what stands where -/
def MapIs (D : DataW Unit) (g : ByteArray → ByteArray) : Prop :=
  ∀ s, (g s = ⟨#[]⟩ → Maps.has D (kl s) = false) ∧ (g s ≠ ⟨#[]⟩ → Maps.has D (kl s) = true ∧ ∀ z, D.atKey (kl s) z = fd s (g s))

theorem MapIs.made : MapIs (.map []) fun _ => ⟨#[]⟩ := fun _ => ⟨fun _ => rfl, fun h => absurd rfl h⟩

theorem MapIs.put {D : DataW Unit} {g : ByteArray → ByteArray} (h : MapIs D g) (hD : IsMap D) (p : ByteArray) {b : ByteArray} (hb : b ≠ ⟨#[]⟩) : MapIs (D.put (kl p) (fd p b)) (upd g p b) := by
  intro s
  by_cases e : p = s
  · subst e
    rw [upd_same]
    exact ⟨fun x => absurd x hb, fun _ => ⟨has_put_same hD (show WideAt.IsKeyLit (kl p) from trivial) _, fun z => atKey_put_same hD (show WideAt.IsKeyLit (kl p) from trivial) _ z⟩⟩
  · rw [upd_other _ _ e]
    have hne : kl s ≠ kl p := fun x => e (kl_inj x).symm
    rw [has_put_other hne]
    exact ⟨(h s).1, fun x => ⟨((h s).2 x).1, fun z => by rw [atKey_put_other hne]; exact ((h s).2 x).2 z⟩⟩

theorem MapIs.del {D : DataW Unit} {g : ByteArray → ByteArray} (h : MapIs D g) (p : ByteArray) : MapIs (D.del (kl p)) (upd g p ⟨#[]⟩) := by
  intro s
  by_cases e : p = s
  · subst e
    rw [upd_same]
    exact ⟨fun _ => has_del_same, fun x => absurd rfl x⟩
  · rw [upd_other _ _ e]
    have hne : kl s ≠ kl p := fun x => e (kl_inj x).symm
    rw [has_del_other hne]
    exact ⟨(h s).1, fun x => ⟨((h s).2 x).1, fun z => by rw [atKey_del_other hne]; exact ((h s).2 x).2 z⟩⟩

theorem law9 : Keyed Tryz.prog 9 := string_keyed Tryz.underlying9
theorem under58 : Tryz.prog.underlying 132 = some (.map 9 80) := Tryz.underlying132
theorem key9 {s : ByteArray} (h : s.size ≤ maxLen) : keyOf Tryz.prog 9 (.string s) = some (kl s) := Go.WideMaps.keyOf_string_mk Tryz.underlying9 h
theorem zero47 (w : World) : (zeroValue 80).run Tryz.prog w = .ok (.agg #[.string ⟨#[]⟩, .string ⟨#[]⟩]) w := by kernel_rfl

section
variable (w : World) {ops : Array Oper} {rest : List Oper} {o : Oper} {a : Act} {Q : Exit → Act → World → Prop}

/-- a look-up with its ok -/
theorem look_file_ok (hg : o.guard = none) (m x : Operand) (hop : o.op = Op.lookup 132 m x true) (b n : Nat) (D : DataW Unit) (g : ByteArray → ByteArray) (hM : MapIs D g)
    (hm : a.eval m = .map (some b)) (hown : w.ownsMap Tryz.prog 9 fileElem b n D) (s : ByteArray) (hs : s.size ≤ maxLen) (hx : a.eval x = .string s)
    (hK : ∀ (p c : ByteArray) (r : Bool), Hid (r = true ↔ g s ≠ ⟨#[]⟩) → wpList Tryz.prog ops Q rest (a.put o.dst (.tuple #[.agg #[.string p, .string c], .bool r])) w) :
    wpList Tryz.prog ops Q (o :: rest) a w :=
  wpList_lookup_own_ok w hg m x _ hop _ _ law9 under58 fileElem (zero47 w) (fd ⟨#[]⟩ ⟨#[]⟩) [] rfl b n D hm hown _ _ hx (key9 hs) (fun v ps hv => by
    obtain ⟨p, c, rfl, _⟩ := fileElem_inv hv
    refine hK p c _ ?_
    constructor
    · intro h e; rw [(hM s).1 e] at h; cases h
    · intro h; exact ((hM s).2 h).1)

/-- a look-up -/
theorem look_file (hg : o.guard = none) (m x : Operand) (hop : o.op = Op.lookup 132 m x false) (b n : Nat) (D : DataW Unit) (g : ByteArray → ByteArray) (hM : MapIs D g)
    (hm : a.eval m = .map (some b)) (hown : w.ownsMap Tryz.prog 9 fileElem b n D) (s : ByteArray) (hs : s.size ≤ maxLen) (hx : a.eval x = .string s)
    (hK : ∀ (p : ByteArray), wpList Tryz.prog ops Q rest (a.put o.dst (.agg #[.string p, .string (g s)])) w) :
    wpList Tryz.prog ops Q (o :: rest) a w := by
  refine wpList_plain hg fun K' hK' => ?_
  obtain ⟨v, ps, hrun, hv⟩ := hown.lookup law9 under58 (zero47 w) (zd := fd ⟨#[]⟩ ⟨#[]⟩) (zp := []) rfl (key9 hs)
  obtain ⟨p, c, rfl, hy⟩ := fileElem_inv hv
  have hc : c = g s := by
    by_cases e : g s = ⟨#[]⟩
    · rw [atKey_of_not_has ((hM s).1 e)] at hy
      rw [e]; exact (fd_inj (congrArg Prod.fst hy)).2.symm
    · rw [((hM s).2 e).2] at hy
      exact (fd_inj (congrArg Prod.fst hy)).2.symm
  subst hc
  unfold Oper.wp
  simp [execOp, hop, hm, hx, hrun, Result.andThen]
  exact hK' _ _ (hK p)
end

set_option maxHeartbeats 1000000 in
theorem put_any (b n : Nat) (D : DataW Unit) (g : ByteArray → ByteArray) (p c : ByteArray) (w : World) (hown : w.ownsMap Tryz.prog 9 fileElem b n D) (hM : MapIs D g) (hp : p.size ≤ maxLen) (hn : n < maxLen) :
    Calls Tryz.prog 128 #[.map (some b), .agg #[.string p, .string c]] w fun e w' => e = .returned (.tuple #[]) ∧ (∃ D', w'.ownsMap Tryz.prog 9 fileElem b (n + 1) D' ∧ MapIs D' (upd g p c)) ∧ w.grownBy w' (some b) := by
  have hg0 := World.grownBy_alloc w (.cells #[.string p, .string c] 80) (some b)
  have hown1 := hown.alloc (.cells #[.string p, .string c] 80)
  by_cases hc : c.toList.isEmpty = true
  · have hc' : c.toList = [] := by simpa using hc
    have hce : Hid (c = ⟨#[]⟩) := (empty_iff c).1 hc
    go_enter Tryz.func128, Tryz.ntmps128
    go_wp2_with (at_delete; refine wpList_delete_own _ rfl _ _ _ _ rfl _ law9 under58 _ b n D rfl hown1 _ _ rfl (key9 hp) ?_; intro w1 hown2 hturn2)
    refine bodyPost_ret (v := .tuple #[]) (results_none (by kernel_rfl) _ _ _) rfl ?_
    exact ⟨rfl, ⟨_, hown2.mono (Nat.le_succ n), by rw [hce.out]; exact hM.del p⟩, hg0.trans hturn2.grown⟩
  · have hc' : c.toList.isEmpty = false := by simpa using hc
    have hce : Hid (c ≠ ⟨#[]⟩) := fun e => hc ((empty_iff c).2 e)
    go_enter Tryz.func128, Tryz.ntmps128
    go_wp2_with (at_mapUpdate; refine wpList_mapUpdate_own _ rfl _ _ _ _ rfl _ _ law9 under58 _ b n D rfl hown1 hn _ _ _ rfl rfl (key9 hp) _ [] (fileElem_mk p c) ?_; intro w1 hown2 hg2)
    go_end0
    exact ⟨rfl, ⟨_, hown2, hM.put hown.isMap p hce.out⟩, hg0.trans hg2⟩
end Go.Proofs.YtgamgomepdfgdaaGreat

namespace Go.Proofs.YtgamgomepdfgdaaGreat
open Go.RowKit Go.Maps

theorem standsL_snoc {l : List Fl} {f : Fl} (h : ∀ x ∈ l, x.1 ≠ f.1) : standsL (l ++ [f]) = upd (standsL l) f.1 f.2 := by
  funext q
  induction l with
  | nil => simp [standsL, upd]
  | cons x l ih =>
    have ih := ih fun y hy => h y (by simp [hy])
    have hx := h x (by simp)
    by_cases e : x.1 = q
    · rw [List.cons_append, standsL_hit _ _ _ ((beq_true_iff _ _).2 e), upd_other _ _ (by rw [← e]; exact hx.symm), standsL_hit _ _ _ ((beq_true_iff _ _).2 e)]
    · have hb := (beq_false_iff x.1 q).2 e
      rw [List.cons_append, standsL_miss _ _ _ hb, ih]
      unfold upd
      rw [standsL_miss _ _ _ hb]

theorem stands_take_iff {l : List Fl} {k : Nat} (hk : k < l.length) (hg : Good okFl Prod.fst (l.take k)) : standsL (l.take k) l[k].1 ≠ ⟨#[]⟩ ↔ ∃ j, ∃ h : j < k, (l[j]'(by omega)).1 = l[k].1 := by
  constructor
  · intro h
    have := standsL_found h
    obtain ⟨j, hj, e⟩ := List.mem_iff_getElem.1 this
    rw [List.length_take] at hj
    rw [List.getElem_take] at e
    exact ⟨j, by omega, by rw [e]⟩
  · rintro ⟨j, hj, e⟩ h0
    have hm : l[j]'(by omega) ∈ l.take k := List.mem_iff_getElem.2 ⟨j, by rw [List.length_take]; omega, by rw [List.getElem_take]⟩
    have h1 := standsL_mem hg.2 hm
    rw [e, h0] at h1
    have h2 := ((okFl_iff _).1 (hg.1 _ hm)).2.1
    rw [← h1] at h2
    exact absurd h2 (by decide)

/-- From's answer -/
def FromRes (e : Ending) (w w' : World) (l : List Fl) : Prop :=
  (e = .returned (.tuple #[.map (some w.heap.size), .bool true]) ∧ Good okFl Prod.fst l ∧ ∃ D, w'.ownsMap Tryz.prog 9 fileElem w.heap.size l.length D ∧ MapIs D (standsL l)) ∨
  (e = .returned (.tuple #[.map none, .bool false]) ∧ ¬ Good okFl Prod.fst l)

theorem below_two {w wr : World} (hb : Below w.heap.size w wr) (o o' : Obj) : Below w.heap.size w ((wr.alloc o).alloc o') :=
  (hb.alloc hb.size o).alloc (by have := hb.size; simp; omega) o'

theorem grown_of_below {w w' : World} (hb : Below w.heap.size w w') (row : Option Nat) : w.grownBy w' row := ⟨hb.os, hb.tape, hb.output, hb.size, fun k hk _ => hb.block k hk⟩
theorem ownsMap_below {w w' : World} {b n : Nat} {D : DataW Unit} (h : w.ownsMap Tryz.prog 9 fileElem b n D) (hb : Below w.heap.size w w') : w'.ownsMap Tryz.prog 9 fileElem b n D :=
  h.kept (grown_of_below hb none) (by simp)

theorem make58 (n : Int) (w : World) : (Instr.makeMap 132 (some (.int .i64 n))).run Tryz.prog w = .ok (.map (some w.heap.size)) (w.alloc (.map #[] 0)) := by
  simp [Instr.makeMap, run_underlying under58, asInt]
  rfl

theorem below_draw0 {wr w1 w2 : World} (h : Below w1.heap.size w1 w2) (e : w1.heap = wr.heap) (e1 : w1.os = wr.os) (e2 : w1.tape = wr.tape) (e3 : w1.output = wr.output) : Below wr.heap.size wr w2 :=
  ⟨h.os.trans e1, h.tape.trans e2, h.output.trans e3, by rw [← e]; exact h.size, fun k hk => by rw [← e] at hk ⊢; exact h.block k hk⟩

set_option maxRecDepth 100000 in
set_option maxHeartbeats 2000000 in
theorem from_row (l : List Fl) (b off cap : Nat) (w : World) (hlt : b < w.heap.size) (hn : l.length < 8796093022208)
    (h0 : ∀ i (h : i < l.length), w.cell? ⟨b, off + i * 2, none⟩ = some (.string l[i].1)) (h1 : ∀ i (h : i < l.length), w.cell? ⟨b, off + i * 2 + 1, none⟩ = some (.string l[i].2)) (hsz : ∀ f ∈ l, f.1.size ≤ maxLen) :
    Calls Tryz.prog 85 #[.slice (some ⟨b, off, none⟩) l.length cap] w fun e w' => FromRes e w w' l ∧ Below w.heap.size w w' := by
  have hmm := make58
  go_enter Tryz.func85, Tryz.ntmps85
  go_wp2
  go_loopw [14] (fun i wr => ∃ (k : Nat) (D : DataW Unit), k ≤ l.length ∧ i = .int .i64 k ∧ wr.ownsMap Tryz.prog 9 fileElem w.heap.size k D ∧ MapIs D (standsL (l.take k)) ∧ Below w.heap.size w wr ∧ Hid (Good okFl Prod.fst (l.take k))) (fun i _ => l.length - (intOf i).toNat)
  case atStart => exact ⟨0, _, Nat.zero_le _, rfl, World.ownsMap_made _ _ _ _, MapIs.made, (Below.refl _ _).alloc (Nat.le_refl _) _, Good.nil _ _⟩
  case round =>
    obtain ⟨k, D, hk, rfl, hown, hM, hb, hs⟩ := hrel
    obtain ⟨g0, g1, gb⟩ := files_cells hb hlt h0 h1
    clear h0 h1 hmm
    by_cases hlk : k < l.length
    · have hkm : l[k].1.size ≤ maxLen := hsz _ (List.getElem_mem hlk)
      have hst := stands_take_iff hlk hs.out
      have hown1 := hown.alloc (.cells #[.string l[k].1, .string l[k].2] 80)
      go_wp2_with (at_lookup; refine look_file_ok _ rfl _ _ rfl w.heap.size k D _ hM rfl hown1 l[k].1 hkm rfl ?_; intro p c r hr)
      · have hB : Hid (¬ Good okFl Prod.fst l) := by
          obtain ⟨j, hj, e⟩ := hst.1 (hr.out.1 ‹r = true›)
          exact good_twice hlk hj e
        go_ret2
        exact ⟨.inr ⟨rfl, hB.out⟩, below_two hb _ _⟩
      · have hr0 : ¬ standsL (l.take k) l[k].1 ≠ ⟨#[]⟩ := fun h => by
          have h1 := hr.out.2 h
          have h2 : r = false := by simpa using ‹¬ r = true›
          rw [h2] at h1; cases h1
        have hf : ∀ j (h : j < k), (l[j]'(by omega)).1 ≠ l[k].1 := fun j hj e => hr0 (hst.2 ⟨j, hj, e⟩)
        have hfr : ∀ x ∈ l.take k, x.1 ≠ l[k].1 := fun x hx e => by
          obtain ⟨j, hj, rfl⟩ := List.mem_iff_getElem.1 hx
          rw [List.length_take] at hj
          rw [List.getElem_take] at e
          exact hf j (by omega) e
        have Hst : Hid (standsL (l.take (k + 1)) = upd (standsL (l.take k)) l[k].1 l[k].2) := by
          rw [List.take_succ_eq_append_getElem hlk]; exact standsL_snoc hfr
        have Hgd : Hid (okFl l[k] = true → Good okFl Prod.fst (l.take (k + 1))) := fun h => (good_succ hlk).2 ⟨hs.out, h, hf⟩
        have Hbd : Hid (¬ okFl l[k] = true → ¬ Good okFl Prod.fst l) := fun h => good_stop hlk h
        clear hst hr hr0 hf hfr
        refine (fileMayBe_any _ _ _).mono ?_
        rintro e w1 ⟨rfl, hb1⟩
        have hB1 : Below w.heap.size w w1 := (below_two hb _ _).trans (hb1.mono (below_two hb _ _).size)
        have hown2 := ownsMap_below ((hown1.alloc (.cells #[.string p, .string c] 80))) hb1
        have c0 : w1.cell? ⟨wr.heap.size, 0, none⟩ = some (.string l[k].1) := (hb1.cell (by simp; omega)).trans (by simp)
        have c1 : w1.cell? ⟨wr.heap.size, 1, none⟩ = some (.string l[k].2) := (hb1.cell (by simp; omega)).trans (by simp)
        generalize hx : (okFill l[k].1 && okFill l[k].2) = x
        have Hx : Hid ((okFill l[k].1 && okFill l[k].2) = x) := hx
        have hwne : some wr.heap.size ≠ some w.heap.size := fun e => by
          have h1 := hown.lt
          injection e with e; omega
        clear hx hb1 hown hown1
        cases x
        · go_wp2
          go_ret2
          exact ⟨.inr ⟨rfl, Hbd.out (by rw [show okFl l[k] = (okFill l[k].1 && okFill l[k].2) from rfl, Hx.out]; exact Bool.false_ne_true)⟩, hB1⟩
        · have hbl : Hid (l[k].2 ≠ ⟨#[]⟩) := fun e => by
            have := ((okFl_iff l[k]).1 Hx.out).2.1
            rw [e] at this; exact absurd this (by decide)
          have hk8 : l[k].1.size ≤ 281474976710656 ∧ l[k].2.size ≤ 281474976710656 := by
            have h1 := ((okFl_iff l[k]).1 Hx.out).1.2
            have h2 := ((okFl_iff l[k]).1 Hx.out).2.2
            constructor <;> omega
          obtain ⟨s0, s1⟩ := hk8
          have hput : Hid (∀ w3, Below w1.heap.size w1 w3 → Calls Tryz.prog 128 #[.map (some w.heap.size), .agg #[.string l[k].1, .string l[k].2]] w3 fun e w' => e = .returned (.tuple #[]) ∧ (∃ D', w'.ownsMap Tryz.prog 9 fileElem w.heap.size (k + 1) D' ∧ MapIs D' (standsL (l.take (k + 1)))) ∧ w3.grownBy w' (some w.heap.size)) := fun w3 h3 => by
            rw [Hst.out]
            exact put_any w.heap.size k D _ l[k].1 l[k].2 w3 (ownsMap_below hown2 h3) hM hkm (by unfold maxLen; omega)
          have HB1 : Hid (Below w.heap.size w w1) := hB1
          have Hg1 : Hid (Good okFl Prod.fst (l.take (k + 1))) := Hgd.out Hx.out
          clear hbl hown2 hM hkm Hst Hbd Hgd hb hs g0 g1 gb hB1 Hx hk
          generalize l[k].1 = p at s0 c0 hput
          generalize l[k].2 = o at s1 c1 hput
          go_wp2
          go_region_held_law (fun w' => w'.cell? ⟨wr.heap.size, 0, none⟩ = some (.string p) ∧ w'.cell? ⟨wr.heap.size, 1, none⟩ = some (.string o)) (go_keep) (first
            | (go_at_call 129; refine (clone_any p _ s0).mono ?_; rintro e w2 ⟨rfl, hb2⟩; have k0 : w2.cell? ⟨wr.heap.size, 0, none⟩ = some (.string p) := cell_after hb2 c0; have k1 : w2.cell? ⟨wr.heap.size, 1, none⟩ = some (.string o) := cell_after hb2 c1; have B2 : Hid (Below w1.heap.size w1 w2) := below_draw0 hb2 rfl rfl rfl rfl)
            | (go_at_call 129; refine (clone_any o _ s1).mono ?_; rintro e w3 ⟨rfl, hb3⟩; have k2 := cell_after hb3 k0; have k3 := cell_after hb3 k1; have B3 : Hid (Below w1.heap.size w1 w3) := B2.out.trans (hb3.mono B2.out.size))
            | (go_at_call 128; refine (hput.out _ B3.out).mono ?_; rintro e w4 ⟨rfl, ⟨D4, hown4, hM4⟩, hg4⟩; have k4 : w4.cell? ⟨wr.heap.size, 0, none⟩ = some (.string p) := hg4.cell k2 hwne; have k5 : w4.cell? ⟨wr.heap.size, 1, none⟩ = some (.string o) := hg4.cell k3 hwne))
          have hB3 : Below w.heap.size w w3 := HB1.out.trans (B3.out.mono HB1.out.size)
          have hB4 : Below w.heap.size w w4 := hB3.grown hg4 hB3.size (fun j hj => by cases hj; exact Nat.le_refl _)
          clear k0 k1 k2 k3 k4 k5
          go_wp2
          exact ⟨⟨k + 1, D4, hlk, by go_num, hown4, hM4, hB4, Hg1.out⟩, by simp [intOf]; omega⟩
    · go_wp2
      go_ret2
      have e : l.take k = l := List.take_of_length_le (by omega)
      have hkl : k = l.length := by omega
      subst hkl
      rw [e] at hM
      exact ⟨.inl ⟨rfl, by have := hs.out; rwa [e] at this, D, hown, hM⟩, hb⟩

set_option maxRecDepth 100000 in
set_option maxHeartbeats 1000000 in
theorem from_none (a : Option Addr) (cap : Nat) (w : World) :
    Calls Tryz.prog 85 #[.slice a 0 cap] w fun e w' => FromRes e w w' [] ∧ Below w.heap.size w w' := by
  have hmm := make58
  go_enter Tryz.func85, Tryz.ntmps85
  go_wp2
  go_loop [14] (fun i => i = .int .i64 0) (fun _ => 0)
  case atStart => rfl
  case round =>
    subst hrel
    clear hmm
    go_wp2
    go_ret2
    exact ⟨.inl ⟨rfl, Good.nil _ _, _, World.ownsMap_made _ _ _ _, MapIs.made⟩, (Below.refl _ _).alloc (Nat.le_refl _) _⟩

theorem from_any (l : List Fl) (v : Value) (w : World) (hl : FilesAt w v l) (hn : l.length < 8796093022208) (hsz : ∀ f ∈ l, f.1.size ≤ maxLen) :
    Calls Tryz.prog 85 #[v] w fun e w' => FromRes e w w' l ∧ Below w.heap.size w w' := by
  rcases hl with ⟨rfl, a, cap, rfl⟩ | ⟨b, off, cap, rfl, hlt, h0, h1⟩
  · exact from_none a cap w
  · exact from_row l b off cap w hlt hn h0 h1 hsz
end Go.Proofs.YtgamgomepdfgdaaGreat

namespace Go.Proofs.YtgamgomepdfgdaaGreat
open Go.RowKit Go.Maps

theorem edits_grown {w wr : World} {b off bm : Nat} {l : List Ed} (hg : w.grownBy wr (some bm)) (hne : b ≠ bm) (hlt : b < w.heap.size)
    (h0 : ∀ i (h : i < l.length), w.cell? ⟨b, off + i * 3, none⟩ = some (.string l[i].1)) (h1 : ∀ i (h : i < l.length), w.cell? ⟨b, off + i * 3 + 1, none⟩ = some (.string l[i].2.1)) (h2 : ∀ i (h : i < l.length), w.cell? ⟨b, off + i * 3 + 2, none⟩ = some (.string l[i].2.2)) :
    (∀ i (h : i < l.length), wr.cell? ⟨b, off + i * 3, none⟩ = some (.string l[i].1)) ∧ (∀ i (h : i < l.length), wr.cell? ⟨b, off + i * 3 + 1, none⟩ = some (.string l[i].2.1)) ∧ (∀ i (h : i < l.length), wr.cell? ⟨b, off + i * 3 + 2, none⟩ = some (.string l[i].2.2)) ∧ b < wr.heap.size := by
  have e := hg.block b hlt (by simp [hne])
  exact ⟨fun i h => (World.cell?_of_block (w := w) e).trans (h0 i h), fun i h => (World.cell?_of_block (w := w) e).trans (h1 i h), fun i h => (World.cell?_of_block (w := w) e).trans (h2 i h), Nat.lt_of_lt_of_le hlt hg.size⟩

/-- Apply's answer -/
def SetRes (e : Ending) (w' : World) (b n : Nat) (g : ByteArray → ByteArray) (l : List Ed) : Prop :=
  (e = .returned (.bool true) ∧ (∀ x ∈ l, g x.1 = x.2.1) ∧ ∃ D, w'.ownsMap Tryz.prog 9 fileElem b (n + l.length) D ∧ MapIs D (edited g l)) ∨
  (e = .returned (.bool false) ∧ ¬ ∀ x ∈ l, g x.1 = x.2.1)

theorem field47 (p b : ByteArray) (w : World) : (Instr.field 80 (.agg #[.string p, .string b]) 1).run Tryz.prog w = .ok (.string b) w := by kernel_rfl

set_option maxRecDepth 100000 in
set_option maxHeartbeats 2000000 in
theorem setApply_row (l : List Ed) (b off cap bm n : Nat) (D : DataW Unit) (g : ByteArray → ByteArray) (w : World) (hlt : b < w.heap.size) (hne : b ≠ bm)
    (h0 : ∀ i (h : i < l.length), w.cell? ⟨b, off + i * 3, none⟩ = some (.string l[i].1)) (h1 : ∀ i (h : i < l.length), w.cell? ⟨b, off + i * 3 + 1, none⟩ = some (.string l[i].2.1)) (h2 : ∀ i (h : i < l.length), w.cell? ⟨b, off + i * 3 + 2, none⟩ = some (.string l[i].2.2))
    (hn4 : l.length ≤ 4) (hown : w.ownsMap Tryz.prog 9 fileElem bm n D) (hM : MapIs D g) (hn : n < 8796093022208) (hsz : ∀ x ∈ l, x.1.size ≤ maxLen) :
    Calls Tryz.prog 243 #[.map (some bm), .slice (some ⟨b, off, none⟩) l.length cap] w fun e w' => SetRes e w' bm n g l ∧ w.grownBy w' (some bm) := by
  have hfd := field47
  go_enter Tryz.func243, Tryz.ntmps243
  go_wp2
  go_loopw [11] (fun i wr => ∃ k : Nat, k ≤ l.length ∧ i = .int .i64 k ∧ Below w.heap.size w wr ∧ Hid (∀ j (h : j < k) (h' : j < l.length), g l[j].1 = l[j].2.1)) (fun i _ => l.length - (intOf i).toNat)
  case atStart => exact ⟨0, Nat.zero_le _, rfl, Below.refl _ _, fun j h => by omega⟩
  case round =>
    obtain ⟨k, hk, rfl, hb, hs⟩ := hrel
    by_cases hlk : k < l.length
    · obtain ⟨g0, g1, g2, gb⟩ := edits_cells hb hlt h0 h1 h2
      have hown1 := (ownsMap_below hown hb).alloc (.cells #[.string l[k].1, .string l[k].2.1, .string l[k].2.2] 49)
      have hkm : l[k].1.size ≤ maxLen := hsz _ (List.getElem_mem hlk)
      clear h0 h1 h2 hown
      go_wp2_with (at_lookup; refine look_file _ rfl _ _ rfl bm n D _ hM rfl hown1 l[k].1 hkm rfl ?_; intro p)
      · have hne' : Hid (¬ ∀ x ∈ l, g x.1 = x.2.1) := fun h => by
          have e := h _ (List.getElem_mem hlk)
          have e' : (!((g l[k].1).toList == l[k].2.1.toList)) = true := by assumption
          rw [e] at e'; simp at e'
        go_ret
        exact ⟨.inr ⟨rfl, hne'.out⟩, (grown_of_below hb _).trans (World.grownBy_alloc _ _ _)⟩
      · have hq : Hid (g l[k].1 = l[k].2.1) := (beq_true_iff _ _).1 (by simpa using ‹(!((g l[k].1).toList == l[k].2.1.toList)) = false›)
        go_roundw
        case rel => exact ⟨k + 1, hlk, by go_num, hb.alloc hb.size _, fun x hx hx' => by
                  by_cases e : x = k
                  · subst e; exact hq.out
                  · exact hs.out x (by omega) hx'⟩
        case measure => simp [intOf]; omega
    · have hall : Hid (∀ x ∈ l, g x.1 = x.2.1) := fun x hx => by
        obtain ⟨j, hj, rfl⟩ := List.mem_iff_getElem.1 hx
        exact hs.out j (by omega) hj
      have hgw := grown_of_below hb (some bm)
      have hown1 := ownsMap_below hown hb
      clear hown hs
      go_wp2
      go_loopw [26] (fun i wr => ∃ (k : Nat) (D : DataW Unit), k ≤ l.length ∧ i = .int .i64 k ∧ wr.ownsMap Tryz.prog 9 fileElem bm (n + k) D ∧ MapIs D (edited g (l.take k)) ∧ w.grownBy wr (some bm)) (fun i _ => l.length - (intOf i).toNat)
      case atStart => exact ⟨0, D, Nat.zero_le _, rfl, hown1, hM, hgw⟩
      case round =>
        clear hM hown1 hgw hb hk D
        obtain ⟨k, D, hk, rfl, hown, hM, hgw⟩ := hrel
        obtain ⟨g0, g1, g2, gb⟩ := edits_grown hgw hne hlt h0 h1 h2
        by_cases hlk : k < l.length
        · have hkm : l[k].1.size ≤ maxLen := hsz _ (List.getElem_mem hlk)
          have hown1 := hown.alloc (.cells #[.string l[k].1, .string l[k].2.1, .string l[k].2.2] 49)
          have hc := put_any bm (n + k) D _ l[k].1 l[k].2.2 _ hown1 hM hkm (by unfold maxLen; omega)
          have He : Hid (edited g (l.take (k + 1)) = upd (edited g (l.take k)) l[k].1 l[k].2.2) := by
            rw [List.take_succ_eq_append_getElem hlk]; exact edited_snoc _ _ _
          clear h0 h1 h2 hown hM hown1
          go_wp2_with (go_at_call 128; refine hc.mono ?_; rintro e w1 ⟨rfl, ⟨D1, hown1, hM1⟩, hg1⟩)
          go_roundw
          case rel => exact ⟨k + 1, D1, hlk, by go_num, hown1, by rw [He.out]; exact hM1, (hgw.trans (World.grownBy_alloc _ _ _)).trans hg1⟩
          case measure => simp [intOf]; omega
        · go_wp2
          go_ret
          have hkl : k = l.length := by omega
          subst hkl
          rw [List.take_length] at hM
          exact ⟨.inl ⟨rfl, hall.out, D, hown, hM⟩, hgw⟩

theorem cells_ne_map {w : World} {b off bm n : Nat} {D : DataW Unit} {v : Value} (h : w.cell? ⟨b, off, none⟩ = some v) (hown : w.ownsMap Tryz.prog 9 fileElem bm n D) : b ≠ bm := by
  rintro rfl
  obtain ⟨es, clock, hb, _⟩ := hown
  simp [World.cell?, hb] at h

theorem setApply_any (l : List Ed) (v : Value) (bm n : Nat) (D : DataW Unit) (g : ByteArray → ByteArray) (w : World) (hl : EditsAt w v l) (hn1 : 1 ≤ l.length)
    (hn4 : l.length ≤ 4) (hown : w.ownsMap Tryz.prog 9 fileElem bm n D) (hM : MapIs D g) (hn : n < 8796093022208) (hsz : ∀ x ∈ l, x.1.size ≤ maxLen) :
    Calls Tryz.prog 243 #[.map (some bm), v] w fun e w' => SetRes e w' bm n g l ∧ w.grownBy w' (some bm) := by
  rcases hl with ⟨rfl, _⟩ | ⟨b, off, cap, rfl, hlt, h0, h1, h2⟩
  · simp at hn1
  · exact setApply_row l b off cap bm n D g w hlt (cells_ne_map (h0 0 (by omega)) hown) h0 h1 h2 hn4 hown hM hn hsz
end Go.Proofs.YtgamgomepdfgdaaGreat

namespace Go.Proofs.YtgamgomepdfgdaaGreat
open Go.RowKit

set_option maxHeartbeats 400000 in
set_option maxRecDepth 100000 in
theorem compareString_any (a b : ByteArray) (w : World) :
    Calls Tryz.prog 222 #[.string a, .string b] w fun e w' => e = .returned (.int .i64 (Lib.compareBytes a.data.toList b.data.toList)) ∧ w' = w := by
  go_enter Tryz.func222, Tryz.ntmps222
  go_wp2
  rw [run_callFunc_extern Tryz.func256 (by kernel_rfl) (by kernel_rfl) (by kernel_rfl) (e := Extern.BytealgCompare.compare) (by kernel_rfl), Lib.run_compareString]
  simp only [Result.andThen]
  rw [Oper.upon_value]
  go_wp2
  go_ret
  exact ⟨rfl, rfl⟩

set_option maxHeartbeats 400000 in
theorem compare_any (a b : ByteArray) (w : World) :
    Calls Tryz.prog 187 #[.string a, .string b] w fun e w' => e = .returned (.int .i64 (Lib.compareBytes a.data.toList b.data.toList)) ∧ w' = w := by
  go_enter Tryz.func187, Tryz.ntmps187
  go_wp2_with (go_at_call 222; refine (compareString_any _ _ _).mono ?_; rintro e w' ⟨rfl, rfl⟩)
  go_ret
  exact ⟨rfl, rfl⟩

set_option maxHeartbeats 400000 in
theorem closure_cmp (p b q c : ByteArray) (w : World) :
    Calls Tryz.prog 186 #[.agg #[.string p, .string b], .agg #[.string q, .string c]] w fun e w' => e = .returned (.int .i64 (Lib.compareBytes p.data.toList q.data.toList)) ∧ w' = (w.alloc (.cells #[.string p, .string b] 80)).alloc (.cells #[.string q, .string c] 80) := by
  have hc := compare_any p q
  generalize Lib.compareBytes p.data.toList q.data.toList = r at hc ⊢
  go_enter Tryz.func186, Tryz.ntmps186
  go_wp2_with (go_at_call 187; refine (hc _).mono ?_; rintro e w' ⟨rfl, rfl⟩)
  go_ret
  exact ⟨rfl, rfl⟩
end Go.Proofs.YtgamgomepdfgdaaGreat
