import Derived.Test.YtgamgomepdfgdaaLeaf
import Derived.Maps.OwnSet
import Derived.Maps.OwnOps
import Derived.Maps.RangeWalk
namespace Go.Proofs.Ytgamgomepdfgdaa
open Go.RowKit Go.Maps

/-- what a file reads as -/
def fd (p b : ByteArray) : DataW Unit := .agg [.lit (.string p.data.toList), .lit (.string b.data.toList)]
theorem fd_inj {p b q c : ByteArray} (h : fd p b = fd q c) : p = q ∧ b = c := by
  simp only [fd, DataW.agg.injEq, List.cons.injEq, DataW.lit.injEq, Lit.string.injEq, and_true] at h
  exact ⟨eq_of_data h.1, eq_of_data h.2⟩

/-- how an element of the map reads -/
def fileElem : Value → Option (DataW Unit × List MemPlace)
  | .agg ⟨[.string p, .string b]⟩ => some (fd p b, [])
  | _ => none
theorem fileElem_mk (p b : ByteArray) : fileElem (.agg #[.string p, .string b]) = some (fd p b, []) := rfl
theorem fileElem_inv {v : Value} {y : DataW Unit × List MemPlace} (h : fileElem v = some y) : ∃ p b, v = .agg #[.string p, .string b] ∧ y = (fd p b, []) := by
  unfold fileElem at h
  split at h
  · rename_i p b
    exact ⟨p, b, rfl, (Option.some.inj h).symm⟩
  · cases h

abbrev kl (s : ByteArray) : Lit := .string s.data.toList
theorem kl_inj {s t : ByteArray} (h : kl s = kl t) : s = t := eq_of_data (Lit.string.inj h)

/-- the map holds just the files of which g says what stands where -/
def MapIs (D : DataW Unit) (g : ByteArray → ByteArray) : Prop :=
  ∀ s, (g s = ⟨#[]⟩ → Maps.has D (kl s) = false) ∧ (g s ≠ ⟨#[]⟩ → Maps.has D (kl s) = true ∧ ∀ z, D.atKey (kl s) z = fd s (g s))

theorem MapIs.made : MapIs (.map []) fun _ => ⟨#[]⟩ := fun _ => ⟨fun _ => rfl, fun h => absurd rfl h⟩

theorem MapIs.put {D : DataW Unit} {g : ByteArray → ByteArray} (h : MapIs D g) (hD : IsMap D) (p : ByteArray) {b : ByteArray} (hb : b ≠ ⟨#[]⟩) : MapIs (D.put (kl p) (fd p b)) (upd g p b) := by
  intro s
  by_cases e : p = s
  · subst e
    rw [upd_same]
    exact ⟨fun x => absurd x hb, fun _ => ⟨has_put_same hD (show WideAt.IsKeyLit (kl p) from trivial) _, fun z => atKey_put_same hD (show WideAt.IsKeyLit (kl p) from trivial) _ z⟩⟩
  · rw [upd_other _ _ e]
    have hne : kl s ≠ kl p := fun x => e (kl_inj x).symm
    rw [has_put_other hne]
    exact ⟨(h s).1, fun x => ⟨((h s).2 x).1, fun z => by rw [atKey_put_other hne]; exact ((h s).2 x).2 z⟩⟩

theorem MapIs.del {D : DataW Unit} {g : ByteArray → ByteArray} (h : MapIs D g) (p : ByteArray) : MapIs (D.del (kl p)) (upd g p ⟨#[]⟩) := by
  intro s
  by_cases e : p = s
  · subst e
    rw [upd_same]
    exact ⟨fun _ => has_del_same, fun x => absurd rfl x⟩
  · rw [upd_other _ _ e]
    have hne : kl s ≠ kl p := fun x => e (kl_inj x).symm
    rw [has_del_other hne]
    exact ⟨(h s).1, fun x => ⟨((h s).2 x).1, fun z => by rw [atKey_del_other hne]; exact ((h s).2 x).2 z⟩⟩

theorem law9 : Keyed Try.prog 9 := string_keyed Try.underlying9
theorem under58 : Try.prog.underlying 58 = some (.map 9 47) := Try.underlying58
theorem key9 {s : ByteArray} (h : s.size ≤ maxLen) : keyOf Try.prog 9 (.string s) = some (kl s) := Go.WideMaps.keyOf_string_mk Try.underlying9 h
theorem zero47 (w : World) : (zeroValue 47).run Try.prog w = .ok (.agg #[.string ⟨#[]⟩, .string ⟨#[]⟩]) w := by kernel_rfl

section
variable (w : World) {ops : Array Oper} {rest : List Oper} {o : Oper} {a : Act} {Q : Exit → Act → World → Prop}

/-- a look-up with its ok -/
theorem look_file_ok (hg : o.guard = none) (m x : Operand) (hop : o.op = Op.lookup 58 m x true) (b n : Nat) (D : DataW Unit) (g : ByteArray → ByteArray) (hM : MapIs D g)
    (hm : a.eval m = .map (some b)) (hown : w.ownsMap Try.prog 9 fileElem b n D) (s : ByteArray) (hs : s.size ≤ maxLen) (hx : a.eval x = .string s)
    (hK : ∀ (p c : ByteArray) (r : Bool), Hid (r = true ↔ g s ≠ ⟨#[]⟩) → wpList Try.prog ops Q rest (a.put o.dst (.tuple #[.agg #[.string p, .string c], .bool r])) w) :
    wpList Try.prog ops Q (o :: rest) a w :=
  wpList_lookup_own_ok w hg m x _ hop _ _ law9 under58 fileElem (zero47 w) (fd ⟨#[]⟩ ⟨#[]⟩) [] rfl b n D hm hown _ _ hx (key9 hs) (fun v ps hv => by
    obtain ⟨p, c, rfl, _⟩ := fileElem_inv hv
    refine hK p c _ ?_
    constructor
    · intro h e; rw [(hM s).1 e] at h; cases h
    · intro h; exact ((hM s).2 h).1)

/-- a look-up -/
theorem look_file (hg : o.guard = none) (m x : Operand) (hop : o.op = Op.lookup 58 m x false) (b n : Nat) (D : DataW Unit) (g : ByteArray → ByteArray) (hM : MapIs D g)
    (hm : a.eval m = .map (some b)) (hown : w.ownsMap Try.prog 9 fileElem b n D) (s : ByteArray) (hs : s.size ≤ maxLen) (hx : a.eval x = .string s)
    (hK : ∀ (p : ByteArray), wpList Try.prog ops Q rest (a.put o.dst (.agg #[.string p, .string (g s)])) w) :
    wpList Try.prog ops Q (o :: rest) a w := by
  refine wpList_plain hg fun K' hK' => ?_
  obtain ⟨v, ps, hrun, hv⟩ := hown.lookup law9 under58 (zero47 w) (zd := fd ⟨#[]⟩ ⟨#[]⟩) (zp := []) rfl (key9 hs)
  obtain ⟨p, c, rfl, hy⟩ := fileElem_inv hv
  have hc : c = g s := by
    by_cases e : g s = ⟨#[]⟩
    · rw [atKey_of_not_has ((hM s).1 e)] at hy
      rw [e]; exact (fd_inj (congrArg Prod.fst hy)).2.symm
    · rw [((hM s).2 e).2] at hy
      exact (fd_inj (congrArg Prod.fst hy)).2.symm
  subst hc
  unfold Oper.wp
  simp [execOp, hop, hm, hx, hrun, Result.andThen]
  exact hK' _ _ (hK p)
end

set_option maxHeartbeats 1000000 in
theorem put_any (b n : Nat) (D : DataW Unit) (g : ByteArray → ByteArray) (p c : ByteArray) (w : World) (hown : w.ownsMap Try.prog 9 fileElem b n D) (hM : MapIs D g) (hp : p.size ≤ maxLen) (hn : n < maxLen) :
    Calls Try.prog 32 #[.map (some b), .agg #[.string p, .string c]] w fun e w' => e = .returned (.tuple #[]) ∧ (∃ D', w'.ownsMap Try.prog 9 fileElem b (n + 1) D' ∧ MapIs D' (upd g p c)) ∧ w.grownBy w' (some b) := by
  have hg0 := World.grownBy_alloc w (.cells #[.string p, .string c] 47) (some b)
  have hown1 := hown.alloc (.cells #[.string p, .string c] 47)
  by_cases hc : c.toList.isEmpty = true
  · have hc' : c.toList = [] := by simpa using hc
    have hce : Hid (c = ⟨#[]⟩) := (empty_iff c).1 hc
    go_enter Try.func32, Try.ntmps32
    go_wp2_with (at_delete; refine wpList_delete_own _ rfl _ _ _ _ rfl _ law9 under58 _ b n D rfl hown1 _ _ rfl (key9 hp) ?_; intro w1 hown2 hturn2)
    refine bodyPost_ret (v := .tuple #[]) (results_none (by kernel_rfl) _ _ _) rfl ?_
    exact ⟨rfl, ⟨_, hown2.mono (Nat.le_succ n), by rw [hce.out]; exact hM.del p⟩, hg0.trans hturn2.grown⟩
  · have hc' : c.toList.isEmpty = false := by simpa using hc
    have hce : Hid (c ≠ ⟨#[]⟩) := fun e => hc ((empty_iff c).2 e)
    go_enter Try.func32, Try.ntmps32
    go_wp2_with (at_mapUpdate; refine wpList_mapUpdate_own _ rfl _ _ _ _ rfl _ _ law9 under58 _ b n D rfl hown1 hn _ _ _ rfl rfl (key9 hp) _ [] (fileElem_mk p c) ?_; intro w1 hown2 hg2)
    go_end0
    exact ⟨rfl, ⟨_, hown2, hM.put hown.isMap p hce.out⟩, hg0.trans hg2⟩
end Go.Proofs.Ytgamgomepdfgdaa
