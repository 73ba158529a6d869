import Derived.Test.YtgamgomepdfgdaaMem
import Derived.Laws.CopyRow
namespace Go.Proofs.Ytgamgomepdfgdaa
open Go.RowKit

theorem run_copy_rowK {P : Program} (w : World) (dT sT ty elem : TypeId) (size : Nat) (g dLen dCap : Nat) (a : Addr) (sLen sCap : Nat) (cur : Array Value) (t : TypeId) (cs : List Value)
    (hu : P.underlying dT = some (.slice elem)) (hs : (P.info? elem).map (·.size) = some size)
    (hg : w.heap[g]? = some (.cells cur t (0, 0))) (hle : sLen ≤ dLen) (hn : cs.length = sLen * size)
    (hsrc : ∀ j v, cs[j]? = some v → w.cell? (a.add j) = some v) (hfit : cs.length ≤ cur.size) (h1 : ∀ v ∈ cs, v.oneCell' = true) :
    (Builtin.copy_ #[dT, sT] ty #[.slice (some ⟨g, 0, none⟩) dLen dCap, .slice (some a) sLen sCap]).run P w =
      .ok (goInt sLen) (w.setRow g (cs ++ cur.toList.drop cs.length).toArray) := by
  have hl := run_loadCells_list (P := P) w a cs hsrc
  have hst := run_storeCells_at P g 0 t cs 0 cur w hg (by simpa using hfit) h1
  have hmin : Nat.min sLen dLen = sLen := Nat.min_eq_left hle
  cases hq : P.info? elem with
  | none => simp [hq] at hs
  | some i =>
    have hi : i.size = size := by simpa [hq] using hs
    simp [Builtin.copy_, run_underlying hu, Builtin.lenOf, Builtin.firstCells, sizeOf, typeInfo, hq, hi, hmin]
    rw [← hn, hl]
    simp at hst
    simp [hst]

theorem run_copy_zeroK {P : Program} (w : World) (dT sT ty elem : TypeId) (size : Nat) (d a : Option Addr) (dLen dCap sCap : Nat)
    (hu : P.underlying dT = some (.slice elem)) (hs : (P.info? elem).map (·.size) = some size) :
    (Builtin.copy_ #[dT, sT] ty #[.slice d dLen dCap, .slice a 0 sCap]).run P w = .ok (goInt 0) w := by
  have hl : ∀ a, Sem.run P (loadCells a 0) w = .ok #[] w := fun a => run_loadCells_list (P := P) w a [] (by simp)
  cases hq : P.info? elem with
  | none => simp [hq] at hs
  | some i => cases d <;> cases a <;> simp [Builtin.copy_, run_underlying hu, Builtin.lenOf, Builtin.firstCells, sizeOf, typeInfo, hq, storeCells, hl]

/-- copy into a row of the call's own, from its head on; the source is no longer -/
theorem wpList_copyK {P : Program} (w : World) {ops : Array Oper} {rest : List Oper} {o : Oper} {a : Act} {Q : Exit → Act → World → Prop} (hgd : o.guard = none) (d s : Operand) (dT sT : TypeId)
    (ho : o.op = .call { callee := .builtin .copy, args := #[d, s], argTypes := #[dT, sT] }) (elem : TypeId) (size base : Nat) (hu : P.underlying dT = some (.slice elem)) (hs : (P.info? elem).map (·.size) = some size)
    (g m : Nat) (sp : Option Addr) (n sCap : Nat) (hd : a.eval d = .slice (some ⟨g, 0, none⟩) m m) (hsv : a.eval s = .slice sp n sCap) (hle : n ≤ m)
    (xs : List Value) (hown : w.ownsRow base elem size (.slice (some ⟨g, 0, none⟩) m m) m xs) (cs : List Value) (hn : cs.length = n * size)
    (hsrc : 0 < n → ∃ ad, sp = some ad ∧ ∀ j v, cs[j]? = some v → w.cell? (ad.add j) = some v) (h1 : ∀ v ∈ cs, v.oneCell' = true)
    (h : ∀ w', w'.ownsRow base elem size (.slice (some ⟨g, 0, none⟩) m m) m (cs ++ xs.drop cs.length) → w.grownBy w' (some g) → wpList P ops Q rest (a.put o.dst (goInt n)) w') : wpList P ops Q (o :: rest) a w := by
  refine wpList_plain hgd fun K hK => ?_
  by_cases h0 : n = 0
  · subst h0
    obtain rfl : cs = [] := List.eq_nil_of_length_eq_zero (by simpa using hn)
    have hrun := run_copy_zeroK (P := P) w dT sT o.type elem size (some ⟨g, 0, none⟩) sp m m sCap hu hs
    unfold Oper.wp
    simp [execOp, ho, resolve, invoke, builtin, hd, hsv, hrun, Result.andThen]
    exact hK _ _ (h w (by simpa using hown) (World.grownBy.refl _ _))
  · obtain ⟨ad, rfl, hc⟩ := hsrc (by omega)
    rcases hown.2 with ⟨hnil, _⟩ | ⟨g', cap', cur, hv, hb, hg, hnc, hcm, hcs, htk⟩
    · cases hnil
    cases hv
    have hlen : cs.length ≤ cur.size := by rw [hn, hcs]; exact Nat.mul_le_mul_right size hle
    have hrun := run_copy_rowK (P := P) w dT sT o.type elem size g m m ad n sCap cur elem cs hu hs hg hle hn hc hlen h1
    unfold Oper.wp
    simp [execOp, ho, resolve, invoke, builtin, hd, hsv, hrun, Result.andThen]
    have hxs : cur.toList = xs := by rw [← htk, List.take_of_length_le (by rw [Array.length_toList, hcs]; exact Nat.le_refl _)]
    rw [hxs]
    refine hK _ _ (h _ ⟨?_, .inr ⟨g, m, _, rfl, hb, setRow_heap w g cur _ elem _ hg, Nat.le_refl _, hcm, ?_, ?_⟩⟩ ⟨rfl, rfl, rfl, by simp [World.setRow], fun k hk hne => setRow_other w g k _ (fun e => hne (by rw [e]))⟩)
    · have hx := hown.1
      rw [List.length_append, List.length_drop]; have : cs.length ≤ xs.length := by rw [← hxs, Array.length_toList]; exact hlen
      omega
    · have hx := hown.1
      have : cs.length ≤ xs.length := by rw [← hxs, Array.length_toList]; exact hlen
      simp; omega
    · have hx := hown.1
      have : cs.length ≤ xs.length := by rw [← hxs, Array.length_toList]; exact hlen
      rw [List.take_of_length_le (by simp; omega)]

theorem take_seg {L cs : List Value} {off N : Nat} (hl : (L.take off).length = off) (hN : off + cs.length ≤ N) :
    (L.take off ++ cs ++ L.drop (off + cs.length)).take N = (L.take N).take off ++ cs ++ (L.take N).drop (off + cs.length) := by
  rw [List.append_assoc, List.append_assoc, List.take_append, List.take_append, hl, List.take_of_length_le (show (L.take off).length ≤ N by omega), List.take_of_length_le (show cs.length ≤ N - off by omega), List.take_take, Nat.min_eq_left (show off ≤ N by omega), List.drop_take, Nat.sub_sub]

/-- a value of several cells stored into a row of the call's own -/
theorem wpList_store_elem {P : Program} (w : World) {ops : Array Oper} {rest : List Oper} {o : Oper} {a : Act} {Q : Exit → Act → World → Prop} (hgd : o.guard = none) (ty : TypeId) (x y : Operand) (ho : o.op = .store ty x y)
    (base : Nat) (e : TypeId) (size g n cap off : Nat) (xs : List Value) (hown : w.ownsRow base e size (.slice (some ⟨g, 0, none⟩) n cap) n xs) (hx : a.eval x = .pointer (some ⟨g, off, none⟩))
    (cs : List Value) (hy : a.eval y = .agg cs.toArray) (hi : (P.info? ty).map (·.size) = some cs.length) (hfit : off + cs.length ≤ xs.length) (h1 : ∀ v ∈ cs, v.oneCell' = true)
    (h : ∀ w', w'.ownsRow base e size (.slice (some ⟨g, 0, none⟩) n cap) n (xs.take off ++ cs ++ xs.drop (off + cs.length)) → w.grownBy w' (some g) → wpList P ops Q rest (a.put o.dst undef) w') : wpList P ops Q (o :: rest) a w := by
  rcases hown.2 with ⟨hnil, _⟩ | ⟨g', cap', cur, hv, hb, hg, hnc, hcm, hcs, htk⟩
  · cases hnil
  cases hv
  have hx1 := hown.1
  have hxl : xs.length ≤ cur.size := by rw [← htk, List.length_take, Array.length_toList]; exact Nat.min_le_right _ _
  have hst := run_storeCells_at (P := P) g off e cs 0 cur w hg (by omega) h1
  have hrun : (storeVar ty ⟨g, off, none⟩ (.agg cs.toArray)).run P w = .ok () (w.setRow g (cur.toList.take off ++ cs ++ cur.toList.drop (off + cs.length)).toArray) := by
    cases hq : P.info? ty with
    | none => simp [hq] at hi
    | some i =>
      have hs : i.size = cs.length := by simpa [hq] using hi
      simp only [Nat.add_zero] at hst
      simp [storeVar, sizeOf, typeInfo, hq, hs, Value.cells, hst]
  refine wpList_plain hgd fun _ hK => ?_
  unfold Oper.wp execOp
  simp only [ho, hx, hy, Instr.storeAt, Instr.sureAddr, Sem.run_bind, Sem.run_pure, Result.andThen_ok, hrun]
  refine hK _ _ (h _ ⟨?_, .inr ⟨g, cap, _, rfl, hb, setRow_heap w g cur _ e _ hg, hnc, hcm, ?_, ?_⟩⟩ ⟨rfl, rfl, rfl, by simp [World.setRow], fun k hk hne => setRow_other w g k _ (fun e => hne (by rw [e]))⟩)
  · simp; omega
  · simp; omega
  · have hN : off + cs.length ≤ n * size := by rw [hx1] at hfit; exact hfit
    have hl : (cur.toList.take off).length = off := by rw [List.length_take, Array.length_toList]; omega
    rw [← htk]
    exact take_seg hl hN

theorem two_stores {A T cs : List Value} {k : Nat} (hA : A.length = k) (hT : T.length = cs.length + cs.length) :
    ((A ++ T).take k ++ cs ++ (A ++ T).drop (k + cs.length)).take (k + cs.length) ++ cs ++ ((A ++ T).take k ++ cs ++ (A ++ T).drop (k + cs.length)).drop (k + cs.length + cs.length) = A ++ (cs ++ cs) := by
  subst hA
  have e : (A ++ T).take A.length ++ cs ++ (A ++ T).drop (A.length + cs.length) = A ++ (cs ++ T.drop cs.length) := by
    rw [List.take_left, List.drop_append, Nat.add_sub_cancel_left, List.drop_of_length_le (by omega), List.nil_append, List.append_assoc]
  rw [e, List.take_append, Nat.add_sub_cancel_left, List.take_of_length_le (show A.length ≤ _ by omega), List.take_left, Nat.add_assoc, List.drop_append, Nat.add_sub_cancel_left, List.drop_of_length_le (show A.length ≤ _ by omega), List.nil_append, List.drop_append, Nat.add_sub_cancel_left, List.drop_of_length_le (show cs.length ≤ _ by omega), List.nil_append, List.drop_drop, List.drop_of_length_le (show T.length ≤ _ by omega), List.append_nil, List.append_assoc]
end Go.Proofs.Ytgamgomepdfgdaa
