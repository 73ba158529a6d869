import Derived.Test.YtgamgomepdfgdaaOwn
namespace Go.Proofs.Ytgamgomepdfgdaa
open Go.RowKit

def nilS : Value := .slice none 0 0
def boxOf (V : Value) : Array Value := #[V, nilS, nilS, nilS, nilS, nilS]

/-- the list in hand is full of marks; so are those that went ahead -/
structure St (w0 : World) (S : Nat → Prop) (base k : Nat) (rs : List En) (wr : World) (lv : Value) (n : Nat) : Prop where
  row : wr.ownsRow base 47 2 lv n (marks n k)
  ents : ∀ r ∈ rs, Ent wr r ∧ Sep lv n k r
  kept : KeptBut w0 wr S
  lb : ∀ q, lv.ownBlock = some q → S q ∨ w0.heap.size ≤ q
  eb : ∀ r ∈ rs, ∀ q, r.1.ownBlock = some q → S q ∨ w0.heap.size ≤ q
/-- the book -/
structure Bk (w0 : World) (S : Nat → Prop) (bb base : Nat) (rs : List En) (wr : World) (V : Value) : Prop where
  box : wr.heap[bb]? = some (.cells (boxOf V) 38 (0, 0))
  row : wr.ownsRow base 64 2 V rs.length (rs.flatMap cN)
  vb : ∀ q, V.ownBlock = some q → S q ∨ w0.heap.size ≤ q
  bbS : S bb

theorem row_obj {w : World} {base : Nat} {e : TypeId} {size n : Nat} {v : Value} {xs : List Value} (h : w.ownsRow base e size v n xs) {g : Nat} (hg : v.ownBlock = some g) : ∃ cur, w.heap[g]? = some (.cells cur e (0, 0)) := by
  rcases h.2 with ⟨rfl, _⟩ | ⟨g', cap, cur, rfl, _, hh, _⟩
  · cases hg
  · cases hg; exact ⟨cur, hh⟩
theorem row_shape {w : World} {base : Nat} {e : TypeId} {size n : Nat} {v : Value} {xs : List Value} (h : w.ownsRow base e size v n xs) : ∃ a cap, v = .slice a n cap := by
  rcases h.2 with ⟨rfl, rfl⟩ | ⟨g', cap, cur, rfl, _, hh, _⟩
  · exact ⟨_, _, rfl⟩
  · exact ⟨_, _, rfl⟩

/-- a block of another kind was written, or none -/
theorem St.kept' {w0 wr w' : World} {S : Nat → Prop} {base k n : Nat} {rs : List En} {lv : Value} {row : Option Nat} (h : St w0 S base k rs wr lv n) (hg : wr.grownBy w' row) (hr : ∀ q, row = some q → S q ∨ w0.heap.size ≤ q)
    (hne : ∀ g cur, row = some g → wr.heap[g]? ≠ some (.cells cur 47 (0, 0))) : St w0 S base k rs w' lv n := by
  refine ⟨h.row.kept hg ?_, fun r hr' => ⟨(h.ents r hr').1.kept hg hne, (h.ents r hr').2⟩, h.kept.grown hg hr, h.lb, h.eb⟩
  cases hb : lv.ownBlock with
  | none => exact .inl rfl
  | some g =>
    refine .inr fun e => ?_
    obtain ⟨cur, hc⟩ := row_obj h.row hb
    exact hne g cur e.symm hc

/-- the book under a write elsewhere -/
theorem Bk.kept' {w0 wr w' : World} {S : Nat → Prop} {bb base : Nat} {rs : List En} {V : Value} {row : Option Nat} (h : Bk w0 S bb base rs wr V) (hg : wr.grownBy w' row)
    (hne : ∀ g cur t, row = some g → t ≠ 47 → wr.heap[g]? ≠ some (.cells cur t (0, 0))) : Bk w0 S bb base rs w' V := by
  refine ⟨?_, h.row.kept hg ?_, h.vb, h.bbS⟩
  · rw [hg.block bb (lt_of_heap h.box) (fun e => hne bb _ _ e.symm (by decide) h.box), h.box]
  · cases hb : V.ownBlock with
    | none => exact .inl rfl
    | some g =>
      refine .inr fun e => ?_
      obtain ⟨cur, hc⟩ := row_obj h.row hb
      exact hne g cur _ e.symm (by decide) hc

/-- one more list goes into the book -/
theorem push {w0 wr w3 w4 : World} {S : Nat → Prop} {bb base k n : Nat} {rs : List En} {lv V V1 : Value} {o : Obj} (hs : St w0 S base k rs wr lv n) (hb : Bk w0 S bb base rs wr V)
    (hg3 : (wr.alloc o).grownBy w3 V.ownBlock) (hrow : w3.ownsRow base 64 2 V1 (rs.length + 1) (rs.flatMap cN ++ cN (lv, n, k)))
    (hV : V1.ownBlock = V.ownBlock ∨ ((wr.alloc o).grownBy w3 none ∧ ∃ g, V1.ownBlock = some g ∧ (wr.alloc o).heap.size ≤ g))
    (hg4 : w3.grownBy w4 (some bb)) (hbox : w4.heap[bb]? = some (.cells (boxOf V1) 38 (0, 0))) :
    St w0 S base k (rs ++ [(lv, n, k)]) w4 lv n ∧ Bk w0 S bb base (rs ++ [(lv, n, k)]) w4 V1 := by
  have ga := World.grownBy_alloc wr o none
  have sa : St w0 S base k rs (wr.alloc o) lv n := hs.kept' ga (fun _ e => by cases e) (fun _ _ e => by cases e)
  have ba : Bk w0 S bb base rs (wr.alloc o) V := hb.kept' ga (fun _ _ _ e => by cases e)
  have s3 : St w0 S base k rs w3 lv n := sa.kept' hg3 hb.vb (fun g cur e hh => by
    obtain ⟨cur', hc⟩ := row_obj ba.row e
    rw [hc] at hh; simp at hh)
  have hbne : some bb ≠ V.ownBlock := fun e => by
    obtain ⟨cur', hc⟩ := row_obj ba.row e.symm
    have := ba.box
    rw [hc] at this; simp at this
  have box3 : w3.heap[bb]? = some (.cells (boxOf V) 38 (0, 0)) := by
    rw [hg3.block bb (lt_of_heap ba.box) hbne, ba.box]
  have s4 : St w0 S base k rs w4 lv n := s3.kept' hg4 (fun q e => by cases e; exact .inl hb.bbS) (fun g cur e hh => by
    cases e
    rw [box3] at hh; simp at hh)
  refine ⟨⟨s4.row, fun r hr => ?_, s4.kept, s4.lb, fun r hr q hq => ?_⟩, ⟨hbox, ?_, fun q hq => ?_, hb.bbS⟩⟩
  · rcases List.mem_append.1 hr with h | h
    · exact s4.ents r h
    · obtain rfl : r = (lv, n, k) := by simpa using h
      exact ⟨Ent.of_row s4.row, Sep.self _ _ _⟩
  · rcases List.mem_append.1 hr with h | h
    · exact s4.eb r h q hq
    · obtain rfl : r = (lv, n, k) := by simpa using h
      exact s4.lb q hq
  · rw [List.flatMap_append, List.length_append]
    have : w4.ownsRow base 64 2 V1 (rs.length + 1) (rs.flatMap cN ++ cN (lv, n, k)) := by
      refine hrow.kept hg4 ?_
      cases hv : V1.ownBlock with
      | none => exact .inl rfl
      | some g =>
        refine .inr fun e => ?_
        cases e
        obtain ⟨cur', hc⟩ := row_obj hrow hv
        rw [box3] at hc; simp at hc
    simpa using this
  · rcases hV with h | ⟨_, g, h, hlt⟩
    · exact hb.vb q (by rw [← h, hq])
    · rw [h] at hq; cases hq
      have := sa.kept.size
      exact .inr (Nat.le_trans this hlt)

/-- one more mark behind the list -/
theorem more {w0 wr w3 : World} {S : Nat → Prop} {bb base k n : Nat} {rs : List En} {lv V lv1 : Value} {o : Obj} (hs : St w0 S base k rs wr lv n) (hb : Bk w0 S bb base rs wr V)
    (hg3 : (wr.alloc o).grownBy w3 lv.ownBlock) (hrow : w3.ownsRow base 47 2 lv1 (n + 1) (marks n k ++ cF (mark k)))
    (hV : lv1.ownBlock = lv.ownBlock ∨ ((wr.alloc o).grownBy w3 none ∧ ∃ g, lv1.ownBlock = some g ∧ (wr.alloc o).heap.size ≤ g)) :
    St w0 S base k rs w3 lv1 (n + 1) ∧ Bk w0 S bb base rs w3 V := by
  have ga := World.grownBy_alloc wr o none
  have sa : St w0 S base k rs (wr.alloc o) lv n := hs.kept' ga (fun _ e => by cases e) (fun _ _ e => by cases e)
  have ba : Bk w0 S bb base rs (wr.alloc o) V := hb.kept' ga (fun _ _ _ e => by cases e)
  rw [← marks_succ] at hrow
  refine ⟨⟨hrow, fun r hr => (sa.ents r hr).1.appended (sa.ents r hr).2 hg3 hrow hV, sa.kept.grown hg3 sa.lb, fun q hq => ?_, sa.eb⟩, ba.kept' hg3 (fun g cur t e ht hh => ?_)⟩
  · rcases hV with h | ⟨_, g, h, hlt⟩
    · exact hs.lb q (by rw [← h, hq])
    · rw [h] at hq; cases hq
      exact .inr (Nat.le_trans sa.kept.size hlt)
  · obtain ⟨cur', hc⟩ := row_obj sa.row e
    rw [hc] at hh
    simp at hh
    exact ht hh.2.symm

/-- a value of one cell goes into the book's first field -/
theorem wpList_store_box {P : Program} (w : World) {ops : Array Oper} {rest : List Oper} {o : Oper} {a : Act} {Q : Exit → Act → World → Prop} (hgd : o.guard = none) (ty : TypeId) (x y : Operand) (ho : o.op = .store ty x y)
    (bb : Nat) (V v : Value) (t : TypeId) (hg : w.heap[bb]? = some (.cells (boxOf V) t (0, 0))) (hx : a.eval x = .pointer (some ⟨bb, 0, none⟩)) (hy : a.eval y = v) (h1 : v.oneCell' = true) (hi : (P.info? ty).map (·.size) = some 1)
    (h : ∀ w', w'.heap[bb]? = some (.cells (boxOf v) t (0, 0)) → w.grownBy w' (some bb) → wpList P ops Q rest (a.put o.dst undef) w') : wpList P ops Q (o :: rest) a w := by
  have hst := run_storeCells_at (P := P) bb 0 t [v] 0 (boxOf V) w hg (by simp [boxOf]) (by simpa using h1)
  have hc : v.cells = #[v] := by cases v <;> first | rfl | cases h1
  have hrun : (storeVar ty ⟨bb, 0, none⟩ v).run P w = .ok () (w.setRow bb (boxOf v)) := by
    cases hq : P.info? ty with
    | none => simp [hq] at hi
    | some i =>
      have hs : i.size = 1 := by simpa [hq] using hi
      simp [boxOf] at hst
      simp [storeVar, sizeOf, typeInfo, hq, hc, hs, hst, boxOf]
  refine wpList_plain hgd fun _ hK => ?_
  unfold Oper.wp execOp
  simp only [ho, hx, hy, Instr.storeAt, Instr.sureAddr, Sem.run_bind, Sem.run_pure, Result.andThen_ok, hrun]
  exact hK _ _ (h _ (setRow_heap w bb _ _ t _ hg) ⟨rfl, rfl, rfl, by simp [World.setRow], fun k hk hne => setRow_other w bb k _ (fun e => hne (by rw [e]))⟩)
end Go.Proofs.Ytgamgomepdfgdaa
