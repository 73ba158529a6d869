import Derived.Test.YtgamgomepdfgdaaGreatM14
import Derived.Deep.CutRange
import Derived.Deep.CutBlock
namespace Go.Proofs.YtgamgomepdfgdaaGreat
open Go.RowKit Go.Maps

theorem step_len_subm {ops : Array Oper} {o : Oper} {a : Act} {w : World} {K : Act → World → Prop} {Q : Exit → Act → World → Prop} {E : Prop}
    (hg : o.guard = none) (m : Operand) (ho : o.op = Op.call { callee := Callee.builtin Builtin.len, args := #[m], argTypes := #[194] })
    (sb : Nat) (ids : List Nat) (hm : a.eval m = .map (some sb)) (hs : Subm w sb ids) (hK : K (a.put o.dst (.int .i64 ids.length)) w) :
    if Region.wanted o (yielded ops a.tmps) = true then Oper.wp Tryz.prog o a w K Q else E := by
  have hw : Region.wanted o (yielded ops a.tmps) = true := by simp [Region.wanted, hg]
  rw [if_pos hw]
  obtain ⟨D, h1, h2, h3⟩ := hs
  rw [← h2] at hK
  unfold Oper.wp
  simp [execOp, ho, resolve, invoke, builtin, hm, h1.len underS o.type, Result.andThen]
  exact hK
theorem Subm.later {w w' : World} {sb : Nat} {ids : List Nat} (h : Subm w sb ids) (hb : Below w.heap.size w w') : Subm w' sb ids := h.same (hb.block sb h.lt)

theorem Sl.put_last {w : World} {age n : Nat} {v : Value} {q : List Pw} {x : Pw} (h : Sl w 193 6 v n (q.flatMap (cP age) ++ cP age x)) : Sl w 193 6 v n ((q ++ [x]).flatMap (cP age)) := by
  rw [List.flatMap_append]; simpa using h

/-- the record in its box -/
def recC (kind lane : Nat) (ea : Option Addr) (en ec id : Nat) (pass : Bool) (num : Nat) : Array Value := #[.int .i64 kind, .int .i64 lane, .slice ea en ec, .int .i64 id, .bool pass, .int .i64 num]

/-- behind the append -/
structure Queued (w wz : World) (yb mb id lane : Nat) (c : Cfg) (es : List Ed) (q : List Pw) (sb no ni : Nat) (qv ov : Value) : Prop where
  ex : ∃ ge qv', w.heap.size ≤ ge ∧ Bx wz yb 201 (yardCells c mb qv' sb no ov) ∧ Sl wz 193 6 qv' (q.length + 1) ((q ++ [((⟨id, lane, 0, ni, es⟩ : Ch), (.slice (some ⟨ge, 0, none⟩) es.length es.length : Value))]).flatMap (cP c.age)) ∧ Sl wz 49 3 (.slice (some ⟨ge, 0, none⟩) es.length es.length) es.length (es.flatMap cE) ∧ (qv'.ownBlock = qv.ownBlock ∨ ∃ g, qv'.ownBlock = some g ∧ w.heap.size ≤ g)
  only : Only w wz (fun k => k = yb ∨ qv.ownBlock = some k)
  box : wz.cell? ⟨w.heap.size, 3, none⟩ = some (.int .i64 id)

set_option linter.unusedSimpArgs false in
set_option maxRecDepth 100000 in
set_option maxHeartbeats 8000000 in
theorem ySubmit (S : Nat → Prop) (yb mb kind id lane num : Nat) (pass : Bool) (b eo ec : Nat) (es : List Ed) (c : Cfg) (s : Qs) (w : World) (hY : YardAt w S yb mb c s) (hn : s.queue.length ≤ 16) (hsm : Small es) (hid : id ≤ 1000000) (hnew : id ∉ s.ids) (hi : s.ids.length < 1048576000)
    (hlt : b < w.heap.size) (h0 : ∀ i (h : i < es.length), w.cell? ⟨b, eo + i * 3, none⟩ = some (.string es[i].1)) (h1 : ∀ i (h : i < es.length), w.cell? ⟨b, eo + i * 3 + 1, none⟩ = some (.string es[i].2.1)) (h2 : ∀ i (h : i < es.length), w.cell? ⟨b, eo + i * 3 + 2, none⟩ = some (.string es[i].2.2)) :
    Calls Tryz.prog 115 #[.pointer (some ⟨yb, 0, none⟩), .agg (recC kind lane (some ⟨b, eo, none⟩) es.length ec id pass num)] w fun e w' => e = .returned (.tuple #[]) ∧ YardAt w' (Plus S w) yb mb c { s with ids := s.ids ++ [id], queue := s.queue ++ [⟨id, lane, 0, s.ids.length, es⟩] } ∧ Only w w' S := by
  obtain ⟨q, sb, qv, ov, h⟩ := hY
  obtain ⟨i0, hi0, hz0, hz1, hz2⟩ := info_parts info_pw
  have hq16 : q.length ≤ 16 := by rw [h.qlen]; exact hn
  have HY : Hid (YardIs w S yb mb c s q sb qv ov) := h
  obtain ⟨qa, qcap, rfl⟩ := h.row.form
  have hyl := h.box.lt
  have hyw : yb ≠ w.heap.size := by omega
  have hwy : w.heap.size ≠ yb := by omega
  have hC := copyEdits_sl es b eo ec (w.alloc (.cells (recC kind lane (some ⟨b, eo, none⟩) es.length ec id pass num) 140)).drew (by simp; omega) (fun i hi => jcell_after (below_new_drew w _) (h0 i hi)) (fun i hi => jcell_after (below_new_drew w _) (h1 i hi)) (fun i hi => jcell_after (below_new_drew w _) (h2 i hi)) hsm.1 (fun x hx => by
    obtain ⟨k1, k2, k3⟩ := hsm.2 x hx
    omega)
  have qne := h.row.ne h.box (by decide)
  have qnw : (Value.slice qa q.length qcap).ownBlock ≠ some w.heap.size := fun e => by
    have := h.row.lt e
    omega
  have hsub0 : Subm (w.alloc (.cells (recC kind lane (some ⟨b, eo, none⟩) es.length ec id pass num) 140)).drew sb s.ids := h.sub.later (below_new_drew w _)
  have q1 : Hid (q.length + 1 ≤ maxLen) := by show _ ≤ _; unfold maxLen; omega
  have q2 : Hid ((q.length + 1) * 64 ≤ 140737488355328) := by show _ ≤ _; omega
  have B0 : Bx (w.alloc (.cells (recC kind lane (some ⟨b, eo, none⟩) es.length ec id pass num) 140)) yb 201 (yardCells c mb (.slice qa q.length qcap) sb s.outs.length ov) := h.box.mk _
  have HB0 : Hid (Bx (w.alloc (.cells (recC kind lane (some ⟨b, eo, none⟩) es.length ec id pass num) 140)) yb 201 (yardCells c mb (.slice qa q.length qcap) sb s.outs.length ov)) := B0
  have HR0 : Hid (Sl (w.alloc (.cells (recC kind lane (some ⟨b, eo, none⟩) es.length ec id pass num) 140)) 193 6 (.slice qa q.length qcap) q.length (q.flatMap (cP c.age))) := h.row.mk _
  have HG0 : Hid (w.grownBy (w.alloc (.cells (recC kind lane (some ⟨b, eo, none⟩) es.length ec id pass num) 140)) none) := World.grownBy_alloc _ _ _
  have X0 : Bx (w.alloc (.cells (recC kind lane (some ⟨b, eo, none⟩) es.length ec id pass num) 140)) w.heap.size 140 (recC kind lane (some ⟨b, eo, none⟩) es.length ec id pass num) := Bx.new _ _ _
  clear h h0 h1 h2 hsm
  unfold recC
  go_enter Tryz.func115, Tryz.ntmps115
  go_upto_region 1 with fail
  unfold recC at hC hsub0 B0 HB0 HR0 HG0 X0
  generalize hw0 : w.alloc (.cells #[.int .i64 kind, .int .i64 lane, .slice (some ⟨b, eo, none⟩) es.length ec, .int .i64 id, .bool pass, .int .i64 num] 140) = w0 at *
  have hs0 : w0.heap.size = w.heap.size + 1 := by rw [← hw0]; simp
  clear hw0
  have x1 : w0.cell? ⟨w.heap.size, 1, none⟩ = some (.int .i64 lane) := X0.cell (i := 1) rfl
  have x2 : w0.cell? ⟨w.heap.size, 2, none⟩ = some (.slice (some ⟨b, eo, none⟩) es.length ec) := X0.cell (i := 2) rfl
  have x3 : w0.cell? ⟨w.heap.size, 3, none⟩ = some (.int .i64 id) := X0.cell (i := 3) rfl
  have y1 : w0.cell? ⟨yb, 1, none⟩ = some (.int .i64 c.age) := B0.cell (i := 1) rfl
  have y9 : w0.cell? ⟨yb, 9, none⟩ = some (.slice qa q.length qcap) := B0.cell (i := 9) rfl
  have y10 : w0.cell? ⟨yb, 10, none⟩ = some (.map (some sb)) := B0.cell (i := 10) rfl
  have f9 := B0.fr 9
  have hk1 : ∀ (W : World) (v : Value) (o : Nat), (W.setCell ⟨yb, 9, none⟩ v).cell? ⟨w.heap.size, o, none⟩ = W.cell? ⟨w.heap.size, o, none⟩ := fun W v o => World.cell?_setCell_other _ _ _ _ (by intro e; injection e with e1 e2; omega)
  have hk2 : ∀ (W : World) (v : Value), (W.setCell ⟨yb, 9, none⟩ v).cell? ⟨yb, 1, none⟩ = W.cell? ⟨yb, 1, none⟩ := fun W v => World.cell?_setCell_other _ _ _ _ (by intro e; injection e with e1 e2; omega)
  have hk3 : ∀ (W : World) (v : Value), (W.setCell ⟨yb, 9, none⟩ v).cell? ⟨yb, 10, none⟩ = W.cell? ⟨yb, 10, none⟩ := fun W v => World.cell?_setCell_other _ _ _ _ (by intro e; injection e with e1 e2; omega)
  clear B0 X0
  go_cut [31] from 4 (fun _ wz => Queued w wz yb mb id lane c es q sb s.outs.length s.ids.length (.slice qa q.length qcap) ov)
  case first =>
    refine wp_region_held_drew (S := (fun w' => w'.cell? ⟨w.heap.size, 1, none⟩ = some (.int .i64 lane) ∧ w'.cell? ⟨w.heap.size, 2, none⟩ = some (.slice (some ⟨b, eo, none⟩) es.length ec) ∧ w'.cell? ⟨w.heap.size, 3, none⟩ = some (.int .i64 id) ∧ w'.cell? ⟨yb, 1, none⟩ = some (.int .i64 c.age) ∧ w'.cell? ⟨yb, 10, none⟩ = some (.map (some sb)))) (by kernel_rfl) ?_ (fun hHeld => ?_)
    · (try dsimp only)
      (first | go_keep | (refine ⟨?_, ?_, ?_, ?_, ?_⟩ <;> (first | rw [hk1] | rw [hk2] | rw [hk3]) <;> assumption))
    refine wpAnyH_take (i := 0) (v := ?_) rfl (by kernel_rfl) (by kernel_rfl) (by kernel_rfl) (fun _ _ _ h => h) (Or.inl ⟨by rfl, ?_⟩) (by assumption) ?_
    rotate_left 1
    · intro w9 hSw
      (try dsimp only at hSw)
      go_simp <;> with_reducible rfl
    try simp only [Act.put, List.getElem_toArray, List.getElem_cons_zero, List.getElem_cons_succ, List.setIfInBounds_toArray, List.set_cons_zero, List.set_cons_succ]
    refine wpAnyH_take (i := 1) (v := ?_) rfl (by kernel_rfl) (by kernel_rfl) (by kernel_rfl) (fun _ _ _ h => h) (Or.inl ⟨by rfl, ?_⟩) (by assumption) ?_
    rotate_left 1
    · intro w9 hSw
      (try dsimp only at hSw)
      go_simp <;> with_reducible rfl
    try simp only [Act.put, List.getElem_toArray, List.getElem_cons_zero, List.getElem_cons_succ, List.setIfInBounds_toArray, List.set_cons_zero, List.set_cons_succ]
    refine wpAnyH_take (i := 2) (v := ?_) rfl (by kernel_rfl) (by kernel_rfl) (by kernel_rfl) (fun _ _ _ h => h) (Or.inl ⟨by rfl, ?_⟩) (by assumption) ?_
    rotate_left 1
    · intro w9 hSw
      (try dsimp only at hSw)
      go_simp <;> with_reducible rfl
    try simp only [Act.put, List.getElem_toArray, List.getElem_cons_zero, List.getElem_cons_succ, List.setIfInBounds_toArray, List.set_cons_zero, List.set_cons_succ]
    refine wpAnyH_take (i := 3) (v := ?_) rfl (by kernel_rfl) (by kernel_rfl) (by kernel_rfl) (fun _ _ _ h => h) (Or.inl ⟨by rfl, ?_⟩) (by assumption) ?_
    rotate_left 1
    · intro w9 hSw
      (try dsimp only at hSw)
      go_simp <;> with_reducible rfl
    try simp only [Act.put, List.getElem_toArray, List.getElem_cons_zero, List.getElem_cons_succ, List.setIfInBounds_toArray, List.set_cons_zero, List.set_cons_succ]
    refine wpAnyH_take (i := 5) (v := ?_) rfl (by kernel_rfl) (by kernel_rfl) (by kernel_rfl) (fun _ _ _ h => h) (Or.inl ⟨by rfl, ?_⟩) (by assumption) ?_
    rotate_left 1
    · intro w9 hSw
      (try dsimp only at hSw)
      go_simp <;> with_reducible rfl
    try simp only [Act.put, List.getElem_toArray, List.getElem_cons_zero, List.getElem_cons_succ, List.setIfInBounds_toArray, List.set_cons_zero, List.set_cons_succ]
    refine wpAnyH_take (i := 6) (v := ?_) rfl (by kernel_rfl) (by kernel_rfl) (by kernel_rfl) (fun _ _ _ h => h) (Or.inl ⟨by rfl, ?_⟩) (by assumption) ?_
    rotate_left 1
    · intro w9 hSw
      (try dsimp only at hSw)
      go_simp <;> with_reducible rfl
    try simp only [Act.put, List.getElem_toArray, List.getElem_cons_zero, List.getElem_cons_succ, List.setIfInBounds_toArray, List.set_cons_zero, List.set_cons_succ]
    refine wpAnyH_take (i := 7) (v := ?_) rfl (by kernel_rfl) (by kernel_rfl) (by kernel_rfl) (fun _ _ _ h => h) (Or.inl ⟨by rfl, ?_⟩) (by assumption) ?_
    rotate_left 1
    · intro w9 hSw
      (try dsimp only at hSw)
      go_simp <;> with_reducible rfl
    try simp only [Act.put, List.getElem_toArray, List.getElem_cons_zero, List.getElem_cons_succ, List.setIfInBounds_toArray, List.set_cons_zero, List.set_cons_succ]
    refine wpAnyH_take (i := 8) (v := ?_) rfl (by kernel_rfl) (by kernel_rfl) (by kernel_rfl) (fun _ _ _ h => h) (Or.inl ⟨by rfl, ?_⟩) (by assumption) ?_
    rotate_left 1
    · intro w9 hSw
      (try dsimp only at hSw)
      go_simp <;> with_reducible rfl
    try simp only [Act.put, List.getElem_toArray, List.getElem_cons_zero, List.getElem_cons_succ, List.setIfInBounds_toArray, List.set_cons_zero, List.set_cons_succ]
    refine wpAnyH_take (i := 9) (v := ?_) rfl (by kernel_rfl) (by kernel_rfl) (by kernel_rfl) (fun _ _ _ h => h) (Or.inl ⟨by rfl, ?_⟩) (by assumption) ?_
    rotate_left 1
    · intro w9 hSw
      (try dsimp only at hSw)
      go_simp <;> with_reducible rfl
    try simp only [Act.put, List.getElem_toArray, List.getElem_cons_zero, List.getElem_cons_succ, List.setIfInBounds_toArray, List.set_cons_zero, List.set_cons_succ]
    refine wpAnyH_take (i := 10) (v := ?_) rfl (by kernel_rfl) (by kernel_rfl) (by kernel_rfl) (fun _ _ _ h => h) (Or.inl ⟨by rfl, ?_⟩) (by assumption) ?_
    rotate_left 1
    · intro w9 hSw
      (try dsimp only at hSw)
      go_simp <;> with_reducible rfl
    try simp only [Act.put, List.getElem_toArray, List.getElem_cons_zero, List.getElem_cons_succ, List.setIfInBounds_toArray, List.set_cons_zero, List.set_cons_succ]
    refine wpAnyH_take (i := 11) (v := ?_) rfl (by kernel_rfl) (by kernel_rfl) (by kernel_rfl) (fun _ _ _ h => h) (Or.inl ⟨by rfl, ?_⟩) (by assumption) ?_
    rotate_left 1
    · intro w9 hSw
      (try dsimp only at hSw)
      go_simp <;> with_reducible rfl
    try simp only [Act.put, List.getElem_toArray, List.getElem_cons_zero, List.getElem_cons_succ, List.setIfInBounds_toArray, List.set_cons_zero, List.set_cons_succ]
    refine wpAnyH_take (i := 12) (v := ?_) rfl (by kernel_rfl) (by kernel_rfl) (by kernel_rfl) (fun _ _ _ h => h) (Or.inl ⟨by rfl, ?_⟩) (by assumption) ?_
    rotate_left 1
    · intro w9 hSw
      (try dsimp only at hSw)
      go_simp <;> with_reducible rfl
    try simp only [Act.put, List.getElem_toArray, List.getElem_cons_zero, List.getElem_cons_succ, List.setIfInBounds_toArray, List.set_cons_zero, List.set_cons_succ]
    refine wpAnyH_take (i := 13) (v := ?_) rfl (by kernel_rfl) (by kernel_rfl) (by kernel_rfl) (fun _ _ _ h => h) (Or.inl ⟨by rfl, ?_⟩) (by assumption) ?_
    rotate_left 1
    · intro w9 hSw
      (try dsimp only at hSw)
      go_simp <;> with_reducible rfl
    try simp only [Act.put, List.getElem_toArray, List.getElem_cons_zero, List.getElem_cons_succ, List.setIfInBounds_toArray, List.set_cons_zero, List.set_cons_succ]
    refine wpAnyH_take (i := 14) (v := ?_) rfl (by kernel_rfl) (by kernel_rfl) (by kernel_rfl) (fun _ _ _ h => h) (Or.inl ⟨by rfl, ?_⟩) (by assumption) ?_
    rotate_left 1
    · intro w9 hSw
      (try dsimp only at hSw)
      go_simp <;> with_reducible rfl
    try simp only [Act.put, List.getElem_toArray, List.getElem_cons_zero, List.getElem_cons_succ, List.setIfInBounds_toArray, List.set_cons_zero, List.set_cons_succ]
    refine wpAnyH_take (i := 15) (v := ?_) rfl (by kernel_rfl) (by kernel_rfl) (by kernel_rfl) (fun _ _ _ h => h) (Or.inl ⟨by rfl, ?_⟩) (by assumption) ?_
    rotate_left 1
    · intro w9 hSw
      (try dsimp only at hSw)
      go_simp <;> with_reducible rfl
    try simp only [Act.put, List.getElem_toArray, List.getElem_cons_zero, List.getElem_cons_succ, List.setIfInBounds_toArray, List.set_cons_zero, List.set_cons_succ]
    refine wpAnyH_take (i := 16) (v := ?_) rfl (by kernel_rfl) (by kernel_rfl) (by kernel_rfl) (fun _ _ _ h => h) (Or.inl ⟨by rfl, ?_⟩) (by assumption) ?_
    rotate_left 1
    · intro w9 hSw
      (try dsimp only at hSw)
      go_simp <;> with_reducible rfl
    try simp only [Act.put, List.getElem_toArray, List.getElem_cons_zero, List.getElem_cons_succ, List.setIfInBounds_toArray, List.set_cons_zero, List.set_cons_succ]
    refine wpAnyH_take (i := 17) (v := ?_) rfl (by kernel_rfl) (by kernel_rfl) (by kernel_rfl) (fun _ _ _ h => h) (Or.inl ⟨by rfl, ?_⟩) (by assumption) ?_
    rotate_left 1
    · intro w9 hSw
      (try dsimp only at hSw)
      go_simp <;> with_reducible rfl
    try simp only [Act.put, List.getElem_toArray, List.getElem_cons_zero, List.getElem_cons_succ, List.setIfInBounds_toArray, List.set_cons_zero, List.set_cons_succ]
    refine wpAnyH_take (i := 18) (v := ?_) rfl (by kernel_rfl) (by kernel_rfl) (by kernel_rfl) (fun _ _ _ h => h) (Or.inl ⟨by rfl, ?_⟩) (by assumption) ?_
    rotate_left 1
    · intro w9 hSw
      (try dsimp only at hSw)
      go_simp <;> with_reducible rfl
    try simp only [Act.put, List.getElem_toArray, List.getElem_cons_zero, List.getElem_cons_succ, List.setIfInBounds_toArray, List.set_cons_zero, List.set_cons_succ]
    refine wpAnyH_take (i := 20) (v := ?_) rfl (by kernel_rfl) (by kernel_rfl) (by kernel_rfl) (fun _ _ _ h => h) (Or.inl ⟨by rfl, ?_⟩) (by assumption) ?_
    rotate_left 1
    · intro w9 hSw
      (try dsimp only at hSw)
      go_simp <;> with_reducible rfl
    try simp only [Act.put, List.getElem_toArray, List.getElem_cons_zero, List.getElem_cons_succ, List.setIfInBounds_toArray, List.set_cons_zero, List.set_cons_succ]
    refine wpAnyH_take (i := 21) (v := ?_) rfl (by kernel_rfl) (by kernel_rfl) (by kernel_rfl) (fun _ _ _ h => h) (Or.inl ⟨by rfl, ?_⟩) (by assumption) ?_
    rotate_left 1
    · intro w9 hSw
      (try dsimp only at hSw)
      go_simp <;> with_reducible rfl
    try simp only [Act.put, List.getElem_toArray, List.getElem_cons_zero, List.getElem_cons_succ, List.setIfInBounds_toArray, List.set_cons_zero, List.set_cons_succ]
    refine wpAnyH_ready (rs := [4, 19]) (by kernel_rfl) (by simp) ?_
    refine AllReadyH.cons rfl (fun K hK => ?_) ?_
    · go_simp
      refine hK.out _ _ ?_ (fun hHeld => ?_)
      · (try dsimp only)
        (first | go_keep | (refine ⟨?_, ?_, ?_, ?_, ?_⟩ <;> (first | rw [hk1] | rw [hk2] | rw [hk3]) <;> assumption))
      · clear hK K
        refine wpAnyH_ready (rs := [19]) (by kernel_rfl) (by simp) ?_
        refine AllReadyH.cons rfl (fun K hK => ?_) ?_
        · (first | (refine step_len_subm rfl _ rfl sb s.ids rfl (by first | exact hsub0 | exact hsub2) ?_) | (go_at_call 167; refine hC.mono ?_; rintro e w2 ⟨rfl, hS2, hb2⟩; have x12 := jcell_after hb2 x1; have x22 := jcell_after hb2 x2; have x32 := jcell_after hb2 x3; have y12 := jcell_after hb2 y1; have y92 := jcell_after hb2 y9; have y92o : ∀ o, (w2.alloc o).cell? ⟨yb, 9, none⟩ = some (.slice qa q.length qcap) := (fun o => jcell_after (below_new w2 o) y92); have y102 := jcell_after hb2 y10; have f92 : w2.frozen? ⟨yb, 9, none⟩ = false := frozen_after hb2 (jcell_lt y9) f9; have hsub2 := hsub0.later hb2; have HS2 : Hid (Sl w2 49 3 (.slice (some ⟨w.heap.size + 1, 0, none⟩) es.length es.length) es.length (es.flatMap cE)) := (by rw [← hs0]; exact hS2); have HB2 : Hid (Below w0.drew.heap.size w0.drew w2) := hb2; have HR2 : Hid (Sl w2 193 6 (.slice qa q.length qcap) q.length (q.flatMap (cP c.age))) := Sl.kept HR0.out (fun g hg => hb2.block g (Sl.lt HR0.out hg)); have HX2 : Hid (Bx w2 yb 201 (yardCells c mb (.slice qa q.length qcap) sb s.outs.length ov)) := (hb2.block yb (jcell_lt y9)).trans HB0.out; clear hS2 hb2) | (refine step_append_sl rfl _ _ 190 rfl _ i0 _ 6 64 Tryz.underlying190 hi0 hz0 hz1 hz2 rfl (by decide) (.slice qa q.length qcap) _ _ rfl (Sl.mk HR2.out _) ⟨w2.heap.size, 0, none⟩ 1 1 [.int .i64 id, .int .i64 lane, .int .i64 0, .int .i64 c.age, .int .i64 s.ids.length, .slice (some ⟨w.heap.size + 1, 0, none⟩) es.length es.length] rfl rfl (cells_new w2 _ _) (by simp [Value.oneCell']) q1.out q2.out ?_; intro v3 w3 hown3 hg3 hloc3; obtain ⟨a3, c3, rfl⟩ := hown3.form; have x13 := World.grownBy.cell hg3 (jcell_after (below_new w2 _) x12) (fun e => qnw e.symm); have x23 := World.grownBy.cell hg3 (jcell_after (below_new w2 _) x22) (fun e => qnw e.symm); have x33 := World.grownBy.cell hg3 (jcell_after (below_new w2 _) x32) (fun e => qnw e.symm); have HX3 : Hid (Bx w3 yb 201 (yardCells c mb (.slice qa q.length qcap) sb s.outs.length ov)) := (HX2.out.mk _).grown hg3 (fun e => qne e.symm); have y13 : w3.cell? ⟨yb, 1, none⟩ = some (.int .i64 c.age) := HX3.out.cell (i := 1) rfl; have y93 : w3.cell? ⟨yb, 9, none⟩ = some (.slice qa q.length qcap) := HX3.out.cell (i := 9) rfl; have y103 : w3.cell? ⟨yb, 10, none⟩ = some (.map (some sb)) := HX3.out.cell (i := 10) rfl; have f93 := HX3.out.fr 9; have HN3 : Hid (Sl w3 193 6 (.slice a3 (q.length + 1) c3) (q.length + 1) (q.flatMap (cP c.age) ++ [.int .i64 id, .int .i64 lane, .int .i64 0, .int .i64 c.age, .int .i64 s.ids.length, .slice (some ⟨w.heap.size + 1, 0, none⟩) es.length es.length])) := hown3; have HG3 : Hid (w2.grownBy w3 (Value.slice qa q.length qcap).ownBlock) := (World.grownBy_alloc w2 _ _).trans hg3; have HL3 : Hid ((Value.slice a3 (q.length + 1) c3).ownBlock = (Value.slice qa q.length qcap).ownBlock ∨ ∃ g, (Value.slice a3 (q.length + 1) c3).ownBlock = some g ∧ w2.heap.size ≤ g) := hloc3.imp (fun h => h) (fun ⟨g, h, hle⟩ => ⟨g, h, Nat.le_trans (by simp) hle⟩); clear hown3 hg3 hloc3))
          refine hK.out _ _ ?_ (fun hHeld => ?_)
          · (try dsimp only)
            (first | go_keep | (refine ⟨?_, ?_, ?_, ?_, ?_⟩ <;> (first | rw [hk1] | rw [hk2] | rw [hk3]) <;> assumption))
          · clear hK K
            refine wpAnyH_ready (rs := [22]) (by kernel_rfl) (by simp) ?_
            refine AllReadyH.cons rfl (fun K hK => ?_) ?_
            · go_simp
              go_wp2_with (first | (refine step_len_subm rfl _ rfl sb s.ids rfl (by first | exact hsub0 | exact hsub2) ?_) | (go_at_call 167; refine hC.mono ?_; rintro e w2 ⟨rfl, hS2, hb2⟩; have x12 := jcell_after hb2 x1; have x22 := jcell_after hb2 x2; have x32 := jcell_after hb2 x3; have y12 := jcell_after hb2 y1; have y92 := jcell_after hb2 y9; have y92o : ∀ o, (w2.alloc o).cell? ⟨yb, 9, none⟩ = some (.slice qa q.length qcap) := (fun o => jcell_after (below_new w2 o) y92); have y102 := jcell_after hb2 y10; have f92 : w2.frozen? ⟨yb, 9, none⟩ = false := frozen_after hb2 (jcell_lt y9) f9; have hsub2 := hsub0.later hb2; have HS2 : Hid (Sl w2 49 3 (.slice (some ⟨w.heap.size + 1, 0, none⟩) es.length es.length) es.length (es.flatMap cE)) := (by rw [← hs0]; exact hS2); have HB2 : Hid (Below w0.drew.heap.size w0.drew w2) := hb2; have HR2 : Hid (Sl w2 193 6 (.slice qa q.length qcap) q.length (q.flatMap (cP c.age))) := Sl.kept HR0.out (fun g hg => hb2.block g (Sl.lt HR0.out hg)); have HX2 : Hid (Bx w2 yb 201 (yardCells c mb (.slice qa q.length qcap) sb s.outs.length ov)) := (hb2.block yb (jcell_lt y9)).trans HB0.out; clear hS2 hb2) | (refine step_append_sl rfl _ _ 190 rfl _ i0 _ 6 64 Tryz.underlying190 hi0 hz0 hz1 hz2 rfl (by decide) (.slice qa q.length qcap) _ _ rfl (Sl.mk HR2.out _) ⟨w2.heap.size, 0, none⟩ 1 1 [.int .i64 id, .int .i64 lane, .int .i64 0, .int .i64 c.age, .int .i64 s.ids.length, .slice (some ⟨w.heap.size + 1, 0, none⟩) es.length es.length] rfl rfl (cells_new w2 _ _) (by simp [Value.oneCell']) q1.out q2.out ?_; intro v3 w3 hown3 hg3 hloc3; obtain ⟨a3, c3, rfl⟩ := hown3.form; have x13 := World.grownBy.cell hg3 (jcell_after (below_new w2 _) x12) (fun e => qnw e.symm); have x23 := World.grownBy.cell hg3 (jcell_after (below_new w2 _) x22) (fun e => qnw e.symm); have x33 := World.grownBy.cell hg3 (jcell_after (below_new w2 _) x32) (fun e => qnw e.symm); have HX3 : Hid (Bx w3 yb 201 (yardCells c mb (.slice qa q.length qcap) sb s.outs.length ov)) := (HX2.out.mk _).grown hg3 (fun e => qne e.symm); have y13 : w3.cell? ⟨yb, 1, none⟩ = some (.int .i64 c.age) := HX3.out.cell (i := 1) rfl; have y93 : w3.cell? ⟨yb, 9, none⟩ = some (.slice qa q.length qcap) := HX3.out.cell (i := 9) rfl; have y103 : w3.cell? ⟨yb, 10, none⟩ = some (.map (some sb)) := HX3.out.cell (i := 10) rfl; have f93 := HX3.out.fr 9; have HN3 : Hid (Sl w3 193 6 (.slice a3 (q.length + 1) c3) (q.length + 1) (q.flatMap (cP c.age) ++ [.int .i64 id, .int .i64 lane, .int .i64 0, .int .i64 c.age, .int .i64 s.ids.length, .slice (some ⟨w.heap.size + 1, 0, none⟩) es.length es.length])) := hown3; have HG3 : Hid (w2.grownBy w3 (Value.slice qa q.length qcap).ownBlock) := (World.grownBy_alloc w2 _ _).trans hg3; have HL3 : Hid ((Value.slice a3 (q.length + 1) c3).ownBlock = (Value.slice qa q.length qcap).ownBlock ∨ ∃ g, (Value.slice a3 (q.length + 1) c3).ownBlock = some g ∧ w2.heap.size ≤ g) := hloc3.imp (fun h => h) (fun ⟨g, h, hle⟩ => ⟨g, h, Nat.le_trans (by simp) hle⟩); clear hown3 hg3 hloc3))
              refine hK.out _ _ ?_ (fun hHeld => ?_)
              · (try dsimp only)
                (first | go_keep | (refine ⟨?_, ?_, ?_, ?_, ?_⟩ <;> (first | rw [hk1] | rw [hk2] | rw [hk3]) <;> assumption))
              · clear hK K
                refine wpAnyH_take (i := 23) (v := ?_) rfl (by kernel_rfl) (by kernel_rfl) (by kernel_rfl) (fun _ _ _ h => h) (Or.inl ⟨by rfl, ?_⟩) (by assumption) ?_
                rotate_left 1
                · intro w9 hSw
                  (try dsimp only at hSw)
                  go_simp <;> with_reducible rfl
                try simp only [Act.put, List.getElem_toArray, List.getElem_cons_zero, List.getElem_cons_succ, List.setIfInBounds_toArray, List.set_cons_zero, List.set_cons_succ]
                refine wpAnyH_ready (rs := [24]) (by kernel_rfl) (by simp) ?_
                refine AllReadyH.cons rfl (fun K hK => ?_) ?_
                · go_simp
                  refine hK.out _ _ ?_ (fun hHeld => ?_)
                  · (try dsimp only)
                    (first | go_keep | (refine ⟨?_, ?_, ?_, ?_, ?_⟩ <;> (first | rw [hk1] | rw [hk2] | rw [hk3]) <;> assumption))
                  · clear hK K
                    refine wpAnyH_ready (rs := [25]) (by kernel_rfl) (by simp) ?_
                    refine AllReadyH.cons rfl (fun K hK => ?_) ?_
                    · (first | (refine step_len_subm rfl _ rfl sb s.ids rfl (by first | exact hsub0 | exact hsub2) ?_) | (go_at_call 167; refine hC.mono ?_; rintro e w2 ⟨rfl, hS2, hb2⟩; have x12 := jcell_after hb2 x1; have x22 := jcell_after hb2 x2; have x32 := jcell_after hb2 x3; have y12 := jcell_after hb2 y1; have y92 := jcell_after hb2 y9; have y92o : ∀ o, (w2.alloc o).cell? ⟨yb, 9, none⟩ = some (.slice qa q.length qcap) := (fun o => jcell_after (below_new w2 o) y92); have y102 := jcell_after hb2 y10; have f92 : w2.frozen? ⟨yb, 9, none⟩ = false := frozen_after hb2 (jcell_lt y9) f9; have hsub2 := hsub0.later hb2; have HS2 : Hid (Sl w2 49 3 (.slice (some ⟨w.heap.size + 1, 0, none⟩) es.length es.length) es.length (es.flatMap cE)) := (by rw [← hs0]; exact hS2); have HB2 : Hid (Below w0.drew.heap.size w0.drew w2) := hb2; have HR2 : Hid (Sl w2 193 6 (.slice qa q.length qcap) q.length (q.flatMap (cP c.age))) := Sl.kept HR0.out (fun g hg => hb2.block g (Sl.lt HR0.out hg)); have HX2 : Hid (Bx w2 yb 201 (yardCells c mb (.slice qa q.length qcap) sb s.outs.length ov)) := (hb2.block yb (jcell_lt y9)).trans HB0.out; clear hS2 hb2) | (refine step_append_sl rfl _ _ 190 rfl _ i0 _ 6 64 Tryz.underlying190 hi0 hz0 hz1 hz2 rfl (by decide) (.slice qa q.length qcap) _ _ rfl (Sl.mk HR2.out _) ⟨w2.heap.size, 0, none⟩ 1 1 [.int .i64 id, .int .i64 lane, .int .i64 0, .int .i64 c.age, .int .i64 s.ids.length, .slice (some ⟨w.heap.size + 1, 0, none⟩) es.length es.length] rfl rfl (cells_new w2 _ _) (by simp [Value.oneCell']) q1.out q2.out ?_; intro v3 w3 hown3 hg3 hloc3; obtain ⟨a3, c3, rfl⟩ := hown3.form; have x13 := World.grownBy.cell hg3 (jcell_after (below_new w2 _) x12) (fun e => qnw e.symm); have x23 := World.grownBy.cell hg3 (jcell_after (below_new w2 _) x22) (fun e => qnw e.symm); have x33 := World.grownBy.cell hg3 (jcell_after (below_new w2 _) x32) (fun e => qnw e.symm); have HX3 : Hid (Bx w3 yb 201 (yardCells c mb (.slice qa q.length qcap) sb s.outs.length ov)) := (HX2.out.mk _).grown hg3 (fun e => qne e.symm); have y13 : w3.cell? ⟨yb, 1, none⟩ = some (.int .i64 c.age) := HX3.out.cell (i := 1) rfl; have y93 : w3.cell? ⟨yb, 9, none⟩ = some (.slice qa q.length qcap) := HX3.out.cell (i := 9) rfl; have y103 : w3.cell? ⟨yb, 10, none⟩ = some (.map (some sb)) := HX3.out.cell (i := 10) rfl; have f93 := HX3.out.fr 9; have HN3 : Hid (Sl w3 193 6 (.slice a3 (q.length + 1) c3) (q.length + 1) (q.flatMap (cP c.age) ++ [.int .i64 id, .int .i64 lane, .int .i64 0, .int .i64 c.age, .int .i64 s.ids.length, .slice (some ⟨w.heap.size + 1, 0, none⟩) es.length es.length])) := hown3; have HG3 : Hid (w2.grownBy w3 (Value.slice qa q.length qcap).ownBlock) := (World.grownBy_alloc w2 _ _).trans hg3; have HL3 : Hid ((Value.slice a3 (q.length + 1) c3).ownBlock = (Value.slice qa q.length qcap).ownBlock ∨ ∃ g, (Value.slice a3 (q.length + 1) c3).ownBlock = some g ∧ w2.heap.size ≤ g) := hloc3.imp (fun h => h) (fun ⟨g, h, hle⟩ => ⟨g, h, Nat.le_trans (by simp) hle⟩); clear hown3 hg3 hloc3))
                      refine hK.out _ _ ?_ (fun hHeld => ?_)
                      · (try dsimp only)
                        (first | go_keep | (refine ⟨?_, ?_, ?_, ?_, ?_⟩ <;> (first | rw [hk1] | rw [hk2] | rw [hk3]) <;> assumption))
                      · clear hK K
                        refine wpAnyH_take (i := 26) (v := ?_) rfl (by kernel_rfl) (by kernel_rfl) (by kernel_rfl) (fun _ _ _ h => h) (Or.inl ⟨by rfl, ?_⟩) (by assumption) ?_
                        rotate_left 1
                        · intro w9 hSw
                          (try dsimp only at hSw)
                          go_simp <;> with_reducible rfl
                        try simp only [Act.put, List.getElem_toArray, List.getElem_cons_zero, List.getElem_cons_succ, List.setIfInBounds_toArray, List.set_cons_zero, List.set_cons_succ]
                        refine wpAnyH_take (i := 27) (v := ?_) rfl (by kernel_rfl) (by kernel_rfl) (by kernel_rfl) (fun _ _ _ h => h) (Or.inl ⟨by rfl, ?_⟩) (by assumption) ?_
                        rotate_left 1
                        · intro w9 hSw
                          (try dsimp only at hSw)
                          go_simp <;> with_reducible rfl
                        try simp only [Act.put, List.getElem_toArray, List.getElem_cons_zero, List.getElem_cons_succ, List.setIfInBounds_toArray, List.set_cons_zero, List.set_cons_succ]
                        refine wpAnyH_ready (rs := [28]) (by kernel_rfl) (by simp) ?_
                        refine AllReadyH.cons rfl (fun K hK => ?_) ?_
                        · go_simp
                          refine hK.out _ _ ?_ (fun hHeld => ?_)
                          · (try dsimp only)
                            (first | go_keep | (refine ⟨?_, ?_, ?_, ?_, ?_⟩ <;> (first | rw [hk1] | rw [hk2] | rw [hk3]) <;> assumption))
                          · clear hK K
                            refine wpAnyH_done (by kernel_rfl) ?_ _
                            go_wp2_with fail
                            go_meet
                            case rel =>
                              have b3 : w.grownBy w3 (Value.slice qa q.length qcap).ownBlock := ((grown_any HG0.out _).trans ⟨HB2.out.os, HB2.out.tape, HB2.out.output, HB2.out.size, fun k hk _ => HB2.out.block k hk⟩).trans HG3.out
                              have hsz2 : w.heap.size + 1 ≤ w2.heap.size := by
                                have := HB2.out.size
                                rw [← hs0]; exact this
                              have nn : (Value.slice a3 (q.length + 1) c3).ownBlock ≠ some yb := by
                                rcases HL3.out with e | ⟨g, e, hg⟩
                                · rw [e]; exact qne
                                · rw [e]; intro h; cases h; omega
                              have ee : Sl w3 49 3 (.slice (some ⟨w.heap.size + 1, 0, none⟩) es.length es.length) es.length (es.flatMap cE) := HS2.out.grown HG3.out fun g hg e => by
                                obtain rfl : w.heap.size + 1 = g := by simpa [Value.ownBlock] using hg
                                have := Sl.lt HY.out.row e
                                omega
                              refine ⟨⟨w.heap.size + 1, .slice a3 (q.length + 1) c3, by omega, ?_, ?_, ?_, ?_⟩, ?_, ?_⟩
                              · have := HX3.out.set 9 (.slice a3 (q.length + 1) c3)
                                rwa [set9] at this
                              · exact Sl.put_last (Sl.grown HN3.out (grown_set _ _ _ _) (fun g hg e => nn (by rw [hg]; exact e.symm)))
                              · exact ee.grown (grown_set _ _ _ _) (fun g hg e => by
                                  obtain rfl : w.heap.size + 1 = g := by simpa [Value.ownBlock] using hg
                                  injection e with e; omega)
                              · exact HL3.out.imp (fun h => h) (fun ⟨g, h, hle⟩ => ⟨g, h, by omega⟩)
                              · exact (Only.of_grown b3 (S := fun k => k = yb ∨ (Value.slice qa q.length qcap).ownBlock = some k) fun k h => .inr h).set (.inl (.inl rfl))
                              · rw [World.cell?_setCell_other _ _ _ _ (by intro e; injection e with e; omega)]; exact x33
                        exact AllReadyH.nil
                    exact AllReadyH.nil
                exact AllReadyH.nil
            exact AllReadyH.nil
        exact AllReadyH.nil
    refine AllReadyH.cons rfl (fun K hK => ?_) ?_
    · (first | (refine step_len_subm rfl _ rfl sb s.ids rfl (by first | exact hsub0 | exact hsub2) ?_) | (go_at_call 167; refine hC.mono ?_; rintro e w2 ⟨rfl, hS2, hb2⟩; have x12 := jcell_after hb2 x1; have x22 := jcell_after hb2 x2; have x32 := jcell_after hb2 x3; have y12 := jcell_after hb2 y1; have y92 := jcell_after hb2 y9; have y92o : ∀ o, (w2.alloc o).cell? ⟨yb, 9, none⟩ = some (.slice qa q.length qcap) := (fun o => jcell_after (below_new w2 o) y92); have y102 := jcell_after hb2 y10; have f92 : w2.frozen? ⟨yb, 9, none⟩ = false := frozen_after hb2 (jcell_lt y9) f9; have hsub2 := hsub0.later hb2; have HS2 : Hid (Sl w2 49 3 (.slice (some ⟨w.heap.size + 1, 0, none⟩) es.length es.length) es.length (es.flatMap cE)) := (by rw [← hs0]; exact hS2); have HB2 : Hid (Below w0.drew.heap.size w0.drew w2) := hb2; have HR2 : Hid (Sl w2 193 6 (.slice qa q.length qcap) q.length (q.flatMap (cP c.age))) := Sl.kept HR0.out (fun g hg => hb2.block g (Sl.lt HR0.out hg)); have HX2 : Hid (Bx w2 yb 201 (yardCells c mb (.slice qa q.length qcap) sb s.outs.length ov)) := (hb2.block yb (jcell_lt y9)).trans HB0.out; clear hS2 hb2) | (refine step_append_sl rfl _ _ 190 rfl _ i0 _ 6 64 Tryz.underlying190 hi0 hz0 hz1 hz2 rfl (by decide) (.slice qa q.length qcap) _ _ rfl (Sl.mk HR2.out _) ⟨w2.heap.size, 0, none⟩ 1 1 [.int .i64 id, .int .i64 lane, .int .i64 0, .int .i64 c.age, .int .i64 s.ids.length, .slice (some ⟨w.heap.size + 1, 0, none⟩) es.length es.length] rfl rfl (cells_new w2 _ _) (by simp [Value.oneCell']) q1.out q2.out ?_; intro v3 w3 hown3 hg3 hloc3; obtain ⟨a3, c3, rfl⟩ := hown3.form; have x13 := World.grownBy.cell hg3 (jcell_after (below_new w2 _) x12) (fun e => qnw e.symm); have x23 := World.grownBy.cell hg3 (jcell_after (below_new w2 _) x22) (fun e => qnw e.symm); have x33 := World.grownBy.cell hg3 (jcell_after (below_new w2 _) x32) (fun e => qnw e.symm); have HX3 : Hid (Bx w3 yb 201 (yardCells c mb (.slice qa q.length qcap) sb s.outs.length ov)) := (HX2.out.mk _).grown hg3 (fun e => qne e.symm); have y13 : w3.cell? ⟨yb, 1, none⟩ = some (.int .i64 c.age) := HX3.out.cell (i := 1) rfl; have y93 : w3.cell? ⟨yb, 9, none⟩ = some (.slice qa q.length qcap) := HX3.out.cell (i := 9) rfl; have y103 : w3.cell? ⟨yb, 10, none⟩ = some (.map (some sb)) := HX3.out.cell (i := 10) rfl; have f93 := HX3.out.fr 9; have HN3 : Hid (Sl w3 193 6 (.slice a3 (q.length + 1) c3) (q.length + 1) (q.flatMap (cP c.age) ++ [.int .i64 id, .int .i64 lane, .int .i64 0, .int .i64 c.age, .int .i64 s.ids.length, .slice (some ⟨w.heap.size + 1, 0, none⟩) es.length es.length])) := hown3; have HG3 : Hid (w2.grownBy w3 (Value.slice qa q.length qcap).ownBlock) := (World.grownBy_alloc w2 _ _).trans hg3; have HL3 : Hid ((Value.slice a3 (q.length + 1) c3).ownBlock = (Value.slice qa q.length qcap).ownBlock ∨ ∃ g, (Value.slice a3 (q.length + 1) c3).ownBlock = some g ∧ w2.heap.size ≤ g) := hloc3.imp (fun h => h) (fun ⟨g, h, hle⟩ => ⟨g, h, Nat.le_trans (by simp) hle⟩); clear hown3 hg3 hloc3))
      refine hK.out _ _ ?_ (fun hHeld => ?_)
      · (try dsimp only)
        (first | go_keep | (refine ⟨?_, ?_, ?_, ?_, ?_⟩ <;> (first | rw [hk1] | rw [hk2] | rw [hk3]) <;> assumption))
      · clear hK K
        refine wpAnyH_ready (rs := [4, 22]) (by kernel_rfl) (by simp) ?_
        refine AllReadyH.cons rfl (fun K hK => ?_) ?_
        · go_simp
          refine hK.out _ _ ?_ (fun hHeld => ?_)
          · (try dsimp only)
            (first | go_keep | (refine ⟨?_, ?_, ?_, ?_, ?_⟩ <;> (first | rw [hk1] | rw [hk2] | rw [hk3]) <;> assumption))
          · clear hK K
            refine wpAnyH_ready (rs := [22]) (by kernel_rfl) (by simp) ?_
            refine AllReadyH.cons rfl (fun K hK => ?_) ?_
            · go_simp
              go_wp2_with (first | (refine step_len_subm rfl _ rfl sb s.ids rfl (by first | exact hsub0 | exact hsub2) ?_) | (go_at_call 167; refine hC.mono ?_; rintro e w2 ⟨rfl, hS2, hb2⟩; have x12 := jcell_after hb2 x1; have x22 := jcell_after hb2 x2; have x32 := jcell_after hb2 x3; have y12 := jcell_after hb2 y1; have y92 := jcell_after hb2 y9; have y92o : ∀ o, (w2.alloc o).cell? ⟨yb, 9, none⟩ = some (.slice qa q.length qcap) := (fun o => jcell_after (below_new w2 o) y92); have y102 := jcell_after hb2 y10; have f92 : w2.frozen? ⟨yb, 9, none⟩ = false := frozen_after hb2 (jcell_lt y9) f9; have hsub2 := hsub0.later hb2; have HS2 : Hid (Sl w2 49 3 (.slice (some ⟨w.heap.size + 1, 0, none⟩) es.length es.length) es.length (es.flatMap cE)) := (by rw [← hs0]; exact hS2); have HB2 : Hid (Below w0.drew.heap.size w0.drew w2) := hb2; have HR2 : Hid (Sl w2 193 6 (.slice qa q.length qcap) q.length (q.flatMap (cP c.age))) := Sl.kept HR0.out (fun g hg => hb2.block g (Sl.lt HR0.out hg)); have HX2 : Hid (Bx w2 yb 201 (yardCells c mb (.slice qa q.length qcap) sb s.outs.length ov)) := (hb2.block yb (jcell_lt y9)).trans HB0.out; clear hS2 hb2) | (refine step_append_sl rfl _ _ 190 rfl _ i0 _ 6 64 Tryz.underlying190 hi0 hz0 hz1 hz2 rfl (by decide) (.slice qa q.length qcap) _ _ rfl (Sl.mk HR2.out _) ⟨w2.heap.size, 0, none⟩ 1 1 [.int .i64 id, .int .i64 lane, .int .i64 0, .int .i64 c.age, .int .i64 s.ids.length, .slice (some ⟨w.heap.size + 1, 0, none⟩) es.length es.length] rfl rfl (cells_new w2 _ _) (by simp [Value.oneCell']) q1.out q2.out ?_; intro v3 w3 hown3 hg3 hloc3; obtain ⟨a3, c3, rfl⟩ := hown3.form; have x13 := World.grownBy.cell hg3 (jcell_after (below_new w2 _) x12) (fun e => qnw e.symm); have x23 := World.grownBy.cell hg3 (jcell_after (below_new w2 _) x22) (fun e => qnw e.symm); have x33 := World.grownBy.cell hg3 (jcell_after (below_new w2 _) x32) (fun e => qnw e.symm); have HX3 : Hid (Bx w3 yb 201 (yardCells c mb (.slice qa q.length qcap) sb s.outs.length ov)) := (HX2.out.mk _).grown hg3 (fun e => qne e.symm); have y13 : w3.cell? ⟨yb, 1, none⟩ = some (.int .i64 c.age) := HX3.out.cell (i := 1) rfl; have y93 : w3.cell? ⟨yb, 9, none⟩ = some (.slice qa q.length qcap) := HX3.out.cell (i := 9) rfl; have y103 : w3.cell? ⟨yb, 10, none⟩ = some (.map (some sb)) := HX3.out.cell (i := 10) rfl; have f93 := HX3.out.fr 9; have HN3 : Hid (Sl w3 193 6 (.slice a3 (q.length + 1) c3) (q.length + 1) (q.flatMap (cP c.age) ++ [.int .i64 id, .int .i64 lane, .int .i64 0, .int .i64 c.age, .int .i64 s.ids.length, .slice (some ⟨w.heap.size + 1, 0, none⟩) es.length es.length])) := hown3; have HG3 : Hid (w2.grownBy w3 (Value.slice qa q.length qcap).ownBlock) := (World.grownBy_alloc w2 _ _).trans hg3; have HL3 : Hid ((Value.slice a3 (q.length + 1) c3).ownBlock = (Value.slice qa q.length qcap).ownBlock ∨ ∃ g, (Value.slice a3 (q.length + 1) c3).ownBlock = some g ∧ w2.heap.size ≤ g) := hloc3.imp (fun h => h) (fun ⟨g, h, hle⟩ => ⟨g, h, Nat.le_trans (by simp) hle⟩); clear hown3 hg3 hloc3))
              refine hK.out _ _ ?_ (fun hHeld => ?_)
              · (try dsimp only)
                (first | go_keep | (refine ⟨?_, ?_, ?_, ?_, ?_⟩ <;> (first | rw [hk1] | rw [hk2] | rw [hk3]) <;> assumption))
              · clear hK K
                refine wpAnyH_take (i := 23) (v := ?_) rfl (by kernel_rfl) (by kernel_rfl) (by kernel_rfl) (fun _ _ _ h => h) (Or.inl ⟨by rfl, ?_⟩) (by assumption) ?_
                rotate_left 1
                · intro w9 hSw
                  (try dsimp only at hSw)
                  go_simp <;> with_reducible rfl
                try simp only [Act.put, List.getElem_toArray, List.getElem_cons_zero, List.getElem_cons_succ, List.setIfInBounds_toArray, List.set_cons_zero, List.set_cons_succ]
                refine wpAnyH_ready (rs := [24]) (by kernel_rfl) (by simp) ?_
                refine AllReadyH.cons rfl (fun K hK => ?_) ?_
                · go_simp
                  refine hK.out _ _ ?_ (fun hHeld => ?_)
                  · (try dsimp only)
                    (first | go_keep | (refine ⟨?_, ?_, ?_, ?_, ?_⟩ <;> (first | rw [hk1] | rw [hk2] | rw [hk3]) <;> assumption))
                  · clear hK K
                    refine wpAnyH_ready (rs := [25]) (by kernel_rfl) (by simp) ?_
                    refine AllReadyH.cons rfl (fun K hK => ?_) ?_
                    · (first | (refine step_len_subm rfl _ rfl sb s.ids rfl (by first | exact hsub0 | exact hsub2) ?_) | (go_at_call 167; refine hC.mono ?_; rintro e w2 ⟨rfl, hS2, hb2⟩; have x12 := jcell_after hb2 x1; have x22 := jcell_after hb2 x2; have x32 := jcell_after hb2 x3; have y12 := jcell_after hb2 y1; have y92 := jcell_after hb2 y9; have y92o : ∀ o, (w2.alloc o).cell? ⟨yb, 9, none⟩ = some (.slice qa q.length qcap) := (fun o => jcell_after (below_new w2 o) y92); have y102 := jcell_after hb2 y10; have f92 : w2.frozen? ⟨yb, 9, none⟩ = false := frozen_after hb2 (jcell_lt y9) f9; have hsub2 := hsub0.later hb2; have HS2 : Hid (Sl w2 49 3 (.slice (some ⟨w.heap.size + 1, 0, none⟩) es.length es.length) es.length (es.flatMap cE)) := (by rw [← hs0]; exact hS2); have HB2 : Hid (Below w0.drew.heap.size w0.drew w2) := hb2; have HR2 : Hid (Sl w2 193 6 (.slice qa q.length qcap) q.length (q.flatMap (cP c.age))) := Sl.kept HR0.out (fun g hg => hb2.block g (Sl.lt HR0.out hg)); have HX2 : Hid (Bx w2 yb 201 (yardCells c mb (.slice qa q.length qcap) sb s.outs.length ov)) := (hb2.block yb (jcell_lt y9)).trans HB0.out; clear hS2 hb2) | (refine step_append_sl rfl _ _ 190 rfl _ i0 _ 6 64 Tryz.underlying190 hi0 hz0 hz1 hz2 rfl (by decide) (.slice qa q.length qcap) _ _ rfl (Sl.mk HR2.out _) ⟨w2.heap.size, 0, none⟩ 1 1 [.int .i64 id, .int .i64 lane, .int .i64 0, .int .i64 c.age, .int .i64 s.ids.length, .slice (some ⟨w.heap.size + 1, 0, none⟩) es.length es.length] rfl rfl (cells_new w2 _ _) (by simp [Value.oneCell']) q1.out q2.out ?_; intro v3 w3 hown3 hg3 hloc3; obtain ⟨a3, c3, rfl⟩ := hown3.form; have x13 := World.grownBy.cell hg3 (jcell_after (below_new w2 _) x12) (fun e => qnw e.symm); have x23 := World.grownBy.cell hg3 (jcell_after (below_new w2 _) x22) (fun e => qnw e.symm); have x33 := World.grownBy.cell hg3 (jcell_after (below_new w2 _) x32) (fun e => qnw e.symm); have HX3 : Hid (Bx w3 yb 201 (yardCells c mb (.slice qa q.length qcap) sb s.outs.length ov)) := (HX2.out.mk _).grown hg3 (fun e => qne e.symm); have y13 : w3.cell? ⟨yb, 1, none⟩ = some (.int .i64 c.age) := HX3.out.cell (i := 1) rfl; have y93 : w3.cell? ⟨yb, 9, none⟩ = some (.slice qa q.length qcap) := HX3.out.cell (i := 9) rfl; have y103 : w3.cell? ⟨yb, 10, none⟩ = some (.map (some sb)) := HX3.out.cell (i := 10) rfl; have f93 := HX3.out.fr 9; have HN3 : Hid (Sl w3 193 6 (.slice a3 (q.length + 1) c3) (q.length + 1) (q.flatMap (cP c.age) ++ [.int .i64 id, .int .i64 lane, .int .i64 0, .int .i64 c.age, .int .i64 s.ids.length, .slice (some ⟨w.heap.size + 1, 0, none⟩) es.length es.length])) := hown3; have HG3 : Hid (w2.grownBy w3 (Value.slice qa q.length qcap).ownBlock) := (World.grownBy_alloc w2 _ _).trans hg3; have HL3 : Hid ((Value.slice a3 (q.length + 1) c3).ownBlock = (Value.slice qa q.length qcap).ownBlock ∨ ∃ g, (Value.slice a3 (q.length + 1) c3).ownBlock = some g ∧ w2.heap.size ≤ g) := hloc3.imp (fun h => h) (fun ⟨g, h, hle⟩ => ⟨g, h, Nat.le_trans (by simp) hle⟩); clear hown3 hg3 hloc3))
                      refine hK.out _ _ ?_ (fun hHeld => ?_)
                      · (try dsimp only)
                        (first | go_keep | (refine ⟨?_, ?_, ?_, ?_, ?_⟩ <;> (first | rw [hk1] | rw [hk2] | rw [hk3]) <;> assumption))
                      · clear hK K
                        refine wpAnyH_take (i := 26) (v := ?_) rfl (by kernel_rfl) (by kernel_rfl) (by kernel_rfl) (fun _ _ _ h => h) (Or.inl ⟨by rfl, ?_⟩) (by assumption) ?_
                        rotate_left 1
                        · intro w9 hSw
                          (try dsimp only at hSw)
                          go_simp <;> with_reducible rfl
                        try simp only [Act.put, List.getElem_toArray, List.getElem_cons_zero, List.getElem_cons_succ, List.setIfInBounds_toArray, List.set_cons_zero, List.set_cons_succ]
                        refine wpAnyH_take (i := 27) (v := ?_) rfl (by kernel_rfl) (by kernel_rfl) (by kernel_rfl) (fun _ _ _ h => h) (Or.inl ⟨by rfl, ?_⟩) (by assumption) ?_
                        rotate_left 1
                        · intro w9 hSw
                          (try dsimp only at hSw)
                          go_simp <;> with_reducible rfl
                        try simp only [Act.put, List.getElem_toArray, List.getElem_cons_zero, List.getElem_cons_succ, List.setIfInBounds_toArray, List.set_cons_zero, List.set_cons_succ]
                        refine wpAnyH_ready (rs := [28]) (by kernel_rfl) (by simp) ?_
                        refine AllReadyH.cons rfl (fun K hK => ?_) ?_
                        · go_simp
                          refine hK.out _ _ ?_ (fun hHeld => ?_)
                          · (try dsimp only)
                            (first | go_keep | (refine ⟨?_, ?_, ?_, ?_, ?_⟩ <;> (first | rw [hk1] | rw [hk2] | rw [hk3]) <;> assumption))
                          · clear hK K
                            refine wpAnyH_done (by kernel_rfl) ?_ _
                            go_wp2_with fail
                            go_meet
                            case rel =>
                              have b3 : w.grownBy w3 (Value.slice qa q.length qcap).ownBlock := ((grown_any HG0.out _).trans ⟨HB2.out.os, HB2.out.tape, HB2.out.output, HB2.out.size, fun k hk _ => HB2.out.block k hk⟩).trans HG3.out
                              have hsz2 : w.heap.size + 1 ≤ w2.heap.size := by
                                have := HB2.out.size
                                rw [← hs0]; exact this
                              have nn : (Value.slice a3 (q.length + 1) c3).ownBlock ≠ some yb := by
                                rcases HL3.out with e | ⟨g, e, hg⟩
                                · rw [e]; exact qne
                                · rw [e]; intro h; cases h; omega
                              have ee : Sl w3 49 3 (.slice (some ⟨w.heap.size + 1, 0, none⟩) es.length es.length) es.length (es.flatMap cE) := HS2.out.grown HG3.out fun g hg e => by
                                obtain rfl : w.heap.size + 1 = g := by simpa [Value.ownBlock] using hg
                                have := Sl.lt HY.out.row e
                                omega
                              refine ⟨⟨w.heap.size + 1, .slice a3 (q.length + 1) c3, by omega, ?_, ?_, ?_, ?_⟩, ?_, ?_⟩
                              · have := HX3.out.set 9 (.slice a3 (q.length + 1) c3)
                                rwa [set9] at this
                              · exact Sl.put_last (Sl.grown HN3.out (grown_set _ _ _ _) (fun g hg e => nn (by rw [hg]; exact e.symm)))
                              · exact ee.grown (grown_set _ _ _ _) (fun g hg e => by
                                  obtain rfl : w.heap.size + 1 = g := by simpa [Value.ownBlock] using hg
                                  injection e with e; omega)
                              · exact HL3.out.imp (fun h => h) (fun ⟨g, h, hle⟩ => ⟨g, h, by omega⟩)
                              · exact (Only.of_grown b3 (S := fun k => k = yb ∨ (Value.slice qa q.length qcap).ownBlock = some k) fun k h => .inr h).set (.inl (.inl rfl))
                              · rw [World.cell?_setCell_other _ _ _ _ (by intro e; injection e with e; omega)]; exact x33
                        exact AllReadyH.nil
                    exact AllReadyH.nil
                exact AllReadyH.nil
            exact AllReadyH.nil
        refine AllReadyH.cons rfl (fun K hK => ?_) ?_
        · go_simp
          go_wp2_with (first | (refine step_len_subm rfl _ rfl sb s.ids rfl (by first | exact hsub0 | exact hsub2) ?_) | (go_at_call 167; refine hC.mono ?_; rintro e w2 ⟨rfl, hS2, hb2⟩; have x12 := jcell_after hb2 x1; have x22 := jcell_after hb2 x2; have x32 := jcell_after hb2 x3; have y12 := jcell_after hb2 y1; have y92 := jcell_after hb2 y9; have y92o : ∀ o, (w2.alloc o).cell? ⟨yb, 9, none⟩ = some (.slice qa q.length qcap) := (fun o => jcell_after (below_new w2 o) y92); have y102 := jcell_after hb2 y10; have f92 : w2.frozen? ⟨yb, 9, none⟩ = false := frozen_after hb2 (jcell_lt y9) f9; have hsub2 := hsub0.later hb2; have HS2 : Hid (Sl w2 49 3 (.slice (some ⟨w.heap.size + 1, 0, none⟩) es.length es.length) es.length (es.flatMap cE)) := (by rw [← hs0]; exact hS2); have HB2 : Hid (Below w0.drew.heap.size w0.drew w2) := hb2; have HR2 : Hid (Sl w2 193 6 (.slice qa q.length qcap) q.length (q.flatMap (cP c.age))) := Sl.kept HR0.out (fun g hg => hb2.block g (Sl.lt HR0.out hg)); have HX2 : Hid (Bx w2 yb 201 (yardCells c mb (.slice qa q.length qcap) sb s.outs.length ov)) := (hb2.block yb (jcell_lt y9)).trans HB0.out; clear hS2 hb2) | (refine step_append_sl rfl _ _ 190 rfl _ i0 _ 6 64 Tryz.underlying190 hi0 hz0 hz1 hz2 rfl (by decide) (.slice qa q.length qcap) _ _ rfl (Sl.mk HR2.out _) ⟨w2.heap.size, 0, none⟩ 1 1 [.int .i64 id, .int .i64 lane, .int .i64 0, .int .i64 c.age, .int .i64 s.ids.length, .slice (some ⟨w.heap.size + 1, 0, none⟩) es.length es.length] rfl rfl (cells_new w2 _ _) (by simp [Value.oneCell']) q1.out q2.out ?_; intro v3 w3 hown3 hg3 hloc3; obtain ⟨a3, c3, rfl⟩ := hown3.form; have x13 := World.grownBy.cell hg3 (jcell_after (below_new w2 _) x12) (fun e => qnw e.symm); have x23 := World.grownBy.cell hg3 (jcell_after (below_new w2 _) x22) (fun e => qnw e.symm); have x33 := World.grownBy.cell hg3 (jcell_after (below_new w2 _) x32) (fun e => qnw e.symm); have HX3 : Hid (Bx w3 yb 201 (yardCells c mb (.slice qa q.length qcap) sb s.outs.length ov)) := (HX2.out.mk _).grown hg3 (fun e => qne e.symm); have y13 : w3.cell? ⟨yb, 1, none⟩ = some (.int .i64 c.age) := HX3.out.cell (i := 1) rfl; have y93 : w3.cell? ⟨yb, 9, none⟩ = some (.slice qa q.length qcap) := HX3.out.cell (i := 9) rfl; have y103 : w3.cell? ⟨yb, 10, none⟩ = some (.map (some sb)) := HX3.out.cell (i := 10) rfl; have f93 := HX3.out.fr 9; have HN3 : Hid (Sl w3 193 6 (.slice a3 (q.length + 1) c3) (q.length + 1) (q.flatMap (cP c.age) ++ [.int .i64 id, .int .i64 lane, .int .i64 0, .int .i64 c.age, .int .i64 s.ids.length, .slice (some ⟨w.heap.size + 1, 0, none⟩) es.length es.length])) := hown3; have HG3 : Hid (w2.grownBy w3 (Value.slice qa q.length qcap).ownBlock) := (World.grownBy_alloc w2 _ _).trans hg3; have HL3 : Hid ((Value.slice a3 (q.length + 1) c3).ownBlock = (Value.slice qa q.length qcap).ownBlock ∨ ∃ g, (Value.slice a3 (q.length + 1) c3).ownBlock = some g ∧ w2.heap.size ≤ g) := hloc3.imp (fun h => h) (fun ⟨g, h, hle⟩ => ⟨g, h, Nat.le_trans (by simp) hle⟩); clear hown3 hg3 hloc3))
          refine hK.out _ _ ?_ (fun hHeld => ?_)
          · (try dsimp only)
            (first | go_keep | (refine ⟨?_, ?_, ?_, ?_, ?_⟩ <;> (first | rw [hk1] | rw [hk2] | rw [hk3]) <;> assumption))
          · clear hK K
            refine wpAnyH_take (i := 23) (v := ?_) rfl (by kernel_rfl) (by kernel_rfl) (by kernel_rfl) (fun _ _ _ h => h) (Or.inl ⟨by rfl, ?_⟩) (by assumption) ?_
            rotate_left 1
            · intro w9 hSw
              (try dsimp only at hSw)
              go_simp <;> with_reducible rfl
            try simp only [Act.put, List.getElem_toArray, List.getElem_cons_zero, List.getElem_cons_succ, List.setIfInBounds_toArray, List.set_cons_zero, List.set_cons_succ]
            refine wpAnyH_ready (rs := [4, 24]) (by kernel_rfl) (by simp) ?_
            refine AllReadyH.cons rfl (fun K hK => ?_) ?_
            · go_simp
              refine hK.out _ _ ?_ (fun hHeld => ?_)
              · (try dsimp only)
                (first | go_keep | (refine ⟨?_, ?_, ?_, ?_, ?_⟩ <;> (first | rw [hk1] | rw [hk2] | rw [hk3]) <;> assumption))
              · clear hK K
                refine wpAnyH_ready (rs := [24]) (by kernel_rfl) (by simp) ?_
                refine AllReadyH.cons rfl (fun K hK => ?_) ?_
                · go_simp
                  refine hK.out _ _ ?_ (fun hHeld => ?_)
                  · (try dsimp only)
                    (first | go_keep | (refine ⟨?_, ?_, ?_, ?_, ?_⟩ <;> (first | rw [hk1] | rw [hk2] | rw [hk3]) <;> assumption))
                  · clear hK K
                    refine wpAnyH_ready (rs := [25]) (by kernel_rfl) (by simp) ?_
                    refine AllReadyH.cons rfl (fun K hK => ?_) ?_
                    · (first | (refine step_len_subm rfl _ rfl sb s.ids rfl (by first | exact hsub0 | exact hsub2) ?_) | (go_at_call 167; refine hC.mono ?_; rintro e w2 ⟨rfl, hS2, hb2⟩; have x12 := jcell_after hb2 x1; have x22 := jcell_after hb2 x2; have x32 := jcell_after hb2 x3; have y12 := jcell_after hb2 y1; have y92 := jcell_after hb2 y9; have y92o : ∀ o, (w2.alloc o).cell? ⟨yb, 9, none⟩ = some (.slice qa q.length qcap) := (fun o => jcell_after (below_new w2 o) y92); have y102 := jcell_after hb2 y10; have f92 : w2.frozen? ⟨yb, 9, none⟩ = false := frozen_after hb2 (jcell_lt y9) f9; have hsub2 := hsub0.later hb2; have HS2 : Hid (Sl w2 49 3 (.slice (some ⟨w.heap.size + 1, 0, none⟩) es.length es.length) es.length (es.flatMap cE)) := (by rw [← hs0]; exact hS2); have HB2 : Hid (Below w0.drew.heap.size w0.drew w2) := hb2; have HR2 : Hid (Sl w2 193 6 (.slice qa q.length qcap) q.length (q.flatMap (cP c.age))) := Sl.kept HR0.out (fun g hg => hb2.block g (Sl.lt HR0.out hg)); have HX2 : Hid (Bx w2 yb 201 (yardCells c mb (.slice qa q.length qcap) sb s.outs.length ov)) := (hb2.block yb (jcell_lt y9)).trans HB0.out; clear hS2 hb2) | (refine step_append_sl rfl _ _ 190 rfl _ i0 _ 6 64 Tryz.underlying190 hi0 hz0 hz1 hz2 rfl (by decide) (.slice qa q.length qcap) _ _ rfl (Sl.mk HR2.out _) ⟨w2.heap.size, 0, none⟩ 1 1 [.int .i64 id, .int .i64 lane, .int .i64 0, .int .i64 c.age, .int .i64 s.ids.length, .slice (some ⟨w.heap.size + 1, 0, none⟩) es.length es.length] rfl rfl (cells_new w2 _ _) (by simp [Value.oneCell']) q1.out q2.out ?_; intro v3 w3 hown3 hg3 hloc3; obtain ⟨a3, c3, rfl⟩ := hown3.form; have x13 := World.grownBy.cell hg3 (jcell_after (below_new w2 _) x12) (fun e => qnw e.symm); have x23 := World.grownBy.cell hg3 (jcell_after (below_new w2 _) x22) (fun e => qnw e.symm); have x33 := World.grownBy.cell hg3 (jcell_after (below_new w2 _) x32) (fun e => qnw e.symm); have HX3 : Hid (Bx w3 yb 201 (yardCells c mb (.slice qa q.length qcap) sb s.outs.length ov)) := (HX2.out.mk _).grown hg3 (fun e => qne e.symm); have y13 : w3.cell? ⟨yb, 1, none⟩ = some (.int .i64 c.age) := HX3.out.cell (i := 1) rfl; have y93 : w3.cell? ⟨yb, 9, none⟩ = some (.slice qa q.length qcap) := HX3.out.cell (i := 9) rfl; have y103 : w3.cell? ⟨yb, 10, none⟩ = some (.map (some sb)) := HX3.out.cell (i := 10) rfl; have f93 := HX3.out.fr 9; have HN3 : Hid (Sl w3 193 6 (.slice a3 (q.length + 1) c3) (q.length + 1) (q.flatMap (cP c.age) ++ [.int .i64 id, .int .i64 lane, .int .i64 0, .int .i64 c.age, .int .i64 s.ids.length, .slice (some ⟨w.heap.size + 1, 0, none⟩) es.length es.length])) := hown3; have HG3 : Hid (w2.grownBy w3 (Value.slice qa q.length qcap).ownBlock) := (World.grownBy_alloc w2 _ _).trans hg3; have HL3 : Hid ((Value.slice a3 (q.length + 1) c3).ownBlock = (Value.slice qa q.length qcap).ownBlock ∨ ∃ g, (Value.slice a3 (q.length + 1) c3).ownBlock = some g ∧ w2.heap.size ≤ g) := hloc3.imp (fun h => h) (fun ⟨g, h, hle⟩ => ⟨g, h, Nat.le_trans (by simp) hle⟩); clear hown3 hg3 hloc3))
                      refine hK.out _ _ ?_ (fun hHeld => ?_)
                      · (try dsimp only)
                        (first | go_keep | (refine ⟨?_, ?_, ?_, ?_, ?_⟩ <;> (first | rw [hk1] | rw [hk2] | rw [hk3]) <;> assumption))
                      · clear hK K
                        refine wpAnyH_take (i := 26) (v := ?_) rfl (by kernel_rfl) (by kernel_rfl) (by kernel_rfl) (fun _ _ _ h => h) (Or.inl ⟨by rfl, ?_⟩) (by assumption) ?_
                        rotate_left 1
                        · intro w9 hSw
                          (try dsimp only at hSw)
                          go_simp <;> with_reducible rfl
                        try simp only [Act.put, List.getElem_toArray, List.getElem_cons_zero, List.getElem_cons_succ, List.setIfInBounds_toArray, List.set_cons_zero, List.set_cons_succ]
                        refine wpAnyH_take (i := 27) (v := ?_) rfl (by kernel_rfl) (by kernel_rfl) (by kernel_rfl) (fun _ _ _ h => h) (Or.inl ⟨by rfl, ?_⟩) (by assumption) ?_
                        rotate_left 1
                        · intro w9 hSw
                          (try dsimp only at hSw)
                          go_simp <;> with_reducible rfl
                        try simp only [Act.put, List.getElem_toArray, List.getElem_cons_zero, List.getElem_cons_succ, List.setIfInBounds_toArray, List.set_cons_zero, List.set_cons_succ]
                        refine wpAnyH_ready (rs := [28]) (by kernel_rfl) (by simp) ?_
                        refine AllReadyH.cons rfl (fun K hK => ?_) ?_
                        · go_simp
                          refine hK.out _ _ ?_ (fun hHeld => ?_)
                          · (try dsimp only)
                            (first | go_keep | (refine ⟨?_, ?_, ?_, ?_, ?_⟩ <;> (first | rw [hk1] | rw [hk2] | rw [hk3]) <;> assumption))
                          · clear hK K
                            refine wpAnyH_done (by kernel_rfl) ?_ _
                            go_wp2_with fail
                            go_meet
                            case rel =>
                              have b3 : w.grownBy w3 (Value.slice qa q.length qcap).ownBlock := ((grown_any HG0.out _).trans ⟨HB2.out.os, HB2.out.tape, HB2.out.output, HB2.out.size, fun k hk _ => HB2.out.block k hk⟩).trans HG3.out
                              have hsz2 : w.heap.size + 1 ≤ w2.heap.size := by
                                have := HB2.out.size
                                rw [← hs0]; exact this
                              have nn : (Value.slice a3 (q.length + 1) c3).ownBlock ≠ some yb := by
                                rcases HL3.out with e | ⟨g, e, hg⟩
                                · rw [e]; exact qne
                                · rw [e]; intro h; cases h; omega
                              have ee : Sl w3 49 3 (.slice (some ⟨w.heap.size + 1, 0, none⟩) es.length es.length) es.length (es.flatMap cE) := HS2.out.grown HG3.out fun g hg e => by
                                obtain rfl : w.heap.size + 1 = g := by simpa [Value.ownBlock] using hg
                                have := Sl.lt HY.out.row e
                                omega
                              refine ⟨⟨w.heap.size + 1, .slice a3 (q.length + 1) c3, by omega, ?_, ?_, ?_, ?_⟩, ?_, ?_⟩
                              · have := HX3.out.set 9 (.slice a3 (q.length + 1) c3)
                                rwa [set9] at this
                              · exact Sl.put_last (Sl.grown HN3.out (grown_set _ _ _ _) (fun g hg e => nn (by rw [hg]; exact e.symm)))
                              · exact ee.grown (grown_set _ _ _ _) (fun g hg e => by
                                  obtain rfl : w.heap.size + 1 = g := by simpa [Value.ownBlock] using hg
                                  injection e with e; omega)
                              · exact HL3.out.imp (fun h => h) (fun ⟨g, h, hle⟩ => ⟨g, h, by omega⟩)
                              · exact (Only.of_grown b3 (S := fun k => k = yb ∨ (Value.slice qa q.length qcap).ownBlock = some k) fun k h => .inr h).set (.inl (.inl rfl))
                              · rw [World.cell?_setCell_other _ _ _ _ (by intro e; injection e with e; omega)]; exact x33
                        exact AllReadyH.nil
                    exact AllReadyH.nil
                exact AllReadyH.nil
            refine AllReadyH.cons rfl (fun K hK => ?_) ?_
            · go_simp
              refine hK.out _ _ ?_ (fun hHeld => ?_)
              · (try dsimp only)
                (first | go_keep | (refine ⟨?_, ?_, ?_, ?_, ?_⟩ <;> (first | rw [hk1] | rw [hk2] | rw [hk3]) <;> assumption))
              · clear hK K
                refine wpAnyH_ready (rs := [4]) (by kernel_rfl) (by simp) ?_
                refine AllReadyH.cons rfl (fun K hK => ?_) ?_
                · go_simp
                  refine hK.out _ _ ?_ (fun hHeld => ?_)
                  · (try dsimp only)
                    (first | go_keep | (refine ⟨?_, ?_, ?_, ?_, ?_⟩ <;> (first | rw [hk1] | rw [hk2] | rw [hk3]) <;> assumption))
                  · clear hK K
                    refine wpAnyH_ready (rs := [25]) (by kernel_rfl) (by simp) ?_
                    refine AllReadyH.cons rfl (fun K hK => ?_) ?_
                    · (first | (refine step_len_subm rfl _ rfl sb s.ids rfl (by first | exact hsub0 | exact hsub2) ?_) | (go_at_call 167; refine hC.mono ?_; rintro e w2 ⟨rfl, hS2, hb2⟩; have x12 := jcell_after hb2 x1; have x22 := jcell_after hb2 x2; have x32 := jcell_after hb2 x3; have y12 := jcell_after hb2 y1; have y92 := jcell_after hb2 y9; have y92o : ∀ o, (w2.alloc o).cell? ⟨yb, 9, none⟩ = some (.slice qa q.length qcap) := (fun o => jcell_after (below_new w2 o) y92); have y102 := jcell_after hb2 y10; have f92 : w2.frozen? ⟨yb, 9, none⟩ = false := frozen_after hb2 (jcell_lt y9) f9; have hsub2 := hsub0.later hb2; have HS2 : Hid (Sl w2 49 3 (.slice (some ⟨w.heap.size + 1, 0, none⟩) es.length es.length) es.length (es.flatMap cE)) := (by rw [← hs0]; exact hS2); have HB2 : Hid (Below w0.drew.heap.size w0.drew w2) := hb2; have HR2 : Hid (Sl w2 193 6 (.slice qa q.length qcap) q.length (q.flatMap (cP c.age))) := Sl.kept HR0.out (fun g hg => hb2.block g (Sl.lt HR0.out hg)); have HX2 : Hid (Bx w2 yb 201 (yardCells c mb (.slice qa q.length qcap) sb s.outs.length ov)) := (hb2.block yb (jcell_lt y9)).trans HB0.out; clear hS2 hb2) | (refine step_append_sl rfl _ _ 190 rfl _ i0 _ 6 64 Tryz.underlying190 hi0 hz0 hz1 hz2 rfl (by decide) (.slice qa q.length qcap) _ _ rfl (Sl.mk HR2.out _) ⟨w2.heap.size, 0, none⟩ 1 1 [.int .i64 id, .int .i64 lane, .int .i64 0, .int .i64 c.age, .int .i64 s.ids.length, .slice (some ⟨w.heap.size + 1, 0, none⟩) es.length es.length] rfl rfl (cells_new w2 _ _) (by simp [Value.oneCell']) q1.out q2.out ?_; intro v3 w3 hown3 hg3 hloc3; obtain ⟨a3, c3, rfl⟩ := hown3.form; have x13 := World.grownBy.cell hg3 (jcell_after (below_new w2 _) x12) (fun e => qnw e.symm); have x23 := World.grownBy.cell hg3 (jcell_after (below_new w2 _) x22) (fun e => qnw e.symm); have x33 := World.grownBy.cell hg3 (jcell_after (below_new w2 _) x32) (fun e => qnw e.symm); have HX3 : Hid (Bx w3 yb 201 (yardCells c mb (.slice qa q.length qcap) sb s.outs.length ov)) := (HX2.out.mk _).grown hg3 (fun e => qne e.symm); have y13 : w3.cell? ⟨yb, 1, none⟩ = some (.int .i64 c.age) := HX3.out.cell (i := 1) rfl; have y93 : w3.cell? ⟨yb, 9, none⟩ = some (.slice qa q.length qcap) := HX3.out.cell (i := 9) rfl; have y103 : w3.cell? ⟨yb, 10, none⟩ = some (.map (some sb)) := HX3.out.cell (i := 10) rfl; have f93 := HX3.out.fr 9; have HN3 : Hid (Sl w3 193 6 (.slice a3 (q.length + 1) c3) (q.length + 1) (q.flatMap (cP c.age) ++ [.int .i64 id, .int .i64 lane, .int .i64 0, .int .i64 c.age, .int .i64 s.ids.length, .slice (some ⟨w.heap.size + 1, 0, none⟩) es.length es.length])) := hown3; have HG3 : Hid (w2.grownBy w3 (Value.slice qa q.length qcap).ownBlock) := (World.grownBy_alloc w2 _ _).trans hg3; have HL3 : Hid ((Value.slice a3 (q.length + 1) c3).ownBlock = (Value.slice qa q.length qcap).ownBlock ∨ ∃ g, (Value.slice a3 (q.length + 1) c3).ownBlock = some g ∧ w2.heap.size ≤ g) := hloc3.imp (fun h => h) (fun ⟨g, h, hle⟩ => ⟨g, h, Nat.le_trans (by simp) hle⟩); clear hown3 hg3 hloc3))
                      refine hK.out _ _ ?_ (fun hHeld => ?_)
                      · (try dsimp only)
                        (first | go_keep | (refine ⟨?_, ?_, ?_, ?_, ?_⟩ <;> (first | rw [hk1] | rw [hk2] | rw [hk3]) <;> assumption))
                      · clear hK K
                        refine wpAnyH_take (i := 26) (v := ?_) rfl (by kernel_rfl) (by kernel_rfl) (by kernel_rfl) (fun _ _ _ h => h) (Or.inl ⟨by rfl, ?_⟩) (by assumption) ?_
                        rotate_left 1
                        · intro w9 hSw
                          (try dsimp only at hSw)
                          go_simp <;> with_reducible rfl
                        try simp only [Act.put, List.getElem_toArray, List.getElem_cons_zero, List.getElem_cons_succ, List.setIfInBounds_toArray, List.set_cons_zero, List.set_cons_succ]
                        refine wpAnyH_take (i := 27) (v := ?_) rfl (by kernel_rfl) (by kernel_rfl) (by kernel_rfl) (fun _ _ _ h => h) (Or.inl ⟨by rfl, ?_⟩) (by assumption) ?_
                        rotate_left 1
                        · intro w9 hSw
                          (try dsimp only at hSw)
                          go_simp <;> with_reducible rfl
                        try simp only [Act.put, List.getElem_toArray, List.getElem_cons_zero, List.getElem_cons_succ, List.setIfInBounds_toArray, List.set_cons_zero, List.set_cons_succ]
                        refine wpAnyH_ready (rs := [28]) (by kernel_rfl) (by simp) ?_
                        refine AllReadyH.cons rfl (fun K hK => ?_) ?_
                        · go_simp
                          refine hK.out _ _ ?_ (fun hHeld => ?_)
                          · (try dsimp only)
                            (first | go_keep | (refine ⟨?_, ?_, ?_, ?_, ?_⟩ <;> (first | rw [hk1] | rw [hk2] | rw [hk3]) <;> assumption))
                          · clear hK K
                            refine wpAnyH_done (by kernel_rfl) ?_ _
                            go_wp2_with fail
                            go_meet
                            case rel =>
                              have b3 : w.grownBy w3 (Value.slice qa q.length qcap).ownBlock := ((grown_any HG0.out _).trans ⟨HB2.out.os, HB2.out.tape, HB2.out.output, HB2.out.size, fun k hk _ => HB2.out.block k hk⟩).trans HG3.out
                              have hsz2 : w.heap.size + 1 ≤ w2.heap.size := by
                                have := HB2.out.size
                                rw [← hs0]; exact this
                              have nn : (Value.slice a3 (q.length + 1) c3).ownBlock ≠ some yb := by
                                rcases HL3.out with e | ⟨g, e, hg⟩
                                · rw [e]; exact qne
                                · rw [e]; intro h; cases h; omega
                              have ee : Sl w3 49 3 (.slice (some ⟨w.heap.size + 1, 0, none⟩) es.length es.length) es.length (es.flatMap cE) := HS2.out.grown HG3.out fun g hg e => by
                                obtain rfl : w.heap.size + 1 = g := by simpa [Value.ownBlock] using hg
                                have := Sl.lt HY.out.row e
                                omega
                              refine ⟨⟨w.heap.size + 1, .slice a3 (q.length + 1) c3, by omega, ?_, ?_, ?_, ?_⟩, ?_, ?_⟩
                              · have := HX3.out.set 9 (.slice a3 (q.length + 1) c3)
                                rwa [set9] at this
                              · exact Sl.put_last (Sl.grown HN3.out (grown_set _ _ _ _) (fun g hg e => nn (by rw [hg]; exact e.symm)))
                              · exact ee.grown (grown_set _ _ _ _) (fun g hg e => by
                                  obtain rfl : w.heap.size + 1 = g := by simpa [Value.ownBlock] using hg
                                  injection e with e; omega)
                              · exact HL3.out.imp (fun h => h) (fun ⟨g, h, hle⟩ => ⟨g, h, by omega⟩)
                              · exact (Only.of_grown b3 (S := fun k => k = yb ∨ (Value.slice qa q.length qcap).ownBlock = some k) fun k h => .inr h).set (.inl (.inl rfl))
                              · rw [World.cell?_setCell_other _ _ _ _ (by intro e; injection e with e; omega)]; exact x33
                        exact AllReadyH.nil
                    exact AllReadyH.nil
                exact AllReadyH.nil
            exact AllReadyH.nil
        exact AllReadyH.nil
    exact AllReadyH.nil
  case rest =>
    obtain ⟨⟨ge, qv', hge, hB, hR, hE, hL⟩, hO, hX⟩ := hcut
    rename World => wz
    have h := HY.out
    have hsby : sb ≠ yb := h.sub.ne_box h.box
    have hsz : Subm wz sb s.ids := h.sub.same (hO.block sb h.sub.lt (fun e => by
      rcases e with e | e
      · exact hsby e
      · exact h.sub.ne_sl h.row e))
    obtain ⟨D, hm1, hm2, hm3⟩ := hsz
    obtain ⟨w4, hrun, ho4, hg4⟩ := World.ownsMap.update (w := wz.drew) hm1 lawI underS (by unfold maxLen; omega) (keyI (n := id) (by omega)) (val := .agg #[]) unitElem_mk
    have HU : Hid (Subm w4 sb (s.ids ++ [id])) := Subm.put hm1.isMap (hm1.tidy lawI) hm2 hm3 hnew ho4
    have z10 : wz.cell? ⟨yb, 10, none⟩ = some (.map (some sb)) := hB.cell (i := 10) rfl
    have HB : Hid (Bx wz yb 201 (yardCells c mb qv' sb s.outs.length ov)) := hB
    have HR : Hid (Sl wz 193 6 qv' (q.length + 1) ((q ++ [((⟨id, lane, 0, s.ids.length, es⟩ : Ch), (.slice (some ⟨ge, 0, none⟩) es.length es.length : Value))]).flatMap (cP c.age))) := hR
    have HE : Hid (Sl wz 49 3 (.slice (some ⟨ge, 0, none⟩) es.length es.length) es.length (es.flatMap cE)) := hE
    have HL : Hid (qv'.ownBlock = (Value.slice qa q.length qcap).ownBlock ∨ ∃ g, qv'.ownBlock = some g ∧ w.heap.size ≤ g) := hL
    have HO : Hid (Only w wz (fun k => k = yb ∨ (Value.slice qa q.length qcap).ownBlock = some k)) := hO
    have HG4 : Hid (wz.grownBy w4 (some sb)) := ⟨hg4.os, hg4.tape, hg4.output, hg4.size, hg4.block⟩
    have HM : Hid (Subm wz sb s.ids) := ⟨D, hm1, hm2, hm3⟩
    clear hB hR hE hL hO hm1 hm2 hm3 ho4 hg4 HB0 HR0 HG0 hC hsub0 h x1 x2 x3 y1 y9 y10 f9 hk1 hk2 hk3
    go_wp2_with fail
    go_region_law (fail)
    all_goals
      have h := HY.out
      have hsbl : sb < w.heap.size := h.sub.lt
      have nr : ∀ g, qv'.ownBlock = some g → g ≠ sb := fun g hg e => by
        subst e
        exact HM.out.ne_sl HR.out hg
      have old : ∀ k, k < w.heap.size → k ≠ yb → k ≠ sb → (Value.slice qa q.length qcap).ownBlock ≠ some k → w4.heap[k]? = w.heap[k]? := fun k hk h1 h2 h3 => (HG4.out.block k (Nat.lt_of_lt_of_le hk HO.out.size) (by simpa using h2)).trans (HO.out.block k hk (fun e => by
        rcases e with e | e
        · exact h1 e
        · exact h3 e))
      have O : Only w w4 S := (HO.out.mono fun k hk => by
          rcases hk with hk | hk
          · rw [hk]; exact h.fy
          · exact h.fq k hk).trans (Only.of_grown HG4.out (S := fun k => k = sb) fun k hk => by cases hk; rfl) fun k hk => by rw [hk]; exact .inl h.fs
      refine bodyPost_end (v := .tuple #[]) (results_none (by kernel_rfl) _ _ _) rfl ⟨rfl, ⟨q ++ [((⟨id, lane, 0, s.ids.length, es⟩ : Ch), (.slice (some ⟨ge, 0, none⟩) es.length es.length : Value))], sb, qv', ov, ?_⟩, O⟩
      refine ⟨by rw [List.map_append, h.qs]; rfl, HB.out.grown HG4.out (by simpa using hsby.symm), ?_, fun x hx => ?_, HU.out, h.ne, ?_, .inl h.fy, .inl h.fs, fun g hg => ?_, fun g hg => .inl (h.fo g hg), fun x hx g hg => ?_⟩
      · rw [List.length_append]
        exact HR.out.grown HG4.out (fun g hg e => nr g hg (by injection e with e; exact e.symm))
      · rcases List.mem_append.1 hx with hx | hx
        · have he := h.eds x hx
          exact he.kept fun k hk => old k (he.lt hk) (fun e => he.ne h.box (by decide) (by rw [hk, e])) (fun e => h.sub.ne_sl he (by rw [hk, e])) (he.apart h.row (by decide) hk)
        · obtain rfl := List.mem_singleton.1 hx
          exact HE.out.grown HG4.out (fun g hg e => by
            obtain rfl : ge = g := by simpa [Value.ownBlock] using hg
            injection e with e; omega)
      · exact h.outs.kept fun k hk => old k (h.outs.lt hk) (fun e => h.outs.ne h.box (by decide) (by rw [hk, e])) (fun e => h.sub.ne_sl h.outs (by rw [hk, e])) (h.outs.apart h.row (by decide) hk)
      · rcases HL.out with e | ⟨g', e, hg'⟩
        · rw [e] at hg; exact .inl (h.fq g hg)
        · rw [e] at hg; cases hg; exact .inr hg'
      · rcases List.mem_append.1 hx with hx | hx
        · exact .inl (h.fe x hx g hg)
        · obtain rfl := List.mem_singleton.1 hx
          cases hg; exact .inr hge
end Go.Proofs.YtgamgomepdfgdaaGreat
