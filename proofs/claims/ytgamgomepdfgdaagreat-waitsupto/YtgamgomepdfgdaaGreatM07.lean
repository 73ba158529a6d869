import Derived.Test.YtgamgomepdfgdaaGreatM06
namespace Go.Proofs.YtgamgomepdfgdaaGreat
open Go.RowKit

theorem grown_any {w w' : World} (h : w.grownBy w' none) (row : Option Nat) : w.grownBy w' row := ⟨h.os, h.tape, h.output, h.size, fun k hk _ => h.block k hk (by simp)⟩
theorem cell_drew (w : World) (a : Addr) : w.drew.cell? a = w.cell? a := rfl
theorem Sl.mkd {w : World} {e : TypeId} {size n : Nat} {v : Value} {xs : List Value} (h : Sl w e size v n xs) (o : Obj) : Sl (w.alloc o).drew e size v n xs := h.mk o

theorem below3 (w : World) (o : Obj) (a b c : Value) : Below w.heap.size w ((((w.alloc o).setCell ⟨w.heap.size, 0, none⟩ a).setCell ⟨w.heap.size, 1, none⟩ b).setCell ⟨w.heap.size, 2, none⟩ c) :=
  below_set (below_set (below_set (below_new w o) (Nat.le_refl _) _ _) (Nat.le_refl _) _ _) (Nat.le_refl _) _ _
theorem drop_sl {w : World} {e : TypeId} {g off cap n : Nat} {x0 x1 x2 : Value} {xs : List Value} (h : Sl w e 3 (.slice (some ⟨g, off, none⟩) (n + 1) cap) (n + 1) (x0 :: x1 :: x2 :: xs)) (z0 z1 z2 : Value) :
    Sl (((w.setCell ⟨g, off, none⟩ z0).setCell ⟨g, off + 1, none⟩ z1).setCell ⟨g, off + 2, none⟩ z2) e 3 (.slice (some ⟨g, if cap - 1 = 0 then off else off + 3, none⟩) n (cap - 1)) n xs := by
  have h1 := ((h.set 0 z0).set 1 z1).set 2 z2
  have h2 := h1.tail (k := 1) (by omega) (off' := off + 3) (.inl (by omega))
  simpa using h2
theorem drop_world {w W : World} {yb i g : Nat} {t e : TypeId} {cs : Array Value} {v' : Value} {n : Nat} {xs : List Value} (hB : Bx w yb t cs) (hS : Sl W e 3 v' n xs) (hg : w.grownBy W (some g)) (hne : g ≠ yb) (hv : v'.ownBlock = some g) (o : Obj) :
    Bx ((W.setCell ⟨yb, i, none⟩ v').alloc o).drew yb t (cs.setIfInBounds i v') ∧ Sl ((W.setCell ⟨yb, i, none⟩ v').alloc o).drew e 3 v' n xs ∧ Only w ((W.setCell ⟨yb, i, none⟩ v').alloc o).drew (fun k => k = yb ∨ some g = some k) := by
  refine ⟨((hB.grown hg (by simpa using hne.symm)).set i v').mkd o, (hS.grown (grown_set _ _ _ _) (fun k hk e => ?_)).mkd o, ?_⟩
  · rw [hv] at hk
    cases hk; cases e; exact hne rfl
  · refine Only.trans (Only.of_grown hg fun k h => .inr h) (S' := fun k => k = yb) ?_ fun k h => .inl (.inl h)
    exact Only.trans (Only.of_grown (grown_set W yb i v') (S := fun k => k = yb) fun k h => by cases h; rfl) (S' := fun _ => False) (Only.of_below (below_new_drew _ _)) fun k h => h.elim
theorem grown3 (w : World) (g a b c : Nat) (x y z : Value) : w.grownBy (((w.setCell ⟨g, a, none⟩ x).setCell ⟨g, b, none⟩ y).setCell ⟨g, c, none⟩ z) (some g) := ((grown_set w g a x).trans (grown_set _ g b y)).trans (grown_set _ g c z)
/-- blocks of two types are two -/
theorem Sl.ne {w : World} {e t : TypeId} {size n b : Nat} {v : Value} {xs : List Value} {cs : Array Value} (h : Sl w e size v n xs) (hB : Bx w b t cs) (het : e ≠ t) : v.ownBlock ≠ some b := fun hv => by
  obtain ⟨cur, hc⟩ := h.typed hv
  unfold Bx at hB
  rw [hB] at hc
  injection hc with hc
  injection hc with _ h2 _
  exact het h2.symm
theorem Bx.ne {w : World} {s t : TypeId} {b c : Nat} {cs ds : Array Value} (h : Bx w c s ds) (hB : Bx w b t cs) (het : s ≠ t) : c ≠ b := fun hv => by
  subst hv
  unfold Bx at h hB
  rw [hB] at h
  injection h with h
  injection h with _ h2 _
  exact het h2.symm

set_option maxRecDepth 100000 in
set_option maxHeartbeats 1000000 in
/-- one more at the end -/
theorem outAdd (yb i n : Nat) (t : TypeId) (o0 o1 o2 : Int) (v : Value) (cs : Array Value) (xs : List Value) (w : World) (hB : Bx w yb t cs) (hv : cs[i]? = some v) (hS : Sl w 99 3 v n xs) (hne : v.ownBlock ≠ some yb) (hn : n < 1048576000) :
    Calls Tryz.prog 205 #[.pointer (some ⟨yb, i, none⟩), .agg #[.int .i64 o0, .int .i64 o1, .int .i64 o2]] w fun e w' => e = .returned (.tuple #[]) ∧ ∃ v', Bx w' yb t (cs.setIfInBounds i v') ∧ Sl w' 99 3 v' (n + 1) (xs ++ [.int .i64 o0, .int .i64 o1, .int .i64 o2]) ∧ (v'.ownBlock = v.ownBlock ∨ ∃ g, v'.ownBlock = some g ∧ w.heap.size ≤ g) ∧ Only w w' (fun k => k = yb ∨ v.ownBlock = some k) := by
  obtain ⟨i0, hi, hz0, hz1, hz2⟩ := info_parts info_out
  obtain ⟨oa, ocap, rfl⟩ := hS.form
  have q1 : Hid (n + 1 ≤ maxLen) := by show _ ≤ _; unfold maxLen; omega
  have q2 : Hid ((n + 1) * 24 ≤ 140737488355328) := Nat.le_trans (Nat.mul_le_mul_right 24 (show n + 1 ≤ 1048576000 by omega)) (by decide)
  have HB : Hid (Bx w yb t cs) := hB
  have HS : Hid (Sl w 99 3 (.slice oa n ocap) n xs) := hS
  have hlt := hB.lt
  clear hB hS
  go_enter Tryz.func205, Tryz.ntmps205
  go_upto_region 1 with fail
  have HB1 : Hid (Bx (w.alloc (.cells #[.int .i64 o0, .int .i64 o1, .int .i64 o2] 99)) yb t cs) := HB.out.mk _
  have HS1 : Hid (Sl (w.alloc (.cells #[.int .i64 o0, .int .i64 o1, .int .i64 o2] 99)) 99 3 (.slice oa n ocap) n xs) := HS.out.mk _
  have HG1 : Hid (w.grownBy (w.alloc (.cells #[.int .i64 o0, .int .i64 o1, .int .i64 o2] 99)) none) := World.grownBy_alloc _ _ _
  have d0 : (w.alloc (.cells #[.int .i64 o0, .int .i64 o1, .int .i64 o2] 99)).cell? ⟨w.heap.size, 0, none⟩ = some (.int .i64 o0) := by simp
  have d1 : (w.alloc (.cells #[.int .i64 o0, .int .i64 o1, .int .i64 o2] 99)).cell? ⟨w.heap.size, 1, none⟩ = some (.int .i64 o1) := by simp
  have d2 : (w.alloc (.cells #[.int .i64 o0, .int .i64 o1, .int .i64 o2] 99)).cell? ⟨w.heap.size, 2, none⟩ = some (.int .i64 o2) := by simp
  generalize hw1 : w.alloc (.cells #[.int .i64 o0, .int .i64 o1, .int .i64 o2] 99) = w1 at *
  clear hw1
  have c12 := HB1.out.cell hv
  have f12 := HB1.out.fr i
  have c12' : ∀ o, (w1.alloc o).cell? ⟨yb, i, none⟩ = some (.slice oa n ocap) := fun o => (HB1.out.mk o).cell hv
  go_region_law ((refine step_append_sl rfl _ _ 161 rfl _ i0 _ 3 24 Tryz.underlying161 hi hz0 hz1 hz2 rfl (by decide) (.slice oa n ocap) _ _ rfl (Sl.mk HS1.out _) ⟨w1.heap.size, 0, none⟩ 1 1 [.int .i64 o0, .int .i64 o1, .int .i64 o2] rfl rfl (cells_new w1 _ _) (by simp [Value.oneCell']) q1.out q2.out ?_; intro v3 w3 hown3 hg3 hloc3; obtain ⟨a3, c3, rfl⟩ := hown3.form; have HB3 : Hid (Bx w3 yb t cs) := Bx.grown (HB1.out.mkd _) hg3 (fun e => hne e.symm); have d12 := HB3.out.cell hv; have f3 := HB3.out.fr i; have O3 : Hid (Sl w3 99 3 (.slice a3 (n + 1) c3) (n + 1) (xs ++ [.int .i64 o0, .int .i64 o1, .int .i64 o2])) := hown3; have G3 : Hid (w.grownBy w3 (Value.slice oa n ocap).ownBlock) := (grown_any HG1.out _).trans ((World.grownBy_alloc w1 _ _).trans ⟨hg3.os, hg3.tape, hg3.output, hg3.size, hg3.block⟩); have L3 : Hid ((Value.slice a3 (n + 1) c3).ownBlock = (Value.slice oa n ocap).ownBlock ∨ ∃ g, (Value.slice a3 (n + 1) c3).ownBlock = some g ∧ w.heap.size ≤ g) := hloc3.imp (fun h => h) (fun ⟨g, h, hle⟩ => ⟨g, h, Nat.le_trans HG1.out.size (Nat.le_trans (le_mkd w1 _) hle)⟩); clear hown3 hg3 hloc3))
  all_goals
    have nnb : (Value.slice a3 (n + 1) c3).ownBlock ≠ some yb := by
      rcases L3.out with h | ⟨g, h, hg⟩
      · rw [h]; exact hne
      · rw [h]; intro e; cases e; omega
    refine bodyPost_end (v := .tuple #[]) (results_none (by kernel_rfl) _ _ _) rfl ⟨rfl, _, HB3.out.set i _, Sl.grown O3.out (grown_set _ _ _ _) (fun g hg e => nnb (by rw [hg]; exact e.symm)), L3.out, ?_⟩
    exact Only.trans (Only.of_grown G3.out fun k h => .inr h) (Only.of_grown (grown_set _ _ _ _) (S := fun k => k = yb) fun k h => by cases h; rfl) fun k h => .inl (.inl h)

set_option maxRecDepth 100000 in
set_option maxHeartbeats 1000000 in
/-- the first one, if there is one -/
theorem outFirst_some (yb i n : Nat) (t : TypeId) (x0 x1 x2 : Int) (v : Value) (cs : Array Value) (xs : List Value) (w : World) (hB : Bx w yb t cs) (hv : cs[i]? = some v) (hS : Sl w 99 3 v (n + 1) (.int .i64 x0 :: .int .i64 x1 :: .int .i64 x2 :: xs)) :
    Calls Tryz.prog 173 #[.pointer (some ⟨yb, i, none⟩)] w fun e w' => e = .returned (.tuple #[.agg #[.int .i64 x0, .int .i64 x1, .int .i64 x2], .bool true]) ∧ Below w.heap.size w w' := by
  obtain ⟨g, off, cap, rfl, hnc, hcm⟩ := hS.addr (by omega)
  have c0 := hB.cell hv
  have d0 : w.cell? ⟨g, off, none⟩ = some (.int .i64 x0) := hS.cell (j := 0) rfl
  have d1 : w.cell? ⟨g, off + 1, none⟩ = some (.int .i64 x1) := hS.cell (j := 1) rfl
  have d2 : w.cell? ⟨g, off + 2, none⟩ = some (.int .i64 x2) := hS.cell (j := 2) rfl
  have hl := hB.lt
  have hg : g < w.heap.size := hS.lt rfl
  have hne : ((n : Int) + 1 == 0) = false := by simp; omega
  clear hB hS
  go_enter Tryz.func173, Tryz.ntmps173
  go_wp2
  refine bodyPost_ret (by simp [results, Tryz.results173, go_sem]; rfl) rfl ⟨by rfl, ?_⟩
  exact below_new _ _

set_option maxRecDepth 100000 in
set_option maxHeartbeats 1000000 in
theorem outFirst_none (yb i : Nat) (t : TypeId) (v : Value) (cs : Array Value) (w : World) (hB : Bx w yb t cs) (hv : cs[i]? = some v) (hS : Sl w 99 3 v 0 []) :
    Calls Tryz.prog 173 #[.pointer (some ⟨yb, i, none⟩)] w fun e w' => e = .returned (.tuple #[.agg #[.int .i64 0, .int .i64 0, .int .i64 0], .bool false]) ∧ Below w.heap.size w w' := by
  obtain ⟨a, cap, rfl⟩ := hS.form
  have c0 := hB.cell hv
  have hl := hB.lt
  clear hB hS
  go_enter Tryz.func173, Tryz.ntmps173
  go_wp2
  refine bodyPost_ret (by simp [results, Tryz.results173, go_sem]; rfl) rfl ⟨by rfl, ?_⟩
  exact below_new _ _

end Go.Proofs.YtgamgomepdfgdaaGreat

namespace Go.Proofs.YtgamgomepdfgdaaGreat
open Go.RowKit

theorem Only.set {w w1 : World} {b i : Nat} {u : Value} {S : Nat → Prop} (h : Only w w1 S) (hb : S b ∨ w.heap.size ≤ b) : Only w (w1.setCell ⟨b, i, none⟩ u) S :=
  h.trans (Only.of_grown (grown_set _ _ _ _) (S := fun k => k = b) fun k hk => by cases hk; rfl) fun k hk => by subst hk; exact hb
theorem Only.drew {w w' : World} {S : Nat → Prop} (h : Only w.drew w' S) : Only w w' S := ⟨h.os, h.tape, h.output, h.size, h.block⟩
theorem Only.mono {w w' : World} {S T : Nat → Prop} (h : Only w w' S) (hST : ∀ k, S k → T k) : Only w w' T := ⟨h.os, h.tape, h.output, h.size, fun k hk hn => h.block k hk (fun x => hn (hST k x))⟩

set_option maxRecDepth 100000 in
set_option maxHeartbeats 1000000 in
/-- an outcome more -/
theorem yEnd (yb n m : Nat) (id kind : Nat) (v : Value) (cs : Array Value) (xs : List Value) (w : World) (hB : Bx w yb 201 cs) (h14 : cs[14]? = some (.int .i64 m)) (h15 : cs[15]? = some v) (hS : Sl w 99 3 v n xs) (hn : n < 1048576000) (hm : m < 1048576000) :
    Calls Tryz.prog 170 #[.pointer (some ⟨yb, 0, none⟩), .int .i64 id, .int .i64 kind] w fun e w' => e = .returned (.tuple #[]) ∧ ∃ v', Bx w' yb 201 ((cs.setIfInBounds 14 (.int .i64 ((m : Int) + 1))).setIfInBounds 15 v') ∧ Sl w' 99 3 v' (n + 1) (xs ++ [.int .i64 ((m : Int) + 1), .int .i64 id, .int .i64 kind]) ∧ (v'.ownBlock = v.ownBlock ∨ ∃ g, v'.ownBlock = some g ∧ w.heap.size ≤ g) ∧ Only w w' (fun k => k = yb ∨ v.ownBlock = some k) := by
  have c14 := hB.cell h14
  have f14 := hB.fr 14
  have hw : IntKind.i64.wrap ((m : Int) + 1) = (m : Int) + 1 := wrap_i64 (by omega) (by omega)
  have B1 := hB.set 14 (.int .i64 ((m : Int) + 1))
  have hsz : 15 < cs.size := (Array.getElem?_eq_some_iff.1 h15).1
  have k15 : (cs.setIfInBounds 14 (.int .i64 ((m : Int) + 1)))[15]? = some v := by rw [Array.getElem?_setIfInBounds_ne (by decide)]; exact h15
  have k14 : (cs.setIfInBounds 14 (.int .i64 ((m : Int) + 1)))[14]? = some (.int .i64 ((m : Int) + 1)) := by rw [Array.getElem?_setIfInBounds]; simp; omega
  have hne := hS.ne hB (by decide)
  have S1 : Sl (w.setCell ⟨yb, 14, none⟩ (.int .i64 ((m : Int) + 1))) 99 3 v n xs := hS.grown (grown_set _ _ _ _) (fun g hg e => hne (by rw [hg]; exact e.symm))
  have O1 : Hid (Only w (w.setCell ⟨yb, 14, none⟩ (.int .i64 ((m : Int) + 1))) (fun k => k = yb ∨ v.ownBlock = some k)) := (Only.refl w _).set (.inl (.inl rfl))
  have hA : ∀ w2, w2.heap = (w.setCell ⟨yb, 14, none⟩ (.int .i64 ((m : Int) + 1))).heap → Calls Tryz.prog 205 #[.pointer (some ⟨yb, 15, none⟩), .agg #[.int .i64 ((m : Int) + 1), .int .i64 id, .int .i64 kind]] w2 fun e w' => e = .returned (.tuple #[]) ∧ ∃ v', Bx w' yb 201 ((cs.setIfInBounds 14 (.int .i64 ((m : Int) + 1))).setIfInBounds 15 v') ∧ Sl w' 99 3 v' (n + 1) (xs ++ [.int .i64 ((m : Int) + 1), .int .i64 id, .int .i64 kind]) ∧ (v'.ownBlock = v.ownBlock ∨ ∃ g, v'.ownBlock = some g ∧ w2.heap.size ≤ g) ∧ Only w2 w' (fun k => k = yb ∨ v.ownBlock = some k) := fun w2 h2 =>
    outAdd yb 15 n _ _ _ _ v _ xs w2 (by unfold Bx at B1 ⊢; rw [h2]; exact B1) k15 (S1.kept fun g _ => by rw [h2]) hne hn
  have HB1 : Hid (Bx (w.setCell ⟨yb, 14, none⟩ (.int .i64 ((m : Int) + 1))) yb 201 (cs.setIfInBounds 14 (.int .i64 ((m : Int) + 1)))) := B1
  have hcell : (w.setCell ⟨yb, 14, none⟩ (.int .i64 ((m : Int) + 1))).cell? ⟨yb, 14, none⟩ = some (.int .i64 ((m : Int) + 1)) := B1.cell k14
  clear hB hS S1 B1
  go_enter Tryz.func170, Tryz.ntmps170
  go_upto_region 1 with fail
  generalize hw1 : w.setCell ⟨yb, 14, none⟩ (.int .i64 ((m : Int) + 1)) = w1 at *
  have hs1 : w1.heap.size = w.heap.size := by rw [← hw1]; simp
  have hA1 := hA w1.drew rfl
  clear hw1 c14 f14 hA
  go_region_held_law (fun w' => w'.cell? ⟨yb, 14, none⟩ = some (.int .i64 ((m : Int) + 1))) (go_keep) ((go_at_call 205; refine hA1.mono ?_; rintro e w3 ⟨rfl, v3, hB3, hS3, hL3, hO3⟩; have k3 : w3.cell? ⟨yb, 14, none⟩ = some (.int .i64 ((m : Int) + 1)) := hB3.cell (by rw [Array.getElem?_setIfInBounds_ne (by decide)]; exact k14); have HB3 : Hid _ := hB3; have HS3 : Hid _ := hS3; have HL3 : Hid _ := hL3; have HO3 : Hid _ := hO3; clear hB3 hS3 hL3 hO3))
  all_goals
    refine bodyPost_end (v := .tuple #[]) (results_none (by kernel_rfl) _ _ _) rfl ⟨rfl, _, HB3.out, HS3.out, ?_, ?_⟩
    · exact HL3.out.imp (fun h => h) (fun ⟨g, h1, h2⟩ => ⟨g, h1, by rw [← hs1]; exact h2⟩)
    · exact O1.out.trans (Only.drew HO3.out) fun k h => .inl h
end Go.Proofs.YtgamgomepdfgdaaGreat

namespace Go.Proofs.YtgamgomepdfgdaaGreat
open Go.RowKit

/-- who waits: id, lane, how often passed over, the edits' slice -/
abbrev Wt := Nat × Nat × Nat × Value
def cW (x : Wt) : List Value := [.int .i64 x.1, .int .i64 x.2.1, .int .i64 x.2.2.1, x.2.2.2]
def IsSl (v : Value) : Prop := ∃ a n c, v = .slice a n c

theorem info_wait : (Tryz.prog.info? 165).map (fun i => (i.zero, i.size, i.bytes)) = some (some (.agg #[.int .i64 0, .int .i64 0, .int .i64 0, .slice none 0 0]), 4, 48) := by kernel_rfl

/-- without a change -/
def wo (id : Nat) (q : List Wt) : List Wt := q.filter fun x => x.1 != id
theorem wo_hit {id : Nat} {q : List Wt} {k : Nat} (h : k < q.length) (he : q[k].1 = id) : wo id (q.take (k + 1)) = wo id (q.take k) := by
  rw [List.take_succ_eq_append_getElem h, wo, wo, List.filter_append]; simp [he]
theorem wo_miss {id : Nat} {q : List Wt} {k : Nat} (h : k < q.length) (he : q[k].1 ≠ id) : wo id (q.take (k + 1)) = wo id (q.take k) ++ [q[k]] := by
  rw [List.take_succ_eq_append_getElem h, wo, wo, List.filter_append]; simp [he]
theorem wo_len (id : Nat) (q : List Wt) (k : Nat) : (wo id (q.take k)).length ≤ k := by
  refine Nat.le_trans (List.length_filter_le _ _) ?_
  rw [List.length_take]; omega

set_option maxRecDepth 100000 in
set_option maxHeartbeats 1000000 in
theorem refwithout (nb id : Nat) (q : List Wt) (g qcap base : Nat) (cs : Array Value) (w : World) (hB : Bx w nb 163 cs) (hv : cs[10]? = some (.slice (some ⟨g, 0, none⟩) q.length qcap)) (hrow : w.ownsRow base 165 4 (.slice (some ⟨g, 0, none⟩) q.length qcap) q.length (q.flatMap cW)) (hsl : ∀ x ∈ q, IsSl x.2.2.2) (hn : q.length < 1048576) :
    Calls Tryz.prog 176 #[.pointer (some ⟨nb, 0, none⟩), .int .i64 id] w fun e w' => e = .returned (.tuple #[]) ∧ ∃ v', Bx w' nb 163 (cs.setIfInBounds 10 v') ∧ w'.ownsRow w.heap.size 165 4 v' (wo id q).length ((wo id q).flatMap cW) ∧ Only w w' (fun k => k = nb) := by
  obtain ⟨i0, hi, hz0, hz1, hz2⟩ := info_parts info_wait
  have HB : Hid (Bx w nb 163 cs) := hB
  have HC : Hid (∀ i (h : i < q.length) j, j < 4 → w.cell? ⟨g, i * 4 + j, none⟩ = (cW q[i])[j]?) := fun i h j hj => by
    have h1 := hrow.cells (g := g) rfl
    have h2 := flat_get cW 4 (fun _ => rfl) q i j h hj
    have h3 : j < (cW q[i]).length := hj
    rw [List.getElem?_eq_getElem h3] at h2 ⊢
    have := h1 _ _ h2
    rw [addr_add, Nat.zero_add] at this
    exact this
  have hgl : g < w.heap.size := (hrow.lt g rfl).2
  clear hB hrow
  go_enter Tryz.func176, Tryz.ntmps176
  go_wp2
  go_loopw [4, 5] (fun lv iv wr => ∃ k : Nat, k ≤ q.length ∧ iv = .int .i64 k ∧ Hid (wr.ownsRow w.heap.size 165 4 lv (wo id (q.take k)).length ((wo id (q.take k)).flatMap cW)) ∧ Hid (Below w.heap.size w wr)) (fun _ i _ => q.length - (intOf i).toNat)
  case atStart => exact ⟨0, Nat.zero_le _, rfl, World.ownsRow_nil _ _ _ _, Below.refl _ _⟩
  case round =>
    obtain ⟨k, hk, rfl, hr, hb⟩ := hrel
    have hgr := Nat.lt_of_lt_of_le hgl hb.out.size
    have c10 := jcell_after hb.out (HB.out.cell hv)
    by_cases hlk : k < q.length
    · have d0 := jcell_after (v := .int .i64 q[k].1) hb.out (by simpa [cW] using HC.out k hlk 0 (by decide))
      have d1 := jcell_after (v := .int .i64 q[k].2.1) hb.out (by simpa [cW] using HC.out k hlk 1 (by decide))
      have d2 := jcell_after (v := .int .i64 q[k].2.2.1) hb.out (by simpa [cW] using HC.out k hlk 2 (by decide))
      have d3 := jcell_after (v := q[k].2.2.2) hb.out (by simpa [cW] using HC.out k hlk 3 (by decide))
      obtain ⟨ea, en, ec, hev⟩ := hsl _ (List.getElem_mem hlk)
      rw [hev] at d3
      by_cases he : q[k].1 = id
      · have hne : ((q[k].1 : Int) != (id : Int)) = false := by simp [he]
        have HW : Hid (wo id (q.take (k + 1)) = wo id (q.take k)) := wo_hit hlk he
        rw [he] at d0
        clear hne
        go_wp2
        exact ⟨⟨k + 1, hlk, by go_num, by rw [HW.out]; exact hr.out, hb.out⟩, by simp [intOf]; omega⟩
      · have HW : Hid (wo id (q.take (k + 1)) = wo id (q.take k) ++ [q[k]]) := wo_miss hlk he
        have hc : Hid (cW q[k] = [.int .i64 q[k].1, .int .i64 q[k].2.1, .int .i64 q[k].2.2.1, .slice ea en ec]) := by
          show _ = _
          rw [cW, hev]
        have hwl := wo_len id q k
        have hne : ((q[k].1 : Int) == (id : Int)) = false := by simp; omega
        generalize hqk : q[k] = x at *
        clear hev
        have q1 : Hid ((wo id (q.take k)).length + 1 ≤ maxLen) := by show _ ≤ _; unfold maxLen; omega
        have q2 : Hid (((wo id (q.take k)).length + 1) * 48 ≤ 140737488355328) := Nat.le_trans (Nat.mul_le_mul_right 48 (show (wo id (q.take k)).length + 1 ≤ 1048576 by omega)) (by decide)
        have q3 : Hid (∀ o, w.heap.size ≤ (wr.alloc o).heap.size) := fun o => by
          have := hb.out.size
          show w.heap.size ≤ _
          simp; omega
        go_wp2_with (at_builtin; refine wpList_append_own_at _ rfl (.tmp 25) (.tmp 33) _ rfl w.heap.size _ i0 _ 4 48 Tryz.underlying159 hi hz0 hz1 hz2 rfl (by decide) u4 _ _ rfl (World.ownsRow.alloc hr.out _) ⟨wr.heap.size, 0, none⟩ 1 1 [.int .i64 x.1, .int .i64 x.2.1, .int .i64 x.2.2.1, .slice ea en ec] rfl rfl (cells_new wr _ _) (by simp [Value.oneCell']) q1.out q2.out (q3.out _) ?_; intro v3 w3 hown3 hg3 hnil3 hloc3)
        refine ⟨⟨k + 1, hlk, by go_num, ?_, ?_⟩, by simp [intOf]; omega⟩
        · show w3.ownsRow _ _ _ _ _ _
          rw [HW.out, List.flatMap_append, List.length_append]
          have : [x].flatMap cW = cW x := by simp
          rw [this, hc.out]
          exact hown3
        · exact (hb.out.alloc hb.out.size _).grown hg3 (q3.out _) (fun j hj => (World.ownsRow.lt hr.out j hj).1)
    · obtain rfl : k = q.length := by omega
      have hr' := hr
      rw [List.take_length] at hr'
      have BW : Bx wr nb 163 cs := HB.out.grown (row := none) ⟨hb.out.os, hb.out.tape, hb.out.output, hb.out.size, fun k hk _ => hb.out.block k hk⟩ (by simp)
      have f10 := BW.fr 10
      have HBW : Hid (Bx wr nb 163 cs) := BW
      obtain ⟨a4, c4, rfl⟩ := row_shape3 hr'.out
      clear BW hr
      go_wp2
      refine bodyPost_end (v := .tuple #[]) (results_none (by kernel_rfl) _ _ _) rfl ⟨rfl, _, HBW.out.set 10 _, World.ownsRow.kept hr'.out (grown_set _ _ _ _) ?_, ?_⟩
      · refine .inr fun e => ?_
        have h1 := (World.ownsRow.lt hr'.out _ e).1
        have h2 := HB.out.lt
        omega
      · exact Only.trans (Only.of_below hb.out) (Only.of_grown (grown_set _ _ _ _) (S := fun k => k = nb) fun k h => by cases h; rfl) fun k h => .inl h
end Go.Proofs.YtgamgomepdfgdaaGreat

namespace Go.Proofs.YtgamgomepdfgdaaGreat
open Go.RowKit

def lnOf (age : Nat) (x : Wt) : Nat := x.2.1 - x.2.2.1 / age
def ofLane (age L : Nat) (q : List Wt) : List Wt := q.filter fun x => lnOf age x == L
/-- by rank: lane by lane -/
def rk (age : Nat) (q : List Wt) (L : Nat) : List Wt := (List.range L).flatMap fun l => ofLane age l q
theorem rk_succ (age : Nat) (q : List Wt) (L : Nat) : rk age q (L + 1) = rk age q L ++ ofLane age L q := by
  rw [rk, List.range_succ, List.flatMap_append]; simp [rk]
theorem ofLane_hit {age L : Nat} {q : List Wt} {k : Nat} (h : k < q.length) (he : lnOf age q[k] = L) : ofLane age L (q.take (k + 1)) = ofLane age L (q.take k) ++ [q[k]] := by
  rw [List.take_succ_eq_append_getElem h, ofLane, ofLane, List.filter_append]; simp [he]
theorem ofLane_miss {age L : Nat} {q : List Wt} {k : Nat} (h : k < q.length) (he : lnOf age q[k] ≠ L) : ofLane age L (q.take (k + 1)) = ofLane age L (q.take k) := by
  rw [List.take_succ_eq_append_getElem h, ofLane, ofLane, List.filter_append]; simp [he]
theorem ofLane_len (age L : Nat) (q : List Wt) : (ofLane age L q).length ≤ q.length := List.length_filter_le _ _
theorem rk_len (age : Nat) (q : List Wt) : ∀ L, (rk age q L).length ≤ L * q.length
  | 0 => by simp [rk]
  | L + 1 => by
    rw [rk_succ, List.length_append, Nat.add_mul]
    have := rk_len age q L
    have := ofLane_len age L q
    omega

set_option maxRecDepth 100000 in
set_option maxHeartbeats 2000000 in
theorem refranked (nb age : Nat) (q : List Wt) (g qcap base : Nat) (cs : Array Value) (w : World) (hB : Bx w nb 163 cs) (hv : cs[10]? = some (.slice (some ⟨g, 0, none⟩) q.length qcap)) (hage : cs[1]? = some (.int .i64 age)) (ha : 1 ≤ age ∧ age < 9) (hrow : w.ownsRow base 165 4 (.slice (some ⟨g, 0, none⟩) q.length qcap) q.length (q.flatMap cW)) (hsl : ∀ x ∈ q, IsSl x.2.2.2 ∧ x.2.1 < 1000 ∧ x.2.2.1 < 4611686018427387904) (hn : q.length < 1048576) :
    Calls Tryz.prog 184 #[.pointer (some ⟨nb, 0, none⟩)] w fun e w' => ∃ v', e = .returned v' ∧ w'.ownsRow w.heap.size 165 4 v' (rk age q 4).length ((rk age q 4).flatMap cW) ∧ Below w.heap.size w w' := by
  obtain ⟨i0, hi, hz0, hz1, hz2⟩ := info_parts info_wait
  have HB : Hid (Bx w nb 163 cs) := hB
  have HC : Hid (∀ i (h : i < q.length) j, j < 4 → w.cell? ⟨g, i * 4 + j, none⟩ = (cW q[i])[j]?) := fun i h j hj => by
    have h1 := hrow.cells (g := g) rfl
    have h2 := flat_get cW 4 (fun _ => rfl) q i j h hj
    have h3 : j < (cW q[i]).length := hj
    rw [List.getElem?_eq_getElem h3] at h2 ⊢
    have := h1 _ _ h2
    rw [addr_add, Nat.zero_add] at this
    exact this
  have hgl : g < w.heap.size := (hrow.lt g rfl).2
  clear hB hrow
  go_enter Tryz.func184, Tryz.ntmps184
  go_wp2
  go_loopw [3, 4, 5, 6] (fun lv Lv _ _ wr => ∃ L : Nat, L ≤ 4 ∧ Lv = .int .i64 L ∧ Hid (wr.ownsRow w.heap.size 165 4 lv (rk age q L).length ((rk age q L).flatMap cW)) ∧ Hid (Below w.heap.size w wr)) (fun _ Lv _ _ _ => 4 - (intOf Lv).toNat)
  case atStart => exact ⟨0, Nat.zero_le _, rfl, World.ownsRow_nil _ _ _ _, Below.refl _ _⟩
  case round =>
    obtain ⟨L, hL, rfl, hr, hb⟩ := hrel
    by_cases hL4 : L < 4
    · have hrl := rk_len age q L
      have hrl4 : (rk age q L).length ≤ 4 * 1048576 := Nat.le_trans hrl (Nat.mul_le_mul (by omega) (by omega))
      clear hrl
      have hL4i : (L : Int) < 4 := by omega
      go_wp2
      go_loopw [3, 5, 6] (fun lv iv _ wr => ∃ k : Nat, k ≤ q.length ∧ iv = .int .i64 k ∧ Hid (wr.ownsRow w.heap.size 165 4 lv (rk age q L ++ ofLane age L (q.take k)).length ((rk age q L ++ ofLane age L (q.take k)).flatMap cW)) ∧ Hid (Below w.heap.size w wr)) (fun _ i _ _ => q.length - (intOf i).toNat)
      case atStart => exact ⟨0, Nat.zero_le _, rfl, by simpa [ofLane] using hr, hb⟩
      case round =>
        clear hr hb
        obtain ⟨k, hk, rfl, hr, hb⟩ := hrel
        have hgr := Nat.lt_of_lt_of_le hgl hb.out.size
        have c10 := jcell_after hb.out (HB.out.cell hv)
        by_cases hlk : k < q.length
        · have d0 := jcell_after (v := .int .i64 q[k].1) hb.out (by simpa [cW] using HC.out k hlk 0 (by decide))
          have d1 := jcell_after (v := .int .i64 q[k].2.1) hb.out (by simpa [cW] using HC.out k hlk 1 (by decide))
          have d2 := jcell_after (v := .int .i64 q[k].2.2.1) hb.out (by simpa [cW] using HC.out k hlk 2 (by decide))
          have d3 := jcell_after (v := q[k].2.2.2) hb.out (by simpa [cW] using HC.out k hlk 3 (by decide))
          obtain ⟨⟨ea, en, ec, hev⟩, h1000, hp62⟩ := hsl _ (List.getElem_mem hlk)
          rw [hev] at d3
          have hlen1 := ofLane_len age L (q.take k)
          have hl3 : (q.take k).length ≤ 1048576 := by rw [List.length_take]; omega
          have hcW : Hid (cW q[k] = [.int .i64 q[k].1, .int .i64 q[k].2.1, .int .i64 q[k].2.2.1, .slice ea en ec]) := by
            show _ = _
            rw [cW, hev]
          have Hhit : Hid (lnOf age q[k] = L → ofLane age L (q.take (k + 1)) = ofLane age L (q.take k) ++ [q[k]]) := fun h => ofLane_hit hlk h
          have Hmiss : Hid (lnOf age q[k] ≠ L → ofLane age L (q.take (k + 1)) = ofLane age L (q.take k)) := fun h => ofLane_miss hlk h
          generalize hqk : q[k] = x at *
          have BW : Bx wr nb 163 cs := HB.out.grown (row := none) ⟨hb.out.os, hb.out.tape, hb.out.output, hb.out.size, fun k hk _ => hb.out.block k hk⟩ (by simp)
          have hLn := reflane nb x.1 x.2.1 x.2.2.1 age ea en ec cs wr BW hage ha h1000 hp62
          have hlnv : Hid (x.2.1 - x.2.2.1 / age = lnOf age x) := rfl
          rw [hlnv.out] at hLn
          clear hev BW hlnv
          generalize lnOf age x = m at hLn Hhit Hmiss
          generalize hY : rk age q L ++ ofLane age L (q.take k) = Y at hr
          have HY : Hid (rk age q L ++ ofLane age L (q.take k) = Y) := hY
          have hYl : Y.length ≤ 5 * 1048576 := by rw [← hY, List.length_append]; omega
          clear hY hlen1 hl3 hrl4
          go_wp2_with fail
          go_fit hLn
          rintro e w1 ⟨rfl, hb1⟩
          have e0 := jcell_after hb1 d0
          have e1 := jcell_after hb1 d1
          have e2 := jcell_after hb1 d2
          have e3 := jcell_after hb1 d3
          have e10 := jcell_after hb1 c10
          have hg1 := Nat.lt_of_lt_of_le hgr hb1.size
          have B1 : Hid (Below w.heap.size w w1) := hb.out.trans (hb1.mono hb.out.size)
          have R1 : Hid (w1.ownsRow w.heap.size 165 4 u3 Y.length (Y.flatMap cW)) := World.ownsRow.kept (row := none) hr.out ⟨hb1.os, hb1.tape, hb1.output, hb1.size, fun k hk _ => hb1.block k hk⟩ (Classical.em _)
          clear d0 d1 d2 d3 c10 hb1 hLn hr hb
          by_cases hm : m = L
          · have HZ : Hid (rk age q L ++ ofLane age L (q.take (k + 1)) = Y ++ [x]) := by
              show _ = _
              rw [Hhit.out hm, ← List.append_assoc, HY.out]
            have q1 : Hid (Y.length + 1 ≤ maxLen) := by show _ ≤ _; unfold maxLen; omega
            have q2 : Hid ((Y.length + 1) * 48 ≤ 140737488355328) := Nat.le_trans (Nat.mul_le_mul_right 48 (show Y.length + 1 ≤ 6000000 by omega)) (by decide)
            have q3 : Hid (∀ o, w.heap.size ≤ (w1.alloc o).heap.size) := fun o => by
              have := B1.out.size
              show w.heap.size ≤ _
              simp; omega
            subst hm
            clear Hhit Hmiss
            go_wp2_with (at_builtin; refine wpList_append_own_at _ rfl (.tmp 32) (.tmp 40) _ rfl w.heap.size _ i0 _ 4 48 Tryz.underlying159 hi hz0 hz1 hz2 rfl (by decide) u3 _ _ rfl (World.ownsRow.alloc R1.out _) ⟨w1.heap.size, 0, none⟩ 1 1 [.int .i64 x.1, .int .i64 x.2.1, .int .i64 x.2.2.1, .slice ea en ec] rfl rfl (cells_new w1 _ _) (by simp [Value.oneCell']) q1.out q2.out (q3.out _) ?_; intro v3 w3 hown3 hg3 hnil3 hloc3)
            have hrow3 : w3.ownsRow w.heap.size 165 4 v3 (Y ++ [x]).length ((Y ++ [x]).flatMap cW) := by
              rw [List.flatMap_append, List.length_append]
              have : [x].flatMap cW = cW x := by simp
              rw [this, hcW.out]
              exact hown3
            have hb3 : Below w.heap.size w w3 := (B1.out.alloc B1.out.size _).grown hg3 (q3.out _) (fun j hj => (World.ownsRow.lt R1.out j hj).1)
            go_roundw
            case rel => exact ⟨k + 1, hlk, by go_num, by rw [HZ.out]; exact hrow3, hb3⟩
            case measure => simp [intOf]; omega
          · have HZ : Hid (rk age q L ++ ofLane age L (q.take (k + 1)) = Y) := by
              show _ = _
              rw [Hmiss.out hm, HY.out]
            have hne : ((m : Int) == (L : Int)) = false := by simp; omega
            clear Hhit Hmiss
            go_wp2
            go_roundw
            case rel => exact ⟨k + 1, hlk, by go_num, by rw [HZ.out]; exact R1.out, B1.out⟩
            case measure => simp [intOf]; omega
        · obtain rfl : k = q.length := by omega
          rw [List.take_length, ← rk_succ] at hr
          go_wp2
          exact ⟨⟨L + 1, hL4, by go_num, hr, hb⟩, by simp [intOf]; omega⟩
    · obtain rfl : L = 4 := by omega
      go_wp2
      go_ret
      exact ⟨u3, rfl, hr.out, hb.out⟩
end Go.Proofs.YtgamgomepdfgdaaGreat
