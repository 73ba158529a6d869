import Derived.Test.YtgamgomepdfgdaaGreatM30
import Derived.Test.YtgamgomepdfgdaaGreatM14
import Derived.Lib.SliceRun
import Derived.Test.YtgamgomepdfgdaaGreatM21
import Derived.Test.YtgamgomepdfgdaaGreatM20
import Derived.Test.YtgamgomepdfgdaaGreatM24
namespace Go.Proofs.YtgamgomepdfgdaaGreat
open Go.RowKit

def laneC (age : Nat) (x : Ch) : Nat := x.lane - x.passed / age
def tC (x : Ch) : Tw := (x.id, x.lane, x.passed)
/-- who waits, as it is told -/
def tellQ (age : Nat) (q : List Ch) : List Tw := (rkG (laneC age) q 4).map tC
theorem rkG_more {α : Type} {lane : α → Nat} {q : List α} {L : Nat} (h : ∀ x ∈ q, lane x < L) : ∀ n, rkG lane q (L + n) = rkG lane q L
  | 0 => rfl
  | n + 1 => by
    rw [← Nat.add_assoc, rkG_succ, rkG_more h n, List.filter_eq_nil_iff.2, List.append_nil]
    intro x hx
    have := h x hx
    simp; omega
theorem tellQ_of {age : Nat} {q : List Pw} {s : List Ch} (hq : q.map Prod.fst = s) (hl : ∀ x ∈ s, x.lane < 4) : (rkG (laneOf age) q 1000).map tOf = tellQ age s := by
  subst hq
  have e1 : rkG (laneOf age) q 1000 = rkG (laneOf age) q 4 := rkG_more (fun x hx => Nat.lt_of_le_of_lt (Nat.sub_le _ _) (hl _ (List.mem_map_of_mem hx))) 996
  rw [e1, tellQ, rkG_map, List.map_map]; rfl
theorem tellQ_len {age : Nat} {q : List Ch} (hl : ∀ x ∈ q, x.lane < 4) : (tellQ age q).length = q.length := by
  rw [tellQ, List.length_map]
  exact (rkG_perm fun x hx => Nat.lt_of_le_of_lt (Nat.sub_le _ _) (hl x hx)).length_eq

def ToldQ (w w' : World) (e : Ending) (age : Nat) (q : List Ch) : Prop := ∃ v', e = .returned (.tuple #[v', .int .i64 0]) ∧ w'.ownsRow w.heap.size 71 3 v' (tellQ age q).length ((tellQ age q).flatMap cT)

set_option maxRecDepth 100000 in
set_option maxHeartbeats 1000000 in
theorem mQueue_up (Y : Nat → Prop) (xb mb rb yb : Nat) (c : Cfg) (s : Qs) (L : List UInt8) (br : Bool) (keep : Int) (lv : Value) (w : World) (hU : UpIs w Y xb mb rb yb c s L br keep lv) (hI : s.Inv c) (hc : c.Ok) :
    Calls Tryz.prog 27 #[.pointer (some ⟨xb, 0, none⟩)] w fun e w' => ToldQ w w' e c.age s.queue ∧ Below w.heap.size w w' := by
  obtain ⟨q, sb, qv, ov, hy⟩ := hU.yard
  have hql := hy.qlen
  have hlen := hI.len
  have hmem : ∀ x ∈ q, x.1 ∈ s.queue := fun x hx => by rw [← hy.qs]; exact List.mem_map_of_mem hx
  have hlanes := hc.1.2
  have hT := yQueue c.age ⟨hc.2.1.1, by have := hc.2.1.2; omega⟩ yb q qv _ w hy.box rfl hy.row (fun x hx => by
    have h := hI.top _ (hmem x hx)
    exact ⟨by omega, by omega, hy.sl x hx⟩) (by have := hc.2.2.2.2.2.2.2; omega) (by
    have h := hI.ord
    rw [← hy.qs, List.pairwise_map] at h
    exact h)
  have hl4 : ∀ x ∈ s.queue, x.lane < 4 := fun x hx => by have := (hI.top x hx).2.1; omega
  rw [tellQ_of hy.qs hl4, hql, ← tellQ_len (age := c.age) hl4] at hT
  have c9 : w.cell? ⟨xb, 9, none⟩ = some (.pointer (some ⟨rb, 0, none⟩)) := hU.box.cell (i := 9) rfl
  have r0 : w.cell? ⟨rb, 0, none⟩ = some (.pointer (some ⟨yb, 0, none⟩)) := hU.run.cell (i := 0) rfl
  clear hU hy hI hmem hlen hl4 hql
  unfold ToldQ
  generalize tellQ c.age s.queue = tq at *
  have hTell : Calls Tryz.prog 71 #[.pointer (some ⟨xb, 0, none⟩), .func (.func 72) #[] #[]] w fun e w' => (∃ v', e = .returned (.tuple #[v', .int .i64 0]) ∧ w'.ownsRow w.heap.size 71 3 v' tq.length (tq.flatMap cT)) ∧ Below w.heap.size w w' := by
    go_enter Tryz.func71, Tryz.ntmps71
    go_wp2_with fail
    go_fit hT
    rintro e w1 ⟨⟨v1, rfl, h3⟩, hb⟩
    obtain ⟨a1, c1, rfl⟩ := row_shape3 h3
    have H3 : Hid (w1.ownsRow w.heap.size 71 3 (.slice a1 tq.length c1) tq.length (tq.flatMap cT)) := h3
    clear h3 hT
    go_wp2_with fail
    refine bodyPost_ret (by simp [results, Tryz.results71, go_sem]; rfl) rfl ⟨⟨_, by rfl, H3.out⟩, hb⟩
  clear hT
  go_enter Tryz.func27, Tryz.ntmps27
  go_wp2_with fail
  go_fit hTell
  rintro e w1 ⟨⟨v1, rfl, h3⟩, hb⟩
  obtain ⟨a1, c1, rfl⟩ := row_shape3 h3
  have H3 : Hid (w1.ownsRow w.heap.size 71 3 (.slice a1 tq.length c1) tq.length (tq.flatMap cT)) := h3
  clear h3 hTell
  go_wp2_with fail
  refine bodyPost_ret (by simp [results, Tryz.results27, go_sem]; rfl) rfl ⟨⟨_, by rfl, H3.out⟩, hb⟩
end Go.Proofs.YtgamgomepdfgdaaGreat

namespace Go.Proofs.YtgamgomepdfgdaaGreat
open Go.RowKit

set_option maxRecDepth 100000 in
set_option maxHeartbeats 1000000 in
theorem tipClone0 (w : World) :
    Calls Tryz.prog 145 #[.slice none 0 0] w fun e w' => e = .returned (.slice none 0 0) ∧ w' = w := by
  have hnil : ∀ W : World, (binOp .eql 106 (.slice none 0 0) (.slice none 0 0)).run Tryz.prog W = .ok (.bool true) W := fun W => Lib.run_eql_slice_nil W _ _ _ _ _ _ _ Tryz.underlying106
  go_enter Tryz.func145, Tryz.ntmps145
  go_wp2_with fail
  go_ret
  exact ⟨rfl, rfl⟩

set_option maxRecDepth 100000 in
set_option maxHeartbeats 1000000 in
/-- nothing has landed -/
theorem yMain (yb : Nat) (cs : Array Value) (w : World) (hB : Bx w yb 201 cs) (h8 : cs[8]? = some (.slice none 0 0)) :
    Calls Tryz.prog 104 #[.pointer (some ⟨yb, 0, none⟩)] w fun e w' => e = .returned (.slice none 0 0) ∧ Below w.heap.size w w' := by
  have c8 := hB.cell h8
  clear hB h8
  go_enter Tryz.func104, Tryz.ntmps104
  go_wp2_with fail
  go_fit (tipClone0 w)
  rintro e w1 ⟨rfl, rfl⟩
  go_wp2_with fail
  refine wp_loop_rounds 1 ?_
  rw [rounds_succ]
  go_wp2_with fail
  go_ret
  exact ⟨rfl, Below.refl _ _⟩
end Go.Proofs.YtgamgomepdfgdaaGreat

namespace Go.Proofs.YtgamgomepdfgdaaGreat
open Go.RowKit Go.Shelf
attribute [local go_sem] Oper.semAt_some

set_option maxRecDepth 100000 in
set_option maxHeartbeats 1000000 in
theorem jIns0 (f : Value) (w : World) :
    Calls Tryz.prog 224 #[.slice none 0 0, .int .i64 0, .int .i64 0, f] w fun e w' => e = .returned (.tuple #[]) ∧ w' = w := by
  go_enter Tryz.func224, Tryz.ntmps224
  go_wp2
  refine wp_loop_rounds 1 ?_
  rw [rounds_succ]
  go_wp2
  go_end0
  exact ⟨rfl, rfl⟩

set_option maxRecDepth 100000 in
set_option maxHeartbeats 1000000 in
theorem jPdq0 (f : Value) (n : Int) (w : World) :
    Calls Tryz.prog 190 #[.slice none 0 0, .int .i64 0, .int .i64 0, .int .i64 n, f] w fun e w' => e = .returned (.tuple #[]) ∧ w' = w := by
  go_enter Tryz.func190, Tryz.ntmps190
  go_wp2
  refine wp_loop_rounds 1 ?_
  rw [rounds_succ]
  go_wp2_with fail
  go_fit (jIns0 f w)
  rintro e w1 ⟨rfl, rfl⟩
  go_wp2_with fail
  (try simp only [Exit.inBlock, Exit.then]); refine bodyPost_ret (results_none rfl _ _ _) rfl ?_
  exact ⟨rfl, rfl⟩

set_option maxRecDepth 100000 in
set_option maxHeartbeats 1000000 in
theorem bitsLen0 (w : World) :
    Calls Tryz.prog 191 #[.int .u64 0] w fun e w' => (∃ n, e = .returned (.int .i64 n)) ∧ w' = w := by
  go_enter Tryz.func191, Tryz.ntmps191
  go_wp2
  go_ret
  exact ⟨⟨_, rfl⟩, rfl⟩

set_option maxRecDepth 100000 in
set_option maxHeartbeats 1000000 in
theorem jSort0 (f : Value) (w : World) :
    Calls Tryz.prog 151 #[.slice none 0 0, f] w fun e w' => e = .returned (.tuple #[]) ∧ w' = w := by
  go_enter Tryz.func151, Tryz.ntmps151
  go_wp2_with fail
  go_fit (bitsLen0 w)
  rintro e w1 ⟨⟨n, rfl⟩, rfl⟩
  go_wp2_with fail
  go_fit (jPdq0 f n w1)
  rintro e w2 ⟨rfl, rfl⟩
  go_wp2_with fail
  go_end0
  exact ⟨rfl, rfl⟩

set_option maxRecDepth 100000 in
set_option maxHeartbeats 2000000 in
/-- no segment: no job is told -/
theorem yJobs (yb : Nat) (cs : Array Value) (w : World) (hB : Bx w yb 201 cs) (h11 : cs[11]? = some (.slice none 0 0)) :
    Calls Tryz.prog 108 #[.pointer (some ⟨yb, 0, none⟩)] w fun e w' => e = .returned (.slice none 0 0) ∧ Below w.heap.size w w' := by
  have c11 := jcell_after (below_new (w.alloc (.cells #[.slice none 0 0] 120)) (.cells #[.slice none 0 0] 56)) (jcell_after (below_new w (.cells #[.slice none 0 0] 120)) (hB.cell h11))
  clear hB h11
  refine (callsIn_wide (n := 3)).1 ?_
  refine callsIn_of_wp_marks Tryz.func108 rfl trivial ?_ rfl
  simp only [Tryz.ntmps108, List.size_toArray, List.length_cons, List.length_nil, Nat.reduceAdd, Nat.reduceSub, Array.replicate_succ, Array.replicate_zero, List.push_toArray, List.append_toArray, List.nil_append, List.cons_append]
  gi_wp2_with (refine ⟨trivial, ?_⟩; gi_at_call 147; refine (callsIn_wide.2 (lineAll yb _ c11)).mono ?_; rintro e w' ⟨rfl, rfl⟩)
  have hB0 : Below w.heap.size w (((w.alloc (.cells #[.slice none 0 0] 120)).alloc (.cells #[.slice none 0 0] 56)).alloc (.cells #[.slice none 0 0] 195)) := (((Below.refl _ w).alloc (Nat.le_refl _) _).alloc (by simp) _).alloc (by simp; omega) _
  have bL := (((Boxed.new w 120 (.slice none 0 0)).alloc (.cells #[.slice none 0 0] 56)).alloc (.cells #[.slice none 0 0] 195)).cell
  have hsz2 : ((w.alloc (.cells #[.slice none 0 0] 120)).alloc (.cells #[.slice none 0 0] 56)).heap.size = w.heap.size + 1 + 1 := by simp
  have hb2 := (Bx.new ((w.alloc (.cells #[.slice none 0 0] 120)).alloc (.cells #[.slice none 0 0] 56)) #[.slice none 0 0] 195)
  rw [hsz2] at hb2
  have hb1 := hb2.lt
  replace hb2 := hb2.cell (i := 0) rfl
  refine wpIn_rangeFunc_ownF (α := Empty) (n := 3) (F := Fence.wide) rfl (by decide) (gf := 223) (lb := #[.pointer (some ⟨w.heap.size + 1 + 1, 0, none⟩)]) rfl trivial (enters_of Tryz.func223 (by kernel_rfl) rfl)
    (sv_stops Fence.wide 2 trivial rfl (w.heap.size + 1 + 1) (((w.alloc (.cells #[.slice none 0 0] 120)).alloc (.cells #[.slice none 0 0] 56)).alloc (.cells #[.slice none 0 0] 195)) hb1 hb2) (fun _ _ => trivial) (fun _ _ _ _ _ _ _ _ => trivial) (Below.refl _ _) (fun x => x.elim)
    (fun _ W => W.cell? ⟨w.heap.size, 0, none⟩ = some (.slice none 0 0) ∧ Below w.heap.size w W) (fun _ _ _ => False) (OwnFrom.and (Own.from (fun s A B row hs hg hr => cell_kept hs hg hr) _) (ownFrom_below (Nat.le_refl _) (by simp; omega))) (fun _ _ _ _ _ hs _ _ => hs) ⟨bL, hB0⟩ (fun x => x.elim) (fun _ x => x.elim) (fun _ _ x => x.elim) ?done ?stop
  case done =>
    rintro D ys W hD rfl ⟨hc, hB⟩ hK
    have hD' : w.heap.size ≤ D := by simp at hD; omega
    clear hD
    gi_wp2_with (refine ⟨trivial, ?_⟩; gi_at_call 151; refine (callsIn_wide.2 (jSort0 _ W)).mono ?_; rintro e w' ⟨rfl, rfl⟩)
    refine ⟨by simp, .inl ⟨_, _, rfl, run_takeDeferred hK, ?_⟩⟩
    exact ⟨_, results_tmp rfl _ _ _, rfl, hB.trans (belowK_b (w := w) (Nat.le_refl _) _ D _ _ hD' hK rfl rfl)⟩
  case stop =>
    rintro D c pre W _ _ h _
    exact h.elim
end Go.Proofs.YtgamgomepdfgdaaGreat

namespace Go.Proofs.YtgamgomepdfgdaaGreat
open Go.RowKit

set_option maxRecDepth 100000 in
set_option maxHeartbeats 1000000 in
theorem mMain_up (Y : Nat → Prop) (xb mb rb yb : Nat) (c : Cfg) (s : Qs) (L : List UInt8) (br : Bool) (keep : Int) (lv : Value) (w : World) (hU : UpIs w Y xb mb rb yb c s L br keep lv) :
    Calls Tryz.prog 66 #[.pointer (some ⟨xb, 0, none⟩)] w fun e w' => e = .returned (.tuple #[.slice none 0 0, .int .i64 0]) ∧ Below w.heap.size w w' := by
  obtain ⟨q, sb, qv, ov, hy⟩ := hU.yard
  have hT := yMain yb _ w hy.box rfl
  have c9 : w.cell? ⟨xb, 9, none⟩ = some (.pointer (some ⟨rb, 0, none⟩)) := hU.box.cell (i := 9) rfl
  have r0 : w.cell? ⟨rb, 0, none⟩ = some (.pointer (some ⟨yb, 0, none⟩)) := hU.run.cell (i := 0) rfl
  clear hU hy
  have hTell : Calls Tryz.prog 103 #[.pointer (some ⟨xb, 0, none⟩), .func (.func 104) #[] #[]] w fun e w' => e = .returned (.tuple #[.slice none 0 0, .int .i64 0]) ∧ Below w.heap.size w w' := by
    go_enter Tryz.func103, Tryz.ntmps103
    go_wp2_with fail
    go_fit hT
    rintro e w1 ⟨rfl, hb⟩
    have HB : Hid (Below w.heap.size w w1) := hb
    clear hb hT
    go_wp2_with fail
    refine bodyPost_ret (v := .tuple #[.slice none 0 0, .int .i64 0]) (by simp [results, Tryz.results103, go_sem]) rfl ⟨rfl, HB.out⟩
  clear hT
  go_enter Tryz.func66, Tryz.ntmps66
  go_wp2_with fail
  go_fit hTell
  rintro e w1 ⟨rfl, hb⟩
  have HB : Hid (Below w.heap.size w w1) := hb
  clear hb hTell
  go_wp2_with fail
  refine bodyPost_ret (v := .tuple #[.slice none 0 0, .int .i64 0]) (by simp [results, Tryz.results66, go_sem]) rfl ⟨rfl, HB.out⟩

set_option maxRecDepth 100000 in
set_option maxHeartbeats 1000000 in
theorem mTrain_up (Y : Nat → Prop) (xb mb rb yb : Nat) (c : Cfg) (s : Qs) (L : List UInt8) (br : Bool) (keep : Int) (lv : Value) (w : World) (hU : UpIs w Y xb mb rb yb c s L br keep lv) :
    Calls Tryz.prog 69 #[.pointer (some ⟨xb, 0, none⟩)] w fun e w' => e = .returned (.tuple #[.slice none 0 0, .int .i64 0]) ∧ Below w.heap.size w w' := by
  obtain ⟨q, sb, qv, ov, hy⟩ := hU.yard
  have hT := yTrain yb _ w hy.box rfl
  have c9 : w.cell? ⟨xb, 9, none⟩ = some (.pointer (some ⟨rb, 0, none⟩)) := hU.box.cell (i := 9) rfl
  have r0 : w.cell? ⟨rb, 0, none⟩ = some (.pointer (some ⟨yb, 0, none⟩)) := hU.run.cell (i := 0) rfl
  clear hU hy
  have hTell : Calls Tryz.prog 105 #[.pointer (some ⟨xb, 0, none⟩), .func (.func 106) #[] #[]] w fun e w' => e = .returned (.tuple #[.slice none 0 0, .int .i64 0]) ∧ Below w.heap.size w w' := by
    go_enter Tryz.func105, Tryz.ntmps105
    go_wp2_with fail
    go_fit hT
    rintro e w1 ⟨rfl, hb⟩
    have HB : Hid (Below w.heap.size w w1) := hb
    clear hb hT
    go_wp2_with fail
    refine bodyPost_ret (v := .tuple #[.slice none 0 0, .int .i64 0]) (by simp [results, Tryz.results105, go_sem]) rfl ⟨rfl, HB.out⟩
  clear hT
  go_enter Tryz.func69, Tryz.ntmps69
  go_wp2_with fail
  go_fit hTell
  rintro e w1 ⟨rfl, hb⟩
  have HB : Hid (Below w.heap.size w w1) := hb
  clear hb hTell
  go_wp2_with fail
  refine bodyPost_ret (v := .tuple #[.slice none 0 0, .int .i64 0]) (by simp [results, Tryz.results69, go_sem]) rfl ⟨rfl, HB.out⟩

set_option maxRecDepth 100000 in
set_option maxHeartbeats 1000000 in
theorem mJobs_up (Y : Nat → Prop) (xb mb rb yb : Nat) (c : Cfg) (s : Qs) (L : List UInt8) (br : Bool) (keep : Int) (lv : Value) (w : World) (hU : UpIs w Y xb mb rb yb c s L br keep lv) :
    Calls Tryz.prog 70 #[.pointer (some ⟨xb, 0, none⟩)] w fun e w' => e = .returned (.tuple #[.slice none 0 0, .int .i64 0]) ∧ Below w.heap.size w w' := by
  obtain ⟨q, sb, qv, ov, hy⟩ := hU.yard
  have hT := yJobs yb _ w hy.box rfl
  have c9 : w.cell? ⟨xb, 9, none⟩ = some (.pointer (some ⟨rb, 0, none⟩)) := hU.box.cell (i := 9) rfl
  have r0 : w.cell? ⟨rb, 0, none⟩ = some (.pointer (some ⟨yb, 0, none⟩)) := hU.run.cell (i := 0) rfl
  clear hU hy
  have hTell : Calls Tryz.prog 107 #[.pointer (some ⟨xb, 0, none⟩), .func (.func 108) #[] #[]] w fun e w' => e = .returned (.tuple #[.slice none 0 0, .int .i64 0]) ∧ Below w.heap.size w w' := by
    go_enter Tryz.func107, Tryz.ntmps107
    go_wp2_with fail
    go_fit hT
    rintro e w1 ⟨rfl, hb⟩
    have HB : Hid (Below w.heap.size w w1) := hb
    clear hb hT
    go_wp2_with fail
    refine bodyPost_ret (v := .tuple #[.slice none 0 0, .int .i64 0]) (by simp [results, Tryz.results107, go_sem]) rfl ⟨rfl, HB.out⟩
  clear hT
  go_enter Tryz.func70, Tryz.ntmps70
  go_wp2_with fail
  go_fit hTell
  rintro e w1 ⟨rfl, hb⟩
  have HB : Hid (Below w.heap.size w w1) := hb
  clear hb hTell
  go_wp2_with fail
  refine bodyPost_ret (v := .tuple #[.slice none 0 0, .int .i64 0]) (by simp [results, Tryz.results70, go_sem]) rfl ⟨rfl, HB.out⟩
end Go.Proofs.YtgamgomepdfgdaaGreat

namespace Go.Proofs.YtgamgomepdfgdaaGreat
open Go.RowKit

/-- what the calls make of that which both machines have in common -/
def Sg.cancel (σ : Sg) (id : Int) (err : Int) : Int × Sg := σ.act err ⟨2, 0, id.toNat, false, []⟩
def Sg.ack (σ : Sg) (m : Int) (err : Int) : Int × Sg := σ.act err ⟨6, 0, m.toNat, false, []⟩
def Sg.sub (σ : Sg) (id lane : Int) (es : List Ed) (err : Int) : Int × Sg := σ.act err ⟨1, lane.toNat, id.toNat, false, es⟩
def Sg.brk (σ : Sg) (k : Int) : Int × Sg := if σ.up = false then (8, σ) else (0, { σ with br := true, keep := k })
def Sg.crash (σ : Sg) : Int × Sg := if σ.up = false then (8, σ) else (0, { σ with up := false, T := [], br := false })
def Sg.recover (σ : Sg) : Int × Sg := if σ.up = false then (0, { σ with rs := σ.rs ++ [rc7], up := true, T := [], br := false }) else (9, σ)
def CanErr (s : Qs) (id err : Int) : Prop := ((∃ x ∈ s.queue, (x.id : Int) = id) ∧ err = 0) ∨ ((¬ ∃ x ∈ s.queue, (x.id : Int) = id) ∧ err = 5)
def AckErr (s : Qs) (m err : Int) : Prop := ((s.acked < s.outs.length ∧ m = (s.acked : Int) + 1) ∧ err = 0) ∨ ((¬ (s.acked < s.outs.length ∧ m = (s.acked : Int) + 1)) ∧ err = 5)
theorem can_err (s : Qs) (id : Int) : ∃ err, CanErr s id err := by
  by_cases h : ∃ x ∈ s.queue, (x.id : Int) = id
  · exact ⟨0, .inl ⟨h, rfl⟩⟩
  · exact ⟨5, .inr ⟨h, rfl⟩⟩
theorem ack_err (s : Qs) (m : Int) : ∃ err, AckErr s m err := by
  by_cases h : s.acked < s.outs.length ∧ m = (s.acked : Int) + 1
  · exact ⟨0, .inl ⟨h, rfl⟩⟩
  · exact ⟨5, .inr ⟨h, rfl⟩⟩
theorem sub_err (c : Cfg) (s : Qs) (id lane : Int) (es : List Ed) : ∃ err, SubErr c s id lane es err := by
  by_cases h1 : ChOK c id lane es
  · by_cases h2 : id.toNat ∈ s.ids
    · exact ⟨3, .inr (.inl ⟨h1, h2, rfl⟩)⟩
    · by_cases h3 : c.queue ≤ s.queue.length
      · exact ⟨4, .inr (.inr (.inl ⟨h1, h2, h3, rfl⟩))⟩
      · exact ⟨0, .inr (.inr (.inr ⟨h1, h2, by omega, rfl⟩))⟩
  · exact ⟨2, .inl ⟨h1, rfl⟩⟩
theorem can_can {c : Cfg} {rs : List Rc} {id err : Int} (h : CanErr (Qs.all rs) id err) (hI : (Qs.all rs).Inv c) (he : err = 0) : (Qs.all rs).Can c ⟨2, 0, id.toNat, false, []⟩ ∧ id = (id.toNat : Int) := by
  rcases h with ⟨⟨x, hx, hid⟩, _⟩ | ⟨_, h⟩
  · have hxi := (hI.top x hx).2.2.2.1
    have e : id = (id.toNat : Int) := by omega
    exact ⟨⟨.inr (.inl rfl), by simp; omega, fun h => (by cases h), fun _ => ⟨x, hx, by simp; omega⟩, fun h => (by cases h)⟩, e⟩
  · omega
theorem ack_can {c : Cfg} {rs : List Rc} {m err : Int} (h : AckErr (Qs.all rs) m err) (hl : rs.length < 1048576) (he : err = 0) : (Qs.all rs).Can c ⟨6, 0, m.toNat, false, []⟩ ∧ m = (m.toNat : Int) := by
  rcases h with ⟨⟨h1, h2⟩, _⟩ | ⟨_, h⟩
  · have := (Qs.all_len rs).2
    exact ⟨⟨.inr (.inr (.inl rfl)), by simp; omega, fun h => (by cases h), fun h => (by cases h), fun _ => h1⟩, by omega⟩
  · omega
theorem ok_small {es : List Ed} (h : EditsOK es) : Small es := by
  refine ⟨h.2.1, fun x hx => ?_⟩
  have := h.2.2.1 x hx
  simp [okEd, okEdit, okFill, okText] at this
  omega
theorem sub_can {c : Cfg} {rs : List Rc} {id lane err : Int} {es : List Ed} (h : SubErr c (Qs.all rs) id lane es err) (he : err = 0) : (Qs.all rs).Can c ⟨1, lane.toNat, id.toNat, false, es⟩ ∧ id = (id.toNat : Int) ∧ lane = (lane.toNat : Int) ∧ Small es := by
  subst he
  rcases h with ⟨_, h⟩ | ⟨_, _, h⟩ | ⟨_, _, _, h⟩ | ⟨⟨h1, h2, h3, h4, h5⟩, h6, h7, _⟩
  · omega
  · omega
  · omega
  · have hs := ok_small h5
    exact ⟨⟨.inl rfl, by simp; omega, fun _ => ⟨by simp; omega, h6, h7, by simp; omega, hs⟩, fun h => (by cases h), fun h => (by cases h)⟩, by omega, by omega, hs⟩
theorem can_fun {s : Qs} {id e e' : Int} (h : CanErr s id e) (h' : CanErr s id e') : e = e' := by
  rcases h with ⟨h, rfl⟩ | ⟨h, rfl⟩ <;> rcases h' with ⟨h', rfl⟩ | ⟨h', rfl⟩ <;> first | rfl | exact absurd h h' | exact absurd h' h
theorem ack_fun {s : Qs} {id e e' : Int} (h : AckErr s id e) (h' : AckErr s id e') : e = e' := by
  rcases h with ⟨h, rfl⟩ | ⟨h, rfl⟩ <;> rcases h' with ⟨h', rfl⟩ | ⟨h', rfl⟩ <;> first | rfl | exact absurd h h' | exact absurd h' h
theorem sub_fun {c : Cfg} {s : Qs} {id lane : Int} {es : List Ed} {e e' : Int} (h : SubErr c s id lane es e) (h' : SubErr c s id lane es e') : e = e' := by
  unfold SubErr at h h'
  rcases h with ⟨a, rfl⟩ | ⟨a, b, rfl⟩ | ⟨a, b, d, rfl⟩ | ⟨a, b, d, rfl⟩ <;> rcases h' with ⟨a', rfl⟩ | ⟨a', b', rfl⟩ | ⟨a', b', d', rfl⟩ | ⟨a', b', d', rfl⟩ <;> first | rfl | exact absurd a a' | exact absurd a' a | exact absurd b b' | exact absurd b' b | omega

theorem does2 (s : Qs) (id : Nat) : s.does ⟨2, 0, id, false, []⟩ = { s with queue := s.queue.filter fun c => c.id != id, outs := s.outs ++ [(id, 4)] } := by simp [Qs.does]
theorem does6 (s : Qs) (id : Nat) : s.does ⟨6, 0, id, false, []⟩ = { s with acked := s.acked + 1 } := by simp [Qs.does]
theorem does1 (s : Qs) (id lane : Nat) (es : List Ed) : s.does ⟨1, lane, id, false, es⟩ = { s with ids := s.ids ++ [id], queue := s.queue ++ [⟨id, lane, 0, s.ids.length, es⟩] } := by simp [Qs.does]

theorem pCancel (X : Nat → Prop) (xb : Nat) (c : Cfg) (σ : Sg) (n : Nat) (g : ByteArray → ByteArray) (id err : Int) (w : World) (hP : ProgIs w X xb c σ n g) (hσ : σ.Ok c) (hc : c.Ok) (hn : σ.rs.length < 1048576) (he : CanErr (Qs.all σ.rs) id err) :
    Calls Tryz.prog 40 #[.pointer (some ⟨xb, 0, none⟩), .int .i64 id] w fun e w' => PDid w w' e X xb c n g (σ.cancel id err) := by
  have hI := hσ.fits.inv
  have hq16 : (Qs.all σ.rs).queue.length ≤ 16 := Nat.le_trans hI.len hc.2.2.2.2.2.2.2
  have hl := Qs.all_len σ.rs
  refine mCancel_of xb id _ (fun w' => ∃ X', ProgIs w' X' xb c (σ.cancel id err).2 n g ∧ Grows w w' X X') w (pAct X xb c σ n g 2 0 id 0 false none 0 0 ⟨2, 0, id.toNat, false, []⟩ err w hP hσ hc hn (fun h => (can_can he hI h).1) ?_ ?_ ?_)
  · intro W Y yb mb _ hY
    refine (yCheck2 Y yb mb c _ id W hY hq16).mono ?_
    rintro e W' ⟨h, hb⟩
    refine ⟨?_, hb⟩
    rcases h with ⟨h, rfl⟩ | ⟨h, rfl⟩
    · rw [can_fun he (.inl ⟨h, rfl⟩)]
    · rw [can_fun he (.inr ⟨h, rfl⟩)]
  · intro h0 W _
    obtain ⟨hcan, hid⟩ := can_can he hI h0
    have := prog_bytes ⟨2, 0, id.toNat, false, []⟩ (hcan.ok hc) none 0 0 W (fun h => by cases h)
    simp [progR, ← hid] at this
    exact this
  · intro h0 W Y yb mb _ hY
    obtain ⟨hcan, hid⟩ := can_can he hI h0
    have := yDo2 Y yb mb id.toNat c _ W hY hq16 (hcan.cancel rfl) (by omega) hI.ack
    rw [← hid, ← does2] at this
    exact this

theorem pAck (X : Nat → Prop) (xb : Nat) (c : Cfg) (σ : Sg) (n : Nat) (g : ByteArray → ByteArray) (m err : Int) (w : World) (hP : ProgIs w X xb c σ n g) (hσ : σ.Ok c) (hc : c.Ok) (hn : σ.rs.length < 1048576) (he : AckErr (Qs.all σ.rs) m err) :
    Calls Tryz.prog 79 #[.pointer (some ⟨xb, 0, none⟩), .int .i64 m] w fun e w' => PDid w w' e X xb c n g (σ.ack m err) := by
  have hI := hσ.fits.inv
  refine mAck_of xb m _ (fun w' => ∃ X', ProgIs w' X' xb c (σ.ack m err).2 n g ∧ Grows w w' X X') w (pAct X xb c σ n g 6 0 0 m false none 0 0 ⟨6, 0, m.toNat, false, []⟩ err w hP hσ hc hn (fun h => (ack_can he hn h).1) ?_ ?_ ?_)
  · intro W Y yb mb _ hY
    refine (yCheck6 Y yb mb c _ m W hY hI.ack).mono ?_
    rintro e W' ⟨h, hb⟩
    refine ⟨?_, hb⟩
    rcases h with ⟨h, rfl⟩ | ⟨h, rfl⟩
    · rw [ack_fun he (.inl ⟨h, rfl⟩)]
    · rw [ack_fun he (.inr ⟨h, rfl⟩)]
  · intro h0 W _
    obtain ⟨hcan, hid⟩ := ack_can (c := c) he hn h0
    have := prog_bytes ⟨6, 0, m.toNat, false, []⟩ (hcan.ok hc) none 0 0 W (fun h => by cases h)
    simp [progR, ← hid] at this
    exact this
  · intro h0 W Y yb mb _ hY
    obtain ⟨hcan, hid⟩ := ack_can (c := c) he hn h0
    have := yDo6 Y yb mb m c _ W hY (hcan.ack rfl)
    rw [← does6 _ m.toNat] at this
    exact this

/-- the edits that are handed in: they lie outside the machine -/
theorem pSubmit (X : Nat → Prop) (xb : Nat) (c : Cfg) (σ : Sg) (n : Nat) (g : ByteArray → ByteArray) (id lane err : Int) (es : List Ed) (ea : Option Addr) (ec : Nat) (w : World) (hP : ProgIs w X xb c σ n g) (hσ : σ.Ok c) (hc : c.Ok) (hn : σ.rs.length < 1048576) (he : SubErr c (Qs.all σ.rs) id lane es err)
    (hE : EditsAt w (.slice ea es.length ec) es) (hcap : es.length ≤ ec) (hen : es.length < 8796093022208) (hX : ∀ b, (Value.slice ea es.length ec).ownBlock = some b → ¬ X b) :
    Calls Tryz.prog 31 #[.pointer (some ⟨xb, 0, none⟩), .int .i64 id, .int .i64 lane, .slice ea es.length ec] w fun e w' => PDid w w' e X xb c n g (σ.sub id lane es err) := by
  have hI := hσ.fits.inv
  have hq16 : (Qs.all σ.rs).queue.length ≤ 16 := Nat.le_trans hI.len hc.2.2.2.2.2.2.2
  have hl := Qs.all_len σ.rs
  have key : err = 0 → ∃ b off, ea = some ⟨b, off, none⟩ ∧ b < w.heap.size ∧ (∀ i (h : i < es.length), w.cell? ⟨b, off + i * 3, none⟩ = some (.string es[i].1)) ∧ (∀ i (h : i < es.length), w.cell? ⟨b, off + i * 3 + 1, none⟩ = some (.string es[i].2.1)) ∧ (∀ i (h : i < es.length), w.cell? ⟨b, off + i * 3 + 2, none⟩ = some (.string es[i].2.2)) := fun h0 => by
    have hok : EditsOK es := by
      subst h0
      rcases he with ⟨_, h⟩ | ⟨_, _, h⟩ | ⟨_, _, _, h⟩ | ⟨h, _⟩
      · omega
      · omega
      · omega
      · exact h.2.2.2.2
    rcases hE with ⟨rfl, _⟩ | ⟨b, off, cap, hv, h1, h2, h3, h4⟩
    · have := hok.1; simp at this
    · injection hv with hv _ _
      exact ⟨b, off, hv, h1, h2, h3, h4⟩
  refine mSubmit_of xb id lane ea es.length ec _ (fun w' => ∃ X', ProgIs w' X' xb c (σ.sub id lane es err).2 n g ∧ Grows w w' X X') w (pAct X xb c σ n g 1 lane id 0 false ea es.length ec ⟨1, lane.toNat, id.toNat, false, es⟩ err w hP hσ hc hn (fun h => (sub_can he h).1) ?_ ?_ ?_)
  · intro W Y yb mb hb hY
    refine (yCheck1 Y yb mb c _ id lane es ea es.length ec W hY (hE.later hb) hcap hen hq16).mono ?_
    rintro e W' ⟨⟨k, rfl, hk⟩, hb⟩
    exact ⟨by rw [sub_fun he hk], hb⟩
  · intro h0 W hb
    obtain ⟨hcan, hid, hla, hsm⟩ := sub_can he h0
    obtain ⟨b, off, rfl, hlt, e0, e1, e2⟩ := key h0
    have := prog_bytes ⟨1, lane.toNat, id.toNat, false, es⟩ (hcan.ok hc) (some ⟨b, off, none⟩) es.length ec W (fun _ => ⟨b, off, rfl, rfl, Nat.lt_of_lt_of_le hlt hb.size, fun i hi => jcell_after hb (e0 i hi), fun i hi => jcell_after hb (e1 i hi), fun i hi => jcell_after hb (e2 i hi)⟩)
    simp [progR, ← hid, ← hla] at this
    exact this
  · intro h0 W Y yb mb hO hY
    obtain ⟨hcan, hid, hla, hsm⟩ := sub_can he h0
    obtain ⟨b, off, rfl, hlt, e0, e1, e2⟩ := key h0
    have nX := hX b rfl
    obtain ⟨s1, s2, s3, s4, s5⟩ := hcan.sub rfl
    have := yDo1 Y yb mb id.toNat lane.toNat 0 false b off ec es c _ W hY hq16 hsm s1 s2 (by omega) (Nat.lt_of_lt_of_le hlt hO.size) (fun i hi => only_cell hO nX (e0 i hi)) (fun i hi => only_cell hO nX (e1 i hi)) (fun i hi => only_cell hO nX (e2 i hi))
    rw [← does1] at this
    unfold recC at this
    rw [← hid, ← hla] at this
    exact this
end Go.Proofs.YtgamgomepdfgdaaGreat
