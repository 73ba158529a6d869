import Derived.Test.YtgamgomepdfgdaaGreatM14
import Derived.RangeFuncNested
import Derived.RangeFuncBound
import Derived.RangeFuncCalls
import Derived.RangeFuncLeaves
import Derived.Shelf.Abstract
import Derived.Shelf.RegionOpen
import Derived.WalkKit
import Derived.OwnWalkIn
import Derived.TacticsInMore
import Derived.LoopNIn
import Derived.LoopIn
import Derived.Test.YtgamgomepdfgdaaGreatM17
import Derived.Test.YtgamgomepdfgdaaGreatM18
import Derived.Test.YtgamgomepdfgdaaGreatM20
namespace Go.Proofs.YtgamgomepdfgdaaGreat
open Go.RowKit Go.Shelf
attribute [local go_sem] Oper.semAt_some

set_option maxRecDepth 100000 in
set_option maxHeartbeats 1000000 in
/-- no segment: no round -/
theorem sv1 (F : Fence) (n : Nat) (hF : F.fn 223) (hro : F.round = none) (l Bs : Nat) (J : List Empty → World → Prop) (W : World) (hBs : W.cell? ⟨Bs, 0, none⟩ = some (.slice none 0 0)) (h0 : J [] W) :
    CallsIn F n Tryz.prog 223 #[.func (.yield l) #[] #[], .pointer (some ⟨Bs, 0, none⟩)] W fun e W' => (∃ v, e = .returned v) ∧ J [] W' := by
  refine callsIn_of_wp Tryz.func223 rfl hF ?_ hro
  simp only [Tryz.ntmps223, List.size_toArray, List.length_cons, List.length_nil, Nat.reduceAdd, Nat.reduceSub, Array.replicate_succ, Array.replicate_zero, List.push_toArray, List.append_toArray, List.nil_append, List.cons_append]
  gi_wp2
  gi_loopw [7] (fun i wr => i = .int .i64 0 ∧ J [] wr) (fun _ _ => 0)
  case atStart => exact ⟨rfl, h0⟩
  case round =>
    obtain ⟨rfl, hJs⟩ := hrel
    gi_wp2
    go_end0
    exact ⟨⟨_, rfl⟩, hJs⟩

theorem sv_stops (F : Fence) (n : Nat) (hF : F.fn 223) (hro : F.round = none) (Bs : Nat) (w : World) (hB : Bs < w.heap.size) (hc : w.cell? ⟨Bs, 0, none⟩ = some (.slice none 0 0)) :
    SeqStopsK F n Tryz.prog 223 #[.pointer (some ⟨Bs, 0, none⟩)] (fun x : Empty => (x.elim : Array Value)) (fun _ _ => True) (fun ys => ys = []) (fun _ => False) 0 w := fun l J _ W hW _ _ _ h0 => by
  have hc' := (hW.cell (p := ⟨Bs, 0, none⟩) hB).trans hc
  exact (sv1 F n hF hro l Bs J W hc' h0).mono fun e W' ⟨he, hj⟩ => ⟨he, .inl ⟨_, rfl, hj⟩⟩

set_option maxRecDepth 100000 in
set_option maxHeartbeats 1000000 in
theorem sv_make (w : World) :
    Calls Tryz.prog 188 #[.slice none 0 0] w fun e w' => e = .returned (.func (.func 223) #[] #[.pointer (some ⟨w.heap.size, 0, none⟩)]) ∧ w' = w.alloc (.cells #[.slice none 0 0] 195) := by
  go_enter Tryz.func188, Tryz.ntmps188
  go_wp2_with fail
  go_ret
  exact ⟨rfl, rfl⟩

set_option maxRecDepth 100000 in
set_option maxHeartbeats 1000000 in
theorem lineAll (yb : Nat) (w : World) (hc : w.cell? ⟨yb, 11, none⟩ = some (.slice none 0 0)) :
    Calls Tryz.prog 147 #[.pointer (some ⟨yb, 11, none⟩)] w fun e w' => e = .returned (.func (.func 223) #[] #[.pointer (some ⟨w.heap.size, 0, none⟩)]) ∧ w' = w.alloc (.cells #[.slice none 0 0] 195) := by
  go_enter Tryz.func147, Tryz.ntmps147
  go_wp2_with fail
  go_fit (sv_make w)
  rintro e w1 ⟨rfl, rfl⟩
  go_wp2_with fail
  go_ret
  exact ⟨rfl, rfl⟩

set_option maxRecDepth 100000 in
set_option maxHeartbeats 2000000 in
/-- no segment: no job is lost -/
theorem yLose (yb : Nat) (cs : Array Value) (w : World) (hB : Bx w yb 201 cs) (h11 : cs[11]? = some (.slice none 0 0)) :
    Calls Tryz.prog 122 #[.pointer (some ⟨yb, 0, none⟩)] w fun e w' => e = .returned (.tuple #[]) ∧ Below w.heap.size w w' := by
  have c11 := hB.cell h11
  clear hB h11
  refine (callsIn_wide (n := 3)).1 ?_
  refine callsIn_of_wp_marks Tryz.func122 rfl trivial ?_ rfl
  simp only [Tryz.ntmps122, List.size_toArray, List.length_cons, List.length_nil, Nat.reduceAdd, Nat.reduceSub, Array.replicate_succ, Array.replicate_zero, List.push_toArray, List.append_toArray, List.nil_append, List.cons_append]
  gi_wp2_with (refine ⟨trivial, ?_⟩; gi_at_call 147; refine (callsIn_wide.2 (lineAll yb w c11)).mono ?_; rintro e w' ⟨rfl, rfl⟩)
  have hB0 : Below w.heap.size w (w.alloc (.cells #[.slice none 0 0] 195)) := below_new _ _
  refine wpIn_rangeFunc_ownF (α := Empty) (n := 3) (F := Fence.wide) rfl (by decide) (gf := 223) (lb := #[.pointer (some ⟨w.heap.size, 0, none⟩)]) rfl trivial (enters_of Tryz.func223 (by kernel_rfl) rfl)
    (sv_stops Fence.wide 2 trivial rfl w.heap.size (w.alloc (.cells #[.slice none 0 0] 195)) (by simp) (by simp)) (fun _ _ => trivial) (fun _ _ _ _ _ _ _ _ => trivial) (Below.refl _ _) (fun x => x.elim)
    (fun _ W => Below w.heap.size w W) (fun _ _ _ => False) (ownFrom_below (Nat.le_refl _) (by simp)) (fun _ _ _ _ _ hs _ _ => hs) hB0 (fun x => x.elim) (fun _ x => x.elim) (fun _ _ x => x.elim) ?done ?stop
  case done =>
    rintro D ys W hD rfl hB hK
    gi_wp2
    refine ⟨by simp, .inl ⟨_, _, rfl, run_takeDeferred hK, ?_⟩⟩
    exact ⟨_, results_none rfl _ _ _, rfl, hB.trans (belowK_b (w := w) (Nat.le_refl _) W D _ _ (by simp at hD; omega) hK rfl rfl)⟩
  case stop =>
    rintro D c pre W _ _ h _
    exact h.elim

set_option maxRecDepth 100000 in
set_option maxHeartbeats 2000000 in
/-- no segment: none is told -/
theorem yTrain (yb : Nat) (cs : Array Value) (w : World) (hB : Bx w yb 201 cs) (h11 : cs[11]? = some (.slice none 0 0)) :
    Calls Tryz.prog 106 #[.pointer (some ⟨yb, 0, none⟩)] w fun e w' => e = .returned (.slice none 0 0) ∧ Below w.heap.size w w' := by
  have c11 := jcell_after (below_new w (.cells #[.slice none 0 0] 115)) (hB.cell h11)
  clear hB h11
  refine (callsIn_wide (n := 3)).1 ?_
  refine callsIn_of_wp_marks Tryz.func106 rfl trivial ?_ rfl
  simp only [Tryz.ntmps106, List.size_toArray, List.length_cons, List.length_nil, Nat.reduceAdd, Nat.reduceSub, Array.replicate_succ, Array.replicate_zero, List.push_toArray, List.append_toArray, List.nil_append, List.cons_append]
  gi_wp2_with (refine ⟨trivial, ?_⟩; gi_at_call 147; refine (callsIn_wide.2 (lineAll yb _ c11)).mono ?_; rintro e w' ⟨rfl, rfl⟩)
  have hB0 : Below w.heap.size w ((w.alloc (.cells #[.slice none 0 0] 115)).alloc (.cells #[.slice none 0 0] 195)) := ((Below.refl _ w).alloc (Nat.le_refl _) _).alloc (by simp) _
  have bL := Boxed.new w 115 (.slice none 0 0)
  refine wpIn_rangeFunc_ownF (α := Empty) (n := 3) (F := Fence.wide) rfl (by decide) (gf := 223) (lb := #[.pointer (some ⟨w.heap.size + 1, 0, none⟩)]) rfl trivial (enters_of Tryz.func223 (by kernel_rfl) rfl)
    (sv_stops Fence.wide 2 trivial rfl (w.heap.size + 1) ((w.alloc (.cells #[.slice none 0 0] 115)).alloc (.cells #[.slice none 0 0] 195)) (by simp) (by simp)) (fun _ _ => trivial) (fun _ _ _ _ _ _ _ _ => trivial) (Below.refl _ _) (fun x => x.elim)
    (fun _ W => W.cell? ⟨w.heap.size, 0, none⟩ = some (.slice none 0 0) ∧ Below w.heap.size w W) (fun _ _ _ => False) (OwnFrom.and (Own.from (fun s A B row hs hg hr => cell_kept hs hg hr) _) (ownFrom_below (Nat.le_refl _) (by simp; omega))) (fun _ _ _ _ _ hs _ _ => hs) ⟨(bL.alloc _).cell, hB0⟩ (fun x => x.elim) (fun _ x => x.elim) (fun _ _ x => x.elim) ?done ?stop
  case done =>
    rintro D ys W hD rfl ⟨hc, hB⟩ hK
    gi_wp2
    refine ⟨by simp, .inl ⟨_, _, rfl, run_takeDeferred hK, ?_⟩⟩
    exact ⟨_, results_tmp rfl _ _ _, rfl, hB.trans (belowK_b (w := w) (Nat.le_refl _) W D _ _ (by simp at hD; omega) hK rfl rfl)⟩
  case stop =>
    rintro D c pre W _ _ h _
    exact h.elim
end Go.Proofs.YtgamgomepdfgdaaGreat

namespace Go.Proofs.YtgamgomepdfgdaaGreat
open Go.RowKit

set_option maxRecDepth 100000 in
set_option maxHeartbeats 2000000 in
theorem yDo7 (S : Nat → Prop) (yb mb : Nat) (c : Cfg) (s : Qs) (w : World) (hY : YardAt w S yb mb c s) :
    Calls Tryz.prog 76 #[.pointer (some ⟨yb, 0, none⟩), .agg #[.int .i64 7, .int .i64 0, .slice none 0 0, .int .i64 0, .bool false, .int .i64 0]] w fun e w' => e = .returned (.tuple #[]) ∧ YardAt w' (Plus S w) yb mb c s ∧ Only w w' S := by
  have HY : Hid (YardAt w S yb mb c s) := hY
  obtain ⟨q, sb, qv, ov, h⟩ := hY
  have hL := yLose yb _ (w.alloc (.cells #[.int .i64 7, .int .i64 0, .slice none 0 0, .int .i64 0, .bool false, .int .i64 0] 140)) (h.box.mk _) rfl
  clear h
  go_enter Tryz.func76, Tryz.ntmps76
  go_wp2_with fail
  go_fit hL
  rintro e w1 ⟨rfl, hb⟩
  have HB : Hid (Below w.heap.size w w1) := (below_new _ _).trans (hb.mono (by simp))
  clear hb hL
  go_wp2_with fail
  exact bodyPost_end (v := .tuple #[]) (results_none (by kernel_rfl) _ _ _) rfl ⟨rfl, (YardAt.later HY.out HB.out).mono fun k hk => .inl hk, Only.of_below HB.out⟩

/-- what was read of the journal is done again -/
theorem yDoRec (S : Nat → Prop) (yb mb B : Nat) (c : Cfg) (s : Qs) (r : Rc) (l i q : Nat) (ea : Option Addr) (en ec : Nat) (p : Bool) (w : World) (hY : YardAt w S yb mb c s) (hr : s.Can c r) (hI : s.Inv c) (hc : c.Ok) (hi : s.ids.length < 1048576000) (ho : s.outs.length < 1048576000) (hQ : RecQ r B w l (.slice ea en ec) i p q) :
    Calls Tryz.prog 76 #[.pointer (some ⟨yb, 0, none⟩), .agg #[.int .i64 r.kind, .int .i64 l, .slice ea en ec, .int .i64 i, .bool p, .int .i64 q]] w fun e w' => e = .returned (.tuple #[]) ∧ YardAt w' (Plus S w) yb mb c (s.does r) ∧ Only w w' S := by
  have hq16 : s.queue.length ≤ 16 := Nat.le_trans hI.len hc.2.2.2.2.2.2.2
  obtain ⟨rfl, ⟨h1, rfl, rfl, rfl, g, he, _, hH⟩ | ⟨he, rfl, rfl, rfl, h1⟩⟩ := hQ
  · obtain ⟨s1, s2, s3, s4, s5⟩ := hr.sub h1
    obtain ⟨rfl, rfl, rfl⟩ := Value.slice.inj he
    have := yDo1 S yb mb r.num r.lane 0 false g 0 r.edits.length r.edits c s w hY hq16 s5 s1 s2 hi hH.1 (fun i h => by rw [Nat.zero_add]; exact (hH.2.2 i h h).1) (fun i h => by rw [Nat.zero_add]; exact (hH.2.2 i h h).2.1) (fun i h => by rw [Nat.zero_add]; exact (hH.2.2 i h h).2.2)
    unfold recC at this
    rw [h1]
    have e : s.does r = { s with ids := s.ids ++ [r.num], queue := s.queue ++ [⟨r.num, r.lane, 0, s.ids.length, r.edits⟩] } := by simp [Qs.does, h1]
    rw [e]
    exact this
  · obtain ⟨rfl, rfl, rfl⟩ := Value.slice.inj he
    rcases hr.kind with hk | hk | hk | hk
    · exact absurd hk h1
    · have := yDo2 S yb mb r.num c s w hY hq16 (hr.cancel hk) ho hI.ack
      have e : s.does r = { s with queue := s.queue.filter fun c => c.id != r.num, outs := s.outs ++ [(r.num, 4)] } := by simp [Qs.does, hk]
      rw [e]
      simpa [hk] using this
    · have := yDo6 S yb mb r.num c s w hY (hr.ack hk)
      have e : s.does r = { s with acked := s.acked + 1 } := by simp [Qs.does, hk]
      rw [e]
      simpa [hk] using this
    · have := yDo7 S yb mb c s w hY
      have e : s.does r = s := by simp [Qs.does, hk]
      rw [e]
      simpa [hk] using this
end Go.Proofs.YtgamgomepdfgdaaGreat

namespace Go.Proofs.YtgamgomepdfgdaaGreat
open Go.RowKit

def rc7 : Rc := ⟨7, 0, 0, false, []⟩
theorem rc7_ok : rc7.ok := ⟨.inr (.inr (.inr (.inr (.inr rfl)))), by decide⟩

/-- a record was done: the machine behind that -/
theorem up_done {w w' : World} {Y : Nat → Prop} {xb mb rb yb : Nat} {c : Cfg} {s s' : Qs} {L : List UInt8} {br : Bool} {keep : Int} {lv : Value} (h : UpIs w Y xb mb rb yb c s L br keep lv) (hY : YardAt w' (Plus Y w) yb mb c s') (hO : Only w w' Y) : UpIs w' (Upto Y w w') xb mb rb yb c s' L br keep lv := by
  have hs := hO.size
  have up4 : ∀ k, k < w.heap.size → ¬ Y k → ¬ Upto Y w w' k := fun k hk h1 h2 => by
    rcases h2 with h2 | h2
    · exact h1 h2
    · omega
  refine ⟨h.box.kept hO h.nx, h.run.kept hO h.nr, h.log.kept fun g hg => hO.block g (h.log.lt hg) (h.nl g hg), (hY.tight).mono fun k hk => ?_, up4 xb h.box.lt h.nx, up4 rb h.run.lt h.nr, fun g hg => up4 g (h.log.lt hg) (h.nl g hg), ?_⟩
  · rcases hk with ⟨hk | hk, hlt⟩
    · exact .inl hk
    · exact .inr ⟨hk, hlt⟩
  · rintro k (hk | hk)
    · have := h.yl k hk; omega
    · exact hk.2

/-- a machine that was taken up -/
structure Taken (w w' : World) (xb mb : Nat) (c : Cfg) (s : Qs) (L : List UInt8) (lv : Value) : Prop where
  up : ∃ Y rb yb lv', UpIs w' Y xb mb rb yb c s L false 0 lv' ∧ w.heap.size ≤ rb ∧ (∀ k, Y k → w.heap.size ≤ k) ∧ (lv'.ownBlock = lv.ownBlock ∨ ∃ g, lv'.ownBlock = some g ∧ w.heap.size ≤ g)
  only : Only w w' (fun k => k = xb ∨ lv.ownBlock = some k)

/-- the act at the end -/
theorem mAct7 (Y : Nat → Prop) (xb mb rb yb : Nat) (c : Cfg) (s : Qs) (L : List UInt8) (keep : Int) (lv : Value) (w : World) (hU : UpIs w Y xb mb rb yb c s L false keep lv) (hL : L.length < 1099511627776) :
    Calls Tryz.prog 73 #[.pointer (some ⟨xb, 0, none⟩), .agg #[.int .i64 7, .int .i64 0, .slice none 0 0, .int .i64 0, .bool false, .int .i64 0]] w fun e w' => e = .returned (.int .i64 0) ∧ Acted w w' Y xb mb rb yb c s (L ++ rc7.bytes) keep lv :=
  mAct_ok Y xb mb rb yb c s s L rc7.bytes keep lv 7 0 0 0 false none 0 0 w hU hL (by decide) (fun W _ => yCheck7 yb W) (fun W _ => prog_bytes rc7 rc7_ok none 0 0 W (fun h => by cases h)) (fun W _ hY => yDo7 Y yb mb c s W hY)

theorem flatten_get : ∀ {css : List (List Value)}, (∀ cs ∈ css, cs.length = 6) → ∀ (k j : Nat) (hk : k < css.length), j < 6 → css.flatten[k * 6 + j]? = css[k][j]?
  | [], _, _, _, hk, _ => by simp at hk
  | cs :: css, h, 0, j, _, hj => by
    have := h cs List.mem_cons_self
    rw [List.flatten_cons, List.getElem?_append_left (by omega)]
    simp
  | cs :: css, h, k + 1, j, hk, hj => by
    have h1 := h cs List.mem_cons_self
    rw [List.flatten_cons, List.getElem?_append_right (by omega)]
    have e : (k + 1) * 6 + j - cs.length = k * 6 + j := by omega
    rw [e, flatten_get (fun x hx => h x (List.mem_cons_of_mem _ hx)) k j (by simpa using hk) hj]
    simp
theorem bc_take (L : List UInt8) (n : Nat) : (bc L).take n = bc (L.take n) := by simp [bc, List.map_take]

set_option maxRecDepth 100000 in
set_option maxHeartbeats 4000000 in
/-- a machine is taken up -/
theorem mRecover_down (xb mb : Nat) (c : Cfg) (rs : List Rc) (T L : List UInt8) (lv : Value) (w : World) (hD : DownIs w xb mb c L lv) (hL : L = allB rs ++ T) (hT : TornOf T) (hF : Fits c rs) (hc : c.Ok) (hn : rs.length < 1048576) (hLn : L.length < 1099511627776) (hm : mb < w.heap.size) :
    Calls Tryz.prog 32 #[.pointer (some ⟨xb, 0, none⟩)] w fun e w' => e = .returned (.int .i64 0) ∧ Taken w w' xb mb c (Qs.all rs) (allB rs ++ rc7.bytes) lv := by
  have c9 : w.cell? ⟨xb, 9, none⟩ = some (.pointer none) := hD.box.cell (i := 9) rfl
  have c8 : w.cell? ⟨xb, 8, none⟩ = some lv := hD.box.cell (i := 8) rfl
  have hR := read_walk rs T L lv w (hF.ok hc) hT hL (hD.log.bv hLn) (by omega)
  have HD : Hid (DownIs w xb mb c L lv) := hD
  have hle : (allB rs).length ≤ L.length := by rw [hL, List.length_append]; omega
  have HLt : Hid (L.take (allB rs).length = allB rs) := by show _ = _; rw [hL, List.take_left]
  have hLn2 : Hid ((allB rs).length < 1099511627776) := by show _ < _; omega
  obtain ⟨a, cap, rfl⟩ := hD.log.form
  have hcap : L.length ≤ cap ∧ cap ≤ maxLen := by
    rcases hD.log.2 with ⟨h1, h0⟩ | ⟨g, off, cap', cur, h1, _, h2, h3, _⟩
    · injection h1 with _ _ h1; rw [h0, h1]; exact ⟨Nat.le_refl _, Nat.zero_le _⟩
    · injection h1 with _ _ h1; rw [h1]; exact ⟨h2, h3⟩
  have hcapL := hcap.1
  have hcapM : cap < 9223372036854775808 := by have := hcap.2; unfold maxLen at this; omega
  generalize hAn : (allB rs).length = An at *
  clear hD hL hT hcap hLn
  go_enter Tryz.func32, Tryz.ntmps32
  go_wp2_with fail
  go_fit hR
  rintro e w1 ⟨⟨rv, css, rfl, hRs, hrow⟩, hb1⟩
  obtain ⟨va, vc, rfl⟩ := row_form hrow
  have d9 := jcell_after hb1 c9
  have d8 := jcell_after hb1 c8
  have hB1 := HD.out.box.later hb1
  have f8 := hB1.fr 8
  have hL1 := HD.out.log.later hb1
  clear hR c9 c8
  go_wp2_with fail
  have hne : (Value.slice a L.length cap).ownBlock ≠ some xb := hL1.ne hB1 (by decide)
  have hneA : (Value.slice a An cap).ownBlock ≠ some xb := fun h => hne (by cases a <;> first | exact h | (simp [Value.ownBlock] at h))
  have hB2 : Bx (w1.setCell ⟨xb, 8, none⟩ (.slice a An cap)) xb 135 (machCells c mb (.slice a An cap) (.pointer none)) := hB1.set 8 _
  have hL2 : Sl (w1.setCell ⟨xb, 8, none⟩ (.slice a An cap)) 5 1 (.slice a An cap) (allB rs).length (bc (allB rs)) := by
    have h := hL1.cut hle
    rw [Nat.mul_one, bc_take, HLt.out] at h
    rw [hAn]
    exact h.grown (grown_set _ _ _ _) fun g hg e => hneA (by rw [hg]; exact e.symm)
  have hs1 := hb1.size
  have hSt := mStart xb mb c (allB rs) (.slice a An cap) none _ hB2 hL2 (Nat.lt_of_lt_of_le (by omega) (grown_set w1 xb 8 (.slice a An cap)).size)
  have hO2 : Only w1 (w1.setCell ⟨xb, 8, none⟩ (.slice a An cap)) (fun k => k = xb) := (Only.refl _ _).set (.inl rfl)
  have HB1 : Hid (Bx w1 xb 135 (machCells c mb (.slice a L.length cap) (.pointer none))) := hB1
  have Hrow : Hid (Sl w1 140 6 (.slice va rs.length vc) rs.length css.flatten) := Sl.of_row hrow
  have HRs : Hid (Recs w1 w.heap.size rs css) := hRs
  have HBw : Hid (Below w.heap.size w w1) := hb1
  have hneL : Hid ((Value.slice a L.length cap).ownBlock = (Value.slice a An cap).ownBlock) := by cases a <;> rfl
  generalize w1.setCell ⟨xb, 8, none⟩ (.slice a An cap) = w2 at *
  clear hB1 hL1 hB2 hL2 hrow hRs hb1 d9 d8 f8
  go_fit hSt
  rintro e w3 ⟨rfl, ⟨Y, rb, yb, hU3, hrb, hY3⟩, hO3⟩
  have HI : Hid (∃ Y', UpIs w3 Y' xb mb rb yb c (Qs.all (rs.take 0)) (allB rs) false 0 (.slice a An cap) ∧ ∀ q, Y' q → w1.heap.size ≤ q) := ⟨Y, hU3, fun q hq => Nat.le_trans hO2.size (hY3 q hq)⟩
  have HO : Hid (Only w1 w3 (fun k => k = xb)) := hO2.trans hO3 fun _ h => .inl h
  have Hrb : Hid (w1.heap.size ≤ rb) := Nat.le_trans hO2.size hrb
  clear hU3 hrb hY3 hO3 hO2 hSt
  go_wp2_with fail
  go_loopw [33] (fun iv wr => ∃ k : Nat, k ≤ rs.length ∧ iv = .int .i64 k ∧ Hid (Only w1 wr (fun k => k = xb)) ∧ Hid (∃ Y', UpIs wr Y' xb mb rb yb c (Qs.all (rs.take k)) (allB rs) false 0 (.slice a An cap) ∧ ∀ q, Y' q → w1.heap.size ≤ q)) (fun i _ => rs.length - (intOf i).toNat)
  case atStart => exact ⟨0, Nat.zero_le _, rfl, HO, HI⟩
  case round =>
    obtain ⟨k, hk, rfl, hOk, hIk⟩ := hrel
    clear HO HI
    by_cases hlk : k < rs.length
    · have hck : k < css.length := by rw [HRs.out.len]; exact hlk
      obtain ⟨l, ea, en, ec, i, p, q, hcs, hQ⟩ := HRs.out.each k hlk hck
      obtain ⟨g, off, cap', hv, _⟩ := Hrow.out.addr (by omega)
      have hS : Hid (Sl w1 140 6 (.slice (some ⟨g, off, none⟩) rs.length cap') rs.length css.flatten) := by rw [← hv]; exact Hrow.out
      injection hv with hva _ hvc
      subst hva hvc
      have hgx : g ≠ xb := fun e => hS.out.ne HB1.out (by decide) (by rw [e]; rfl)
      have kk : ∀ j (u : Value), j < 6 → css[k][j]? = some u → wr.cell? ⟨g, off + k * 6 + j, none⟩ = some u := fun j u hj hu => by
        have := hS.out.cell (j := k * 6 + j) (u := u) (by rw [flatten_get (Recs.flat HRs.out) k j hck hj]; exact hu)
        rw [Nat.add_assoc]; exact only_cell hOk.out hgx this
      rw [hcs] at kk
      have d0 : wr.cell? ⟨g, off + k * 6, none⟩ = some (.int .i64 rs[k].kind) := kk 0 _ (by decide) rfl
      have d1 := kk 1 (.int .i64 l) (by decide) rfl
      have d2 := kk 2 (.slice ea en ec) (by decide) rfl
      have d3 := kk 3 (.int .i64 i) (by decide) rfl
      have d4 := kk 4 (.bool p) (by decide) rfl
      have d5 := kk 5 (.int .i64 q) (by decide) rfl
      have hgl := jcell_lt d0
      obtain ⟨Y', hU, hYl⟩ := hIk.out
      have HU : Hid (UpIs wr Y' xb mb rb yb c (Qs.all (rs.take k)) (allB rs) false 0 (.slice a An cap)) := hU
      have HYl : Hid (∀ q, Y' q → w1.heap.size ≤ q) := hYl
      have hlen := Qs.all_len (rs.take k)
      rw [List.length_take] at hlen
      have HDo : Hid (∀ W, Below wr.heap.size wr W → Calls Tryz.prog 76 #[.pointer (some ⟨yb, 0, none⟩), .agg #[.int .i64 rs[k].kind, .int .i64 l, .slice ea en ec, .int .i64 i, .bool p, .int .i64 q]] W fun e W' => e = .returned (.tuple #[]) ∧ YardAt W' (Plus Y' W) yb mb c (Qs.all (rs.take (k + 1))) ∧ Only W W' Y') := fun W hW => by
        rw [Qs.step_at hlk]
        refine yDoRec Y' yb mb w.heap.size c _ rs[k] l i q ea en ec p W (HU.out.yard.later hW) (hF.at k hlk) (hF.take k).inv hc (by omega) (by omega) (hQ.kept (Nat.le_trans hOk.out.size hW.size) fun g' s hs => ?_)
        have hlt := jcell_lt hs
        rw [hW.block g' (Nat.lt_of_lt_of_le hlt hOk.out.size)]
        refine hOk.out.block g' hlt fun e => ?_
        rw [e, HB1.out.cell (i := 0) rfl] at hs
        cases hs
      clear hU hYl hQ hcs kk hlen hIk
      generalize rs[k].kind = r0 at *
      have HR0 : Hid (Bx wr rb 137 (runCells yb false 0)) := HU.out.run
      have HX0 : Hid (Bx wr xb 135 (machCells c mb (.slice a An cap) (.pointer (some ⟨rb, 0, none⟩)))) := HU.out.box
      go_wp2_with fail
      have hX0 := Bx.new wr #[.int .i64 r0, .int .i64 l, .slice ea en ec, .int .i64 i, .bool p, .int .i64 q] 140
      have HB0 : Hid (Below wr.heap.size wr (wr.alloc (.cells #[.int .i64 r0, .int .i64 l, .slice ea en ec, .int .i64 i, .bool p, .int .i64 q] 140))) := below_new _ _
      generalize wr.alloc (.cells #[.int .i64 r0, .int .i64 l, .slice ea en ec, .int .i64 i, .bool p, .int .i64 q] 140) = w0 at *
      have c9 : w0.cell? ⟨xb, 9, none⟩ = some (.pointer (some ⟨rb, 0, none⟩)) := (HX0.out.later HB0.out).cell (i := 9) rfl
      have r00 : w0.cell? ⟨rb, 0, none⟩ = some (.pointer (some ⟨yb, 0, none⟩)) := (HR0.out.later HB0.out).cell (i := 0) rfl
      have x0 : w0.cell? ⟨wr.heap.size, 0, none⟩ = some (.int .i64 r0) := hX0.cell (i := 0) rfl
      have x1 : w0.cell? ⟨wr.heap.size, 1, none⟩ = some (.int .i64 l) := hX0.cell (i := 1) rfl
      have x2 : w0.cell? ⟨wr.heap.size, 2, none⟩ = some (.slice ea en ec) := hX0.cell (i := 2) rfl
      have x3 : w0.cell? ⟨wr.heap.size, 3, none⟩ = some (.int .i64 i) := hX0.cell (i := 3) rfl
      have x4 : w0.cell? ⟨wr.heap.size, 4, none⟩ = some (.bool p) := hX0.cell (i := 4) rfl
      have x5 : w0.cell? ⟨wr.heap.size, 5, none⟩ = some (.int .i64 q) := hX0.cell (i := 5) rfl
      have nX : Hid (¬ Y' xb) := HU.out.nx
      have nR : Hid (¬ Y' rb) := HU.out.nr
      have nB : Hid (¬ Y' wr.heap.size) := fun h => Nat.lt_irrefl _ (HU.out.yl _ h)
      have hD4 := HDo.out w0.drew ⟨HB0.out.os, HB0.out.tape, HB0.out.output, HB0.out.size, HB0.out.block⟩
      clear hX0 HDo d0 d1 d2 d3 d4 d5 HR0 HX0
      go_region_held_law (fun w' => w'.cell? ⟨xb, 9, none⟩ = some (.pointer (some ⟨rb, 0, none⟩)) ∧ w'.cell? ⟨rb, 0, none⟩ = some (.pointer (some ⟨yb, 0, none⟩)) ∧ w'.cell? ⟨wr.heap.size, 0, none⟩ = some (.int .i64 r0) ∧ w'.cell? ⟨wr.heap.size, 1, none⟩ = some (.int .i64 l) ∧ w'.cell? ⟨wr.heap.size, 2, none⟩ = some (.slice ea en ec) ∧ w'.cell? ⟨wr.heap.size, 3, none⟩ = some (.int .i64 i) ∧ w'.cell? ⟨wr.heap.size, 4, none⟩ = some (.bool p) ∧ w'.cell? ⟨wr.heap.size, 5, none⟩ = some (.int .i64 q)) (go_keep) ((go_at_call 76; refine hD4.mono ?_; rintro e w5 ⟨rfl, hY5, hO5⟩; have c95 := only_cell hO5 nX.out c9; have r05 := only_cell hO5 nR.out r00; have v0 := only_cell hO5 nB.out x0; have v1 := only_cell hO5 nB.out x1; have v2 := only_cell hO5 nB.out x2; have v3 := only_cell hO5 nB.out x3; have v4 := only_cell hO5 nB.out x4; have v5 := only_cell hO5 nB.out x5; have HY5 : Hid (YardAt w5 (Plus Y' w0.drew) yb mb c (Qs.all (rs.take (k + 1)))) := hY5; have HO5 : Hid (Only w0.drew w5 Y') := hO5; clear hY5 hO5))
      all_goals
        go_wp2_with fail
        refine ⟨⟨k + 1, hlk, by go_num, ?_, ?_⟩, by simp [intOf]; omega⟩
        · exact (hOk.out.trans (Only.of_below (S := fun _ => False) HB0.out) fun _ h => h.elim).trans HO5.out.drew fun q hq => .inr (HYl.out q hq)
        · have h01 := HB0.out.size
          have h02 := hOk.out.size
          refine ⟨Upto Y' w0 w5, up_done (up_later HU.out HB0.out) HY5.out HO5.out.drew, fun q hq => ?_⟩
          rcases hq with hq | hq
          · exact HYl.out q hq
          · omega
    · obtain rfl : k = rs.length := by omega
      obtain ⟨Y', hU, hYl⟩ := hIk.out
      rw [List.take_length] at hU
      have hA := mAct7 Y' xb mb rb yb c (Qs.all rs) (allB rs) 0 (.slice a An cap) wr hU (by rw [hAn]; exact hLn2.out)
      have HU : Hid (UpIs wr Y' xb mb rb yb c (Qs.all rs) (allB rs) false 0 (.slice a An cap)) := hU
      have HYl : Hid (∀ q, Y' q → w1.heap.size ≤ q) := hYl
      clear hU hYl hIk
      go_wp2_with fail
      go_fit hA
      rintro e w6 ⟨rfl, hA6⟩
      have HA : Hid (Acted wr w6 Y' xb mb rb yb c (Qs.all rs) (allB rs ++ rc7.bytes) 0 (.slice a An cap)) := hA6
      clear hA6 hA
      go_wp2_with fail
      go_ret
      obtain ⟨⟨Y6, lv6, hU6, hY6, hl6⟩, hO6⟩ := HA.out
      have h1 := HBw.out.size
      have h2 := hOk.out.size
      refine ⟨rfl, ⟨Y6, rb, yb, lv6, hU6, Nat.le_trans h1 Hrb.out, fun q hq => ?_, ?_⟩, ?_⟩
      · rcases hY6 q hq with h | h
        · exact Nat.le_trans h1 (HYl.out q h)
        · omega
      · rw [hneL.out]
        rcases hl6 with h | ⟨g6, h, hg6⟩
        · exact .inl h
        · exact .inr ⟨g6, h, by omega⟩
      · refine ((Only.of_below HBw.out).trans hOk.out fun q hq => .inl (.inl hq)).trans hO6 fun q hq => ?_
        rcases hq with h | h | h
        · exact .inr (Nat.le_trans h1 (HYl.out q h))
        · exact .inl (.inl h)
        · exact .inl (.inr (by rw [hneL.out]; exact h))
end Go.Proofs.YtgamgomepdfgdaaGreat
