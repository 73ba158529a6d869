import Derived.Test.YtgamgomepdfgdaaGreatM27
namespace Go.Proofs.YtgamgomepdfgdaaGreat
open Go.RowKit

theorem row_same2 {w w' : World} {base : Nat} {e : TypeId} {size n : Nat} {v : Value} {xs : List Value} (h : w.ownsRow base e size v n xs) (hk : ∀ g, v.ownBlock = some g → w'.heap[g]? = w.heap[g]?) : w'.ownsRow base e size v n xs := by
  refine ⟨h.1, ?_⟩
  rcases h.2 with h' | ⟨g, cap, cur, rfl, hb, hg, hr⟩
  · exact .inl h'
  · exact .inr ⟨g, cap, cur, rfl, hb, (hk g rfl).trans hg, hr⟩
theorem only_cell' {w w' : World} {S : Nat → Prop} (h : Only w w' S) {b o : Nat} {v : Value} (hn : ¬ S b) (hc : w.cell? ⟨b, o, none⟩ = some v) : w'.cell? ⟨b, o, none⟩ = some v :=
  (World.cell?_of_block (w := w) (h.block b (jcell_lt hc) hn)).trans hc
def woQ (id : Nat) (q : List Pw) : List Pw := q.filter fun x => x.1.id != id
theorem wo_map (id : Nat) (q : List Pw) : wo id (q.map wt) = (woQ id q).map wt := by
  rw [wo, woQ, List.filter_map]; rfl

set_option maxRecDepth 100000 in
set_option maxHeartbeats 4000000 in
theorem rDo2 (base nb num : Nat) (pass : Bool) (c : Cfg) (tip : Value) (s : Qs) (w : World) (hN : NowAt w base nb c tip s) (hb : base ≤ w.heap.size) (hex : ∃ x ∈ s.queue, x.id = num) (hq : s.queue.length < 1048576) (ho : s.outs.length < 1048576000) :
    Calls Tryz.prog 131 #[.pointer (some ⟨nb, 0, none⟩), .agg #[.int .i64 2, .int .i64 0, .int .i64 num, .bool pass, .slice none 0 0]] w fun e w' => e = .returned (.tuple #[]) ∧ NowAt w' base nb c tip { s with queue := s.queue.filter fun c => c.id != num, outs := s.outs ++ [(num, 4)] } ∧ Below base w w' := by
  obtain ⟨q, idv, qv, ov, hN⟩ := hN
  have hql : q.length = s.queue.length := by rw [← hN.qs, List.length_map]
  have hpos : 0 < q.length := by
    obtain ⟨x, hx, _⟩ := hex
    rw [hql]; exact List.length_pos_of_mem hx
  obtain ⟨g, qcap, rfl⟩ : ∃ g qcap, qv = .slice (some ⟨g, 0, none⟩) (q.map wt).length qcap := by
    rcases hN.row.2 with ⟨_, h0⟩ | ⟨g, cap, cur, e, _⟩
    · omega
    · exact ⟨g, cap, by rw [List.length_map]; exact e⟩
  have HN : Hid (NowIs w base nb c tip s q idv (.slice (some ⟨g, 0, none⟩) (q.map wt).length qcap) ov) := hN
  have hnl := hN.box.lt
  have B0 := hN.box.mk (.cells #[.int .i64 2, .int .i64 0, .int .i64 num, .bool pass, .slice none 0 0] 168)
  have X0 := Bx.new w #[.int .i64 2, .int .i64 0, .int .i64 num, .bool pass, .slice none 0 0] 168
  have hr0 : (w.alloc (.cells #[.int .i64 2, .int .i64 0, .int .i64 num, .bool pass, .slice none 0 0] 168)).ownsRow base 165 4 (.slice (some ⟨g, 0, none⟩) (q.map wt).length qcap) (q.map wt).length ((q.map wt).flatMap cW) := by
    have := World.ownsRow.alloc hN.row (.cells #[.int .i64 2, .int .i64 0, .int .i64 num, .bool pass, .slice none 0 0] 168)
    rwa [← List.length_map (f := wt)] at this
  have hW := refwithout nb num (q.map wt) g qcap base _ _ B0 rfl hr0 (fun x hx => by
    obtain ⟨y, hy, rfl⟩ := List.mem_map.1 hx
    exact hN.sl y hy) (by rw [List.length_map]; omega)
  have HO : Hid (∀ W v', Bx W nb 163 (nowCells c tip idv v' ov s.acked) → W.ownsRow base 99 3 ov s.outs.length (oc 0 s.outs) → base ≤ W.heap.size → Calls Tryz.prog 177 #[.pointer (some ⟨nb, 0, none⟩), .int .i64 num, .int .i64 4] W fun e w' => e = .returned (.tuple #[]) ∧ ∃ o', Bx w' nb 163 (nowCells c tip idv v' o' s.acked) ∧ w'.ownsRow base 99 3 o' (s.outs.length + 1) (oc 0 (s.outs ++ [(num, 4)])) ∧ Only W w' (fun k => k = nb ∨ ov.ownBlock = some k)) := fun W v' hB hS hbW => by
    obtain ⟨oa, ocap, rfl⟩ := row_shape3 hS
    refine (refout nb num 4 s.outs.length base oa ocap _ _ W hB rfl hS (row_nb hS hB (by decide)) hbW ho).mono ?_
    rintro e w' ⟨rfl, o', h1, h2, _, h4⟩
    refine ⟨rfl, o', h1, ?_, h4⟩
    rw [oc_snoc, Nat.zero_add]; exact h2
  have HB0 : Hid (Below w.heap.size w (w.alloc (.cells #[.int .i64 2, .int .i64 0, .int .i64 num, .bool pass, .slice none 0 0] 168))) := below_new _ _
  clear hN B0 hr0 hex
  go_enter Tryz.func131, Tryz.ntmps131
  go_upto_region 1 with fail
  generalize w.alloc (.cells #[.int .i64 2, .int .i64 0, .int .i64 num, .bool pass, .slice none 0 0] 168) = w0 at *
  have x0 : w0.cell? ⟨w.heap.size, 0, none⟩ = some (.int .i64 2) := X0.cell (i := 0) rfl
  have x2 : w0.cell? ⟨w.heap.size, 2, none⟩ = some (.int .i64 num) := X0.cell (i := 2) rfl
  have HX0 : Hid (Bx w0 w.heap.size 168 #[.int .i64 2, .int .i64 0, .int .i64 num, .bool pass, .slice none 0 0]) := X0
  clear X0
  go_upto_region 7 with fail
  go_fit hW
  rintro e w1 ⟨rfl, v1, hB1, hR1, hO1⟩
  have h := HN.out
  have hs0 := HB0.out.size
  have hOw : Only w w1 (fun k => k = nb) := (Only.of_below HB0.out).trans hO1 fun k hk => .inl hk
  have hout1 : w1.ownsRow base 99 3 ov s.outs.length (oc 0 s.outs) := row_same2 h.outs fun g hg => hOw.block g (World.ownsRow.lt h.outs g hg).2 (fun e => row_nb h.outs h.box (by decide) (by rw [hg, e]))
  have hid1 : w1.ownsRow base 3 1 idv s.ids.length (s.ids.map cI) := row_same2 h.ids fun g hg => hOw.block g (World.ownsRow.lt h.ids g hg).2 (fun e => row_nb h.ids h.box (by decide) (by rw [hg, e]))
  have hOut := HO.out w1 v1 hB1 hout1 (Nat.le_trans hb hOw.size)
  have x2' : w1.cell? ⟨w.heap.size, 2, none⟩ = some (.int .i64 num) := only_cell' hO1 (by omega) x2
  have HR1 : Hid (w1.ownsRow base 165 4 v1 (woQ num q).length (((woQ num q).map wt).flatMap cW)) := by
    have := row_low hR1 (Nat.le_trans hb hs0)
    rw [wo_map, List.length_map] at this
    exact this
  have HI1 : Hid (w1.ownsRow base 3 1 idv s.ids.length (s.ids.map cI)) := hid1
  have HOW : Hid (Only w w1 (fun k => k = nb)) := hOw
  have HB1 : Hid (Bx w1 nb 163 (nowCells c tip idv v1 ov s.acked)) := hB1
  have HOT : Hid (w1.ownsRow base 99 3 ov s.outs.length (oc 0 s.outs)) := hout1
  clear h hW hB1 hR1 hO1 hOw hout1 hid1 HO x0 x2
  go_upto_region 7 with fail
  go_wp2_with fail
  go_fit hOut
  rintro e w2 ⟨rfl, o', hB2, hS2, hO2⟩
  have H2 : Hid _ := hB2
  have H3 : Hid _ := hS2
  have H4 : Hid _ := hO2
  clear hB2 hS2 hO2 hOut
  go_wp2_with fail
  have h := HN.out
  have nold : ∀ g, g < w1.heap.size → g ≠ nb → ov.ownBlock ≠ some g → w2.heap[g]? = w1.heap[g]? := fun g hg h1 h2 => H4.out.block g hg (fun e => by
    rcases e with e | e
    · exact h1 e
    · exact h2 e)
  refine bodyPost_end (v := .tuple #[]) (results_none (by kernel_rfl) _ _ _) rfl ⟨rfl, ⟨woQ num q, idv, v1, o', ⟨H2.out, h.low, ?_, ?_, ?_, fun x hx => h.sl x (List.mem_filter.1 hx).1, ?_⟩⟩, ?_⟩
  · exact row_same2 HI1.out fun g hg => nold g (World.ownsRow.lt HI1.out g hg).2 (fun e => row_nb HI1.out HB1.out (by decide) (by rw [hg, e])) ((Sl.of_row HI1.out).apart (Sl.of_row HOT.out) (by decide) hg)
  · show (woQ num q).map Prod.fst = s.queue.filter _
    rw [← h.qs, woQ, List.filter_map]; rfl
  · exact row_same2 HR1.out fun g hg => nold g (World.ownsRow.lt HR1.out g hg).2 (fun e => row_nb HR1.out HB1.out (by decide) (by rw [hg, e])) ((Sl.of_row HR1.out).apart (Sl.of_row HOT.out) (by decide) hg)
  · show World.ownsRow _ _ _ _ _ (s.outs ++ [(num, 4)]).length _
    rw [List.length_append]; exact H3.out
  · have b1 : Below base w w1 := ⟨HOW.out.os, HOW.out.tape, HOW.out.output, HOW.out.size, fun k hk => HOW.out.block k (by omega) (fun e => by have := h.low; omega)⟩
    have b2 : Below base w1 w2 := ⟨H4.out.os, H4.out.tape, H4.out.output, H4.out.size, fun k hk => H4.out.block k (by have := HOW.out.size; omega) (fun e => by
      rcases e with e | e
      · have := h.low; omega
      · have := (World.ownsRow.lt HOT.out k e).1; omega)⟩
    exact b1.trans b2
end Go.Proofs.YtgamgomepdfgdaaGreat

namespace Go.Proofs.YtgamgomepdfgdaaGreat
open Go.RowKit

theorem NowIs.later {w w' : World} {base nb : Nat} {c : Cfg} {tip : Value} {s : Qs} {q : List Pw} {idv qv ov : Value} (h : NowIs w base nb c tip s q idv qv ov) (hb : Below w.heap.size w w') : NowIs w' base nb c tip s q idv qv ov :=
  ⟨(hb.block _ h.box.lt).trans h.box, h.low, row_same2 h.ids fun g hg => hb.block g (World.ownsRow.lt h.ids g hg).2, h.qs, row_same2 h.row fun g hg => hb.block g (World.ownsRow.lt h.row g hg).2, h.sl, row_same2 h.outs fun g hg => hb.block g (World.ownsRow.lt h.outs g hg).2⟩

set_option maxRecDepth 100000 in
set_option maxHeartbeats 4000000 in
theorem rDo6 (base nb num : Nat) (pass : Bool) (c : Cfg) (tip : Value) (s : Qs) (w : World) (hN : NowAt w base nb c tip s) (hb : base ≤ w.heap.size) (ha : s.acked < 1048576000) :
    Calls Tryz.prog 131 #[.pointer (some ⟨nb, 0, none⟩), .agg #[.int .i64 6, .int .i64 0, .int .i64 num, .bool pass, .slice none 0 0]] w fun e w' => e = .returned (.tuple #[]) ∧ NowAt w' base nb c tip { s with acked := s.acked + 1 } ∧ Below base w w' := by
  obtain ⟨q, idv, qv, ov, hN⟩ := hN
  have h0 := NowIs.later hN (below_new w (.cells #[.int .i64 6, .int .i64 0, .int .i64 num, .bool pass, .slice none 0 0] 168))
  have X0 := Bx.new w #[.int .i64 6, .int .i64 0, .int .i64 num, .bool pass, .slice none 0 0] 168
  have HB0 : Hid (Below w.heap.size w (w.alloc (.cells #[.int .i64 6, .int .i64 0, .int .i64 num, .bool pass, .slice none 0 0] 168))) := below_new _ _
  have hw : IntKind.i64.wrap ((s.acked : Int) + 1) = (s.acked : Int) + 1 := wrap_i64 (by omega) (by omega)
  clear hN
  go_enter Tryz.func131, Tryz.ntmps131
  go_upto_region 1 with fail
  generalize w.alloc (.cells #[.int .i64 6, .int .i64 0, .int .i64 num, .bool pass, .slice none 0 0] 168) = w0 at *
  have x0 : w0.cell? ⟨w.heap.size, 0, none⟩ = some (.int .i64 6) := X0.cell (i := 0) rfl
  have c13 : w0.cell? ⟨nb, 13, none⟩ = some (.int .i64 s.acked) := h0.box.cell (i := 13) rfl
  have f13 := h0.box.fr 13
  have H0 : Hid (NowIs w0 base nb c tip s q idv qv ov) := h0
  clear X0 h0
  go_wp2_with fail
  have h := H0.out
  refine bodyPost_end (v := .tuple #[]) (results_none (by kernel_rfl) _ _ _) rfl ⟨rfl, ⟨q, idv, qv, ov, ⟨?_, h.low, World.ownsRow.kept h.ids (grown_set _ _ _ _) (row_or h.ids h.box (by decide)), h.qs, World.ownsRow.kept h.row (grown_set _ _ _ _) (row_or h.row h.box (by decide)), h.sl, World.ownsRow.kept h.outs (grown_set _ _ _ _) (row_or h.outs h.box (by decide))⟩⟩, ?_⟩
  · have := h.box.set 13 (.int .i64 ((s.acked : Int) + 1))
    simpa [nowCells] using this
  · exact (HB0.out.mono hb).trans (below_of_row (grown_set _ _ _ _) (fun g hg => by cases hg; exact h.low) (Nat.le_trans hb HB0.out.size))

set_option maxRecDepth 100000 in
set_option maxHeartbeats 4000000 in
theorem rDo7 (base nb num : Nat) (pass : Bool) (c : Cfg) (tip : Value) (s : Qs) (w : World) (hN : NowAt w base nb c tip s) (hb : base ≤ w.heap.size) :
    Calls Tryz.prog 131 #[.pointer (some ⟨nb, 0, none⟩), .agg #[.int .i64 7, .int .i64 0, .int .i64 num, .bool pass, .slice none 0 0]] w fun e w' => e = .returned (.tuple #[]) ∧ NowAt w' base nb c tip s ∧ Below base w w' := by
  obtain ⟨q, idv, qv, ov, hN⟩ := hN
  have h0 := NowIs.later hN (below_new w (.cells #[.int .i64 7, .int .i64 0, .int .i64 num, .bool pass, .slice none 0 0] 168))
  have X0 := Bx.new w #[.int .i64 7, .int .i64 0, .int .i64 num, .bool pass, .slice none 0 0] 168
  have HB0 : Hid (Below w.heap.size w (w.alloc (.cells #[.int .i64 7, .int .i64 0, .int .i64 num, .bool pass, .slice none 0 0] 168))) := below_new _ _
  clear hN
  go_enter Tryz.func131, Tryz.ntmps131
  go_upto_region 1 with fail
  generalize w.alloc (.cells #[.int .i64 7, .int .i64 0, .int .i64 num, .bool pass, .slice none 0 0] 168) = w0 at *
  have x0 : w0.cell? ⟨w.heap.size, 0, none⟩ = some (.int .i64 7) := X0.cell (i := 0) rfl
  have c11 : w0.cell? ⟨nb, 11, none⟩ = some (.slice none 0 0) := h0.box.cell (i := 11) rfl
  have H0 : Hid (NowIs w0 base nb c tip s q idv qv ov) := h0
  clear X0 h0
  go_wp2_with fail
  go_loopw [7] (fun i wr => i = .int .i64 0 ∧ wr = w0) (fun _ _ => 0)
  case atStart => exact ⟨rfl, rfl⟩
  case round =>
    obtain ⟨rfl, rfl⟩ := hrel
    go_wp2_with fail
    exact bodyPost_end (v := .tuple #[]) (results_none (by kernel_rfl) _ _ _) rfl ⟨rfl, ⟨q, idv, qv, ov, H0.out⟩, HB0.out.mono hb⟩
end Go.Proofs.YtgamgomepdfgdaaGreat

namespace Go.Proofs.YtgamgomepdfgdaaGreat
open Go.RowKit

/-- a record of the document's side, as it lies: its edits' slice -/
abbrev Lr := Rc × Value
def cL (x : Lr) : List Value := [.int .i64 x.1.kind, .int .i64 x.1.lane, .int .i64 x.1.num, .bool x.1.pass, x.2]
def LrOk (x : Lr) : Prop := (∃ a n cap, x.2 = .slice a n cap) ∧ (x.1.kind ≠ 1 → x.1.lane = 0 ∧ x.2 = .slice none 0 0)
def refCells (c : Cfg) (fv lv : Value) (torn : ByteArray) (down broken : Bool) (keep : Int) : Array Value :=
  #[.int .i64 c.lanes, .int .i64 c.age, .int .i64 c.batch, .int .i64 c.window, .int .i64 c.retries, .int .i64 c.deadline, .int .i64 c.queue, fv, lv, .string torn, .bool down, .bool broken, .int .i64 keep]

theorem NowAt.later {w w' : World} {base nb : Nat} {c : Cfg} {tip : Value} {s : Qs} (h : NowAt w base nb c tip s) (hb : Below w.heap.size w w') : NowAt w' base nb c tip s := by
  obtain ⟨q, idv, qv, ov, h⟩ := h
  exact ⟨q, idv, qv, ov, h.later hb⟩

theorem rDoes (base nb : Nat) (x : Lr) (c : Cfg) (tip : Value) (s : Qs) (w : World) (hN : NowAt w base nb c tip s) (hb : base ≤ w.heap.size) (hC : s.Can c x.1) (hI : s.Inv c) (hc : c.Ok) (hx : LrOk x) (hi : s.ids.length < 1048576) (ho : s.outs.length < 1048576) :
    Calls Tryz.prog 131 #[.pointer (some ⟨nb, 0, none⟩), .agg #[.int .i64 x.1.kind, .int .i64 x.1.lane, .int .i64 x.1.num, .bool x.1.pass, x.2]] w fun e w' => e = .returned (.tuple #[]) ∧ NowAt w' base nb c tip (s.does x.1) ∧ Below base w w' := by
  obtain ⟨r, v⟩ := x
  obtain ⟨⟨ea, en, ec, rfl⟩, hx2⟩ := hx
  have hq16 : s.queue.length ≤ 16 := Nat.le_trans hI.len hc.2.2.2.2.2.2.2
  have hack := hI.ack
  simp only at hx2 hC ⊢
  rcases hC.kind with hk | hk | hk | hk
  · have e : s.does r = { s with ids := s.ids ++ [r.num], queue := s.queue ++ [⟨r.num, r.lane, 0, s.ids.length, r.edits⟩] } := by rw [Qs.does, if_pos hk]
    rw [e, hk]
    obtain ⟨q, idv, qv, ov, hN⟩ := hN
    have hql : q.length = s.queue.length := by rw [← hN.qs, List.length_map]
    exact rDo1 base nb r.lane r.num r.pass ea en ec c tip s q idv qv ov w hN hb (by omega) (by omega) r.edits
  · have e : s.does r = { s with queue := s.queue.filter fun c => c.id != r.num, outs := s.outs ++ [(r.num, 4)] } := by rw [Qs.does, if_neg (by omega), if_pos hk]
    obtain ⟨h1, h2⟩ := hx2 (by omega)
    rw [e, hk, h1, h2]
    exact rDo2 base nb r.num r.pass c tip s w hN hb (hC.cancel hk) (by omega) (by omega)
  · have e : s.does r = { s with acked := s.acked + 1 } := by rw [Qs.does, if_neg (by omega), if_neg (by omega), if_pos hk]
    obtain ⟨h1, h2⟩ := hx2 (by omega)
    rw [e, hk, h1, h2]
    exact rDo6 base nb r.num r.pass c tip s w hN hb (by omega)
  · have e : s.does r = s := by rw [Qs.does, if_neg (by omega), if_neg (by omega), if_neg (by omega)]
    obtain ⟨h1, h2⟩ := hx2 (by omega)
    rw [e, hk, h1, h2]
    exact rDo7 base nb r.num r.pass c tip s w hN hb

set_option maxRecDepth 100000 in
set_option maxHeartbeats 4000000 in
/-- all that was done, done anew -/
theorem rNow (yb : Nat) (c : Cfg) (fv lv : Value) (torn : ByteArray) (down broken : Bool) (keep : Int) (lr : List Lr) (w : World) (hB : Bx w yb 151 (refCells c fv lv torn down broken keep)) (hfv : IsSl fv) (hL : Sl w 168 5 lv lr.length (lr.flatMap cL)) (hok : ∀ x ∈ lr, LrOk x) (hF : Fits c (lr.map Prod.fst)) (hc : c.Ok) (hn : lr.length < 1048576) :
    Calls Tryz.prog 90 #[.pointer (some ⟨yb, 0, none⟩)] w fun e w' => (∃ nb, e = .returned (.pointer (some ⟨nb, 0, none⟩)) ∧ NowAt w' w.heap.size nb c fv (Qs.all (lr.map Prod.fst))) ∧ Below w.heap.size w w' := by
  obtain ⟨fa, fn, fc, rfl⟩ := hfv
  obtain ⟨la, lc, rfl⟩ := hL.form
  have b0 : w.cell? ⟨yb, 0, none⟩ = some (.int .i64 c.lanes) := hB.cell (i := 0) rfl
  have b1 : w.cell? ⟨yb, 1, none⟩ = some (.int .i64 c.age) := hB.cell (i := 1) rfl
  have b2 : w.cell? ⟨yb, 2, none⟩ = some (.int .i64 c.batch) := hB.cell (i := 2) rfl
  have b3 : w.cell? ⟨yb, 3, none⟩ = some (.int .i64 c.window) := hB.cell (i := 3) rfl
  have b4 : w.cell? ⟨yb, 4, none⟩ = some (.int .i64 c.retries) := hB.cell (i := 4) rfl
  have b5 : w.cell? ⟨yb, 5, none⟩ = some (.int .i64 c.deadline) := hB.cell (i := 5) rfl
  have b6 : w.cell? ⟨yb, 6, none⟩ = some (.int .i64 c.queue) := hB.cell (i := 6) rfl
  have b7 : w.cell? ⟨yb, 7, none⟩ = some (.slice fa fn fc) := hB.cell (i := 7) rfl
  have b8 : w.cell? ⟨yb, 8, none⟩ = some (.slice la lr.length lc) := hB.cell (i := 8) rfl
  have HL : Hid (Sl w 168 5 (.slice la lr.length lc) lr.length (lr.flatMap cL)) := hL
  have hyl := hB.lt
  clear hB hL
  go_enter Tryz.func90, Tryz.ntmps90
  go_upto_region 1 with fail
  go_cut [3] from 4 (fun t wz => t = .pointer (some ⟨w.heap.size, 0, none⟩) ∧ Bx wz w.heap.size 163 (nowCells c (.slice fa fn fc) (.slice none 0 0) (.slice none 0 0) (.slice none 0 0) 0) ∧ Below w.heap.size w wz)
  case first =>
    go_region_held_law (fun w' => w'.cell? ⟨yb, 0, none⟩ = some (.int .i64 c.lanes) ∧ w'.cell? ⟨yb, 1, none⟩ = some (.int .i64 c.age) ∧ w'.cell? ⟨yb, 2, none⟩ = some (.int .i64 c.batch) ∧ w'.cell? ⟨yb, 3, none⟩ = some (.int .i64 c.window) ∧ w'.cell? ⟨yb, 4, none⟩ = some (.int .i64 c.retries) ∧ w'.cell? ⟨yb, 5, none⟩ = some (.int .i64 c.deadline) ∧ w'.cell? ⟨yb, 6, none⟩ = some (.int .i64 c.queue) ∧ w'.cell? ⟨yb, 7, none⟩ = some (.slice fa fn fc)) (go_keep) (fail)
    all_goals
      go_wp2_with fail
      go_meet
      case rel => exact ⟨rfl, Bx.new w _ _, below_new_drew _ _⟩
  case rest =>
    obtain ⟨rfl, hBn, hbz⟩ := hcut
    rename World => wz
    have HN0 : Hid (NowAt wz w.heap.size w.heap.size c (.slice fa fn fc) (Qs.all [])) := ⟨[], .slice none 0 0, .slice none 0 0, .slice none 0 0, ⟨hBn, Nat.le_refl _, World.ownsRow_nil _ _ _ _, rfl, World.ownsRow_nil _ _ _ _, by simp, World.ownsRow_nil _ _ _ _⟩⟩
    have HBZ : Hid (Below w.heap.size w wz) := hbz
    clear hBn hbz b0 b1 b2 b3 b4 b5 b6 b7
    go_wp2_with fail
    go_loopw [4] (fun i wr => ∃ k : Nat, k ≤ lr.length ∧ i = .int .i64 k ∧ Hid (NowAt wr w.heap.size w.heap.size c (.slice fa fn fc) (Qs.all ((lr.map Prod.fst).take k))) ∧ Hid (Below w.heap.size w wr)) (fun i _ => lr.length - (intOf i).toNat)
    case atStart => exact ⟨0, Nat.zero_le _, rfl, by simpa using HN0, HBZ⟩
    case round =>
      obtain ⟨k, hk, rfl, hNk, hBk⟩ := hrel
      have c8 := jcell_after hBk.out b8
      by_cases hlk : k < lr.length
      · have hlm : k < (lr.map Prod.fst).length := by rw [List.length_map]; exact hlk
        have hge : (lr.map Prod.fst)[k] = lr[k].1 := by simp
        have hCan := hF.at k hlm
        have hInv := (hF.take k).inv
        have hlen := Qs.all_len ((lr.map Prod.fst).take k)
        rw [List.length_take, List.length_map] at hlen
        rw [hge] at hCan
        have hD := rDoes w.heap.size w.heap.size lr[k] c (.slice fa fn fc) _ wr hNk.out hBk.out.size hCan hInv hc (hok _ (List.getElem_mem hlk)) (by omega) (by omega)
        have hst := Qs.step_at hlm
        rw [hge] at hst
        rw [← hst] at hD
        obtain ⟨g, off, cap, hv, _⟩ := HL.out.addr (by omega)
        have hS : Hid (Sl w 168 5 (.slice (some ⟨g, off, none⟩) lr.length cap) lr.length (lr.flatMap cL)) := by rw [← hv]; exact HL.out
        injection hv with hva _ hvc
        subst hva hvc
        obtain ⟨⟨ea, en, ec, he⟩, _⟩ := hok _ (List.getElem_mem hlk)
        have kk : ∀ j (u : Value), j < 5 → (cL lr[k])[j]? = some u → wr.cell? ⟨g, off + k * 5 + j, none⟩ = some u := fun j u hj hu => by
          have := hS.out.cell (j := k * 5 + j) (u := u) (by rw [flat_get cL 5 (fun _ => rfl) lr k j hlk hj]; exact hu)
          rw [Nat.add_assoc]; exact jcell_after hBk.out this
        have d0 : wr.cell? ⟨g, off + k * 5, none⟩ = some (.int .i64 lr[k].1.kind) := kk 0 _ (by decide) rfl
        have d1 := kk 1 (.int .i64 lr[k].1.lane) (by decide) rfl
        have d2 := kk 2 (.int .i64 lr[k].1.num) (by decide) rfl
        have d3 := kk 3 (.bool lr[k].1.pass) (by decide) rfl
        have d4 := kk 4 (.slice ea en ec) (by decide) (by rw [← he]; rfl)
        have hgl := jcell_lt d0
        rw [he] at hD
        obtain ⟨s1, hs1⟩ : ∃ s1, s1 = Qs.all ((lr.map Prod.fst).take (k + 1)) := ⟨_, rfl⟩
        rw [← hs1] at hD
        have HS1 : Hid (s1 = Qs.all ((lr.map Prod.fst).take (k + 1))) := hs1
        clear hs1
        generalize lr[k].1.kind = r0 at *
        generalize lr[k].1.lane = r1 at *
        generalize lr[k].1.num = r2 at *
        generalize lr[k].1.pass = r3 at *
        clear he hNk kk hst hge hCan hInv hlen
        go_wp2_with fail
        go_fit hD
        rintro e w1 ⟨rfl, hN1, hB1⟩
        have H1 : Hid (NowAt w1 w.heap.size w.heap.size c (.slice fa fn fc) s1) := hN1
        have H2 : Hid (Below w.heap.size w w1) := hBk.out.trans hB1
        clear hN1 hB1 hD
        go_wp2_with fail
        exact ⟨⟨k + 1, hlk, by go_num, by rw [← HS1.out]; exact H1.out, H2.out⟩, by simp [intOf]; omega⟩
      · obtain rfl : k = lr.length := by omega
        have hNk' : Hid (NowAt wr w.heap.size w.heap.size c (.slice fa fn fc) (Qs.all (lr.map Prod.fst))) := by
          have := hNk.out
          rw [List.take_of_length_le (by rw [List.length_map]; exact Nat.le_refl _)] at this
          exact this
        clear hNk
        go_wp2_with fail
        go_ret
        exact ⟨⟨_, rfl, hNk'.out⟩, hBk.out⟩
end Go.Proofs.YtgamgomepdfgdaaGreat

namespace Go.Proofs.YtgamgomepdfgdaaGreat
open Go.RowKit

theorem info_lr : (Tryz.prog.info? 168).map (fun i => (i.zero, i.size, i.bytes)) = some (some (.agg #[.int .i64 0, .int .i64 0, .int .i64 0, .bool false, .slice none 0 0]), 5, 56) := by kernel_rfl

/-- the document's machine, as it lies -/
structure RefIs (w : World) (yb : Nat) (c : Cfg) (fv : Value) (lr : List Lr) (torn : ByteArray) (down broken : Bool) (keep : Int) (lv : Value) : Prop where
  box : Bx w yb 151 (refCells c fv lv torn down broken keep)
  row : Sl w 168 5 lv lr.length (lr.flatMap cL)
theorem RefIs.later {w w' : World} {yb : Nat} {c : Cfg} {fv : Value} {lr : List Lr} {torn : ByteArray} {down broken : Bool} {keep : Int} {lv : Value} (h : RefIs w yb c fv lr torn down broken keep lv) (hb : Below w.heap.size w w') : RefIs w' yb c fv lr torn down broken keep lv :=
  ⟨(hb.block _ h.box.lt).trans h.box, h.row.later hb⟩

/-- one record more -/
structure Noted (w w' : World) (yb : Nat) (c : Cfg) (fv : Value) (lr : List Lr) (torn : ByteArray) (down broken : Bool) (keep : Int) (lv : Value) : Prop where
  ref : ∃ lv', RefIs w' yb c fv lr torn down broken keep lv' ∧ (lv'.ownBlock = lv.ownBlock ∨ ∃ g, lv'.ownBlock = some g ∧ w.heap.size ≤ g)
  only : Only w w' (fun k => k = yb ∨ lv.ownBlock = some k)

set_option maxRecDepth 100000 in
set_option maxHeartbeats 4000000 in
theorem rWrite (yb : Nat) (c : Cfg) (fv lv : Value) (lr : List Lr) (torn : ByteArray) (down : Bool) (keep : Int) (r : Rc) (ea : Option Addr) (en ec : Nat) (w : World) (hR : RefIs w yb c fv lr torn down false keep lv) (hn : lr.length < 1048576) :
    Calls Tryz.prog 91 #[.pointer (some ⟨yb, 0, none⟩), .agg #[.int .i64 r.kind, .int .i64 r.lane, .int .i64 r.num, .bool r.pass, .slice ea en ec]] w fun e w' => e = .returned (.int .i64 0) ∧ Noted w w' yb c fv (lr ++ [((r, .slice ea en ec) : Lr)]) torn down false keep lv := by
  obtain ⟨i0, hi0, hz0, hz1, hz2⟩ := info_parts info_lr
  obtain ⟨la, lc, rfl⟩ := hR.row.form
  have HR : Hid (RefIs w yb c fv lr torn down false keep (.slice la lr.length lc)) := hR
  have hne := hR.row.ne hR.box (by decide)
  have q1 : Hid (lr.length + 1 ≤ maxLen) := by show _ ≤ _; unfold maxLen; omega
  have q2 : Hid ((lr.length + 1) * 56 ≤ 140737488355328) := Nat.le_trans (Nat.mul_le_mul_right 56 (show lr.length + 1 ≤ 1048576 by omega)) (by decide)
  have h0 := hR.later (below_new w (.cells #[.int .i64 r.kind, .int .i64 r.lane, .int .i64 r.num, .bool r.pass, .slice ea en ec] 168))
  have X0 := Bx.new w #[.int .i64 r.kind, .int .i64 r.lane, .int .i64 r.num, .bool r.pass, .slice ea en ec] 168
  have HB0 : Hid (Below w.heap.size w (w.alloc (.cells #[.int .i64 r.kind, .int .i64 r.lane, .int .i64 r.num, .bool r.pass, .slice ea en ec] 168))) := below_new _ _
  have hyl := hR.box.lt
  clear hR
  go_enter Tryz.func91, Tryz.ntmps91
  go_upto_region 1 with fail
  generalize w.alloc (.cells #[.int .i64 r.kind, .int .i64 r.lane, .int .i64 r.num, .bool r.pass, .slice ea en ec] 168) = w0 at *
  have c11 : w0.cell? ⟨yb, 11, none⟩ = some (.bool false) := h0.box.cell (i := 11) rfl
  have c8 : w0.cell? ⟨yb, 8, none⟩ = some (.slice la lr.length lc) := h0.box.cell (i := 8) rfl
  have c8o : ∀ o, (w0.alloc o).cell? ⟨yb, 8, none⟩ = some (.slice la lr.length lc) := fun o => (h0.box.mk o).cell (i := 8) rfl
  have x0 : w0.cell? ⟨w.heap.size, 0, none⟩ = some (.int .i64 r.kind) := X0.cell (i := 0) rfl
  have x1 : w0.cell? ⟨w.heap.size, 1, none⟩ = some (.int .i64 r.lane) := X0.cell (i := 1) rfl
  have x2 : w0.cell? ⟨w.heap.size, 2, none⟩ = some (.int .i64 r.num) := X0.cell (i := 2) rfl
  have x3 : w0.cell? ⟨w.heap.size, 3, none⟩ = some (.bool r.pass) := X0.cell (i := 3) rfl
  have x4 : w0.cell? ⟨w.heap.size, 4, none⟩ = some (.slice ea en ec) := X0.cell (i := 4) rfl
  have H0 : Hid (RefIs w0 yb c fv lr torn down false keep (.slice la lr.length lc)) := h0
  have hy0 := h0.box.lt
  have hs0 := HB0.out.size
  clear X0 h0
  go_upto_region 2 with fail
  go_region_law ((refine step_append_sl rfl _ _ 149 rfl _ i0 _ 5 56 Tryz.underlying149 hi0 hz0 hz1 hz2 rfl (by decide) (.slice la lr.length lc) _ _ rfl (Sl.mk H0.out.row _) ⟨w0.heap.size, 0, none⟩ 1 1 [.int .i64 r.kind, .int .i64 r.lane, .int .i64 r.num, .bool r.pass, .slice ea en ec] rfl rfl (cells_new w0 _ _) (by simp [Value.oneCell']) q1.out q2.out ?_; intro v3 w3 hown3 hg3 hloc3; obtain ⟨a3, c3, rfl⟩ := hown3.form; have HB3 : Hid (Bx w3 yb 151 (refCells c fv (.slice la lr.length lc) torn down false keep)) := Bx.grown (H0.out.box.mkd _) hg3 (fun e => hne e.symm); have d8 : w3.cell? ⟨yb, 8, none⟩ = some (.slice la lr.length lc) := HB3.out.cell (i := 8) rfl; have f3 := HB3.out.fr 8; have O3 : Hid (Sl w3 168 5 (.slice a3 (lr.length + 1) c3) (lr.length + 1) (lr.flatMap cL ++ [.int .i64 r.kind, .int .i64 r.lane, .int .i64 r.num, .bool r.pass, .slice ea en ec])) := hown3; have G3 : Hid (w0.grownBy w3 (Value.slice la lr.length lc).ownBlock) := (World.grownBy_alloc w0 _ _).trans ⟨hg3.os, hg3.tape, hg3.output, hg3.size, hg3.block⟩; have L3 : Hid ((Value.slice a3 (lr.length + 1) c3).ownBlock = (Value.slice la lr.length lc).ownBlock ∨ ∃ g, (Value.slice a3 (lr.length + 1) c3).ownBlock = some g ∧ w0.heap.size ≤ g) := hloc3.imp (fun h => h) (fun ⟨g, h, hle⟩ => ⟨g, h, Nat.le_trans (le_mkd w0 _) hle⟩); clear hown3 hg3 hloc3))
  all_goals
    go_wp2_with fail
    go_ret
    have nnb : (Value.slice a3 (lr.length + 1) c3).ownBlock ≠ some yb := by
      rcases L3.out with e | ⟨g, e, hg⟩
      · rw [e]; exact hne
      · rw [e]; intro x; cases x; omega
    refine ⟨rfl, ⟨.slice a3 (lr.length + 1) c3, ⟨HB3.out.set 8 _, ?_⟩, L3.out.imp (fun h => h) (fun ⟨g, h1, h2⟩ => ⟨g, h1, Nat.le_trans hs0 h2⟩)⟩, ?_⟩
    · rw [List.length_append, List.flatMap_append]
      have : [((r, .slice ea en ec) : Lr)].flatMap cL = cL (r, .slice ea en ec) := by simp
      rw [this]
      exact Sl.grown O3.out (grown_set _ _ _ _) (fun g hg e => nnb (by rw [hg]; exact e.symm))
    · exact ((Only.of_below HB0.out).trans (Only.of_grown G3.out (S := fun k => k = yb ∨ (Value.slice la lr.length lc).ownBlock = some k) fun k h => .inr h) fun k h => .inl h).set (.inl (.inl rfl))
end Go.Proofs.YtgamgomepdfgdaaGreat
