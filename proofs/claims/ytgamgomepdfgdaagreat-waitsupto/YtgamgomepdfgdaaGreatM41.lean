import Derived.Test.YtgamgomepdfgdaaGreatM40
namespace Go.Proofs.YtgamgomepdfgdaaGreat
open Go.RowKit

theorem FilesAt.of_sl {w : World} {v : Value} {l : List Fl} (h : Sl w 80 2 v l.length (l.flatMap cF)) : FilesAt w v l := by
  by_cases h0 : l.length = 0
  · obtain ⟨a, cap, rfl⟩ := h.form
    obtain rfl := List.eq_nil_of_length_eq_zero h0
    exact .inl ⟨rfl, a, cap, rfl⟩
  · obtain ⟨g, off, cap, rfl, _⟩ := h.addr (by omega)
    have kk : ∀ i (hi : i < l.length) j (u : Value), j < 2 → (cF l[i])[j]? = some u → w.cell? ⟨g, off + i * 2 + j, none⟩ = some u := fun i hi j u hj hu => by
      have := h.cell (j := i * 2 + j) (u := u) (by rw [flat_get cF 2 (fun _ => rfl) l i j hi hj]; exact hu)
      rw [Nat.add_assoc]; exact this
    exact .inr ⟨g, off, cap, rfl, h.lt rfl, fun i hi => kk i hi 0 _ (by decide) rfl, fun i hi => kk i hi 1 _ (by decide) rfl⟩
theorem own_n {n m : Nat} (h : (n + 100) * 64 ≤ 140737488355328) (hm : m ≤ n) : (m + 100) * 64 ≤ 140737488355328 := Nat.le_trans (Nat.mul_le_mul_right 64 (show m + 100 ≤ n + 100 by omega)) h
theorem n_lt {n : Nat} (h : (n + 100) * 64 ≤ 140737488355328) : n < 8796093022208 := by omega
theorem n_32 {n : Nat} (h : (n + 100) * 64 ≤ 140737488355328) : n * 32 ≤ 140737488355328 := by omega

set_option maxRecDepth 100000 in
set_option maxHeartbeats 2000000 in
theorem lTree (Q : Pq) (hQ : Q.Ok) (G : Nat → Prop) (σ : Sg) (N : Nat) (w : World) (h : PlAt w Q G σ σ N) (hn : σ.rs.length < 1048576) (hN : N < 1048576000) :
    Calls Tryz.prog 94 #[.pointer (some ⟨Q.wb, 0, none⟩)] w fun e w' => Same w w' e Q G σ (N + 4) := by
  have hx := h.askP fun X hP => pTree X Q.xb Q.c σ Q.n Q.g w hP (n_32 hQ.n)
  have HY : Hid (∀ W, Below w.heap.size w W → Calls Tryz.prog 134 #[.pointer (some ⟨Q.yb, 0, none⟩)] W fun e w' => e = .returned (.tuple #[if σ.up = false then .slice none 0 0 else Q.fv, .int .i64 σ.err]) ∧ Below W.heap.size W w') := fun W hb => (h.later hb).askR fun R hR => rTreeX R Q.yb Q.c σ Q.fv Q.ss W hR h.okr hQ.c hn
  have HF : Hid (∀ W, Below w.heap.size w W → FilesAt W Q.fv Q.ss) := fun W hb => (h.later hb).askR fun R hR => FilesAt.of_sl hR.fs
  have HO : Hid (∀ (w1 W : World) (a : Option Addr) (n cap : Nat) (xs : List Value), Below w.heap.size w w1 → Below w1.heap.size w1 W → w1.ownsRow w.heap.size 80 2 (.slice a n cap) n xs → n ≤ Q.n → Calls Tryz.prog 135 #[.pointer (some ⟨Q.bb, 0, none⟩), .slice a n cap] W fun e w' => e = .returned (.tuple #[]) ∧ PlAt w' Q G σ σ (N + 4) ∧ Keeps W w' G) := fun w1 W a n cap xs hb1 hb hrow hnn =>
    ((h.widen hb1).later hb).doB (l := .slice a n cap) (fun _ h => .inl h) h.gw (fun b hb' => by
      have hlt := World.ownsRow.lt hrow b hb'
      exact ⟨.inr hlt, fun hG => by have := h.gl b hG; omega⟩) fun K hB hK => ownF xs a n cap Q.bb w.heap.size N K W hB hN (hrow.kept (below_grown hb) (Classical.em _)) hK (own_n hQ.n hnn) (n_lt (own_n hQ.n hnn))
  have b0 : w.cell? ⟨Q.wb, 0, none⟩ = some (.pointer (some ⟨Q.xb, 0, none⟩)) := h.box.cell (i := 0) rfl
  have b1 : w.cell? ⟨Q.wb, 1, none⟩ = some (.pointer (some ⟨Q.yb, 0, none⟩)) := h.box.cell (i := 1) rfl
  have b2 : w.cell? ⟨Q.wb, 2, none⟩ = some (.pointer (some ⟨Q.bb, 0, none⟩)) := h.box.cell (i := 2) rfl
  have hnil : ∀ W : World, (binOp .neq 24 (.slice none 0 0) (.slice none 0 0)).run Tryz.prog W = .ok (.bool false) W := fun W => run_neq_slice_nil_any W _ _ _ _ _ _ _ Tryz.underlying24
  have HQ : Hid Q.Ok := hQ
  have Hfv : Hid (IsSl Q.fv) := h.askR fun R hR => hR.isl
  clear h hQ
  unfold Same
  generalize hwb : Q.wb = wb at *
  generalize hxb : Q.xb = xb at *
  generalize hyb : Q.yb = yb at *
  generalize hbb : Q.bb = bb at *
  clear hwb hxb hyb hbb
  go_enter Tryz.func94, Tryz.ntmps94
  go_wp2_with fail
  go_fit hx
  rintro e w1 ⟨hx1, hb1⟩
  have d1 := jcell_after hb1 b1
  have hy := HY.out w1 hb1
  have HB1 : Hid (Below w.heap.size w w1) := hb1
  clear hx hb1 HY
  rcases hx1 with ⟨hu, l, b, cap, rfl, hT, hln, hrow⟩ | ⟨hu, rfl⟩
  · have hls : Hid (l = Q.ss) := hT.unique HQ.out.told
    have HR : Hid (w1.ownsRow w.heap.size 80 2 (.slice (some ⟨b, 0, none⟩) l.length cap) l.length (l.flatMap cF)) := hrow
    have Hln : Hid (l.length ≤ Q.n) := hln
    have e1 : σ.err = 0 := by simp [Sg.err, hu]
    rw [e1, if_neg (by rw [hu]; decide)] at hy
    obtain ⟨fa, fn, fc, hfv⟩ := Hfv.out
    rw [hfv] at hy
    have Hfv2 : Hid (Q.fv = .slice fa fn fc) := hfv
    clear hT hrow hln hfv e1 hu
    go_wp2_with fail
    go_fit hy
    rintro e w2 ⟨rfl, hb2⟩
    have hb3 : Below w.heap.size w w2 := below_trans HB1.out hb2
    have hS := sameFiles_any l Q.ss (.slice (some ⟨b, 0, none⟩) l.length cap) (.slice fa fn fc) w2 (FilesAt.later (FilesAt.of_row HR.out) hb2) (by rw [← Hfv2.out]; exact HF.out w2 hb3) (by have := n_lt HQ.out.n; have := Hln.out; omega)
    have HB2 : Hid (Below w1.heap.size w1 w2) := hb2
    have HB3 : Hid (Below w.heap.size w w2) := hb3
    clear hy hb2 hb3 HF
    go_wp2_with fail
    go_fit hS
    rintro e w3 ⟨⟨r, rfl, hr⟩, m, rfl⟩
    obtain rfl : r = true := hr.2 hls.out
    have hO := HO.out w1 (w2.drewN m) (some ⟨b, 0, none⟩) l.length cap _ HB1.out ⟨HB2.out.os, HB2.out.tape, HB2.out.output, HB2.out.size, HB2.out.block⟩ HR.out Hln.out
    have HB4 : Hid (Below w.heap.size w (w2.drewN m)) := ⟨HB3.out.os, HB3.out.tape, HB3.out.output, HB3.out.size, HB3.out.block⟩
    have d2 := jcell_after HB4.out b2
    generalize w2.drewN m = w4 at *
    clear hS hr HO d1
    go_wp2_with fail
    go_fit hO
    rintro e w5 ⟨rfl, hP5, hK5⟩
    have HP5 : Hid (PlAt w5 Q G σ σ (N + 4)) := hP5
    have HK5 : Hid (Keeps w w5 G) := (Keeps.of_below HB4.out).trans hK5
    clear hO hP5 hK5
    go_wp2_with fail
    go_ret
    exact ⟨rfl, HP5.out, HK5.out⟩
  · have e1 : σ.err = 8 := by simp [Sg.err, hu]
    rw [e1, if_pos hu] at hy
    clear e1 hu
    go_wp2_with fail
    go_fit hy
    rintro e w2 ⟨rfl, hb2⟩
    have hb3 : Below w.heap.size w w2 := below_trans HB1.out hb2
    have hS := sameFiles_none 0 0 none none w2
    have hO := HO.out w w2 none 0 0 [] (Below.refl _ _) hb3 (World.ownsRow_nil _ _ _ _) (Nat.zero_le _)
    have HB3 : Hid (Below w.heap.size w w2) := hb3
    have d2 := jcell_after hb3 b2
    clear hy hb2 hb3 HF HO
    go_wp2_with fail
    go_fit hS
    rintro e w3 ⟨rfl, rfl⟩
    clear hS d1
    go_wp2_with fail
    go_fit hO
    rintro e w5 ⟨rfl, hP5, hK5⟩
    have HP5 : Hid (PlAt w5 Q G σ σ (N + 4)) := hP5
    have HK5 : Hid (Keeps w w5 G) := (Keeps.of_below HB3.out).trans hK5
    clear hO hP5 hK5
    go_wp2_with fail
    go_ret
    exact ⟨rfl, HP5.out, HK5.out⟩
end Go.Proofs.YtgamgomepdfgdaaGreat

namespace Go.Proofs.YtgamgomepdfgdaaGreat
open Go.RowKit

theorem eqW3_run (a b d : Int) (w : World) : (binOp .neq 71 (.agg #[.int .i64 a, .int .i64 b, .int .i64 d]) (.agg #[.int .i64 a, .int .i64 b, .int .i64 d])).run Tryz.prog w = .ok (.bool false) w := by
  have u9 := Tryz.underlying3
  have a9 := Tryz.isAgg3
  have z9 := Tryz.sizeOf3
  have hS : Tryz.prog.underlying 71 = some (.struct (Tryz.prog.fieldsOf 71)) := by kernel_rfl
  have hp : Tryz.prog.stoodInHeld 71 = false := by kernel_rfl
  rw [run_neq_struct, show (10000 : Nat) = 9999 + 1 from rfl, run_equalIn_agg w 9999 71 _ _ hS hp]
  simp only [Program.fieldsOf, Tryz.underlying71]
  go_simp

theorem told_read {w : World} {base : Nat} {a : Option Addr} {n cap : Nat} {l : List Tw} (h : w.ownsRow base 71 3 (.slice a n cap) l.length (l.flatMap cT)) {i : Nat} (hi : i < l.length) : ∃ g, a = some ⟨g, 0, none⟩ ∧ g < w.heap.size ∧ w.cell? ⟨g, i * 3, none⟩ = some (.int .i64 l[i].1) ∧ w.cell? ⟨g, i * 3 + 1, none⟩ = some (.int .i64 l[i].2.1) ∧ w.cell? ⟨g, i * 3 + 2, none⟩ = some (.int .i64 l[i].2.2) := by
  rcases h.2 with ⟨_, h0⟩ | ⟨g, cap', cur, e, _, hh, _⟩
  · omega
  · obtain ⟨rfl, _, _⟩ := Value.slice.inj e
    have hc := h.cells (g := g) rfl
    have kk : ∀ j (u : Value), j < 3 → (cT l[i])[j]? = some u → w.cell? ⟨g, i * 3 + j, none⟩ = some u := fun j u hj hu => by
      have := hc (i * 3 + j) u (by rw [flat_get cT 3 (fun _ => rfl) l i j hi hj]; exact hu)
      simpa [addr_add] using this
    exact ⟨g, rfl, (Array.getElem?_eq_some_iff.1 hh).1, kk 0 _ (by decide) rfl, kk 1 _ (by decide) rfl, kk 2 _ (by decide) rfl⟩

set_option maxRecDepth 100000 in
set_option maxHeartbeats 2000000 in
theorem lQueue (Q : Pq) (hQ : Q.Ok) (G : Nat → Prop) (σ : Sg) (N : Nat) (w : World) (h : PlAt w Q G σ σ N) (hn : σ.rs.length < 1048576) (hN : N < 1048576000) :
    Calls Tryz.prog 96 #[.pointer (some ⟨Q.wb, 0, none⟩)] w fun e w' => Same w w' e Q G σ (N + 4) := by
  have hx := h.askP fun X hP => pQueue X Q.xb Q.c σ Q.n Q.g w hP h.okp hQ.c
  have HY : Hid (∀ W, Below w.heap.size w W → Calls Tryz.prog 138 #[.pointer (some ⟨Q.yb, 0, none⟩)] W fun e w' => TellsQ W w' e Q.c σ ∧ Below W.heap.size W w') := fun W hb => (h.later hb).askR fun R hR => rQueueX R Q.yb Q.c σ Q.fv Q.ss W hR h.okr hQ.c hn
  have HO : Hid (∀ (w1 W : World) (a : Option Addr) (n cap : Nat) (xs : List Value), Below w.heap.size w w1 → Below w1.heap.size w1 W → w1.ownsRow w.heap.size 71 3 (.slice a n cap) n xs → n ≤ 16 → Calls Tryz.prog 139 #[.pointer (some ⟨Q.bb, 0, none⟩), .slice a n cap] W fun e w' => e = .returned (.tuple #[]) ∧ PlAt w' Q G σ σ (N + 4) ∧ Keeps W w' G) := fun w1 W a n cap xs hb1 hb hrow hnn =>
    ((h.widen hb1).later hb).doB (l := .slice a n cap) (fun _ h => .inl h) h.gw (fun b hb' => by
      have hlt := World.ownsRow.lt hrow b hb'
      exact ⟨.inr hlt, fun hG => by have := h.gl b hG; omega⟩) fun K hB hK => ownW xs a n cap Q.bb w.heap.size N K W hB hN (hrow.kept (below_grown hb) (Classical.em _)) hK (own_n (n := 16) (by decide) hnn) (by omega)
  have hq16 : (tellQ Q.c.age (Qs.all σ.rs).queue).length ≤ 16 := by
    have hI := h.okp.fits.inv
    rw [tellQ_len fun x hx => by have := (hI.top x hx).2.1; have := hQ.c.1.2; omega]
    exact Nat.le_trans hI.len hQ.c.2.2.2.2.2.2.2
  have b0 : w.cell? ⟨Q.wb, 0, none⟩ = some (.pointer (some ⟨Q.xb, 0, none⟩)) := h.box.cell (i := 0) rfl
  have b1 : w.cell? ⟨Q.wb, 1, none⟩ = some (.pointer (some ⟨Q.yb, 0, none⟩)) := h.box.cell (i := 1) rfl
  have b2 : w.cell? ⟨Q.wb, 2, none⟩ = some (.pointer (some ⟨Q.bb, 0, none⟩)) := h.box.cell (i := 2) rfl
  have hnil : ∀ W : World, (binOp .neq 61 (.slice none 0 0) (.slice none 0 0)).run Tryz.prog W = .ok (.bool false) W := fun W => run_neq_slice_nil_any W _ _ _ _ _ _ _ Tryz.underlying61
  clear h hQ
  unfold Same
  generalize hwb : Q.wb = wb at *
  generalize hxb : Q.xb = xb at *
  generalize hyb : Q.yb = yb at *
  generalize hbb : Q.bb = bb at *
  unfold TellsQ ToldQ at hx HY
  generalize tellQ Q.c.age (Qs.all σ.rs).queue = tq at *
  clear hwb hxb hyb hbb
  go_enter Tryz.func96, Tryz.ntmps96
  go_wp2_with fail
  go_fit hx
  rintro e w1 ⟨hx1, hb1⟩
  have d1 := jcell_after hb1 b1
  have hy := HY.out w1 hb1
  have HB1 : Hid (Below w.heap.size w w1) := hb1
  clear hx hb1 HY
  rcases hx1 with ⟨hu, v1, rfl, hrow⟩ | ⟨hu, rfl⟩
  · obtain ⟨a1, c1, rfl⟩ := row_shape3 hrow
    have HR : Hid (w1.ownsRow w.heap.size 71 3 (.slice a1 tq.length c1) tq.length (tq.flatMap cT)) := hrow
    clear hrow
    go_wp2_with fail
    go_fit hy
    rintro e w2 ⟨hx2, hb2⟩
    rcases hx2 with ⟨_, v2, rfl, hrow⟩ | ⟨hu', rfl⟩
    · obtain ⟨a2, c2, rfl⟩ := row_shape3 hrow
      have HR2 : Hid (w2.ownsRow w1.heap.size 71 3 (.slice a2 tq.length c2) tq.length (tq.flatMap cT)) := hrow
      have HB2 : Hid (Below w1.heap.size w1 w2) := hb2
      have HB3 : Hid (Below w.heap.size w w2) := below_trans HB1.out hb2
      clear hrow hb2 hy d1 hu
      go_wp2_with fail
      go_loopw [7] (fun iv wr => ∃ i m : Nat, i ≤ tq.length ∧ iv = .int .i64 i ∧ wr = w2.drewN m) (fun i _ => tq.length - (intOf i).toNat)
      case atStart => exact ⟨0, 0, Nat.zero_le _, rfl, rfl⟩
      case round =>
        obtain ⟨i, m, hi, rfl, rfl⟩ := hrel
        by_cases hlt : i < tq.length
        · obtain ⟨g1, rfl, hg1, x0, x1, x2⟩ := told_read HR.out hlt
          obtain ⟨g2, rfl, hg2, y0, y1, y2⟩ := told_read HR2.out hlt
          have z0 := jcell_after HB2.out x0
          have z1 := jcell_after HB2.out x1
          have z2 := jcell_after HB2.out x2
          have hgl := jcell_lt z0
          have hne := eqW3_run tq[i].1 tq[i].2.1 tq[i].2.2
          clear x0 x1 x2
          generalize tq[i].1 = t0 at *
          generalize tq[i].2.1 = t1 at *
          generalize tq[i].2.2 = t2 at *
          go_wp2
          go_quiet (fail)
          go_wp2
          exact ⟨⟨i + 1, _, hlt, by go_num, rfl⟩, by simp [intOf]; omega⟩
        · have hO := HO.out w1 (w2.drewN m) a1 tq.length c1 _ HB1.out ⟨HB2.out.os, HB2.out.tape, HB2.out.output, HB2.out.size, HB2.out.block⟩ HR.out hq16
          have HB4 : Hid (Below w.heap.size w (w2.drewN m)) := ⟨HB3.out.os, HB3.out.tape, HB3.out.output, HB3.out.size, HB3.out.block⟩
          have d2 := jcell_after HB4.out b2
          generalize w2.drewN m = w4 at *
          go_wp2_with fail
          go_fit hO
          rintro e w5 ⟨rfl, hP5, hK5⟩
          have HP5 : Hid (PlAt w5 Q G σ σ (N + 4)) := hP5
          have HK5 : Hid (Keeps w w5 G) := (Keeps.of_below HB4.out).trans hK5
          clear hO hP5 hK5
          go_wp2_with fail
          go_ret
          exact ⟨rfl, HP5.out, HK5.out⟩
    · rw [hu] at hu'; cases hu'
  · go_wp2_with fail
    go_fit hy
    rintro e w2 ⟨hx2, hb2⟩
    rcases hx2 with ⟨hu', _⟩ | ⟨_, rfl⟩
    · rw [hu] at hu'; cases hu'
    · have hb3 : Below w.heap.size w w2 := below_trans HB1.out hb2
      have hO := HO.out w w2 none 0 0 [] (Below.refl _ _) hb3 (World.ownsRow_nil _ _ _ _) (Nat.zero_le _)
      have HB3 : Hid (Below w.heap.size w w2) := hb3
      have d2 := jcell_after hb3 b2
      clear hy hb2 hb3 HO d1
      go_wp2_with fail
      refine wp_loop_rounds 1 ?_
      rw [rounds_succ]
      go_wp2_with fail
      go_fit hO
      rintro e w5 ⟨rfl, hP5, hK5⟩
      have HP5 : Hid (PlAt w5 Q G σ σ (N + 4)) := hP5
      have HK5 : Hid (Keeps w w5 G) := (Keeps.of_below HB3.out).trans hK5
      clear hO hP5 hK5
      go_wp2_with fail
      go_ret
      exact ⟨rfl, HP5.out, HK5.out⟩
end Go.Proofs.YtgamgomepdfgdaaGreat

namespace Go.Proofs.YtgamgomepdfgdaaGreat
open Go.RowKit

set_option maxRecDepth 100000 in
set_option maxHeartbeats 2000000 in
/-- a question -/
theorem lAsks (Q : Pq) (hQ : Q.Ok) (G : Nat → Prop) (σ : Sg) (N : Nat) (kind : Int) (w : World) (h : PlAt w Q G σ σ N) (hn : σ.rs.length < 1048576) (hN : N < 1048576000) :
    Calls Tryz.prog 53 #[.pointer (some ⟨Q.wb, 0, none⟩), .int .i64 kind] w fun e w' => Same w w' e Q G σ (N + 4) := by
  have h7 : Calls Tryz.prog 58 #[.pointer (some ⟨Q.wb, 0, none⟩)] w fun e w' => Same w w' e Q G σ (N + 4) := (lPoll Q hQ G σ N w h hn).mono fun e w' ⟨h1, hb⟩ => by rw [h1]; exact Same.of_below h hb (by omega)
  have h17 : Calls Tryz.prog 99 #[.pointer (some ⟨Q.wb, 0, none⟩)] w fun e w' => Same w w' e Q G σ (N + 4) := (lLog Q hQ G σ N w h hn).mono fun e w' ⟨h1, hb⟩ => by rw [h1]; exact Same.of_below h hb (by omega)
  have h12 := lTree Q hQ G σ N w h hn hN
  have h13 := lMain Q hQ G σ N w h hn hN
  have h14 := lQueue Q hQ G σ N w h hn hN
  have h15 := lTrain Q hQ G σ N w h hn hN
  have h16 := lJobs Q hQ G σ N w h hn hN
  have HE : Hid (Same w w (.returned (.bool true)) Q G σ (N + 4)) := Same.of_below h (Below.refl _ _) (by omega)
  clear h hQ
  have hk : kind = 7 ∨ kind = 12 ∨ kind = 13 ∨ kind = 14 ∨ kind = 15 ∨ kind = 16 ∨ kind = 17 ∨ (kind ≠ 7 ∧ kind ≠ 12 ∧ kind ≠ 13 ∧ kind ≠ 14 ∧ kind ≠ 15 ∧ kind ≠ 16 ∧ kind ≠ 17) := by omega
  unfold Same at h7 h12 h13 h14 h15 h16 h17 ⊢
  generalize Q.wb = wb at *
  rcases hk with rfl | rfl | rfl | rfl | rfl | rfl | rfl | ⟨n7, n12, n13, n14, n15, n16, n17⟩
  · clear h12 h13 h14 h15 h16 h17
    go_enter Tryz.func53, Tryz.ntmps53
    go_wp2_with fail
    go_fit h7
    rintro e w1 ⟨rfl, hP, hK⟩
    have HP : Hid (PlAt w1 Q G σ σ (N + 4)) := hP
    have HK : Hid (Keeps w w1 G) := hK
    clear hP hK h7
    go_wp2_with fail
    go_ret
    exact ⟨rfl, HP.out, HK.out⟩
  · clear h7 h13 h14 h15 h16 h17
    go_enter Tryz.func53, Tryz.ntmps53
    go_wp2_with fail
    go_fit h12
    rintro e w1 ⟨rfl, hP, hK⟩
    have HP : Hid (PlAt w1 Q G σ σ (N + 4)) := hP
    have HK : Hid (Keeps w w1 G) := hK
    clear hP hK h12
    go_wp2_with fail
    go_ret
    exact ⟨rfl, HP.out, HK.out⟩
  · clear h7 h12 h14 h15 h16 h17
    go_enter Tryz.func53, Tryz.ntmps53
    go_wp2_with fail
    go_fit h13
    rintro e w1 ⟨rfl, hP, hK⟩
    have HP : Hid (PlAt w1 Q G σ σ (N + 4)) := hP
    have HK : Hid (Keeps w w1 G) := hK
    clear hP hK h13
    go_wp2_with fail
    go_ret
    exact ⟨rfl, HP.out, HK.out⟩
  · clear h7 h12 h13 h15 h16 h17
    go_enter Tryz.func53, Tryz.ntmps53
    go_wp2_with fail
    go_fit h14
    rintro e w1 ⟨rfl, hP, hK⟩
    have HP : Hid (PlAt w1 Q G σ σ (N + 4)) := hP
    have HK : Hid (Keeps w w1 G) := hK
    clear hP hK h14
    go_wp2_with fail
    go_ret
    exact ⟨rfl, HP.out, HK.out⟩
  · clear h7 h12 h13 h14 h16 h17
    go_enter Tryz.func53, Tryz.ntmps53
    go_wp2_with fail
    go_fit h15
    rintro e w1 ⟨rfl, hP, hK⟩
    have HP : Hid (PlAt w1 Q G σ σ (N + 4)) := hP
    have HK : Hid (Keeps w w1 G) := hK
    clear hP hK h15
    go_wp2_with fail
    go_ret
    exact ⟨rfl, HP.out, HK.out⟩
  · clear h7 h12 h13 h14 h15 h17
    go_enter Tryz.func53, Tryz.ntmps53
    go_wp2_with fail
    go_fit h16
    rintro e w1 ⟨rfl, hP, hK⟩
    have HP : Hid (PlAt w1 Q G σ σ (N + 4)) := hP
    have HK : Hid (Keeps w w1 G) := hK
    clear hP hK h16
    go_wp2_with fail
    go_ret
    exact ⟨rfl, HP.out, HK.out⟩
  · clear h7 h12 h13 h14 h15 h16
    go_enter Tryz.func53, Tryz.ntmps53
    go_wp2_with fail
    go_fit h17
    rintro e w1 ⟨rfl, hP, hK⟩
    have HP : Hid (PlAt w1 Q G σ σ (N + 4)) := hP
    have HK : Hid (Keeps w w1 G) := hK
    clear hP hK h17
    go_wp2_with fail
    go_ret
    exact ⟨rfl, HP.out, HK.out⟩
  · clear h7 h12 h13 h14 h15 h16 h17
    have e7 : (kind == 7) = false := by simpa using n7
    have e12 : (kind == 12) = false := by simpa using n12
    have e13 : (kind == 13) = false := by simpa using n13
    have e14 : (kind == 14) = false := by simpa using n14
    have e15 : (kind == 15) = false := by simpa using n15
    have e16 : (kind == 16) = false := by simpa using n16
    have e17 : (kind == 17) = false := by simpa using n17
    go_enter Tryz.func53, Tryz.ntmps53
    go_wp2_with fail
    go_ret
    exact HE.out

theorem PlAt.ack {w : World} {Q : Pq} {G : Nat → Prop} {σ : Sg} {N : Nat} (hQ : Q.Ok) (h : PlAt w Q G σ σ N) (hn : σ.rs.length < 1048576) (m err : Int) (he : AckErr (Qs.all σ.rs) m err) : ((σ.ack m err).2).Ok Q.c :=
  h.okp.act hQ.c fun h0 => (ack_can he hn h0).1

set_option maxRecDepth 100000 in
set_option maxHeartbeats 2000000 in
/-- Ack on both sides -/
theorem lAck (Q : Pq) (hQ : Q.Ok) (G : Nat → Prop) (σ : Sg) (N : Nat) (m m' err : Int) (w : World) (h : PlAt w Q G σ σ N) (hn : σ.rs.length < 1048576) (hm : m' = if m = 0 then σ.poll.1 else m) (he : AckErr (Qs.all σ.rs) m' err) :
    Calls Tryz.prog 48 #[.pointer (some ⟨Q.wb, 0, none⟩), .int .i64 m] w fun e w' => e = .returned (.bool true) ∧ PlAt w' Q G (σ.ack m' err).2 (σ.ack m' err).2 N ∧ Keeps w w' G := by
  have hok := h.ack hQ hn m' err he
  have HX : Hid (∀ W, Below w.heap.size w W → Calls Tryz.prog 79 #[.pointer (some ⟨Q.xb, 0, none⟩), .int .i64 m'] W fun e w' => e = .returned (.int .i64 (σ.ack m' err).1) ∧ PlAt w' Q G (σ.ack m' err).2 σ N ∧ Keeps W w' G) := fun W hb => (h.later hb).doP hok fun X hP _ => pAck X Q.xb Q.c σ Q.n Q.g m' err W hP h.okp hQ.c hn he
  have HY : Hid (∀ W, PlAt W Q G (σ.ack m' err).2 σ N → Calls Tryz.prog 93 #[.pointer (some ⟨Q.yb, 0, none⟩), .int .i64 m'] W fun e w' => e = .returned (.int .i64 (σ.ack m' err).1) ∧ PlAt w' Q G (σ.ack m' err).2 (σ.ack m' err).2 N ∧ Keeps W w' G) := fun W hW => hW.doR hok fun R hR => rAck R Q.yb Q.c σ Q.fv Q.ss m' err W hR h.okr hQ.c hn he
  have hp := h.askR fun R hR => rPoll R Q.yb Q.c σ Q.fv Q.ss w hR h.okr hQ.c hn
  have b0 : w.cell? ⟨Q.wb, 0, none⟩ = some (.pointer (some ⟨Q.xb, 0, none⟩)) := h.box.cell (i := 0) rfl
  have b1 : w.cell? ⟨Q.wb, 1, none⟩ = some (.pointer (some ⟨Q.yb, 0, none⟩)) := h.box.cell (i := 1) rfl
  have Hgw : Hid (G Q.wb) := h.gw
  clear h hQ he hok
  generalize hwb : Q.wb = wb at *
  generalize hxb : Q.xb = xb at *
  generalize hyb : Q.yb = yb at *
  generalize (σ.ack m' err).2 = τ at *
  generalize (σ.ack m' err).1 = k at *
  unfold pollV at hp
  generalize σ.poll = p at *
  obtain ⟨p0, p1, p2, p3⟩ := p
  simp only at hp hm
  clear hwb hxb hyb
  have Hm : Hid (m' = if m = 0 then p0 else m) := hm
  clear hm
  by_cases hm0 : m = 0
  · subst hm0
    obtain rfl : m' = p0 := by rw [Hm.out, if_pos rfl]
    go_enter Tryz.func48, Tryz.ntmps48
    go_wp2_with fail
    go_fit hp
    rintro e w1 ⟨rfl, hb1⟩
    have hba : Below w.heap.size w (w1.alloc (.cells #[.int .i64 m', .int .i64 p1, .int .i64 p2] 99)) := below_trans hb1 (below_new _ _)
    have d0 := jcell_after hba b0
    have X1 := Bx.new w1 #[.int .i64 m', .int .i64 p1, .int .i64 p2] 99
    have x0 := X1.cell (i := 0) (v := .int .i64 m') rfl
    have hx := HX.out _ hba
    have HBa : Hid (Below w.heap.size w (w1.alloc (.cells #[.int .i64 m', .int .i64 p1, .int .i64 p2] 99))) := hba
    clear hp hb1 hba X1 HX b0
    go_wp2_with fail
    go_fit hx
    rintro e w2 ⟨rfl, hP2, hK2⟩
    have HK2 : Hid (Keeps w w2 G) := (Keeps.of_below HBa.out).trans hK2
    have d1 := HK2.out.cell Hgw.out b1
    have hy := HY.out w2 hP2
    clear hx hP2 hK2 HY b1 d0
    go_wp2_with fail
    go_fit hy
    rintro e w3 ⟨rfl, hP3, hK3⟩
    have HP3 : Hid (PlAt w3 Q G τ τ N) := hP3
    have HK3 : Hid (Keeps w w3 G) := HK2.out.trans hK3
    clear hy hP3 hK3
    go_wp2_with fail
    go_ret
    exact ⟨rfl, HP3.out, HK3.out⟩
  · obtain rfl : m' = m := by rw [Hm.out, if_neg hm0]
    have hx := HX.out w (Below.refl _ _)
    have hm1 : (m' == 0) = false := by simpa using hm0
    clear hp HX Hm
    go_enter Tryz.func48, Tryz.ntmps48
    go_wp2_with fail
    go_fit hx
    rintro e w2 ⟨rfl, hP2, hK2⟩
    have HK2 : Hid (Keeps w w2 G) := hK2
    have d1 := HK2.out.cell Hgw.out b1
    have hy := HY.out w2 hP2
    clear hx hP2 hK2 HY b1 b0
    go_wp2_with fail
    go_fit hy
    rintro e w3 ⟨rfl, hP3, hK3⟩
    have HP3 : Hid (PlAt w3 Q G τ τ N) := hP3
    have HK3 : Hid (Keeps w w3 G) := HK2.out.trans hK3
    clear hy hP3 hK3
    go_wp2_with fail
    go_ret
    exact ⟨rfl, HP3.out, HK3.out⟩
end Go.Proofs.YtgamgomepdfgdaaGreat
