import Derived.Test.YtgamgomepdfgdaaGreatM42
namespace Go.Proofs.YtgamgomepdfgdaaGreat
open Go.RowKit

theorem Sg.write_len (σ : Sg) (r : Rc) : (σ.write r).2.rs.length ≤ σ.rs.length + 1 := by
  unfold Sg.write
  split
  · simp
  · show (if _ then _ else _ : Sg).rs.length ≤ _
    split <;> simp
theorem Sg.act_len (σ : Sg) (err : Int) (r : Rc) : (σ.act err r).2.rs.length ≤ σ.rs.length + 1 := by
  unfold Sg.act
  split
  · simp
  · split
    · simp
    · exact σ.write_len r
theorem Sg.brk_len (σ : Sg) (k : Int) : (σ.brk k).2.rs.length ≤ σ.rs.length + 1 := by
  unfold Sg.brk; split <;> simp
theorem Sg.crash_len (σ : Sg) : σ.crash.2.rs.length ≤ σ.rs.length + 1 := by
  unfold Sg.crash; split <;> simp
theorem Sg.recover_len (σ : Sg) : σ.recover.2.rs.length ≤ σ.rs.length + 1 := by
  unfold Sg.recover; split <;> simp
theorem Sg.Ok.brk {c : Cfg} {σ : Sg} (h : σ.Ok c) (k : Int) : (σ.brk k).2.Ok c := by
  unfold Sg.brk
  split
  · exact h
  · rename_i hu
    exact ⟨h.fits, h.torn, h.upT, fun h' => absurd h' hu⟩
theorem Sg.Ok.crash {c : Cfg} {σ : Sg} (h : σ.Ok c) : σ.crash.2.Ok c := by
  unfold Sg.crash
  split
  · exact h
  · exact ⟨h.fits, torn_nil, fun _ => rfl, fun _ => rfl⟩
theorem can7 (c : Cfg) (s : Qs) : s.Can c rc7 := ⟨.inr (.inr (.inr rfl)), by decide, fun h => (by cases h), fun h => (by cases h), fun h => (by cases h)⟩
theorem Sg.Ok.recover {c : Cfg} {σ : Sg} (h : σ.Ok c) : σ.recover.2.Ok c := by
  unfold Sg.recover
  split
  · exact ⟨.snoc h.fits (can7 _ _), torn_nil, fun _ => rfl, fun h' => (by cases h')⟩
  · exact h

/-- an act: nothing parts -/
def ActDone (w w' : World) (e : Ending) (Q : Pq) (G : Nat → Prop) (n N : Nat) : Prop := e = .returned (.bool true) ∧ (∃ σ', PlAt w' Q G σ' σ' N ∧ σ'.rs.length ≤ n) ∧ Keeps w w' G

/-- a call on both sides -/
theorem PlAt.both {w : World} {Q : Pq} {G : Nat → Prop} {σ : Sg} {N : Nat} {f f' : Nat} {xs ys : Array Value} {a : Int × Sg} (h : PlAt w Q G σ σ N) (ha : a.2.Ok Q.c) (hx : ∀ W X, ProgIs W X Q.xb Q.c σ Q.n Q.g → Calls Tryz.prog f xs W fun e w' => PDid W w' e X Q.xb Q.c Q.n Q.g a) (hy : ∀ W R, RefPk W R Q.yb Q.c σ Q.fv Q.ss → Calls Tryz.prog f' ys W fun e w' => RDid W w' e R Q.yb Q.c Q.fv Q.ss a) :
    ∃ τ k, PlAt w Q G σ σ N ∧ τ = a.2 ∧ (∀ W, PlAt W Q G σ σ N → Calls Tryz.prog f xs W fun e w' => e = .returned (.int .i64 k) ∧ PlAt w' Q G τ σ N ∧ Keeps W w' G) ∧ (∀ W, PlAt W Q G τ σ N → Calls Tryz.prog f' ys W fun e w' => e = .returned (.int .i64 k) ∧ PlAt w' Q G τ τ N ∧ Keeps W w' G) :=
  ⟨a.2, a.1, h, rfl, fun W hW => hW.doP ha fun X hX _ => hx W X hX, fun W hW => hW.doR ha fun R hR => hy W R hR⟩

set_option maxRecDepth 100000 in
set_option maxHeartbeats 2000000 in
theorem lAct2 (Q : Pq) (hQ : Q.Ok) (G : Nat → Prop) (σ : Sg) (N : Nat) (id lane : Int) (pass : Bool) (ea : Option Addr) (en ec : Nat) (w : World) (h : PlAt w Q G σ σ N) (hn : σ.rs.length < 1048576) :
    Calls Tryz.prog 13 #[.pointer (some ⟨Q.wb, 0, none⟩), .agg #[.int .i64 2, .int .i64 id, .int .i64 lane, .bool pass, .slice ea en ec]] w fun e w' => ActDone w w' e Q G (σ.rs.length + 1) N := by
  have hw := h.widen (below_new w (.cells #[.int .i64 2, .int .i64 id, .int .i64 lane, .bool pass, .slice ea en ec] 29))
  obtain ⟨τ, k, hτ, hx, hy⟩ : ∃ τ k, τ.rs.length ≤ σ.rs.length + 1 ∧ (∀ W, PlAt W Q (Wide G w (w.alloc (.cells #[.int .i64 2, .int .i64 id, .int .i64 lane, .bool pass, .slice ea en ec] 29))) σ σ N → Calls Tryz.prog 40 #[.pointer (some ⟨Q.xb, 0, none⟩), .int .i64 id] W fun e w' => e = .returned (.int .i64 k) ∧ PlAt w' Q (Wide G w (w.alloc (.cells #[.int .i64 2, .int .i64 id, .int .i64 lane, .bool pass, .slice ea en ec] 29))) τ σ N ∧ Keeps W w' (Wide G w (w.alloc (.cells #[.int .i64 2, .int .i64 id, .int .i64 lane, .bool pass, .slice ea en ec] 29)))) ∧ (∀ W, PlAt W Q (Wide G w (w.alloc (.cells #[.int .i64 2, .int .i64 id, .int .i64 lane, .bool pass, .slice ea en ec] 29))) τ σ N → Calls Tryz.prog 41 #[.pointer (some ⟨Q.yb, 0, none⟩), .int .i64 id] W fun e w' => e = .returned (.int .i64 k) ∧ PlAt w' Q (Wide G w (w.alloc (.cells #[.int .i64 2, .int .i64 id, .int .i64 lane, .bool pass, .slice ea en ec] 29))) τ τ N ∧ Keeps W w' (Wide G w (w.alloc (.cells #[.int .i64 2, .int .i64 id, .int .i64 lane, .bool pass, .slice ea en ec] 29)))) := by
    obtain ⟨err, he⟩ := can_err (Qs.all σ.rs) id
    obtain ⟨τ, k, a1, a2, a3, a4⟩ := hw.both (a := σ.cancel id err) (h.okp.act hQ.c fun h0 => (can_can he h.okp.fits.inv h0).1) (fun W X hX => pCancel X Q.xb Q.c σ Q.n Q.g id err W hX h.okp hQ.c hn he) (fun W R hR => rCancel R Q.yb Q.c σ Q.fv Q.ss id err W hR h.okr hQ.c hn he)
    exact ⟨τ, k, by rw [a2]; exact σ.act_len _ _, a3, a4⟩
  have HB0 : Hid (Below w.heap.size w (w.alloc (.cells #[.int .i64 2, .int .i64 id, .int .i64 lane, .bool pass, .slice ea en ec] 29))) := below_new _ _
  have X0 := Bx.new w #[.int .i64 2, .int .i64 id, .int .i64 lane, .bool pass, .slice ea en ec] 29
  have Gw : Hid (Wide G w (w.alloc (.cells #[.int .i64 2, .int .i64 id, .int .i64 lane, .bool pass, .slice ea en ec] 29)) Q.wb) := .inl h.gw
  have Ga : Hid (Wide G w (w.alloc (.cells #[.int .i64 2, .int .i64 id, .int .i64 lane, .bool pass, .slice ea en ec] 29)) w.heap.size) := .inr ⟨Nat.le_refl _, by simp⟩
  have HF : Hid (∀ W, PlAt W Q (Wide G w (w.alloc (.cells #[.int .i64 2, .int .i64 id, .int .i64 lane, .bool pass, .slice ea en ec] 29))) τ τ N → PlAt W Q G τ τ N) := fun W hW => hW.fewer (fun _ h => .inl h) h.gw
  have b0 := hw.box.cell (i := 0) (v := .pointer (some ⟨Q.xb, 0, none⟩)) rfl
  have b1 := hw.box.cell (i := 1) (v := .pointer (some ⟨Q.yb, 0, none⟩)) rfl
  have x0 := X0.cell (i := 0) (v := .int .i64 2) rfl
  have x1 := X0.cell (i := 1) (v := .int .i64 id) rfl
  have HW : Hid (PlAt (w.alloc (.cells #[.int .i64 2, .int .i64 id, .int .i64 lane, .bool pass, .slice ea en ec] 29)) Q (Wide G w (w.alloc (.cells #[.int .i64 2, .int .i64 id, .int .i64 lane, .bool pass, .slice ea en ec] 29))) σ σ N) := hw
  have Hτ : Hid (τ.rs.length ≤ σ.rs.length + 1) := hτ
  have hx0 := hx (w.alloc (.cells #[.int .i64 2, .int .i64 id, .int .i64 lane, .bool pass, .slice ea en ec] 29)).drew (hw.later ⟨rfl, rfl, rfl, Nat.le_refl _, fun _ _ => rfl⟩)
  have hx1 := hx (w.alloc (.cells #[.int .i64 2, .int .i64 id, .int .i64 lane, .bool pass, .slice ea en ec] 29)) hw
  have HY : Hid (∀ W, PlAt W Q (Wide G w (w.alloc (.cells #[.int .i64 2, .int .i64 id, .int .i64 lane, .bool pass, .slice ea en ec] 29))) τ σ N → Calls Tryz.prog 41 #[.pointer (some ⟨Q.yb, 0, none⟩), .int .i64 id] W fun e w' => e = .returned (.int .i64 k) ∧ PlAt w' Q (Wide G w (w.alloc (.cells #[.int .i64 2, .int .i64 id, .int .i64 lane, .bool pass, .slice ea en ec] 29))) τ τ N ∧ Keeps W w' (Wide G w (w.alloc (.cells #[.int .i64 2, .int .i64 id, .int .i64 lane, .bool pass, .slice ea en ec] 29)))) := hy
  clear h hQ hτ X0 hx hy hw
  unfold ActDone
  go_enter Tryz.func13, Tryz.ntmps13
  go_wp2_with fail
  generalize w.alloc (.cells #[.int .i64 2, .int .i64 id, .int .i64 lane, .bool pass, .slice ea en ec] 29) = w0 at *
  generalize Q.wb = wb at *
  generalize Q.xb = xb at *
  generalize Q.yb = yb at *
  generalize hG1 : Wide G w w0 = G1 at *
  have HG1 : Hid (Wide G w w0 = G1) := hG1
  clear x0 hG1 hx1
  go_cut [5] from 7 (fun t wz => t = .int .i64 k ∧ PlAt wz Q G1 τ σ N ∧ Keeps w0 wz G1)
  case first =>
    go_region_held_law (fun w' => w'.cell? ⟨wb, 0, none⟩ = some (.pointer (some ⟨xb, 0, none⟩)) ∧ w'.cell? ⟨w.heap.size, 1, none⟩ = some (.int .i64 id)) (go_keep) ((go_at_call 40; refine hx0.mono ?_; rintro e w2 ⟨rfl, hP2, hK2⟩; have c02 := hK2.cell Gw.out b0; have a12 := hK2.cell Ga.out x1; have HP2 : Hid (PlAt w2 Q G1 τ σ N) := hP2; have HK2 : Hid (Keeps w0 w2 G1) := Only.drew hK2; clear hP2 hK2))
    all_goals
      go_wp2_with fail
      go_meet
      case rel => exact ⟨rfl, HP2.out, HK2.out⟩
  case rest =>
    obtain ⟨rfl, hPz, hKz⟩ := hcut
    rename World => wz
    have HKz : Hid (Keeps w0 wz G1) := hKz
    have hy := HY.out wz.drew (hPz.later ⟨rfl, rfl, rfl, Nat.le_refl _, fun _ _ => rfl⟩)
    have d1 := hKz.cell Gw.out b1
    have e1 := hKz.cell Ga.out x1
    clear hx0 HY hPz hKz b0 b1 x1
    go_wp2_with fail
    go_region_held_law (fun w' => w'.cell? ⟨wb, 1, none⟩ = some (.pointer (some ⟨yb, 0, none⟩)) ∧ w'.cell? ⟨w.heap.size, 1, none⟩ = some (.int .i64 id)) (go_keep) ((go_at_call 41; refine hy.mono ?_; rintro e w2 ⟨rfl, hP2, hK2⟩; have c02 := hK2.cell Gw.out d1; have a12 := hK2.cell Ga.out e1; have HP2 : Hid (PlAt w2 Q G1 τ τ N) := hP2; have HK2 : Hid (Keeps w0 w2 G1) := HKz.out.trans (Only.drew hK2); clear hP2 hK2))
    all_goals
      go_wp2_with fail
      go_ret
      have sub : ∀ q, G q → G1 q := fun q hq => by rw [← HG1.out]; exact .inl hq
      exact ⟨rfl, ⟨τ, HF.out _ HP2.out, Hτ.out⟩, (Keeps.of_below HB0.out).trans (HK2.out.mono sub)⟩

set_option maxRecDepth 100000 in
set_option maxHeartbeats 2000000 in
theorem lAct9 (Q : Pq) (G : Nat → Prop) (σ : Sg) (N : Nat) (id lane : Int) (pass : Bool) (ea : Option Addr) (en ec : Nat) (w : World) (h : PlAt w Q G σ σ N) :
    Calls Tryz.prog 13 #[.pointer (some ⟨Q.wb, 0, none⟩), .agg #[.int .i64 9, .int .i64 id, .int .i64 lane, .bool pass, .slice ea en ec]] w fun e w' => ActDone w w' e Q G (σ.rs.length + 1) N := by
  have hw := h.widen (below_new w (.cells #[.int .i64 9, .int .i64 id, .int .i64 lane, .bool pass, .slice ea en ec] 29))
  obtain ⟨τ, k, hτ, hx, hy⟩ : ∃ τ k, τ.rs.length ≤ σ.rs.length + 1 ∧ (∀ W, PlAt W Q (Wide G w (w.alloc (.cells #[.int .i64 9, .int .i64 id, .int .i64 lane, .bool pass, .slice ea en ec] 29))) σ σ N → Calls Tryz.prog 29 #[.pointer (some ⟨Q.xb, 0, none⟩), .int .i64 id] W fun e w' => e = .returned (.int .i64 k) ∧ PlAt w' Q (Wide G w (w.alloc (.cells #[.int .i64 9, .int .i64 id, .int .i64 lane, .bool pass, .slice ea en ec] 29))) τ σ N ∧ Keeps W w' (Wide G w (w.alloc (.cells #[.int .i64 9, .int .i64 id, .int .i64 lane, .bool pass, .slice ea en ec] 29)))) ∧ (∀ W, PlAt W Q (Wide G w (w.alloc (.cells #[.int .i64 9, .int .i64 id, .int .i64 lane, .bool pass, .slice ea en ec] 29))) τ σ N → Calls Tryz.prog 49 #[.pointer (some ⟨Q.yb, 0, none⟩), .int .i64 id] W fun e w' => e = .returned (.int .i64 k) ∧ PlAt w' Q (Wide G w (w.alloc (.cells #[.int .i64 9, .int .i64 id, .int .i64 lane, .bool pass, .slice ea en ec] 29))) τ τ N ∧ Keeps W w' (Wide G w (w.alloc (.cells #[.int .i64 9, .int .i64 id, .int .i64 lane, .bool pass, .slice ea en ec] 29)))) := by
    obtain ⟨τ, k, a1, a2, a3, a4⟩ := hw.both (a := σ.brk id) (h.okp.brk id) (fun W X hX => pBreak X Q.xb Q.c σ Q.n Q.g id W hX) (fun W R hR => rBreak R Q.yb Q.c σ Q.fv Q.ss id W hR)
    exact ⟨τ, k, by rw [a2]; exact σ.brk_len _, a3, a4⟩
  have HB0 : Hid (Below w.heap.size w (w.alloc (.cells #[.int .i64 9, .int .i64 id, .int .i64 lane, .bool pass, .slice ea en ec] 29))) := below_new _ _
  have X0 := Bx.new w #[.int .i64 9, .int .i64 id, .int .i64 lane, .bool pass, .slice ea en ec] 29
  have Gw : Hid (Wide G w (w.alloc (.cells #[.int .i64 9, .int .i64 id, .int .i64 lane, .bool pass, .slice ea en ec] 29)) Q.wb) := .inl h.gw
  have Ga : Hid (Wide G w (w.alloc (.cells #[.int .i64 9, .int .i64 id, .int .i64 lane, .bool pass, .slice ea en ec] 29)) w.heap.size) := .inr ⟨Nat.le_refl _, by simp⟩
  have HF : Hid (∀ W, PlAt W Q (Wide G w (w.alloc (.cells #[.int .i64 9, .int .i64 id, .int .i64 lane, .bool pass, .slice ea en ec] 29))) τ τ N → PlAt W Q G τ τ N) := fun W hW => hW.fewer (fun _ h => .inl h) h.gw
  have b0 := hw.box.cell (i := 0) (v := .pointer (some ⟨Q.xb, 0, none⟩)) rfl
  have b1 := hw.box.cell (i := 1) (v := .pointer (some ⟨Q.yb, 0, none⟩)) rfl
  have x0 := X0.cell (i := 0) (v := .int .i64 9) rfl
  have x1 := X0.cell (i := 1) (v := .int .i64 id) rfl
  have HW : Hid (PlAt (w.alloc (.cells #[.int .i64 9, .int .i64 id, .int .i64 lane, .bool pass, .slice ea en ec] 29)) Q (Wide G w (w.alloc (.cells #[.int .i64 9, .int .i64 id, .int .i64 lane, .bool pass, .slice ea en ec] 29))) σ σ N) := hw
  have Hτ : Hid (τ.rs.length ≤ σ.rs.length + 1) := hτ
  have hx0 := hx (w.alloc (.cells #[.int .i64 9, .int .i64 id, .int .i64 lane, .bool pass, .slice ea en ec] 29)).drew (hw.later ⟨rfl, rfl, rfl, Nat.le_refl _, fun _ _ => rfl⟩)
  have hx1 := hx (w.alloc (.cells #[.int .i64 9, .int .i64 id, .int .i64 lane, .bool pass, .slice ea en ec] 29)) hw
  have HY : Hid (∀ W, PlAt W Q (Wide G w (w.alloc (.cells #[.int .i64 9, .int .i64 id, .int .i64 lane, .bool pass, .slice ea en ec] 29))) τ σ N → Calls Tryz.prog 49 #[.pointer (some ⟨Q.yb, 0, none⟩), .int .i64 id] W fun e w' => e = .returned (.int .i64 k) ∧ PlAt w' Q (Wide G w (w.alloc (.cells #[.int .i64 9, .int .i64 id, .int .i64 lane, .bool pass, .slice ea en ec] 29))) τ τ N ∧ Keeps W w' (Wide G w (w.alloc (.cells #[.int .i64 9, .int .i64 id, .int .i64 lane, .bool pass, .slice ea en ec] 29)))) := hy
  clear h hτ X0 hx hy hw
  unfold ActDone
  go_enter Tryz.func13, Tryz.ntmps13
  go_wp2_with fail
  generalize w.alloc (.cells #[.int .i64 9, .int .i64 id, .int .i64 lane, .bool pass, .slice ea en ec] 29) = w0 at *
  generalize Q.wb = wb at *
  generalize Q.xb = xb at *
  generalize Q.yb = yb at *
  generalize hG1 : Wide G w w0 = G1 at *
  have HG1 : Hid (Wide G w w0 = G1) := hG1
  clear x0 hG1 hx1
  go_cut [5] from 7 (fun t wz => t = .int .i64 k ∧ PlAt wz Q G1 τ σ N ∧ Keeps w0 wz G1)
  case first =>
    go_region_held_law (fun w' => w'.cell? ⟨wb, 0, none⟩ = some (.pointer (some ⟨xb, 0, none⟩)) ∧ w'.cell? ⟨w.heap.size, 1, none⟩ = some (.int .i64 id)) (go_keep) ((go_at_call 29; refine hx0.mono ?_; rintro e w2 ⟨rfl, hP2, hK2⟩; have c02 := hK2.cell Gw.out b0; have a12 := hK2.cell Ga.out x1; have HP2 : Hid (PlAt w2 Q G1 τ σ N) := hP2; have HK2 : Hid (Keeps w0 w2 G1) := Only.drew hK2; clear hP2 hK2))
    all_goals
      go_wp2_with fail
      go_meet
      case rel => exact ⟨rfl, HP2.out, HK2.out⟩
  case rest =>
    obtain ⟨rfl, hPz, hKz⟩ := hcut
    rename World => wz
    have HKz : Hid (Keeps w0 wz G1) := hKz
    have hy := HY.out wz.drew (hPz.later ⟨rfl, rfl, rfl, Nat.le_refl _, fun _ _ => rfl⟩)
    have d1 := hKz.cell Gw.out b1
    have e1 := hKz.cell Ga.out x1
    clear hx0 HY hPz hKz b0 b1 x1
    go_wp2_with fail
    go_region_held_law (fun w' => w'.cell? ⟨wb, 1, none⟩ = some (.pointer (some ⟨yb, 0, none⟩)) ∧ w'.cell? ⟨w.heap.size, 1, none⟩ = some (.int .i64 id)) (go_keep) ((go_at_call 49; refine hy.mono ?_; rintro e w2 ⟨rfl, hP2, hK2⟩; have c02 := hK2.cell Gw.out d1; have a12 := hK2.cell Ga.out e1; have HP2 : Hid (PlAt w2 Q G1 τ τ N) := hP2; have HK2 : Hid (Keeps w0 w2 G1) := HKz.out.trans (Only.drew hK2); clear hP2 hK2))
    all_goals
      go_wp2_with fail
      go_ret
      have sub : ∀ q, G q → G1 q := fun q hq => by rw [← HG1.out]; exact .inl hq
      exact ⟨rfl, ⟨τ, HF.out _ HP2.out, Hτ.out⟩, (Keeps.of_below HB0.out).trans (HK2.out.mono sub)⟩

set_option maxRecDepth 100000 in
set_option maxHeartbeats 2000000 in
theorem lAct10 (Q : Pq) (G : Nat → Prop) (σ : Sg) (N : Nat) (id lane : Int) (pass : Bool) (ea : Option Addr) (en ec : Nat) (w : World) (h : PlAt w Q G σ σ N) :
    Calls Tryz.prog 13 #[.pointer (some ⟨Q.wb, 0, none⟩), .agg #[.int .i64 10, .int .i64 id, .int .i64 lane, .bool pass, .slice ea en ec]] w fun e w' => ActDone w w' e Q G (σ.rs.length + 1) N := by
  have hw := h.widen (below_new w (.cells #[.int .i64 10, .int .i64 id, .int .i64 lane, .bool pass, .slice ea en ec] 29))
  obtain ⟨τ, k, hτ, hx, hy⟩ : ∃ τ k, τ.rs.length ≤ σ.rs.length + 1 ∧ (∀ W, PlAt W Q (Wide G w (w.alloc (.cells #[.int .i64 10, .int .i64 id, .int .i64 lane, .bool pass, .slice ea en ec] 29))) σ σ N → Calls Tryz.prog 50 #[.pointer (some ⟨Q.xb, 0, none⟩)] W fun e w' => e = .returned (.int .i64 k) ∧ PlAt w' Q (Wide G w (w.alloc (.cells #[.int .i64 10, .int .i64 id, .int .i64 lane, .bool pass, .slice ea en ec] 29))) τ σ N ∧ Keeps W w' (Wide G w (w.alloc (.cells #[.int .i64 10, .int .i64 id, .int .i64 lane, .bool pass, .slice ea en ec] 29)))) ∧ (∀ W, PlAt W Q (Wide G w (w.alloc (.cells #[.int .i64 10, .int .i64 id, .int .i64 lane, .bool pass, .slice ea en ec] 29))) τ σ N → Calls Tryz.prog 51 #[.pointer (some ⟨Q.yb, 0, none⟩)] W fun e w' => e = .returned (.int .i64 k) ∧ PlAt w' Q (Wide G w (w.alloc (.cells #[.int .i64 10, .int .i64 id, .int .i64 lane, .bool pass, .slice ea en ec] 29))) τ τ N ∧ Keeps W w' (Wide G w (w.alloc (.cells #[.int .i64 10, .int .i64 id, .int .i64 lane, .bool pass, .slice ea en ec] 29)))) := by
    obtain ⟨τ, k, a1, a2, a3, a4⟩ := hw.both (a := σ.crash) h.okp.crash (fun W X hX => pCrash X Q.xb Q.c σ Q.n Q.g W hX) (fun W R hR => rCrash R Q.yb Q.c σ Q.fv Q.ss W hR h.okr)
    exact ⟨τ, k, by rw [a2]; exact σ.crash_len, a3, a4⟩
  have HB0 : Hid (Below w.heap.size w (w.alloc (.cells #[.int .i64 10, .int .i64 id, .int .i64 lane, .bool pass, .slice ea en ec] 29))) := below_new _ _
  have X0 := Bx.new w #[.int .i64 10, .int .i64 id, .int .i64 lane, .bool pass, .slice ea en ec] 29
  have Gw : Hid (Wide G w (w.alloc (.cells #[.int .i64 10, .int .i64 id, .int .i64 lane, .bool pass, .slice ea en ec] 29)) Q.wb) := .inl h.gw
  have HF : Hid (∀ W, PlAt W Q (Wide G w (w.alloc (.cells #[.int .i64 10, .int .i64 id, .int .i64 lane, .bool pass, .slice ea en ec] 29))) τ τ N → PlAt W Q G τ τ N) := fun W hW => hW.fewer (fun _ h => .inl h) h.gw
  have b0 := hw.box.cell (i := 0) (v := .pointer (some ⟨Q.xb, 0, none⟩)) rfl
  have b1 := hw.box.cell (i := 1) (v := .pointer (some ⟨Q.yb, 0, none⟩)) rfl
  have x0 := X0.cell (i := 0) (v := .int .i64 10) rfl
  have x1 := X0.cell (i := 1) (v := .int .i64 id) rfl
  have HW : Hid (PlAt (w.alloc (.cells #[.int .i64 10, .int .i64 id, .int .i64 lane, .bool pass, .slice ea en ec] 29)) Q (Wide G w (w.alloc (.cells #[.int .i64 10, .int .i64 id, .int .i64 lane, .bool pass, .slice ea en ec] 29))) σ σ N) := hw
  have Hτ : Hid (τ.rs.length ≤ σ.rs.length + 1) := hτ
  have hx0 := hx (w.alloc (.cells #[.int .i64 10, .int .i64 id, .int .i64 lane, .bool pass, .slice ea en ec] 29)).drew (hw.later ⟨rfl, rfl, rfl, Nat.le_refl _, fun _ _ => rfl⟩)
  have hx1 := hx (w.alloc (.cells #[.int .i64 10, .int .i64 id, .int .i64 lane, .bool pass, .slice ea en ec] 29)) hw
  have HY : Hid (∀ W, PlAt W Q (Wide G w (w.alloc (.cells #[.int .i64 10, .int .i64 id, .int .i64 lane, .bool pass, .slice ea en ec] 29))) τ σ N → Calls Tryz.prog 51 #[.pointer (some ⟨Q.yb, 0, none⟩)] W fun e w' => e = .returned (.int .i64 k) ∧ PlAt w' Q (Wide G w (w.alloc (.cells #[.int .i64 10, .int .i64 id, .int .i64 lane, .bool pass, .slice ea en ec] 29))) τ τ N ∧ Keeps W w' (Wide G w (w.alloc (.cells #[.int .i64 10, .int .i64 id, .int .i64 lane, .bool pass, .slice ea en ec] 29)))) := hy
  clear h hτ X0 hx hy hw
  unfold ActDone
  go_enter Tryz.func13, Tryz.ntmps13
  go_wp2_with fail
  generalize w.alloc (.cells #[.int .i64 10, .int .i64 id, .int .i64 lane, .bool pass, .slice ea en ec] 29) = w0 at *
  generalize Q.wb = wb at *
  generalize Q.xb = xb at *
  generalize Q.yb = yb at *
  generalize hG1 : Wide G w w0 = G1 at *
  have HG1 : Hid (Wide G w w0 = G1) := hG1
  clear x0 hG1 hx0 x1
  go_fit hx1
  rintro e w2 ⟨rfl, hP2, hK2⟩
  have HK2 : Hid (Keeps w0 w2 G1) := hK2
  have hy := HY.out w2 hP2
  have d1 := hK2.cell Gw.out b1
  clear hx1 HY hP2 hK2 b0 b1
  go_wp2_with fail
  go_fit hy
  rintro e w3 ⟨rfl, hP3, hK3⟩
  have HP3 : Hid (PlAt w3 Q G1 τ τ N) := hP3
  have HK3 : Hid (Keeps w0 w3 G1) := HK2.out.trans hK3
  clear hy hP3 hK3
  go_wp2_with fail
  go_ret
  have sub : ∀ q, G q → G1 q := fun q hq => by rw [← HG1.out]; exact .inl hq
  exact ⟨rfl, ⟨τ, HF.out _ HP3.out, Hτ.out⟩, (Keeps.of_below HB0.out).trans (HK3.out.mono sub)⟩

set_option maxRecDepth 100000 in
set_option maxHeartbeats 2000000 in
theorem lAct11 (Q : Pq) (hQ : Q.Ok) (G : Nat → Prop) (σ : Sg) (N : Nat) (id lane : Int) (pass : Bool) (ea : Option Addr) (en ec : Nat) (w : World) (h : PlAt w Q G σ σ N) (hn : σ.rs.length < 1048576) :
    Calls Tryz.prog 13 #[.pointer (some ⟨Q.wb, 0, none⟩), .agg #[.int .i64 11, .int .i64 id, .int .i64 lane, .bool pass, .slice ea en ec]] w fun e w' => ActDone w w' e Q G (σ.rs.length + 1) N := by
  have hw := h.widen (below_new w (.cells #[.int .i64 11, .int .i64 id, .int .i64 lane, .bool pass, .slice ea en ec] 29))
  obtain ⟨τ, k, hτ, hx, hy⟩ : ∃ τ k, τ.rs.length ≤ σ.rs.length + 1 ∧ (∀ W, PlAt W Q (Wide G w (w.alloc (.cells #[.int .i64 11, .int .i64 id, .int .i64 lane, .bool pass, .slice ea en ec] 29))) σ σ N → Calls Tryz.prog 32 #[.pointer (some ⟨Q.xb, 0, none⟩)] W fun e w' => e = .returned (.int .i64 k) ∧ PlAt w' Q (Wide G w (w.alloc (.cells #[.int .i64 11, .int .i64 id, .int .i64 lane, .bool pass, .slice ea en ec] 29))) τ σ N ∧ Keeps W w' (Wide G w (w.alloc (.cells #[.int .i64 11, .int .i64 id, .int .i64 lane, .bool pass, .slice ea en ec] 29)))) ∧ (∀ W, PlAt W Q (Wide G w (w.alloc (.cells #[.int .i64 11, .int .i64 id, .int .i64 lane, .bool pass, .slice ea en ec] 29))) τ σ N → Calls Tryz.prog 52 #[.pointer (some ⟨Q.yb, 0, none⟩)] W fun e w' => e = .returned (.int .i64 k) ∧ PlAt w' Q (Wide G w (w.alloc (.cells #[.int .i64 11, .int .i64 id, .int .i64 lane, .bool pass, .slice ea en ec] 29))) τ τ N ∧ Keeps W w' (Wide G w (w.alloc (.cells #[.int .i64 11, .int .i64 id, .int .i64 lane, .bool pass, .slice ea en ec] 29)))) := by
    obtain ⟨τ, k, a1, a2, a3, a4⟩ := hw.both (a := σ.recover) h.okp.recover (fun W X hX => pRecover X Q.xb Q.c σ Q.n Q.g W hX h.okp hQ.c hn) (fun W R hR => rRecover R Q.yb Q.c σ Q.fv Q.ss W hR h.okr hn)
    exact ⟨τ, k, by rw [a2]; exact σ.recover_len, a3, a4⟩
  have HB0 : Hid (Below w.heap.size w (w.alloc (.cells #[.int .i64 11, .int .i64 id, .int .i64 lane, .bool pass, .slice ea en ec] 29))) := below_new _ _
  have X0 := Bx.new w #[.int .i64 11, .int .i64 id, .int .i64 lane, .bool pass, .slice ea en ec] 29
  have Gw : Hid (Wide G w (w.alloc (.cells #[.int .i64 11, .int .i64 id, .int .i64 lane, .bool pass, .slice ea en ec] 29)) Q.wb) := .inl h.gw
  have HF : Hid (∀ W, PlAt W Q (Wide G w (w.alloc (.cells #[.int .i64 11, .int .i64 id, .int .i64 lane, .bool pass, .slice ea en ec] 29))) τ τ N → PlAt W Q G τ τ N) := fun W hW => hW.fewer (fun _ h => .inl h) h.gw
  have b0 := hw.box.cell (i := 0) (v := .pointer (some ⟨Q.xb, 0, none⟩)) rfl
  have b1 := hw.box.cell (i := 1) (v := .pointer (some ⟨Q.yb, 0, none⟩)) rfl
  have x0 := X0.cell (i := 0) (v := .int .i64 11) rfl
  have x1 := X0.cell (i := 1) (v := .int .i64 id) rfl
  have HW : Hid (PlAt (w.alloc (.cells #[.int .i64 11, .int .i64 id, .int .i64 lane, .bool pass, .slice ea en ec] 29)) Q (Wide G w (w.alloc (.cells #[.int .i64 11, .int .i64 id, .int .i64 lane, .bool pass, .slice ea en ec] 29))) σ σ N) := hw
  have Hτ : Hid (τ.rs.length ≤ σ.rs.length + 1) := hτ
  have hx0 := hx (w.alloc (.cells #[.int .i64 11, .int .i64 id, .int .i64 lane, .bool pass, .slice ea en ec] 29)).drew (hw.later ⟨rfl, rfl, rfl, Nat.le_refl _, fun _ _ => rfl⟩)
  have hx1 := hx (w.alloc (.cells #[.int .i64 11, .int .i64 id, .int .i64 lane, .bool pass, .slice ea en ec] 29)) hw
  have HY : Hid (∀ W, PlAt W Q (Wide G w (w.alloc (.cells #[.int .i64 11, .int .i64 id, .int .i64 lane, .bool pass, .slice ea en ec] 29))) τ σ N → Calls Tryz.prog 52 #[.pointer (some ⟨Q.yb, 0, none⟩)] W fun e w' => e = .returned (.int .i64 k) ∧ PlAt w' Q (Wide G w (w.alloc (.cells #[.int .i64 11, .int .i64 id, .int .i64 lane, .bool pass, .slice ea en ec] 29))) τ τ N ∧ Keeps W w' (Wide G w (w.alloc (.cells #[.int .i64 11, .int .i64 id, .int .i64 lane, .bool pass, .slice ea en ec] 29)))) := hy
  clear h hQ hτ X0 hx hy hw
  unfold ActDone
  go_enter Tryz.func13, Tryz.ntmps13
  go_wp2_with fail
  generalize w.alloc (.cells #[.int .i64 11, .int .i64 id, .int .i64 lane, .bool pass, .slice ea en ec] 29) = w0 at *
  generalize Q.wb = wb at *
  generalize Q.xb = xb at *
  generalize Q.yb = yb at *
  generalize hG1 : Wide G w w0 = G1 at *
  have HG1 : Hid (Wide G w w0 = G1) := hG1
  clear x0 hG1 hx0 x1
  go_fit hx1
  rintro e w2 ⟨rfl, hP2, hK2⟩
  have HK2 : Hid (Keeps w0 w2 G1) := hK2
  have hy := HY.out w2 hP2
  have d1 := hK2.cell Gw.out b1
  clear hx1 HY hP2 hK2 b0 b1
  go_wp2_with fail
  go_fit hy
  rintro e w3 ⟨rfl, hP3, hK3⟩
  have HP3 : Hid (PlAt w3 Q G1 τ τ N) := hP3
  have HK3 : Hid (Keeps w0 w3 G1) := HK2.out.trans hK3
  clear hy hP3 hK3
  go_wp2_with fail
  go_ret
  have sub : ∀ q, G q → G1 q := fun q hq => by rw [← HG1.out]; exact .inl hq
  exact ⟨rfl, ⟨τ, HF.out _ HP3.out, Hτ.out⟩, (Keeps.of_below HB0.out).trans (HK3.out.mono sub)⟩
end Go.Proofs.YtgamgomepdfgdaaGreat
