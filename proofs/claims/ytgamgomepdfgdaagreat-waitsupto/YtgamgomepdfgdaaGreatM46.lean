import Derived.Test.YtgamgomepdfgdaaGreatM45
import Derived.Test.YtgamgomepdfgdaaGreatM44
import Derived.Test.YtgamgomepdfgdaaGreatM26
namespace Go.Proofs.YtgamgomepdfgdaaGreat
open Go.RowKit

/-- the files of the beginning, told -/
theorem told_perm {l' o : List Fl} (hr : Rising l') (hp : l'.Perm o) (hf : ∀ f ∈ o, f.2 ≠ ⟨#[]⟩) (ha : Apart Prod.fst o) : Told l' (standsL o) := by
  refine told_of_mem hr fun f => ?_
  rw [hp.mem_iff, mem_iff_stands ha hf]
set_option maxRecDepth 100000 in
set_option maxHeartbeats 400000 in
theorem told_none (a : Option Addr) (cap : Nat) (w : World) :
    Calls Tryz.prog 83 #[.slice a 0 cap] w fun e w' => e = .returned (.slice none 0 0) ∧ w' = w := by
  go_enter Tryz.func83, Tryz.ntmps83
  go_wp2
  go_loop [3] (fun v => v = .slice none 0 0) (fun _ => 0)
  case atStart => rfl
  case round =>
    subst hrel
    go_wp2
    go_ret
    exact ⟨rfl, rfl⟩

theorem told_any (l : List Fl) (v : Value) (w : World) (hl : FilesAt w v l) (hn : (l.length + 1) * 32 ≤ 140737488355328) (ha : Apart Prod.fst l) (hsz : ∀ f ∈ l, f.1.size ≤ maxLen) :
    Calls Tryz.prog 83 #[v] w fun e w' => (∃ (ss : List Fl) (v : Value), e = .returned v ∧ Rising ss ∧ ss.Perm l ∧ w'.ownsRow w.heap.size 80 2 v ss.length (ss.flatMap cF)) ∧ Below w.heap.size w w' := by
  rcases hl with ⟨rfl, a, cap, rfl⟩ | ⟨b, off, cap, rfl, hlt, h0, h1⟩
  · refine (told_none a cap w).mono ?_
    rintro e w' ⟨rfl, rfl⟩
    exact ⟨⟨[], _, rfl, List.Pairwise.nil, .refl _, World.ownsRow_nil _ _ _ _⟩, Below.refl _ _⟩
  · exact told_row l b off cap w hlt hn h0 h1 ha hsz

set_option maxRecDepth 100000 in
set_option maxHeartbeats 4000000 in
/-- the document's machine is made -/
theorem rNew (c : Cfg) (l : List Fl) (fa : Option Addr) (fn fc : Nat) (w : World) (hc : CfgOk c.lanes c.age c.batch c.window c.retries c.deadline c.queue) (hl : FilesAt w (.slice fa fn fc) l) (hn : (l.length + 100) * 32 ≤ 140737488355328) (hsz : ∀ f ∈ l, f.1.size ≤ maxLen) :
    Calls Tryz.prog 35 #[.agg #[.int .i64 c.lanes, .int .i64 c.age, .int .i64 c.batch, .int .i64 c.window, .int .i64 c.retries, .int .i64 c.deadline, .int .i64 c.queue], .slice fa fn fc] w fun e w' => ((Good okFl Prod.fst l ∧ ∃ yb fv ss, e = .returned (.tuple #[.pointer (some ⟨yb, 0, none⟩), .int .i64 0]) ∧ w.heap.size ≤ yb ∧ RefIs w' yb c fv [] ⟨#[]⟩ false false 0 (.slice none 0 0) ∧ w'.ownsRow w.heap.size 80 2 fv ss.length (ss.flatMap cF) ∧ Rising ss ∧ ss.Perm l) ∨ (¬ Good okFl Prod.fst l ∧ e = .returned (.tuple #[.pointer none, .int .i64 2]))) ∧ Below w.heap.size w w' := by
  have c0 := in_val c.lanes 1 4 true ⟨fun _ => hc.1, fun _ => rfl⟩
  have c1 := in_val c.age 1 8 true ⟨fun _ => hc.2.1, fun _ => rfl⟩
  have c2 := in_val c.batch 1 8 true ⟨fun _ => hc.2.2.1, fun _ => rfl⟩
  have c3 := in_val c.window 1 4 true ⟨fun _ => hc.2.2.2.1, fun _ => rfl⟩
  have c4 := in_val c.retries 0 3 true ⟨fun _ => hc.2.2.2.2.1, fun _ => rfl⟩
  have c5 := in_val c.deadline 1 100 true ⟨fun _ => hc.2.2.2.2.2.1, fun _ => rfl⟩
  have c6 := in_val c.queue 1 16 true ⟨fun _ => hc.2.2.2.2.2.2, fun _ => rfl⟩
  have hFM := fun W (h : FilesAt W (.slice fa fn fc) l) => filesMay_any l (.slice fa fn fc) W h (by omega)
  have HL : Hid (FilesAt w (.slice fa fn fc) l) := hl
  clear hl hc
  go_enter Tryz.func35, Tryz.ntmps35
  go_wp2_with (first | (go_at_call 81; go_fit (c0 _); rintro e w' ⟨rfl, rfl⟩) | (go_at_call 81; go_fit (c1 _); rintro e w' ⟨rfl, rfl⟩) | (go_at_call 81; go_fit (c2 _); rintro e w' ⟨rfl, rfl⟩) | (go_at_call 81; go_fit (c3 _); rintro e w' ⟨rfl, rfl⟩) | (go_at_call 81; go_fit (c4 _); rintro e w' ⟨rfl, rfl⟩) | (go_at_call 81; go_fit (c5 _); rintro e w' ⟨rfl, rfl⟩) | (go_at_call 81; go_fit (c6 _); rintro e w' ⟨rfl, rfl⟩))
  have hB0 := below_new w (.cells #[.int .i64 c.lanes, .int .i64 c.age, .int .i64 c.batch, .int .i64 c.window, .int .i64 c.retries, .int .i64 c.deadline, .int .i64 c.queue] 23)
  have hX0 := Bx.new w #[.int .i64 c.lanes, .int .i64 c.age, .int .i64 c.batch, .int .i64 c.window, .int .i64 c.retries, .int .i64 c.deadline, .int .i64 c.queue] 23
  generalize w.alloc (.cells #[.int .i64 c.lanes, .int .i64 c.age, .int .i64 c.batch, .int .i64 c.window, .int .i64 c.retries, .int .i64 c.deadline, .int .i64 c.queue] 23) = w0 at *
  have hM := hFM w0 (FilesAt.later HL.out hB0)
  clear c0 c1 c2 c3 c4 c5 c6 hFM
  go_fit hM
  rintro e w1 ⟨⟨r, rfl, hr⟩, n1, rfl⟩
  have HR : Hid (r = true ↔ Good okFl Prod.fst l) := hr
  have HB1 : Hid (Below w.heap.size w (w0.drewN n1)) := ⟨hB0.os, hB0.tape, hB0.output, hB0.size, hB0.block⟩
  have HX1 : Hid (Bx (w0.drewN n1) w.heap.size 23 #[.int .i64 c.lanes, .int .i64 c.age, .int .i64 c.batch, .int .i64 c.window, .int .i64 c.retries, .int .i64 c.deadline, .int .i64 c.queue]) := hX0
  generalize w0.drewN n1 = w1 at *
  clear hM hr hB0 hX0
  cases r
  · have HN : Hid (¬ Good okFl Prod.fst l) := fun h => Bool.noConfusion (HR.out.2 h)
    go_wp2_with fail
    refine bodyPost_ret (v := .tuple #[.pointer none, .int .i64 2]) (by simp [results, Tryz.results35, go_sem]) rfl ⟨.inr ⟨HN.out, rfl⟩, HB1.out⟩
  · have HG : Hid (Good okFl Prod.fst l) := HR.out.1 rfl
    have hT := told_any l (.slice fa fn fc) w1.drew ((FilesAt.later HL.out HB1.out).later ⟨rfl, rfl, rfl, Nat.le_refl _, fun _ _ => rfl⟩) (by omega) HG.out.2 hsz
    have x0 := HX1.out.cell (i := 0) (v := .int .i64 c.lanes) rfl
    have x1 := HX1.out.cell (i := 1) (v := .int .i64 c.age) rfl
    have x2 := HX1.out.cell (i := 2) (v := .int .i64 c.batch) rfl
    have x3 := HX1.out.cell (i := 3) (v := .int .i64 c.window) rfl
    have x4 := HX1.out.cell (i := 4) (v := .int .i64 c.retries) rfl
    have x5 := HX1.out.cell (i := 5) (v := .int .i64 c.deadline) rfl
    have x6 := HX1.out.cell (i := 6) (v := .int .i64 c.queue) rfl
    clear HX1 HR
    go_wp2_with fail
    go_region_held_law (fun w' => w'.cell? ⟨w.heap.size, 0, none⟩ = some (.int .i64 c.lanes) ∧ w'.cell? ⟨w.heap.size, 1, none⟩ = some (.int .i64 c.age) ∧ w'.cell? ⟨w.heap.size, 2, none⟩ = some (.int .i64 c.batch) ∧ w'.cell? ⟨w.heap.size, 3, none⟩ = some (.int .i64 c.window) ∧ w'.cell? ⟨w.heap.size, 4, none⟩ = some (.int .i64 c.retries) ∧ w'.cell? ⟨w.heap.size, 5, none⟩ = some (.int .i64 c.deadline) ∧ w'.cell? ⟨w.heap.size, 6, none⟩ = some (.int .i64 c.queue)) (go_keep) ((go_at_call 83; refine hT.mono ?_; rintro e w2 ⟨⟨ss, v, rfl, hri, hpe, hrow⟩, hb2⟩; obtain ⟨va, vc, rfl⟩ := row_shape3 hrow; have a0 := jcell_after hb2 x0; have a1 := jcell_after hb2 x1; have a2 := jcell_after hb2 x2; have a3 := jcell_after hb2 x3; have a4 := jcell_after hb2 x4; have a5 := jcell_after hb2 x5; have a6 := jcell_after hb2 x6; have HRi : Hid (Rising ss) := hri; have HPe : Hid (ss.Perm l) := hpe; have HRow : Hid (w2.ownsRow w1.drew.heap.size 80 2 (.slice va ss.length vc) ss.length (ss.flatMap cF)) := hrow; have HB2 : Hid (Below w1.heap.size w1 w2) := ⟨hb2.os, hb2.tape, hb2.output, hb2.size, hb2.block⟩; clear hri hpe hrow hb2))
    all_goals
      go_wp2_with fail
      have hs1 := HB1.out.size
      have hs2 := HB2.out.size
      refine bodyPost_ret (v := .tuple #[.pointer (some ⟨w2.heap.size, 0, none⟩), .int .i64 0]) (by simp [results, Tryz.results35, go_sem]) rfl ⟨.inl ⟨HG.out, w2.heap.size, .slice va ss.length vc, ss, rfl, by omega, ⟨Bx.new w2 _ _, Sl.nil _ _ _⟩, World.ownsRow.alloc (row_low HRow.out hs1) _, HRi.out, HPe.out⟩, ?_⟩
      exact (below_trans HB1.out HB2.out).trans ((below_new _ _).mono (by omega))
end Go.Proofs.YtgamgomepdfgdaaGreat

namespace Go.Proofs.YtgamgomepdfgdaaGreat
open Go.RowKit

def Sg.start : Sg := ⟨[], true, [], false, 0⟩
theorem Sg.start_ok (c : Cfg) : Sg.start.Ok c := ⟨.nil, torn_nil, fun _ => rfl, fun h => (by cases h)⟩
/-- blocks that were laid between -/
def News (w w' : World) : Nat → Prop := fun k => w.heap.size ≤ k ∧ k < w'.heap.size
def cfgV (n0 n1 n2 n3 n4 n5 n6 : Int) : Value := .agg #[.int .i64 n0, .int .i64 n1, .int .i64 n2, .int .i64 n3, .int .i64 n4, .int .i64 n5, .int .i64 n6]

/-- the document's machine is made, or not -/
def RMade (w w' : World) (e : Ending) (c : Cfg) (l : List Fl) (k : Int) : Bool → Prop
  | true => ∃ yb fv ss, e = .returned (.tuple #[.pointer (some ⟨yb, 0, none⟩), .int .i64 k]) ∧ RefPk w' (News w w') yb c Sg.start fv ss ∧ Told ss (standsL l)
  | false => e = .returned (.tuple #[.pointer none, .int .i64 k])
/-- the program's machine is made, or not -/
def PMade (w w' : World) (e : Ending) (c : Cfg) (l : List Fl) (k : Int) : Bool → Prop
  | true => ∃ xb, e = .returned (.tuple #[.pointer (some ⟨xb, 0, none⟩), .int .i64 k]) ∧ ProgIs w' (News w w') xb c Sg.start l.length (standsL l)
  | false => e = .returned (.tuple #[.pointer none, .int .i64 k])

theorem cfg_nat {n0 n1 n2 n3 n4 n5 n6 : Int} (h : CfgOk n0 n1 n2 n3 n4 n5 n6) : ∃ c : Cfg, c.Ok ∧ n0 = c.lanes ∧ n1 = c.age ∧ n2 = c.batch ∧ n3 = c.window ∧ n4 = c.retries ∧ n5 = c.deadline ∧ n6 = c.queue := by
  obtain ⟨h0, h1, h2, h3, h4, h5, h6⟩ := h
  refine ⟨⟨n0.toNat, n1.toNat, n2.toNat, n3.toNat, n4.toNat, n5.toNat, n6.toNat⟩, ⟨⟨?_, ?_⟩, ⟨?_, ?_⟩, ⟨?_, ?_⟩, ⟨?_, ?_⟩, ?_, ⟨?_, ?_⟩, ⟨?_, ?_⟩⟩, ?_, ?_, ?_, ?_, ?_, ?_, ?_⟩ <;> simp <;> omega

theorem okFl_full {l : List Fl} (h : Good okFl Prod.fst l) : ∀ f ∈ l, f.2 ≠ ⟨#[]⟩ := fun f hf e => by
  have := h.1 f hf
  rw [okFl, e] at this
  simp [okFill] at this

/-- both are made, or both are refused, with the same error -/
theorem made_both (n0 n1 n2 n3 n4 n5 n6 : Int) (l : List Fl) (hn : (l.length + 100) * 64 ≤ 140737488355328) (hsz : ∀ f ∈ l, f.1.size ≤ maxLen) : ∃ (ok : Bool) (k : Int) (c : Cfg), (ok = true → c.Ok) ∧
    (∀ (w : World) (fa : Option Addr) (fn fc : Nat), FilesAt w (.slice fa fn fc) l → Calls Tryz.prog 35 #[cfgV n0 n1 n2 n3 n4 n5 n6, .slice fa fn fc] w fun e w' => RMade w w' e c l k ok ∧ Below w.heap.size w w') ∧
    (∀ (w : World) (fa : Option Addr) (fn fc : Nat), FilesAt w (.slice fa fn fc) l → Calls Tryz.prog 37 #[cfgV n0 n1 n2 n3 n4 n5 n6, .slice fa fn fc] w fun e w' => PMade w w' e c l k ok ∧ Below w.heap.size w w') := by
  by_cases hc : CfgOk n0 n1 n2 n3 n4 n5 n6
  · obtain ⟨c, hok, rfl, rfl, rfl, rfl, rfl, rfl, rfl⟩ := cfg_nat hc
    by_cases hg : Good okFl Prod.fst l
    · refine ⟨true, 0, c, fun _ => hok, fun w fa fn fc hl => ?_, fun w fa fn fc hl => ?_⟩
      · refine (rNew c l fa fn fc w hc hl (by omega) hsz).mono ?_
        rintro e w' ⟨h | h, hb⟩
        · obtain ⟨_, yb, fv, ss, rfl, hyb, hR, hrow, hri, hpe⟩ := h
          refine ⟨⟨yb, fv, ss, rfl, ⟨⟨.slice none 0 0, [], hR, rfl, by simp, by simp [Value.ownBlock]⟩, Sl.of_row hrow, fun q hq => World.ownsRow.lt hrow q hq, ⟨hyb, hR.box.lt⟩, fun k hk => hk.2⟩, told_perm hri hpe (okFl_full hg) hg.2⟩, hb⟩
        · exact absurd hg h.1
      · refine (mNew c l fa fn fc w hc hl (n_lt hn) hsz).mono ?_
        rintro e w' ⟨h | h, hb⟩
        · obtain ⟨_, xb, rfl, ⟨Y, mb, rb, yb, hU, hM, h1, h2, h3, h4, h5, h6⟩, hnew⟩ := h
          refine ⟨⟨xb, rfl, .inl ⟨rfl, ⟨⟨mb, .slice none 0 0, Y, rb, yb, 0, hM, hU, fun h => (by cases h), ⟨h1, hM.lt⟩, ⟨h2, hU.run.lt⟩, fun k hk => ⟨h6 k hk, hU.yl k hk⟩, by simp [Value.ownBlock], h3, h4, h5⟩, ⟨hnew, hU.box.lt⟩, fun k hk => hk.2⟩⟩⟩, hb⟩
        · exact absurd hg h.1
    · refine ⟨false, 2, c, fun _ => hok, fun w fa fn fc hl => ?_, fun w fa fn fc hl => ?_⟩
      · refine (rNew c l fa fn fc w hc hl (by omega) hsz).mono ?_
        rintro e w' ⟨h | h, hb⟩
        · exact absurd h.1 hg
        · exact ⟨h.2, hb⟩
      · refine (mNew c l fa fn fc w hc hl (n_lt hn) hsz).mono ?_
        rintro e w' ⟨h | h, hb⟩
        · exact absurd h.1 hg
        · exact ⟨h.2, hb⟩
  · refine ⟨false, 1, ⟨0, 0, 0, 0, 0, 0, 0⟩, fun h => (by cases h), fun w fa fn fc _ => ?_, fun w fa fn fc _ => ?_⟩
    · exact rNew_config n0 n1 n2 n3 n4 n5 n6 fa fn fc w hc
    · exact mNew_config n0 n1 n2 n3 n4 n5 n6 fa fn fc w hc
end Go.Proofs.YtgamgomepdfgdaaGreat

namespace Go.Proofs.YtgamgomepdfgdaaGreat
open Go.RowKit

/-- both are refused; or a play begins -/
def PlayMade (w w' : World) (e : Ending) (l : List Fl) : Bool → Prop
  | false => e = .returned (.tuple #[.pointer none, .bool true])
  | true => ∃ Q : Pq, Q.Ok ∧ e = .returned (.tuple #[.pointer (some ⟨Q.wb, 0, none⟩), .bool true]) ∧ Q.n = l.length ∧ w.heap.size ≤ Q.wb ∧ PlAt w' Q (fun k => k < w.heap.size ∨ k = Q.wb) Sg.start Sg.start 0

theorem FilesAt.head {w : World} {base g cap : Nat} {es ms : List Fl} (h : w.ownsRow base 80 2 (.slice (some ⟨g, 0, none⟩) (es ++ ms).length cap) (es ++ ms).length ((es ++ ms).flatMap cF)) : FilesAt w (.slice (some ⟨g, 0, none⟩) es.length cap) es := by
  have hS := (Sl.of_row h).cut (k := es.length) (by rw [List.length_append]; omega)
  have e : ((es ++ ms).flatMap cF).take (es.length * 2) = es.flatMap cF := by
    rw [List.flatMap_append, ← flat_len cF 2 (fun _ => rfl) es, List.take_left]
  rw [e] at hS
  exact FilesAt.of_sl hS

set_option maxRecDepth 100000 in
set_option maxHeartbeats 4000000 in
theorem lMade_no (n0 n1 n2 n3 n4 n5 n6 k : Int) (c : Cfg) (l : List Fl) (fa : Option Addr) (fc : Nat) (w : World) (hl : FilesAt w (.slice fa l.length fc) l) (hn : (l.length + 100) * 64 ≤ 140737488355328)
    (hy : ∀ (w : World) (fa : Option Addr) (fn fc : Nat), FilesAt w (.slice fa fn fc) l → Calls Tryz.prog 35 #[cfgV n0 n1 n2 n3 n4 n5 n6, .slice fa fn fc] w fun e w' => RMade w w' e c l k false ∧ Below w.heap.size w w')
    (hx : ∀ (w : World) (fa : Option Addr) (fn fc : Nat), FilesAt w (.slice fa fn fc) l → Calls Tryz.prog 37 #[cfgV n0 n1 n2 n3 n4 n5 n6, .slice fa fn fc] w fun e w' => PMade w w' e c l k false ∧ Below w.heap.size w w') :
    Calls Tryz.prog 12 #[cfgV n0 n1 n2 n3 n4 n5 n6, .slice fa l.length fc] w fun e w' => PlayMade w w' e l false ∧ Below w.heap.size w w' := by
  unfold RMade at hy
  unfold PMade at hx
  unfold PlayMade
  unfold cfgV at *
  have HB0 : Hid (Below w.heap.size w (w.alloc (.cells #[.int .i64 n0, .int .i64 n1, .int .i64 n2, .int .i64 n3, .int .i64 n4, .int .i64 n5, .int .i64 n6] 23))) := below_new _ _
  have X0 := Bx.new w #[.int .i64 n0, .int .i64 n1, .int .i64 n2, .int .i64 n3, .int .i64 n4, .int .i64 n5, .int .i64 n6] 23
  have hy0 := hy _ fa l.length fc (hl.later HB0.out)
  have x0 := X0.cell (i := 0) (v := .int .i64 n0) rfl
  have x1 := X0.cell (i := 1) (v := .int .i64 n1) rfl
  have x2 := X0.cell (i := 2) (v := .int .i64 n2) rfl
  have x3 := X0.cell (i := 3) (v := .int .i64 n3) rfl
  have x4 := X0.cell (i := 4) (v := .int .i64 n4) rfl
  have x5 := X0.cell (i := 5) (v := .int .i64 n5) rfl
  have x6 := X0.cell (i := 6) (v := .int .i64 n6) rfl
  have HL : Hid (FilesAt w (.slice fa l.length fc) l) := hl
  clear hl hy
  go_enter Tryz.func12, Tryz.ntmps12
  go_wp2_with fail
  go_fit hy0
  rintro e w1 ⟨rfl, hb1⟩
  have HB1 : Hid (Below w.heap.size w w1) := below_trans HB0.out hb1
  have X1 := X0.later hb1
  skip
  have hL := lentFiles_walk l fa fc w1 (FilesAt.later HL.out HB1.out) (by show _ ≤ _; omega) (n_lt hn)
  have HX1 : Hid (Bx w1 w.heap.size 23 #[.int .i64 n0, .int .i64 n1, .int .i64 n2, .int .i64 n3, .int .i64 n4, .int .i64 n5, .int .i64 n6]) := X1
  have HX : Hid (∀ (w : World) (fa : Option Addr) (fn fc : Nat), FilesAt w (.slice fa fn fc) l → Calls Tryz.prog 37 #[.agg #[.int .i64 n0, .int .i64 n1, .int .i64 n2, .int .i64 n3, .int .i64 n4, .int .i64 n5, .int .i64 n6], .slice fa fn fc] w fun e w' => e = .returned (.tuple #[.pointer none, .int .i64 k]) ∧ Below w.heap.size w w') := hx
  clear hy0 hb1 X0 X1 x0 x1 x2 x3 x4 x5 x6 hx HB0
  go_wp2_with fail
  go_fit hL
  rintro e w2 ⟨⟨g, rfl, hrow⟩, hb2⟩
  have hX2 := HX1.out.later hb2
  have x0 := hX2.cell (i := 0) (v := .int .i64 n0) rfl
  have x1 := hX2.cell (i := 1) (v := .int .i64 n1) rfl
  have x2 := hX2.cell (i := 2) (v := .int .i64 n2) rfl
  have x3 := hX2.cell (i := 3) (v := .int .i64 n3) rfl
  have x4 := hX2.cell (i := 4) (v := .int .i64 n4) rfl
  have x5 := hX2.cell (i := 5) (v := .int .i64 n5) rfl
  have x6 := hX2.cell (i := 6) (v := .int .i64 n6) rfl
  have hgl := World.ownsRow.lt hrow g rfl
  have hx2 := HX.out w2.drew (some ⟨g, 0, none⟩) l.length (l.length + 2) (FilesAt.later (FilesAt.head (ms := [((beyB, ⟨#[]⟩) : Fl), ((beyB, ⟨#[]⟩) : Fl)]) (by rw [List.length_append]; exact hrow)) ⟨rfl, rfl, rfl, Nat.le_refl _, fun _ _ => rfl⟩)
  have HRow : Hid (w2.ownsRow w1.heap.size 80 2 (.slice (some ⟨g, 0, none⟩) (l.length + 2) (l.length + 2)) (l.length + 2) ((l ++ [((beyB, ⟨#[]⟩) : Fl), ((beyB, ⟨#[]⟩) : Fl)]).flatMap cF)) := hrow
  have HB2 : Hid (Below w1.heap.size w1 w2) := hb2
  have hln := n_lt hn
  clear hL hrow hb2 hX2 HX HX1
  go_wp2_with fail
  go_cut [10, 11] from 12 (fun t u wz => t = .pointer none ∧ u = .int .i64 k ∧ Below w2.heap.size w2 wz)
  case first =>
    go_region_held_law (fun w' => w'.cell? ⟨w.heap.size, 0, none⟩ = some (.int .i64 n0) ∧ w'.cell? ⟨w.heap.size, 1, none⟩ = some (.int .i64 n1) ∧ w'.cell? ⟨w.heap.size, 2, none⟩ = some (.int .i64 n2) ∧ w'.cell? ⟨w.heap.size, 3, none⟩ = some (.int .i64 n3) ∧ w'.cell? ⟨w.heap.size, 4, none⟩ = some (.int .i64 n4) ∧ w'.cell? ⟨w.heap.size, 5, none⟩ = some (.int .i64 n5) ∧ w'.cell? ⟨w.heap.size, 6, none⟩ = some (.int .i64 n6)) (go_keep) ((go_at_call 37; refine hx2.mono ?_; rintro e w3 ⟨rfl, hb3⟩; have y0 := jcell_after hb3 x0; have y1 := jcell_after hb3 x1; have y2 := jcell_after hb3 x2; have y3 := jcell_after hb3 x3; have y4 := jcell_after hb3 x4; have y5 := jcell_after hb3 x5; have y6 := jcell_after hb3 x6; skip; have HB3 : Hid (Below w2.heap.size w2 w3) := ⟨hb3.os, hb3.tape, hb3.output, hb3.size, hb3.block⟩; clear hb3))
    all_goals
      go_wp2_with fail
      go_meet
      case rel => exact ⟨rfl, rfl, HB3.out⟩
  case rest =>
    obtain ⟨rfl, rfl, hb3⟩ := hcut
    rename World => w3
    have hb23 : Below w1.heap.size w1 w3 := below_trans HB2.out hb3
    have hL2 := lentFiles_walk l fa fc w3 (FilesAt.later HL.out (below_trans HB1.out hb23)) (by show _ ≤ _; omega) hln
    have HR3 : Hid (w3.ownsRow w1.heap.size 80 2 (.slice (some ⟨g, 0, none⟩) (l.length + 2) (l.length + 2)) (l.length + 2) ((l ++ [((beyB, ⟨#[]⟩) : Fl), ((beyB, ⟨#[]⟩) : Fl)]).flatMap cF)) := World.ownsRow.kept HRow.out (below_grown hb3) (Classical.em _)
    have HB3 : Hid (Below w2.heap.size w2 w3) := hb3
    skip
    clear hx2 hb3 x0 x1 x2 x3 x4 x5 x6 hb23
    go_wp2_with fail
    go_fit hL2
    rintro e w4 ⟨⟨g2, rfl, hrow2⟩, hb4⟩
    have hlen : (l ++ [((beyB, ⟨#[]⟩) : Fl), ((beyB, ⟨#[]⟩) : Fl)]).length = l.length + 2 := by rw [List.length_append]; rfl
    have E1 : FilesAt w3 (.slice (some ⟨g, 0, none⟩) (l.length + 2) (l.length + 2)) (l ++ [((beyB, ⟨#[]⟩) : Fl), ((beyB, ⟨#[]⟩) : Fl)]) := FilesAt.of_row (base := w1.heap.size) (e := 80) (by rw [hlen]; exact HR3.out)
    have E2 : FilesAt w4 (.slice (some ⟨g2, 0, none⟩) (l.length + 2) (l.length + 2)) (l ++ [((beyB, ⟨#[]⟩) : Fl), ((beyB, ⟨#[]⟩) : Fl)]) := FilesAt.of_row (base := w3.heap.size) (e := 80) (by rw [hlen]; exact hrow2)
    have hS := sameFiles_any _ _ _ _ w4 (E1.later hb4) E2 (by rw [hlen]; omega)
    have HB4 : Hid (Below w3.heap.size w3 w4) := hb4
    clear hL2 hrow2 hb4 E1 E2 hlen
    go_wp2_with fail
    go_fit hS
    rintro e w5 ⟨⟨r, rfl, hr⟩, m, rfl⟩
    obtain rfl : r = true := hr.2 (by first | rfl | trivial)
    have HB5 : Hid (Below w3.heap.size w3 (w4.drewN m)) := ⟨HB4.out.os, HB4.out.tape, HB4.out.output, HB4.out.size, HB4.out.block⟩
    generalize w4.drewN m = w5 at *
    have HR5 : Hid (w5.ownsRow w1.heap.size 80 2 (.slice (some ⟨g, 0, none⟩) (l.length + 2) (l.length + 2)) (l.length + 2) ((l ++ [((beyB, ⟨#[]⟩) : Fl), ((beyB, ⟨#[]⟩) : Fl)]).flatMap cF)) := World.ownsRow.kept HR3.out (below_grown HB5.out) (Classical.em _)
    obtain ⟨i0, hi, hz0, hz1, hz2⟩ := info_parts info47b
    have hsz : (Tryz.prog.info? 80).map (·.size) = some 2 := by rw [hi]; simp [hz1]
    clear hS hr HRow HR3 HB4
    go_wp2_with fail
    go_loopw [13] (fun iv wr => ∃ i : Nat, i ≤ l.length ∧ iv = .int .i64 i ∧ Hid (∃ xs, wr.ownsRow w1.heap.size 80 2 (.slice (some ⟨g, 0, none⟩) (l.length + 2) (l.length + 2)) (l.length + 2) xs) ∧ Hid (Only w5 wr (fun q => q = g))) (fun i _ => l.length - (intOf i).toNat)
    case atStart => exact ⟨0, Nat.zero_le _, rfl, ⟨_, HR5.out⟩, Only.refl _ _⟩
    case round =>
      obtain ⟨i, hin, rfl, ⟨xs, hrow⟩, hO⟩ := hrel
      by_cases hlt : i < l.length
      · have Hrow : Hid (wr.ownsRow w1.heap.size 80 2 (.slice (some ⟨g, 0, none⟩) (l.length + 2) (l.length + 2)) (l.length + 2) xs) := hrow
        have Hfit : Hid (i * 2 + 2 ≤ xs.length) := by show _ ≤ _; rw [hrow.1]; omega
        clear hrow
        go_wp2_with (refine wpList_store_elem _ rfl _ _ _ rfl w1.heap.size _ 2 _ _ _ _ _ Hrow.out rfl [.string ⟨#[111, 116, 104, 101, 114]⟩, .string ⟨#[]⟩] rfl hsz Hfit.out (by simp [Value.oneCell']) ?_; intro w6 hrow6 hg6)
        exact ⟨⟨i + 1, hlt, by go_num, ⟨_, hrow6⟩, hO.out.trans (Only.of_grown (S := fun q => q = g) hg6 fun q e => by cases e; rfl) fun _ h => .inl h⟩, by simp [intOf]; omega⟩
      · have HBw : Hid (Below w.heap.size w wr) := by
          have h1 := HB1.out
          have h5 : Below w.heap.size w w5 := below_trans h1 (below_trans HB2.out (below_trans HB3.out HB5.out))
          have hs1 := h1.size
          have hs5 := h5.size
          exact h5.trans ⟨hO.out.os, hO.out.tape, hO.out.output, hO.out.size, fun k hk => hO.out.block k (by omega) (by omega)⟩
        go_wp2_with fail
        refine bodyPost_ret (v := .tuple #[.pointer none, .bool true]) (by simp [results, Tryz.results12, go_sem]) rfl ⟨rfl, HBw.out⟩
end Go.Proofs.YtgamgomepdfgdaaGreat
