import Derived.Test.YtgamgomepdfgdaaGreatM07
import Derived.Test.YtgamgomepdfgdaaGreatM14
import Derived.Deep.CutRange
import Derived.Deep.CutBlock
namespace Go.Proofs.YtgamgomepdfgdaaGreat
open Go.RowKit

def nowCells (c : Cfg) (tip idv qv ov : Value) (acked : Nat) : Array Value :=
  #[.int .i64 c.lanes, .int .i64 c.age, .int .i64 c.batch, .int .i64 c.window, .int .i64 c.retries, .int .i64 c.deadline, .int .i64 c.queue, tip, .slice none 0 0, idv, qv, .slice none 0 0, ov, .int .i64 acked, .int .i64 0, .int .i64 0]
def wt (x : Pw) : Wt := (x.1.id, x.1.lane, x.1.passed, x.2)
def cI (n : Nat) : Value := .int .i64 n
theorem info_int : (Tryz.prog.info? 3).map (fun i => (i.zero, i.size, i.bytes)) = some (some (.int .i64 0), 1, 8) := by kernel_rfl

/-- how things stand, on the document's side, while nothing was pumped -/
structure NowIs (w : World) (base nb : Nat) (c : Cfg) (tip : Value) (s : Qs) (q : List Pw) (idv qv ov : Value) : Prop where
  box : Bx w nb 163 (nowCells c tip idv qv ov s.acked)
  low : base ≤ nb
  ids : w.ownsRow base 3 1 idv s.ids.length (s.ids.map cI)
  qs : q.map Prod.fst = s.queue
  row : w.ownsRow base 165 4 qv q.length ((q.map wt).flatMap cW)
  sl : ∀ x ∈ q, IsSl x.2
  outs : w.ownsRow base 99 3 ov s.outs.length (oc 0 s.outs)
def NowAt (w : World) (base nb : Nat) (c : Cfg) (tip : Value) (s : Qs) : Prop := ∃ q idv qv ov, NowIs w base nb c tip s q idv qv ov

theorem row_typed {w : World} {base : Nat} {e : TypeId} {size n : Nat} {v : Value} {xs : List Value} (h : w.ownsRow base e size v n xs) {g : Nat} (hv : v.ownBlock = some g) : ∃ cur, w.heap[g]? = some (.cells cur e (0, 0)) := (Sl.of_row h).typed hv
theorem row_nb {w : World} {base : Nat} {e t : TypeId} {size n b : Nat} {v : Value} {xs : List Value} {cs : Array Value} (h : w.ownsRow base e size v n xs) (hB : Bx w b t cs) (het : e ≠ t) : v.ownBlock ≠ some b := (Sl.of_row h).ne hB het
theorem row_ap {w : World} {base base' : Nat} {e e' : TypeId} {size n size' n' : Nat} {v v' : Value} {xs xs' : List Value} (h : w.ownsRow base e size v n xs) (h' : w.ownsRow base' e' size' v' n' xs') (hne : e ≠ e') : v.ownBlock = none ∨ v.ownBlock ≠ v'.ownBlock := by
  cases hv : v.ownBlock with
  | none => exact .inl rfl
  | some g => exact .inr fun e => (Sl.of_row h).apart (Sl.of_row h') hne hv e.symm
theorem row_or {w : World} {base : Nat} {e t : TypeId} {size n b : Nat} {v : Value} {xs : List Value} {cs : Array Value} (h : w.ownsRow base e size v n xs) (hB : Bx w b t cs) (het : e ≠ t) : v.ownBlock = none ∨ v.ownBlock ≠ some b := .inr (row_nb h hB het)
theorem below_of_row {base : Nat} {w w' : World} {row : Option Nat} (hg : w.grownBy w' row) (hr : ∀ g, row = some g → base ≤ g) (hb : base ≤ w.heap.size) : Below base w w' :=
  ⟨hg.os, hg.tape, hg.output, hg.size, fun k hk => hg.block k (Nat.lt_of_lt_of_le hk hb) (fun e => by have := hr k e.symm; omega)⟩

/-- behind the first append -/
structure IdIn (w wz : World) (base nb num : Nat) (c : Cfg) (tip : Value) (s : Qs) (q : List Pw) (qv ov : Value) : Prop where
  now : ∃ idv, NowIs wz base nb c tip { s with ids := s.ids ++ [num] } q idv qv ov
  below : Below base w wz
  size : w.heap.size ≤ wz.heap.size

set_option linter.unusedSimpArgs false in
set_option maxRecDepth 100000 in
set_option maxHeartbeats 4000000 in
theorem rDo1 (base nb lane num : Nat) (pass : Bool) (ea : Option Addr) (en ec : Nat) (c : Cfg) (tip : Value) (s : Qs) (q : List Pw) (idv qv ov : Value) (w : World) (hN : NowIs w base nb c tip s q idv qv ov) (hb : base ≤ w.heap.size) (hi : s.ids.length < 1048576000) (hq : q.length < 1048576) (es : List Ed) :
    Calls Tryz.prog 131 #[.pointer (some ⟨nb, 0, none⟩), .agg #[.int .i64 1, .int .i64 lane, .int .i64 num, .bool pass, .slice ea en ec]] w fun e w' => e = .returned (.tuple #[]) ∧ NowAt w' base nb c tip { s with ids := s.ids ++ [num], queue := s.queue ++ [⟨num, lane, 0, s.ids.length, es⟩] } ∧ Below base w w' := by
  obtain ⟨i0, hi0, hz0, hz1, hz2⟩ := info_parts info_int
  obtain ⟨ia, icap, rfl⟩ := row_shape3 hN.ids
  obtain ⟨qa, qcap, rfl⟩ := row_shape3 hN.row
  have HN : Hid (NowIs w base nb c tip s q (.slice ia s.ids.length icap) (.slice qa q.length qcap) ov) := hN
  have hnl := hN.box.lt
  have hine := row_nb hN.ids hN.box (by decide)
  have q1 : Hid (s.ids.length + 1 ≤ maxLen) := by show _ ≤ _; unfold maxLen; omega
  have q2 : Hid ((s.ids.length + 1) * 8 ≤ 140737488355328) := Nat.le_trans (Nat.mul_le_mul_right 8 (show s.ids.length + 1 ≤ 1048576000 by omega)) (by decide)
  clear hN
  go_enter Tryz.func131, Tryz.ntmps131
  go_upto_region 1 with fail
  have B0 : Bx (w.alloc (.cells #[.int .i64 1, .int .i64 lane, .int .i64 num, .bool pass, .slice ea en ec] 168)) nb 163 (nowCells c tip (.slice ia s.ids.length icap) (.slice qa q.length qcap) ov s.acked) := HN.out.box.mk _
  have X0 := Bx.new w #[.int .i64 1, .int .i64 lane, .int .i64 num, .bool pass, .slice ea en ec] 168
  have R0 : Hid ((w.alloc (.cells #[.int .i64 1, .int .i64 lane, .int .i64 num, .bool pass, .slice ea en ec] 168)).ownsRow base 3 1 (.slice ia s.ids.length icap) s.ids.length (s.ids.map cI)) := World.ownsRow.alloc HN.out.ids _
  have hsz : (w.alloc (.cells #[.int .i64 1, .int .i64 lane, .int .i64 num, .bool pass, .slice ea en ec] 168)).heap.size = w.heap.size + 1 := by simp
  have HB0 : Hid (Below w.heap.size w (w.alloc (.cells #[.int .i64 1, .int .i64 lane, .int .i64 num, .bool pass, .slice ea en ec] 168))) := below_new _ _
  obtain ⟨j0, hj0, hy0, hy1, hy2⟩ := info_parts info_wait
  generalize w.alloc (.cells #[.int .i64 1, .int .i64 lane, .int .i64 num, .bool pass, .slice ea en ec] 168) = w0 at *
  have HSZ : Hid (w0.heap.size = w.heap.size + 1) := hsz
  have hbw : base ≤ w0.heap.size := by omega
  have hnw : nb < w0.heap.size := by omega
  clear hsz
  have HBX : Hid (Bx w0 nb 163 (nowCells c tip (.slice ia s.ids.length icap) (.slice qa q.length qcap) ov s.acked)) := B0
  have HX0 : Hid (Bx w0 w.heap.size 168 #[.int .i64 1, .int .i64 lane, .int .i64 num, .bool pass, .slice ea en ec]) := X0
  have x0 : w0.cell? ⟨w.heap.size, 0, none⟩ = some (.int .i64 1) := X0.cell (i := 0) rfl
  have x2 : w0.cell? ⟨w.heap.size, 2, none⟩ = some (.int .i64 num) := X0.cell (i := 2) rfl
  have c9 : w0.cell? ⟨nb, 9, none⟩ = some (.slice ia s.ids.length icap) := B0.cell (i := 9) rfl
  have c9o : ∀ o, (w0.alloc o).cell? ⟨nb, 9, none⟩ = some (.slice ia s.ids.length icap) := fun o => (B0.mk o).cell (i := 9) rfl
  have f9 := B0.fr 9
  clear B0 X0
  go_upto_region 3 with fail
  go_cut [22] from 4 (fun _ wz => IdIn w wz base nb num c tip s q (.slice qa q.length qcap) ov ∧ Bx wz w.heap.size 168 #[.int .i64 1, .int .i64 lane, .int .i64 num, .bool pass, .slice ea en ec])
  case first =>
    go_region_law ((refine step_append_tells rfl _ _ 56 rfl base _ i0 _ 1 8 Tryz.underlying56 hi0 hz0 hz1 hz2 rfl (by decide) (.slice ia s.ids.length icap) _ _ rfl (World.ownsRow.alloc R0.out _) ⟨w0.heap.size, 0, none⟩ 1 1 [.int .i64 num] rfl rfl (cells_new w0 _ _) (by simp [Value.oneCell']) q1.out q2.out (Nat.le_trans hbw (by simp)) ?_; intro v3 w3 hown3 hg3 hloc3; obtain ⟨a3, c3, rfl⟩ := row_shape3 hown3; have HB3 : Hid (Bx w3 nb 163 (nowCells c tip (.slice ia s.ids.length icap) (.slice qa q.length qcap) ov s.acked)) := Bx.grown (HBX.out.mkd _) hg3 (fun e => hine e.symm); have d9 : w3.cell? ⟨nb, 9, none⟩ = some (.slice ia s.ids.length icap) := HB3.out.cell (i := 9) rfl; have f3 := HB3.out.fr 9; have O3 : Hid (w3.ownsRow base 3 1 (.slice a3 (s.ids.length + 1) c3) (s.ids.length + 1) (s.ids.map cI ++ [.int .i64 num])) := hown3; have G3 : Hid (w0.grownBy w3 (Value.slice ia s.ids.length icap).ownBlock) := (World.grownBy_alloc w0 _ _).trans ⟨hg3.os, hg3.tape, hg3.output, hg3.size, hg3.block⟩; have L3 : Hid ((Value.slice a3 (s.ids.length + 1) c3).ownBlock = (Value.slice ia s.ids.length icap).ownBlock ∨ ∃ g, (Value.slice a3 (s.ids.length + 1) c3).ownBlock = some g ∧ w0.heap.size ≤ g) := hloc3.imp (fun h => h) (fun h => ⟨_, h, le_mkd w0 _⟩); clear hown3 hg3 hloc3))
    all_goals
      go_wp2_with fail
      go_meet
      case rel =>
        have h := HN.out
        have nnb : (Value.slice a3 (s.ids.length + 1) c3).ownBlock ≠ some nb := by
          rcases L3.out with e | ⟨g, e, hg⟩
          · rw [e]; exact hine
          · rw [e]; intro x; cases x; have := HSZ.out; omega
        have hgw : w.grownBy w3 (Value.slice ia s.ids.length icap).ownBlock := ⟨G3.out.os.trans HB0.out.os, G3.out.tape.trans HB0.out.tape, G3.out.output.trans HB0.out.output, Nat.le_trans HB0.out.size G3.out.size, fun k hk hne => (G3.out.block k (Nat.lt_of_lt_of_le hk HB0.out.size) hne).trans (HB0.out.block k hk)⟩
        have hrow3 := World.ownsRow.kept h.row hgw (row_ap h.row h.ids (by decide))
        have hout3 := World.ownsRow.kept h.outs hgw (row_ap h.outs h.ids (by decide))
        refine ⟨⟨⟨.slice a3 (s.ids.length + 1) c3, HB3.out.set 9 _, h.low, ?_, h.qs, World.ownsRow.kept hrow3 (grown_set _ _ _ _) (row_or h.row h.box (by decide)), h.sl, World.ownsRow.kept hout3 (grown_set _ _ _ _) (row_or h.outs h.box (by decide))⟩, ?_, ?_⟩, ?_⟩
        · show World.ownsRow _ _ _ _ _ (s.ids ++ [num]).length ((s.ids ++ [num]).map cI)
          rw [List.length_append, List.map_append]
          exact World.ownsRow.kept O3.out (grown_set _ _ _ _) (.inr nnb)
        · exact (below_of_row hgw (fun g hg => (World.ownsRow.lt h.ids g hg).1) hb).trans (below_of_row (grown_set _ _ _ _) (fun g hg => by cases hg; exact h.low) (Nat.le_trans hb hgw.size))
        · simpa using hgw.size
        · refine Bx.other (HX0.out.grown G3.out (fun e => ?_)) (by omega) _ _
          have := (World.ownsRow.lt h.ids w.heap.size e.symm).2
          omega
  case rest =>
    obtain ⟨⟨⟨idv', hI⟩, hBz, hsz2⟩, hXz⟩ := hcut
    rename World => wz
    have HI : Hid (NowIs wz base nb c tip { s with ids := s.ids ++ [num] } q idv' (.slice qa q.length qcap) ov) := hI
    have HBZ : Hid (Below base w wz) := hBz
    have x1z : wz.cell? ⟨w.heap.size, 1, none⟩ = some (.int .i64 lane) := hXz.cell (i := 1) rfl
    have x2z : wz.cell? ⟨w.heap.size, 2, none⟩ = some (.int .i64 num) := hXz.cell (i := 2) rfl
    have x4z : wz.cell? ⟨w.heap.size, 4, none⟩ = some (.slice ea en ec) := hXz.cell (i := 4) rfl
    have c10 : wz.cell? ⟨nb, 10, none⟩ = some (.slice qa q.length qcap) := hI.box.cell (i := 10) rfl
    have c10o : ∀ o, (wz.alloc o).cell? ⟨nb, 10, none⟩ = some (.slice qa q.length qcap) := fun o => (hI.box.mk o).cell (i := 10) rfl
    have f10 := hI.box.fr 10
    have HXT : Hid (∃ cur, wz.heap[w.heap.size]? = some (.cells cur 168 (0, 0))) := ⟨_, hXz⟩
    have hqne := row_nb hI.row hI.box (by decide)
    have hbz : base ≤ wz.heap.size := Nat.le_trans hb hsz2
    have hnz := hI.box.lt
    have hXl := hXz.lt
    have t1 : Hid (q.length + 1 ≤ maxLen) := by show _ ≤ _; unfold maxLen; omega
    have t2 : Hid ((q.length + 1) * 48 ≤ 140737488355328) := Nat.le_trans (Nat.mul_le_mul_right 48 (show q.length + 1 ≤ 1048576 by omega)) (by decide)
    have RZ : Hid (wz.ownsRow base 165 4 (.slice qa q.length qcap) q.length ((q.map wt).flatMap cW)) := hI.row
    have HBXz : Hid (Bx wz nb 163 (nowCells c tip idv' (.slice qa q.length qcap) ov s.acked)) := hI.box
    clear hI hBz hXz q1 q2 HN R0 HB0 HBX HX0 x0 x2 c9 c9o f9 hine hi0 hz0 hz1 hz2 HSZ hbw hnw
    have hk1 : ∀ (W : World) (v : Value) (o : Nat), (W.setCell ⟨nb, 10, none⟩ v).cell? ⟨w.heap.size, o, none⟩ = W.cell? ⟨w.heap.size, o, none⟩ := fun W v o => World.cell?_setCell_other _ _ _ _ (by intro e; injection e with e1 e2; omega)
    have qnw : (Value.slice qa q.length qcap).ownBlock ≠ some w.heap.size := fun e => by
      obtain ⟨cur, hc⟩ := row_typed RZ.out e
      obtain ⟨cur', hc'⟩ := HXT.out
      rw [hc] at hc'
      injection hc' with hc'
      injection hc' with _ h2 _
      exact absurd h2 (by decide)
    go_wp2_with fail
    refine wp_region_held_drew (S := (fun w' => w'.cell? ⟨w.heap.size, 1, none⟩ = some (.int .i64 lane) ∧ w'.cell? ⟨w.heap.size, 2, none⟩ = some (.int .i64 num) ∧ w'.cell? ⟨w.heap.size, 4, none⟩ = some (.slice ea en ec))) (by kernel_rfl) ?_ (fun hHeld => ?_)
    · (try dsimp only)
      (first | go_keep | (refine ⟨?_, ?_, ?_⟩ <;> rw [hk1] <;> assumption))
    refine wpAnyH_take (i := 0) (v := ?_) rfl (by kernel_rfl) (by kernel_rfl) (by kernel_rfl) (fun _ _ _ h => h) (Or.inl ⟨by rfl, ?_⟩) (by assumption) ?_
    rotate_left 1
    · intro w9 hSw
      (try dsimp only at hSw)
      go_simp <;> with_reducible rfl
    try simp only [Act.put, List.setIfInBounds_toArray, List.set_cons_zero, List.set_cons_succ]
    refine wpAnyH_take (i := 1) (v := ?_) rfl (by kernel_rfl) (by kernel_rfl) (by kernel_rfl) (fun _ _ _ h => h) (Or.inl ⟨by rfl, ?_⟩) (by assumption) ?_
    rotate_left 1
    · intro w9 hSw
      (try dsimp only at hSw)
      go_simp <;> with_reducible rfl
    try simp only [Act.put, List.setIfInBounds_toArray, List.set_cons_zero, List.set_cons_succ]
    refine wpAnyH_take (i := 2) (v := ?_) rfl (by kernel_rfl) (by kernel_rfl) (by kernel_rfl) (fun _ _ _ h => h) (Or.inl ⟨by rfl, ?_⟩) (by assumption) ?_
    rotate_left 1
    · intro w9 hSw
      (try dsimp only at hSw)
      go_simp <;> with_reducible rfl
    try simp only [Act.put, List.setIfInBounds_toArray, List.set_cons_zero, List.set_cons_succ]
    refine wpAnyH_take (i := 3) (v := ?_) rfl (by kernel_rfl) (by kernel_rfl) (by kernel_rfl) (fun _ _ _ h => h) (Or.inl ⟨by rfl, ?_⟩) (by assumption) ?_
    rotate_left 1
    · intro w9 hSw
      (try dsimp only at hSw)
      go_simp <;> with_reducible rfl
    try simp only [Act.put, List.setIfInBounds_toArray, List.set_cons_zero, List.set_cons_succ]
    refine wpAnyH_take (i := 5) (v := ?_) rfl (by kernel_rfl) (by kernel_rfl) (by kernel_rfl) (fun _ _ _ h => h) (Or.inl ⟨by rfl, ?_⟩) (by assumption) ?_
    rotate_left 1
    · intro w9 hSw
      (try dsimp only at hSw)
      go_simp <;> with_reducible rfl
    try simp only [Act.put, List.setIfInBounds_toArray, List.set_cons_zero, List.set_cons_succ]
    refine wpAnyH_take (i := 6) (v := ?_) rfl (by kernel_rfl) (by kernel_rfl) (by kernel_rfl) (fun _ _ _ h => h) (Or.inl ⟨by rfl, ?_⟩) (by assumption) ?_
    rotate_left 1
    · intro w9 hSw
      (try dsimp only at hSw)
      go_simp <;> with_reducible rfl
    try simp only [Act.put, List.setIfInBounds_toArray, List.set_cons_zero, List.set_cons_succ]
    refine wpAnyH_take (i := 7) (v := ?_) rfl (by kernel_rfl) (by kernel_rfl) (by kernel_rfl) (fun _ _ _ h => h) (Or.inl ⟨by rfl, ?_⟩) (by assumption) ?_
    rotate_left 1
    · intro w9 hSw
      (try dsimp only at hSw)
      go_simp <;> with_reducible rfl
    try simp only [Act.put, List.setIfInBounds_toArray, List.set_cons_zero, List.set_cons_succ]
    refine wpAnyH_take (i := 8) (v := ?_) rfl (by kernel_rfl) (by kernel_rfl) (by kernel_rfl) (fun _ _ _ h => h) (Or.inl ⟨by rfl, ?_⟩) (by assumption) ?_
    rotate_left 1
    · intro w9 hSw
      (try dsimp only at hSw)
      go_simp <;> with_reducible rfl
    try simp only [Act.put, List.setIfInBounds_toArray, List.set_cons_zero, List.set_cons_succ]
    refine wpAnyH_take (i := 9) (v := ?_) rfl (by kernel_rfl) (by kernel_rfl) (by kernel_rfl) (fun _ _ _ h => h) (Or.inl ⟨by rfl, ?_⟩) (by assumption) ?_
    rotate_left 1
    · intro w9 hSw
      (try dsimp only at hSw)
      go_simp <;> with_reducible rfl
    try simp only [Act.put, List.setIfInBounds_toArray, List.set_cons_zero, List.set_cons_succ]
    refine wpAnyH_take (i := 10) (v := ?_) rfl (by kernel_rfl) (by kernel_rfl) (by kernel_rfl) (fun _ _ _ h => h) (Or.inl ⟨by rfl, ?_⟩) (by assumption) ?_
    rotate_left 1
    · intro w9 hSw
      (try dsimp only at hSw)
      go_simp <;> with_reducible rfl
    try simp only [Act.put, List.setIfInBounds_toArray, List.set_cons_zero, List.set_cons_succ]
    refine wpAnyH_take (i := 11) (v := ?_) rfl (by kernel_rfl) (by kernel_rfl) (by kernel_rfl) (fun _ _ _ h => h) (Or.inl ⟨by rfl, ?_⟩) (by assumption) ?_
    rotate_left 1
    · intro w9 hSw
      (try dsimp only at hSw)
      go_simp <;> with_reducible rfl
    try simp only [Act.put, List.setIfInBounds_toArray, List.set_cons_zero, List.set_cons_succ]
    refine wpAnyH_ready (rs := [4, 12]) (by kernel_rfl) (by simp) ?_
    refine AllReadyH.cons rfl (fun K hK => ?_) ?_
    · go_simp
      refine hK.out _ _ ?_ (fun hHeld => ?_)
      · (try dsimp only)
        (first | go_keep | (refine ⟨?_, ?_, ?_⟩ <;> rw [hk1] <;> assumption))
      · clear hK K
        refine wpAnyH_ready (rs := [12]) (by kernel_rfl) (by simp) ?_
        refine AllReadyH.cons rfl (fun K hK => ?_) ?_
        · go_simp
          refine hK.out _ _ ?_ (fun hHeld => ?_)
          · (try dsimp only)
            (first | go_keep | (refine ⟨?_, ?_, ?_⟩ <;> rw [hk1] <;> assumption))
          · clear hK K
            refine wpAnyH_ready (rs := [13]) (by kernel_rfl) (by simp) ?_
            refine AllReadyH.cons rfl (fun K hK => ?_) ?_
            · ((refine step_append_tells rfl _ _ 159 rfl base _ j0 _ 4 48 Tryz.underlying159 hj0 hy0 hy1 hy2 rfl (by decide) (.slice qa q.length qcap) _ _ rfl (World.ownsRow.alloc RZ.out _) ⟨wz.heap.size, 0, none⟩ 1 1 [.int .i64 num, .int .i64 lane, .int .i64 0, .slice ea en ec] rfl rfl (cells_new wz _ _) (by simp [Value.oneCell']) t1.out t2.out (Nat.le_trans hbz (by simp)) ?_; intro v3 w3 hown3 hg3 hloc3; obtain ⟨a3, c3, rfl⟩ := row_shape3 hown3; have x13 := World.grownBy.cell hg3 (jcell_after (below_new_drew wz _) x1z) (fun e => qnw e.symm); have x23 := World.grownBy.cell hg3 (jcell_after (below_new_drew wz _) x2z) (fun e => qnw e.symm); have x43 := World.grownBy.cell hg3 (jcell_after (below_new_drew wz _) x4z) (fun e => qnw e.symm); have HB3 : Hid (Bx w3 nb 163 (nowCells c tip idv' (.slice qa q.length qcap) ov s.acked)) := Bx.grown (HBXz.out.mkd _) hg3 (fun e => hqne e.symm); have d10 : w3.cell? ⟨nb, 10, none⟩ = some (.slice qa q.length qcap) := HB3.out.cell (i := 10) rfl; have f3 := HB3.out.fr 10; have O3 : Hid (w3.ownsRow base 165 4 (.slice a3 (q.length + 1) c3) (q.length + 1) ((q.map wt).flatMap cW ++ [.int .i64 num, .int .i64 lane, .int .i64 0, .slice ea en ec])) := hown3; have G3 : Hid (wz.grownBy w3 (Value.slice qa q.length qcap).ownBlock) := (World.grownBy_alloc wz _ _).trans ⟨hg3.os, hg3.tape, hg3.output, hg3.size, hg3.block⟩; have L3 : Hid ((Value.slice a3 (q.length + 1) c3).ownBlock = (Value.slice qa q.length qcap).ownBlock ∨ ∃ g, (Value.slice a3 (q.length + 1) c3).ownBlock = some g ∧ wz.heap.size ≤ g) := hloc3.imp (fun h => h) (fun h => ⟨_, h, le_mkd wz _⟩); clear hown3 hg3 hloc3))
              refine hK.out _ _ ?_ (fun hHeld => ?_)
              · (try dsimp only)
                (first | go_keep | (refine ⟨?_, ?_, ?_⟩ <;> rw [hk1] <;> assumption))
              · clear hK K
                refine wpAnyH_take (i := 14) (v := ?_) rfl (by kernel_rfl) (by kernel_rfl) (by kernel_rfl) (fun _ _ _ h => h) (Or.inl ⟨by rfl, ?_⟩) (by assumption) ?_
                rotate_left 1
                · intro w9 hSw
                  (try dsimp only at hSw)
                  go_simp <;> with_reducible rfl
                try simp only [Act.put, List.setIfInBounds_toArray, List.set_cons_zero, List.set_cons_succ]
                refine wpAnyH_take (i := 15) (v := ?_) rfl (by kernel_rfl) (by kernel_rfl) (by kernel_rfl) (fun _ _ _ h => h) (Or.inl ⟨by rfl, ?_⟩) (by assumption) ?_
                rotate_left 1
                · intro w9 hSw
                  (try dsimp only at hSw)
                  go_simp <;> with_reducible rfl
                try simp only [Act.put, List.setIfInBounds_toArray, List.set_cons_zero, List.set_cons_succ]
                refine wpAnyH_ready (rs := [16]) (by kernel_rfl) (by simp) ?_
                refine AllReadyH.cons rfl (fun K hK => ?_) ?_
                · go_simp
                  refine hK.out _ _ ?_ (fun hHeld => ?_)
                  · (try dsimp only)
                    (first | go_keep | (refine ⟨?_, ?_, ?_⟩ <;> rw [hk1] <;> assumption))
                  · clear hK K
                    refine wpAnyH_done (by kernel_rfl) ?_ _
                    go_wp2_with fail
                    have h := HI.out
                    have nnb : (Value.slice a3 (q.length + 1) c3).ownBlock ≠ some nb := by
                      rcases L3.out with e | ⟨g, e, hg⟩
                      · rw [e]; exact hqne
                      · rw [e]; intro x; cases x; omega
                    have hid3 := World.ownsRow.kept h.ids G3.out (row_ap h.ids h.row (by decide))
                    have hout3 := World.ownsRow.kept h.outs G3.out (row_ap h.outs h.row (by decide))
                    refine bodyPost_end (v := .tuple #[]) (results_none (by kernel_rfl) _ _ _) rfl ⟨rfl, ⟨q ++ [((⟨num, lane, 0, s.ids.length, es⟩ : Ch), (.slice ea en ec : Value))], idv', .slice a3 (q.length + 1) c3, ov, ⟨HB3.out.set 10 _, h.low, World.ownsRow.kept hid3 (grown_set _ _ _ _) (row_or h.ids h.box (by decide)), ?_, ?_, ?_, World.ownsRow.kept hout3 (grown_set _ _ _ _) (row_or h.outs h.box (by decide))⟩⟩, ?_⟩
                    · rw [List.map_append, h.qs]; rfl
                    · rw [List.length_append, List.map_append, List.flatMap_append]
                      exact World.ownsRow.kept O3.out (grown_set _ _ _ _) (.inr nnb)
                    · intro x hx
                      rcases List.mem_append.1 hx with hx | hx
                      · exact h.sl x hx
                      · obtain rfl := List.mem_singleton.1 hx
                        exact ⟨_, _, _, rfl⟩
                    · exact (HBZ.out.trans (below_of_row G3.out (fun g hg => (World.ownsRow.lt h.row g hg).1) hbz)).trans (below_of_row (grown_set _ _ _ _) (fun g hg => by cases hg; exact h.low) (Nat.le_trans hbz G3.out.size))
                exact AllReadyH.nil
            exact AllReadyH.nil
        exact AllReadyH.nil
    refine AllReadyH.cons rfl (fun K hK => ?_) ?_
    · go_simp
      refine hK.out _ _ ?_ (fun hHeld => ?_)
      · (try dsimp only)
        (first | go_keep | (refine ⟨?_, ?_, ?_⟩ <;> rw [hk1] <;> assumption))
      · clear hK K
        refine wpAnyH_ready (rs := [4]) (by kernel_rfl) (by simp) ?_
        refine AllReadyH.cons rfl (fun K hK => ?_) ?_
        · go_simp
          refine hK.out _ _ ?_ (fun hHeld => ?_)
          · (try dsimp only)
            (first | go_keep | (refine ⟨?_, ?_, ?_⟩ <;> rw [hk1] <;> assumption))
          · clear hK K
            refine wpAnyH_ready (rs := [13]) (by kernel_rfl) (by simp) ?_
            refine AllReadyH.cons rfl (fun K hK => ?_) ?_
            · ((refine step_append_tells rfl _ _ 159 rfl base _ j0 _ 4 48 Tryz.underlying159 hj0 hy0 hy1 hy2 rfl (by decide) (.slice qa q.length qcap) _ _ rfl (World.ownsRow.alloc RZ.out _) ⟨wz.heap.size, 0, none⟩ 1 1 [.int .i64 num, .int .i64 lane, .int .i64 0, .slice ea en ec] rfl rfl (cells_new wz _ _) (by simp [Value.oneCell']) t1.out t2.out (Nat.le_trans hbz (by simp)) ?_; intro v3 w3 hown3 hg3 hloc3; obtain ⟨a3, c3, rfl⟩ := row_shape3 hown3; have x13 := World.grownBy.cell hg3 (jcell_after (below_new_drew wz _) x1z) (fun e => qnw e.symm); have x23 := World.grownBy.cell hg3 (jcell_after (below_new_drew wz _) x2z) (fun e => qnw e.symm); have x43 := World.grownBy.cell hg3 (jcell_after (below_new_drew wz _) x4z) (fun e => qnw e.symm); have HB3 : Hid (Bx w3 nb 163 (nowCells c tip idv' (.slice qa q.length qcap) ov s.acked)) := Bx.grown (HBXz.out.mkd _) hg3 (fun e => hqne e.symm); have d10 : w3.cell? ⟨nb, 10, none⟩ = some (.slice qa q.length qcap) := HB3.out.cell (i := 10) rfl; have f3 := HB3.out.fr 10; have O3 : Hid (w3.ownsRow base 165 4 (.slice a3 (q.length + 1) c3) (q.length + 1) ((q.map wt).flatMap cW ++ [.int .i64 num, .int .i64 lane, .int .i64 0, .slice ea en ec])) := hown3; have G3 : Hid (wz.grownBy w3 (Value.slice qa q.length qcap).ownBlock) := (World.grownBy_alloc wz _ _).trans ⟨hg3.os, hg3.tape, hg3.output, hg3.size, hg3.block⟩; have L3 : Hid ((Value.slice a3 (q.length + 1) c3).ownBlock = (Value.slice qa q.length qcap).ownBlock ∨ ∃ g, (Value.slice a3 (q.length + 1) c3).ownBlock = some g ∧ wz.heap.size ≤ g) := hloc3.imp (fun h => h) (fun h => ⟨_, h, le_mkd wz _⟩); clear hown3 hg3 hloc3))
              refine hK.out _ _ ?_ (fun hHeld => ?_)
              · (try dsimp only)
                (first | go_keep | (refine ⟨?_, ?_, ?_⟩ <;> rw [hk1] <;> assumption))
              · clear hK K
                refine wpAnyH_take (i := 14) (v := ?_) rfl (by kernel_rfl) (by kernel_rfl) (by kernel_rfl) (fun _ _ _ h => h) (Or.inl ⟨by rfl, ?_⟩) (by assumption) ?_
                rotate_left 1
                · intro w9 hSw
                  (try dsimp only at hSw)
                  go_simp <;> with_reducible rfl
                try simp only [Act.put, List.setIfInBounds_toArray, List.set_cons_zero, List.set_cons_succ]
                refine wpAnyH_take (i := 15) (v := ?_) rfl (by kernel_rfl) (by kernel_rfl) (by kernel_rfl) (fun _ _ _ h => h) (Or.inl ⟨by rfl, ?_⟩) (by assumption) ?_
                rotate_left 1
                · intro w9 hSw
                  (try dsimp only at hSw)
                  go_simp <;> with_reducible rfl
                try simp only [Act.put, List.setIfInBounds_toArray, List.set_cons_zero, List.set_cons_succ]
                refine wpAnyH_ready (rs := [16]) (by kernel_rfl) (by simp) ?_
                refine AllReadyH.cons rfl (fun K hK => ?_) ?_
                · go_simp
                  refine hK.out _ _ ?_ (fun hHeld => ?_)
                  · (try dsimp only)
                    (first | go_keep | (refine ⟨?_, ?_, ?_⟩ <;> rw [hk1] <;> assumption))
                  · clear hK K
                    refine wpAnyH_done (by kernel_rfl) ?_ _
                    go_wp2_with fail
                    have h := HI.out
                    have nnb : (Value.slice a3 (q.length + 1) c3).ownBlock ≠ some nb := by
                      rcases L3.out with e | ⟨g, e, hg⟩
                      · rw [e]; exact hqne
                      · rw [e]; intro x; cases x; omega
                    have hid3 := World.ownsRow.kept h.ids G3.out (row_ap h.ids h.row (by decide))
                    have hout3 := World.ownsRow.kept h.outs G3.out (row_ap h.outs h.row (by decide))
                    refine bodyPost_end (v := .tuple #[]) (results_none (by kernel_rfl) _ _ _) rfl ⟨rfl, ⟨q ++ [((⟨num, lane, 0, s.ids.length, es⟩ : Ch), (.slice ea en ec : Value))], idv', .slice a3 (q.length + 1) c3, ov, ⟨HB3.out.set 10 _, h.low, World.ownsRow.kept hid3 (grown_set _ _ _ _) (row_or h.ids h.box (by decide)), ?_, ?_, ?_, World.ownsRow.kept hout3 (grown_set _ _ _ _) (row_or h.outs h.box (by decide))⟩⟩, ?_⟩
                    · rw [List.map_append, h.qs]; rfl
                    · rw [List.length_append, List.map_append, List.flatMap_append]
                      exact World.ownsRow.kept O3.out (grown_set _ _ _ _) (.inr nnb)
                    · intro x hx
                      rcases List.mem_append.1 hx with hx | hx
                      · exact h.sl x hx
                      · obtain rfl := List.mem_singleton.1 hx
                        exact ⟨_, _, _, rfl⟩
                    · exact (HBZ.out.trans (below_of_row G3.out (fun g hg => (World.ownsRow.lt h.row g hg).1) hbz)).trans (below_of_row (grown_set _ _ _ _) (fun g hg => by cases hg; exact h.low) (Nat.le_trans hbz G3.out.size))
                exact AllReadyH.nil
            exact AllReadyH.nil
        exact AllReadyH.nil
    exact AllReadyH.nil
end Go.Proofs.YtgamgomepdfgdaaGreat
