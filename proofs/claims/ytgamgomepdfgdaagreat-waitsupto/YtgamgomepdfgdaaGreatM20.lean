import Derived.Test.YtgamgomepdfgdaaGreatM19
namespace Go.Proofs.YtgamgomepdfgdaaGreat
open Go.RowKit

/-- a machine that is down -/
structure DownIs (w : World) (xb mb : Nat) (c : Cfg) (L : List UInt8) (lv : Value) : Prop where
  box : Bx w xb 135 (machCells c mb lv (.pointer none))
  log : Sl w 5 1 lv L.length (bc L)
/-- a machine that has gone down in its writing -/
structure Fell (w w' : World) (xb mb : Nat) (c : Cfg) (L : List UInt8) (lv : Value) : Prop where
  down : ∃ lv', DownIs w' xb mb c L lv' ∧ (lv'.ownBlock = lv.ownBlock ∨ ∃ g, lv'.ownBlock = some g ∧ w.heap.size ≤ g)
  only : Only w w' (fun k => k = xb ∨ lv.ownBlock = some k)

set_option maxRecDepth 100000 in
set_option maxHeartbeats 4000000 in
/-- .. and if the machine is to break, it is written in part, and the machine is down -/
theorem mAct_br (Y : Nat → Prop) (xb mb rb yb : Nat) (c : Cfg) (s : Qs) (L l : List UInt8) (keep : Int) (lv : Value) (kind lane id num : Int) (pass : Bool) (ea : Option Addr) (en ec : Nat) (w : World) (hU : UpIs w Y xb mb rb yb c s L true keep lv) (hL : L.length < 1099511627776) (hl : l.length < 1099511627776)
    (hC : ∀ W, Below w.heap.size w W → Calls Tryz.prog 110 #[.pointer (some ⟨yb, 0, none⟩), .agg #[.int .i64 kind, .int .i64 lane, .slice ea en ec, .int .i64 id, .bool pass, .int .i64 num]] W fun e W' => e = .returned (.int .i64 0) ∧ Below W.heap.size W W')
    (hY : ∀ W, Below w.heap.size w W → Calls Tryz.prog 112 #[.agg #[.int .i64 kind, .int .i64 lane, .slice ea en ec, .int .i64 id, .bool pass, .int .i64 num]] W fun e W' => ∃ v', e = .returned v' ∧ Fresh W W' v' l) (k : Nat) (hk : (k : Int) = max 0 (min keep l.length)) :
    Calls Tryz.prog 73 #[.pointer (some ⟨xb, 0, none⟩), .agg #[.int .i64 kind, .int .i64 lane, .slice ea en ec, .int .i64 id, .bool pass, .int .i64 num]] w fun e w' => e = .returned (.int .i64 8) ∧ Fell w w' xb mb c (L ++ l.take k) lv := by
  have hC1 := hC (w.alloc (.cells #[.int .i64 kind, .int .i64 lane, .slice ea en ec, .int .i64 id, .bool pass, .int .i64 num] 140)).drew (below_new_drew _ _)
  have X0 := Bx.new w #[.int .i64 kind, .int .i64 lane, .slice ea en ec, .int .i64 id, .bool pass, .int .i64 num] 140
  have HB0 : Hid (Below w.heap.size w (w.alloc (.cells #[.int .i64 kind, .int .i64 lane, .slice ea en ec, .int .i64 id, .bool pass, .int .i64 num] 140))) := below_new _ _
  have HU : Hid (UpIs w Y xb mb rb yb c s L true keep lv) := hU
  have hU0 : UpIs (w.alloc (.cells #[.int .i64 kind, .int .i64 lane, .slice ea en ec, .int .i64 id, .bool pass, .int .i64 num] 140)) Y xb mb rb yb c s L true keep lv := up_later hU (below_new _ _)
  have hsz : (w.alloc (.cells #[.int .i64 kind, .int .i64 lane, .slice ea en ec, .int .i64 id, .bool pass, .int .i64 num] 140)).heap.size = w.heap.size + 1 := by simp
  have hYW : Hid (∀ W, Below w.heap.size w W → Calls Tryz.prog 112 #[.agg #[.int .i64 kind, .int .i64 lane, .slice ea en ec, .int .i64 id, .bool pass, .int .i64 num]] W fun e W' => ∃ v', e = .returned v' ∧ Fresh W W' v' l) := hY
  have HK : Hid ((k : Int) = max 0 (min keep l.length)) := hk
  clear hC hU hY hk
  go_enter Tryz.func73, Tryz.ntmps73
  go_upto_region 1 with fail
  generalize w.alloc (.cells #[.int .i64 kind, .int .i64 lane, .slice ea en ec, .int .i64 id, .bool pass, .int .i64 num] 140) = w0 at *
  have c9 : w0.cell? ⟨xb, 9, none⟩ = some (.pointer (some ⟨rb, 0, none⟩)) := hU0.box.cell (i := 9) rfl
  have r0 : w0.cell? ⟨rb, 0, none⟩ = some (.pointer (some ⟨yb, 0, none⟩)) := hU0.run.cell (i := 0) rfl
  have x0 : w0.cell? ⟨w.heap.size, 0, none⟩ = some (.int .i64 kind) := X0.cell (i := 0) rfl
  have x1 : w0.cell? ⟨w.heap.size, 1, none⟩ = some (.int .i64 lane) := X0.cell (i := 1) rfl
  have x2 : w0.cell? ⟨w.heap.size, 2, none⟩ = some (.slice ea en ec) := X0.cell (i := 2) rfl
  have x3 : w0.cell? ⟨w.heap.size, 3, none⟩ = some (.int .i64 id) := X0.cell (i := 3) rfl
  have x4 : w0.cell? ⟨w.heap.size, 4, none⟩ = some (.bool pass) := X0.cell (i := 4) rfl
  have x5 : w0.cell? ⟨w.heap.size, 5, none⟩ = some (.int .i64 num) := X0.cell (i := 5) rfl
  have HX0 : Hid (Bx w0 w.heap.size 140 #[.int .i64 kind, .int .i64 lane, .slice ea en ec, .int .i64 id, .bool pass, .int .i64 num]) := X0
  have HU0 : Hid (UpIs w0 Y xb mb rb yb c s L true keep lv) := hU0
  clear X0 hU0
  go_upto_region 3 with fail
  go_cut [5] from 6 (fun t wz => t = .int .i64 0 ∧ Below w0.heap.size w0 wz)
  case first =>
    go_region_held_law (fun w' => w'.cell? ⟨xb, 9, none⟩ = some (.pointer (some ⟨rb, 0, none⟩)) ∧ w'.cell? ⟨rb, 0, none⟩ = some (.pointer (some ⟨yb, 0, none⟩)) ∧ w'.cell? ⟨w.heap.size, 0, none⟩ = some (.int .i64 kind) ∧ w'.cell? ⟨w.heap.size, 1, none⟩ = some (.int .i64 lane) ∧ w'.cell? ⟨w.heap.size, 2, none⟩ = some (.slice ea en ec) ∧ w'.cell? ⟨w.heap.size, 3, none⟩ = some (.int .i64 id) ∧ w'.cell? ⟨w.heap.size, 4, none⟩ = some (.bool pass) ∧ w'.cell? ⟨w.heap.size, 5, none⟩ = some (.int .i64 num)) (go_keep) ((go_at_call 110; refine hC1.mono ?_; rintro e w2 ⟨rfl, hb2⟩; have c92 := jcell_after hb2 c9; have r02 := jcell_after hb2 r0; have x02 := jcell_after hb2 x0; have x12 := jcell_after hb2 x1; have x22 := jcell_after hb2 x2; have x32 := jcell_after hb2 x3; have x42 := jcell_after hb2 x4; have x52 := jcell_after hb2 x5; have HB2 : Hid (Below w0.drew.heap.size w0.drew w2) := hb2; clear hb2))
    all_goals
      go_wp2_with fail
      go_meet
      case rel => exact ⟨rfl, HB2.out.os, HB2.out.tape, HB2.out.output, HB2.out.size, HB2.out.block⟩
  case rest =>
    obtain ⟨rfl, hbz⟩ := hcut
    rename World => wz
    have HBZ : Hid (Below w.heap.size w wz) := below_trans HB0.out hbz
    have z0 := jcell_after hbz x0
    have z1 := jcell_after hbz x1
    have z2 := jcell_after hbz x2
    have z3 := jcell_after hbz x3
    have z4 := jcell_after hbz x4
    have z5 := jcell_after hbz x5
    have hYz := hYW.out wz HBZ.out
    have HUz : Hid (UpIs wz Y xb mb rb yb c s L true keep lv) := up_later HU.out HBZ.out
    have HXz : Hid (Bx wz w.heap.size 140 #[.int .i64 kind, .int .i64 lane, .slice ea en ec, .int .i64 id, .bool pass, .int .i64 num]) := HX0.out.later hbz
    clear c9 r0 x0 x1 x2 x3 x4 x5 hbz hC1 HX0 HU0 HB0 hYW hsz
    go_upto_region 7 with fail
    go_fit hYz
    rintro e w3 ⟨v3, rfl, hF⟩
    obtain ⟨va, vc, rfl⟩ := row_form hF.1
    have hUz3 := up_later HUz.out hF.2
    have hWr := mWriteBr xb mb rb yb c keep lv (.slice va l.length vc) L l w3 hUz3.box hUz3.run hUz3.log (Sl.of_row hF.1) hL hl k HK.out
    have HB3 : Hid (Below w.heap.size w w3) := below_trans HBZ.out hF.2
    have HX3 : Hid (Bx w3 w.heap.size 140 #[.int .i64 kind, .int .i64 lane, .slice ea en ec, .int .i64 id, .bool pass, .int .i64 num]) := HXz.out.later hF.2
    have HU3 : Hid (UpIs w3 Y xb mb rb yb c s L true keep lv) := hUz3
    clear hF hUz3 hYz HUz HXz z0 z1 z2 z3 z4 z5
    go_upto_region 7 with fail
    go_fit hWr
    rintro e w4 ⟨rfl, lv', hW4⟩
    have c9 : w4.cell? ⟨xb, 9, none⟩ = some (.pointer none) := hW4.box.cell (i := 9) rfl
    have HW4 : Hid (Wrote w3 w4 xb mb c lv (.pointer none) (L ++ l.take k) lv') := hW4
    clear hW4 hWr HX3 HU3 HBZ
    go_wp2_with fail
    go_ret
    exact ⟨rfl, ⟨lv', ⟨HW4.out.box, HW4.out.log⟩, HW4.out.blk.imp (fun h => h) (fun ⟨g, h1, h2⟩ => ⟨g, h1, Nat.le_trans HB3.out.size h2⟩)⟩, (Only.of_below HB3.out).trans HW4.out.only fun k hk => .inl hk⟩
end Go.Proofs.YtgamgomepdfgdaaGreat

namespace Go.Proofs.YtgamgomepdfgdaaGreat
open Go.RowKit

theorem Bx.drewd {w : World} {b : Nat} {t : TypeId} {cs : Array Value} (h : Bx w b t cs) : Bx w.drew b t cs := h
theorem grown_drewd {w w' : World} {row : Option Nat} (h : w.grownBy w' row) : w.grownBy w'.drew row := ⟨h.os, h.tape, h.output, h.size, h.block⟩

set_option maxRecDepth 100000 in
set_option maxHeartbeats 2000000 in
theorem mAct_down (xb mb : Nat) (c : Cfg) (L : List UInt8) (lv : Value) (kind lane id num : Int) (pass : Bool) (ea : Option Addr) (en ec : Nat) (w : World) (hD : DownIs w xb mb c L lv) :
    Calls Tryz.prog 73 #[.pointer (some ⟨xb, 0, none⟩), .agg #[.int .i64 kind, .int .i64 lane, .slice ea en ec, .int .i64 id, .bool pass, .int .i64 num]] w fun e w' => e = .returned (.int .i64 8) ∧ Below w.heap.size w w' := by
  have c9 : (w.alloc (.cells #[.int .i64 kind, .int .i64 lane, .slice ea en ec, .int .i64 id, .bool pass, .int .i64 num] 140)).cell? ⟨xb, 9, none⟩ = some (.pointer none) := (hD.box.mk _).cell (i := 9) rfl
  have hxl := hD.box.lt
  clear hD
  go_enter Tryz.func73, Tryz.ntmps73
  go_wp2_with fail
  go_ret
  exact ⟨rfl, below_new _ _⟩

set_option maxRecDepth 100000 in
set_option maxHeartbeats 2000000 in
theorem mCrash_down (xb mb : Nat) (c : Cfg) (L : List UInt8) (lv : Value) (w : World) (hD : DownIs w xb mb c L lv) :
    Calls Tryz.prog 50 #[.pointer (some ⟨xb, 0, none⟩)] w fun e w' => e = .returned (.int .i64 8) ∧ w' = w := by
  have c9 : w.cell? ⟨xb, 9, none⟩ = some (.pointer none) := hD.box.cell (i := 9) rfl
  clear hD
  go_enter Tryz.func50, Tryz.ntmps50
  go_wp2_with fail
  go_ret
  exact ⟨rfl, rfl⟩

set_option maxRecDepth 100000 in
set_option maxHeartbeats 2000000 in
theorem mCrash_up (Y : Nat → Prop) (xb mb rb yb : Nat) (c : Cfg) (s : Qs) (L : List UInt8) (br : Bool) (keep : Int) (lv : Value) (w : World) (hU : UpIs w Y xb mb rb yb c s L br keep lv) :
    Calls Tryz.prog 50 #[.pointer (some ⟨xb, 0, none⟩)] w fun e w' => e = .returned (.int .i64 0) ∧ DownIs w' xb mb c L lv ∧ Only w w' (fun k => k = xb) := by
  have c9 : w.cell? ⟨xb, 9, none⟩ = some (.pointer (some ⟨rb, 0, none⟩)) := hU.box.cell (i := 9) rfl
  have f9 := hU.box.fr 9
  have HU : Hid (UpIs w Y xb mb rb yb c s L br keep lv) := hU
  clear hU
  go_enter Tryz.func50, Tryz.ntmps50
  go_wp2_with fail
  go_ret
  have h := HU.out
  exact ⟨rfl, ⟨h.box.set 9 _, h.log.grown (grown_set _ _ _ _) (fun g hg e => (h.log.ne h.box (by decide)) (by rw [hg]; exact e.symm))⟩, (Only.refl w _).set (.inl rfl)⟩

set_option maxRecDepth 100000 in
set_option maxHeartbeats 2000000 in
theorem mBreak_down (xb mb : Nat) (c : Cfg) (L : List UInt8) (lv : Value) (k : Int) (w : World) (hD : DownIs w xb mb c L lv) :
    Calls Tryz.prog 29 #[.pointer (some ⟨xb, 0, none⟩), .int .i64 k] w fun e w' => e = .returned (.int .i64 8) ∧ w' = w := by
  have c9 : w.cell? ⟨xb, 9, none⟩ = some (.pointer none) := hD.box.cell (i := 9) rfl
  clear hD
  go_enter Tryz.func29, Tryz.ntmps29
  go_wp2_with fail
  go_ret
  exact ⟨rfl, rfl⟩

set_option maxRecDepth 100000 in
set_option maxHeartbeats 2000000 in
theorem mBreak_up (Y : Nat → Prop) (xb mb rb yb : Nat) (c : Cfg) (s : Qs) (L : List UInt8) (br : Bool) (keep : Int) (lv : Value) (k : Int) (w : World) (hU : UpIs w Y xb mb rb yb c s L br keep lv) :
    Calls Tryz.prog 29 #[.pointer (some ⟨xb, 0, none⟩), .int .i64 k] w fun e w' => e = .returned (.int .i64 0) ∧ UpIs w' Y xb mb rb yb c s L true k lv ∧ Only w w' (fun j => j = rb) := by
  have c9 : w.cell? ⟨xb, 9, none⟩ = some (.pointer (some ⟨rb, 0, none⟩)) := hU.box.cell (i := 9) rfl
  have r1 : w.cell? ⟨rb, 1, none⟩ = some (.bool br) := hU.run.cell (i := 1) rfl
  have r2 : w.cell? ⟨rb, 2, none⟩ = some (.int .i64 keep) := hU.run.cell (i := 2) rfl
  have f1 := hU.run.fr 1
  have f2 := hU.run.fr 2
  have HU : Hid (UpIs w Y xb mb rb yb c s L br keep lv) := hU
  have hne : rb ≠ xb := (up_apart hU).1
  have hne' : xb ≠ rb := hne.symm
  clear hU
  go_enter Tryz.func29, Tryz.ntmps29
  go_upto_region 3 with fail
  go_region_held_law (fun w' => w'.cell? ⟨xb, 9, none⟩ = some (.pointer (some ⟨rb, 0, none⟩))) (go_keep) (fail)
  all_goals
    go_wp2_with fail
    go_ret
    have h := HU.out
    have hap := up_apart h
    have key : ∀ W : World, Bx W rb 137 (runCells yb true k) → w.grownBy W (some rb) → UpIs W Y xb mb rb yb c s L true k lv ∧ Only w W (fun j => j = rb) := fun W hB hG =>
      ⟨⟨h.box.grown hG (by simpa using hne'), hB, h.log.grown hG (fun g hg e => (hap.2 g hg).2 (by injection e with e; exact e.symm)), h.yard.kept fun j hj hY => hG.block j hj (fun e => h.nr (by injection e with e; exact e ▸ hY)), h.nx, h.nr, h.nl, fun j hj => Nat.lt_of_lt_of_le (h.yl j hj) hG.size⟩, Only.of_grown hG fun j e => by injection e with e; exact e.symm⟩
    first
      | exact ⟨rfl, key _ (Bx.drewd ((h.run.set 1 (.bool true)).set 2 (.int .i64 k))) (grown_drewd ((grown_set _ _ _ _).trans (grown_set _ _ _ _)))⟩
      | exact ⟨rfl, key _ (Bx.drewd ((h.run.set 2 (.int .i64 k)).set 1 (.bool true))) (grown_drewd ((grown_set _ _ _ _).trans (grown_set _ _ _ _)))⟩
end Go.Proofs.YtgamgomepdfgdaaGreat

namespace Go.Proofs.YtgamgomepdfgdaaGreat
open Go.RowKit

theorem Sl.bv {w : World} {v : Value} {L : List UInt8} (h : Sl w 5 1 v L.length (bc L)) (hn : L.length < 1099511627776) : BV w v L := by
  rcases h.2 with ⟨rfl, h0⟩ | ⟨g, off, cap, cur, rfl, hh, hnc, hcm, hf, hr⟩
  · exact .inl ⟨List.eq_nil_of_length_eq_zero h0, rfl⟩
  · refine .inr ⟨g, off, cap, rfl, hnc, ⟨by unfold maxLen at hcm; omega, hn⟩, (Array.getElem?_eq_some_iff.1 hh).1, fun i hi => ?_⟩
    have := hr i (.int .u8 L[i].toNat) (by simp [bc, hi])
    simp [World.cell?, hh, this]

set_option maxRecDepth 100000 in
set_option maxHeartbeats 1000000 in
theorem mLog (xb : Nat) (cs : Array Value) (L : List UInt8) (lv : Value) (w : World) (hB : Bx w xb 135 cs) (h8 : cs[8]? = some lv) (hL : Sl w 5 1 lv L.length (bc L)) (hn : L.length < 1099511627776) :
    Calls Tryz.prog 28 #[.pointer (some ⟨xb, 0, none⟩)] w fun e w' => e = .returned (.string (bs L)) ∧ w' = w := by
  have hcv := conv_bv (hL.bv hn)
  have c8 := hB.cell h8
  obtain ⟨a, cap, rfl⟩ := hL.form
  clear hB hL
  go_enter Tryz.func28, Tryz.ntmps28
  go_wp2
  go_ret
  exact ⟨rfl, rfl⟩

/-- calls that hand on what act answers -/
theorem mSubmit_of (xb : Nat) (id lane : Int) (ea : Option Addr) (en ec : Nat) (k : Int) (R : World → Prop) (w : World)
    (h : Calls Tryz.prog 73 #[.pointer (some ⟨xb, 0, none⟩), .agg #[.int .i64 1, .int .i64 lane, .slice ea en ec, .int .i64 id, .bool false, .int .i64 0]] w fun e w' => e = .returned (.int .i64 k) ∧ R w') :
    Calls Tryz.prog 31 #[.pointer (some ⟨xb, 0, none⟩), .int .i64 id, .int .i64 lane, .slice ea en ec] w fun e w' => e = .returned (.int .i64 k) ∧ R w' := by
  go_enter Tryz.func31, Tryz.ntmps31
  go_wp2_with fail
  go_fit h
  rintro e w' ⟨rfl, hR⟩
  have HR : Hid (R w') := hR
  clear hR h
  go_wp2_with fail
  go_ret
  exact ⟨rfl, HR.out⟩
theorem mCancel_of (xb : Nat) (id : Int) (k : Int) (R : World → Prop) (w : World)
    (h : Calls Tryz.prog 73 #[.pointer (some ⟨xb, 0, none⟩), .agg #[.int .i64 2, .int .i64 0, .slice none 0 0, .int .i64 id, .bool false, .int .i64 0]] w fun e w' => e = .returned (.int .i64 k) ∧ R w') :
    Calls Tryz.prog 40 #[.pointer (some ⟨xb, 0, none⟩), .int .i64 id] w fun e w' => e = .returned (.int .i64 k) ∧ R w' := by
  go_enter Tryz.func40, Tryz.ntmps40
  go_wp2_with fail
  go_fit h
  rintro e w' ⟨rfl, hR⟩
  have HR : Hid (R w') := hR
  clear hR h
  go_wp2_with fail
  go_ret
  exact ⟨rfl, HR.out⟩
theorem mAck_of (xb : Nat) (n : Int) (k : Int) (R : World → Prop) (w : World)
    (h : Calls Tryz.prog 73 #[.pointer (some ⟨xb, 0, none⟩), .agg #[.int .i64 6, .int .i64 0, .slice none 0 0, .int .i64 0, .bool false, .int .i64 n]] w fun e w' => e = .returned (.int .i64 k) ∧ R w') :
    Calls Tryz.prog 79 #[.pointer (some ⟨xb, 0, none⟩), .int .i64 n] w fun e w' => e = .returned (.int .i64 k) ∧ R w' := by
  go_enter Tryz.func79, Tryz.ntmps79
  go_wp2_with fail
  go_fit h
  rintro e w' ⟨rfl, hR⟩
  have HR : Hid (R w') := hR
  clear hR h
  go_wp2_with fail
  go_ret
  exact ⟨rfl, HR.out⟩

set_option maxRecDepth 100000 in
set_option maxHeartbeats 1000000 in
theorem mPoll_down (xb mb : Nat) (c : Cfg) (L : List UInt8) (lv : Value) (w : World) (hD : DownIs w xb mb c L lv) :
    Calls Tryz.prog 77 #[.pointer (some ⟨xb, 0, none⟩)] w fun e w' => e = .returned (.tuple #[.agg #[.int .i64 0, .int .i64 0, .int .i64 0], .int .i64 8]) ∧ Below w.heap.size w w' := by
  have c9 : w.cell? ⟨xb, 9, none⟩ = some (.pointer none) := hD.box.cell (i := 9) rfl
  have hxl := hD.box.lt
  clear hD
  go_enter Tryz.func77, Tryz.ntmps77
  go_wp2_with fail
  refine bodyPost_ret (by simp [results, Tryz.results77, go_sem]; rfl) rfl ⟨by rfl, ?_⟩
  exact below_new _ _
end Go.Proofs.YtgamgomepdfgdaaGreat

namespace Go.Proofs.YtgamgomepdfgdaaGreat
open Go.RowKit Go.Maps

theorem makeS (w : World) : (Instr.makeMap 194 none).run Tryz.prog w = .ok (.map (some w.heap.size)) (w.alloc (.map #[] 0)) := by
  simp [Instr.makeMap]

set_option maxRecDepth 100000 in
set_option maxHeartbeats 2000000 in
/-- a yard in which nothing has happened -/
theorem yNew (mb : Nat) (c : Cfg) (w : World) (hm : mb < w.heap.size) :
    Calls Tryz.prog 114 #[.agg #[.int .i64 c.lanes, .int .i64 c.age, .int .i64 c.batch, .int .i64 c.window, .int .i64 c.retries, .int .i64 c.deadline, .int .i64 c.queue], .map (some mb)] w fun e w' => (∃ yb, e = .returned (.pointer (some ⟨yb, 0, none⟩)) ∧ w.heap.size ≤ yb ∧ YardAt w' (fun k => w.heap.size ≤ k ∧ k < w'.heap.size) yb mb c Qs.start) ∧ Below w.heap.size w w' := by
  have hmk := makeS
  go_enter Tryz.func114, Tryz.ntmps114
  go_wp2_with fail
  go_ret
  have e1 : (w.alloc (.cells #[.int .i64 c.lanes, .int .i64 c.age, .int .i64 c.batch, .int .i64 c.window, .int .i64 c.retries, .int .i64 c.deadline, .int .i64 c.queue] 23)).heap.size = w.heap.size + 1 := by simp
  have e2 : ((w.alloc (.cells #[.int .i64 c.lanes, .int .i64 c.age, .int .i64 c.batch, .int .i64 c.window, .int .i64 c.retries, .int .i64 c.deadline, .int .i64 c.queue] 23)).alloc (.map #[] 0)).heap.size = w.heap.size + 1 + 1 := by simp
  have S1 := Subm.made (w.alloc (.cells #[.int .i64 c.lanes, .int .i64 c.age, .int .i64 c.batch, .int .i64 c.window, .int .i64 c.retries, .int .i64 c.deadline, .int .i64 c.queue] 23))
  have B2 := Bx.new ((w.alloc (.cells #[.int .i64 c.lanes, .int .i64 c.age, .int .i64 c.batch, .int .i64 c.window, .int .i64 c.retries, .int .i64 c.deadline, .int .i64 c.queue] 23)).alloc (.map #[] 0)) (yardCells c mb (.slice none 0 0) (w.heap.size + 1) 0 (.slice none 0 0)) 201
  rw [e2] at B2
  rw [e1] at S1
  refine ⟨⟨_, rfl, by omega, ⟨[], w.heap.size + 1, .slice none 0 0, .slice none 0 0, ⟨rfl, B2, Sl.nil _ _ _, by simp, S1.later (below_new _ _), by omega, Sl.nil _ _ _, ⟨by omega, B2.lt⟩, ⟨by omega, (S1.later (below_new _ _)).lt⟩, by simp [Value.ownBlock], by simp [Value.ownBlock], by simp⟩⟩⟩, ?_⟩
  exact below_then (below_then (below_new _ _) (below_new _ _)) (below_new _ _)
end Go.Proofs.YtgamgomepdfgdaaGreat

namespace Go.Proofs.YtgamgomepdfgdaaGreat
open Go.RowKit

/-- a machine that has just been taken up -/
structure Started (w w' : World) (xb mb : Nat) (c : Cfg) (L : List UInt8) (lv : Value) : Prop where
  up : ∃ Y rb yb, UpIs w' Y xb mb rb yb c Qs.start L false 0 lv ∧ w.heap.size ≤ rb ∧ ∀ k, Y k → w.heap.size ≤ k
  only : Only w w' (fun k => k = xb)

set_option maxRecDepth 100000 in
set_option maxHeartbeats 4000000 in
theorem mStart (xb mb : Nat) (c : Cfg) (L : List UInt8) (lv : Value) (up : Option Addr) (w : World) (hB : Bx w xb 135 (machCells c mb lv (.pointer up))) (hL : Sl w 5 1 lv L.length (bc L)) (hm : mb < w.heap.size) :
    Calls Tryz.prog 75 #[.pointer (some ⟨xb, 0, none⟩)] w fun e w' => e = .returned (.tuple #[]) ∧ Started w w' xb mb c L lv := by
  have hN := yNew mb c w.drew hm
  have b0 : w.cell? ⟨xb, 0, none⟩ = some (.int .i64 c.lanes) := hB.cell (i := 0) rfl
  have b1 : w.cell? ⟨xb, 1, none⟩ = some (.int .i64 c.age) := hB.cell (i := 1) rfl
  have b2 : w.cell? ⟨xb, 2, none⟩ = some (.int .i64 c.batch) := hB.cell (i := 2) rfl
  have b3 : w.cell? ⟨xb, 3, none⟩ = some (.int .i64 c.window) := hB.cell (i := 3) rfl
  have b4 : w.cell? ⟨xb, 4, none⟩ = some (.int .i64 c.retries) := hB.cell (i := 4) rfl
  have b5 : w.cell? ⟨xb, 5, none⟩ = some (.int .i64 c.deadline) := hB.cell (i := 5) rfl
  have b6 : w.cell? ⟨xb, 6, none⟩ = some (.int .i64 c.queue) := hB.cell (i := 6) rfl
  have b7 : w.cell? ⟨xb, 7, none⟩ = some (.map (some mb)) := hB.cell (i := 7) rfl
  have b9 : w.cell? ⟨xb, 9, none⟩ = some (.pointer up) := hB.cell (i := 9) rfl
  have f9 := hB.fr 9
  have HB : Hid (Bx w xb 135 (machCells c mb lv (.pointer up))) := hB
  have HL : Hid (Sl w 5 1 lv L.length (bc L)) := hL
  have hxl := hB.lt
  have hk : ∀ (W : World) (v : Value) (i : Nat), i ≠ 9 → (W.setCell ⟨xb, 9, none⟩ v).cell? ⟨xb, i, none⟩ = W.cell? ⟨xb, i, none⟩ := fun W v i hi => World.cell?_setCell_other _ _ _ _ (by intro e; injection e with e1 e2; omega)
  clear hB hL
  go_enter Tryz.func75, Tryz.ntmps75
  go_wp2_with fail
  go_region_held_law (fun w' => w'.cell? ⟨xb, 0, none⟩ = some (.int .i64 c.lanes) ∧ w'.cell? ⟨xb, 1, none⟩ = some (.int .i64 c.age) ∧ w'.cell? ⟨xb, 2, none⟩ = some (.int .i64 c.batch) ∧ w'.cell? ⟨xb, 3, none⟩ = some (.int .i64 c.window) ∧ w'.cell? ⟨xb, 4, none⟩ = some (.int .i64 c.retries) ∧ w'.cell? ⟨xb, 5, none⟩ = some (.int .i64 c.deadline) ∧ w'.cell? ⟨xb, 6, none⟩ = some (.int .i64 c.queue) ∧ w'.cell? ⟨xb, 7, none⟩ = some (.map (some mb))) (first | go_keep | (refine ⟨?_, ?_, ?_, ?_, ?_, ?_, ?_, ?_⟩ <;> (rw [hk _ _ _ (by decide)]; exact jcell_after (below_new _ _) (by assumption)))) ((go_at_call 114; refine hN.mono ?_; rintro e w1 ⟨⟨yb, rfl, hyb, hY1⟩, hb1⟩; have a0 := jcell_after hb1 b0; have a1 := jcell_after hb1 b1; have a2 := jcell_after hb1 b2; have a3 := jcell_after hb1 b3; have a4 := jcell_after hb1 b4; have a5 := jcell_after hb1 b5; have a6 := jcell_after hb1 b6; have a7 := jcell_after hb1 b7; have a9 := jcell_after hb1 b9; have g9 : w1.frozen? ⟨xb, 9, none⟩ = false := frozen_after hb1 hxl f9; have g9o : ∀ o, (w1.alloc o).frozen? ⟨xb, 9, none⟩ = false := (fun o => frozen_after (below_new w1 o) (jcell_lt a9) g9); have a9o : ∀ o, (w1.alloc o).cell? ⟨xb, 9, none⟩ = some (.pointer up) := (fun o => jcell_after (below_new w1 o) a9); have HY1 : Hid (YardAt w1 (fun k => w.drew.heap.size ≤ k ∧ k < w1.heap.size) yb mb c Qs.start) := hY1; have HB1 : Hid (Below w.heap.size w w1) := ⟨hb1.os, hb1.tape, hb1.output, hb1.size, hb1.block⟩; clear hY1 hb1))
  all_goals
    go_wp2_with fail
    have hs := HB1.out.size
    have hBn := (HB.out.later HB1.out).mk (.cells (runCells yb false 0) 137)
    have hRn := Bx.new w1 (runCells yb false 0) 137
    have hYn := HY1.out.later (below_new w1 (.cells (runCells yb false 0) 137))
    have hLn := (HL.out.later HB1.out).mk (.cells (runCells yb false 0) 137)
    have O1 : Only w (w1.alloc (.cells (runCells yb false 0) 137)) (fun k => k = xb) := Only.of_below (HB1.out.trans ((below_new w1 _).mono hs))
    have hxw : xb < w1.heap.size := by omega
    have hln := hLn.ne hBn (by decide)
    have hw1 : (w1.alloc (.cells (runCells yb false 0) 137)).heap.size = w1.heap.size + 1 := by simp
    refine bodyPost_end (v := .tuple #[]) (results_none (by kernel_rfl) _ _ _) rfl ⟨rfl, ⟨(fun k => w.heap.size ≤ k ∧ k < w1.heap.size), w1.heap.size, yb, ⟨hBn.set 9 _, hRn.other (by omega) _ _, hLn.grown (grown_set _ _ _ _) (fun g hg e => hln (by rw [hg]; exact e.symm)), ?_, ?_, ?_, ?_, ?_⟩, hs, fun k hk => hk.1⟩, O1.set (.inl rfl)⟩
    · exact hYn.kept fun k _ hS => (grown_set _ _ _ _).block k (by have : k < w1.heap.size := hS.2; simp; omega) (fun e => by injection e with e; have : w.heap.size ≤ k := hS.1; omega)
    · exact fun h => by have : w.heap.size ≤ xb := h.1; omega
    · exact fun h => Nat.lt_irrefl _ h.2
    · exact fun g hg h => by have h1 := HL.out.lt hg; have : w.heap.size ≤ g := h.1; omega
    · exact fun k h => by have : k < w1.heap.size := h.2; simp; omega
end Go.Proofs.YtgamgomepdfgdaaGreat
