import Derived.Test.YtgamgomepdfgdaaGreatM18
import Derived.Deep.CutRange
import Derived.Deep.CutBlock
namespace Go.Proofs.YtgamgomepdfgdaaGreat
open Go.RowKit

set_option maxRecDepth 100000 in
set_option maxHeartbeats 2000000 in
theorem mWriteBr (xb mb rb yb : Nat) (c : Cfg) (keep : Int) (lv v : Value) (L l : List UInt8) (w : World) (hB : Bx w xb 135 (machCells c mb lv (.pointer (some ⟨rb, 0, none⟩)))) (hR : Bx w rb 137 (runCells yb true keep)) (hL : Sl w 5 1 lv L.length (bc L)) (hl : Sl w 5 1 v l.length (bc l)) (hn : L.length < 1099511627776) (hm : l.length < 1099511627776) (k : Nat) (hk : (k : Int) = max 0 (min keep l.length)) :
    Calls Tryz.prog 111 #[.pointer (some ⟨xb, 0, none⟩), v] w fun e w' => e = .returned (.tuple #[]) ∧ ∃ lv', Wrote w w' xb mb c lv (.pointer none) (L ++ l.take k) lv' := by
  obtain ⟨i0, hi, hz0, hz1, hz2⟩ := info_parts info_u8
  obtain ⟨la, lc, rfl⟩ := hL.form
  obtain ⟨va, vc, rfl⟩ := hl.form
  have c8 : w.cell? ⟨xb, 8, none⟩ = some (.slice la L.length lc) := hB.cell (i := 8) rfl
  have c9 : w.cell? ⟨xb, 9, none⟩ = some (.pointer (some ⟨rb, 0, none⟩)) := hB.cell (i := 9) rfl
  have r1 : w.cell? ⟨rb, 1, none⟩ = some (.bool true) := hR.cell (i := 1) rfl
  have r2 : w.cell? ⟨rb, 2, none⟩ = some (.int .i64 keep) := hR.cell (i := 2) rfl
  have hne := hL.ne hB (by decide)
  have HB : Hid (Bx w xb 135 (machCells c mb (.slice la L.length lc) (.pointer (some ⟨rb, 0, none⟩)))) := hB
  have HL : Hid (Sl w 5 1 (.slice la L.length lc) L.length (bc L)) := hL
  have Hl : Hid (Sl w 5 1 (.slice va l.length vc) l.length (bc l)) := hl
  have q1 : Hid (L.length + l.length ≤ maxLen) := by show _ ≤ _; unfold maxLen; omega
  have q2 : Hid ((L.length + l.length) * 1 ≤ 140737488355328) := by show _ ≤ _; omega
  have f9 := hB.fr 9
  have hkl : k ≤ l.length := by omega
  have hvc : l.length ≤ vc := by
    rcases hl.2 with ⟨h', h0⟩ | ⟨g, off, cap, cur, h', _, hnc, _⟩
    · injection h' with _ h2 _; omega
    · injection h' with _ h2 h3; omega
  have Hk : Hid (Sl w 5 1 (.slice va k vc) k (bc (l.take k))) := by
    have := hl.cut hkl
    rw [Nat.mul_one] at this
    show Sl w 5 1 (.slice va k vc) k (bc (l.take k))
    rw [bc, List.map_take]
    exact this
  have Hkl : Hid ((l.take k).length = k) := by show _ = _; rw [List.length_take]; omega
  clear hB hR hL hl
  go_enter Tryz.func111, Tryz.ntmps111
  go_upto_region 1 with fail
  go_cut [1] from 2 (fun s wz => s = .slice va k vc ∧ wz = w)
  case first =>
    by_cases h1 : keep ≤ (l.length : Int)
    · by_cases h2 : 0 ≤ keep
      · obtain ⟨n, rfl⟩ : ∃ n : Nat, keep = n := ⟨keep.toNat, by omega⟩
        obtain rfl : n = k := by omega
        clear hk
        have e1 : min (n : Int) (l.length : Int) = n := by omega
        have e2 : max 0 (n : Int) = n := by omega
        go_wp2_with fail
        go_meet
        case rel => exact ⟨rfl, rfl⟩
      · obtain rfl : k = 0 := by omega
        clear hk
        have e1 : min keep (l.length : Int) = keep := by omega
        have e2 : max 0 keep = 0 := by omega
        go_wp2_with fail
        go_meet
        case rel => exact ⟨rfl, rfl⟩
    · obtain rfl : k = l.length := by omega
      clear hk
      have e1 : min keep (l.length : Int) = l.length := by omega
      have e2 : max 0 (l.length : Int) = l.length := by omega
      go_wp2_with fail
      go_meet
      case rel => exact ⟨rfl, rfl⟩
  case rest =>
    obtain ⟨rfl, rfl⟩ := hcut
    rename World => w
    have q1 : Hid (L.length + k ≤ maxLen) := by show _ ≤ _; unfold maxLen; omega
    have q2 : Hid ((L.length + k) * 1 ≤ 140737488355328) := by show _ ≤ _; omega
    have hxl := HB.out.lt
    have HBn : Hid (Bx (w.setCell ⟨xb, 9, none⟩ (.pointer none)) xb 135 (machCells c mb (.slice la L.length lc) (.pointer none))) := HB.out.set 9 _
    have HLn : Hid (Sl (w.setCell ⟨xb, 9, none⟩ (.pointer none)) 5 1 (.slice la L.length lc) L.length (bc L)) := HL.out.grown (grown_set _ _ _ _) (fun g hg e => hne (by rw [hg]; exact e.symm))
    have hnk := Hk.out.ne HB.out (by decide)
    have Hkn : Hid (Sl (w.setCell ⟨xb, 9, none⟩ (.pointer none)) 5 1 (.slice va k vc) k (bc (l.take k))) := Hk.out.grown (grown_set _ _ _ _) (fun g hg e => hnk (by rw [hg]; exact e.symm))
    have HOn : Hid (Only w (w.setCell ⟨xb, 9, none⟩ (.pointer none)) (fun k => k = xb ∨ (Value.slice la L.length lc).ownBlock = some k)) := (Only.refl w _).set (.inl (.inl rfl))
    have hsz : (w.setCell ⟨xb, 9, none⟩ (.pointer none)).heap.size = w.heap.size := by simp
    clear hk HB HL Hl Hk
    go_upto_region 3 with fail
    generalize w.setCell ⟨xb, 9, none⟩ (.pointer none) = wn at *
    have c8n : wn.cell? ⟨xb, 8, none⟩ = some (.slice la L.length lc) := HBn.out.cell (i := 8) rfl
    clear c8 c9 r1 r2 f9
    go_wp2_with (at_builtin; refine wpList_append_bytes _ rfl _ _ 114 rfl _ i0 _ Tryz.underlying114 hi hz0 hz1 hz2 rfl (.slice la L.length lc) _ _ rfl HLn.out (.slice va k vc) _ _ rfl Hkn.out (bc_one _) q1.out q2.out ?_; intro v3 w3 hown3 hg3 hloc3; obtain ⟨a3, c3, rfl⟩ := hown3.form; have HB3 : Hid (Bx w3 xb 135 (machCells c mb (.slice la L.length lc) (.pointer none))) := HBn.out.grown hg3 (fun e => hne e.symm); have d8 : w3.cell? ⟨xb, 8, none⟩ = some (.slice la L.length lc) := HB3.out.cell (i := 8) rfl; have f8 := HB3.out.fr 8; have HO3 : Hid (Sl w3 5 1 (.slice a3 (L.length + k) c3) (L.length + k) (bc L ++ bc (l.take k))) := hown3; have HG3 : Hid (wn.grownBy w3 (Value.slice la L.length lc).ownBlock) := hg3; have HL3 : Hid ((Value.slice a3 (L.length + k) c3).ownBlock = (Value.slice la L.length lc).ownBlock ∨ ∃ g, (Value.slice a3 (L.length + k) c3).ownBlock = some g ∧ wn.heap.size ≤ g) := hloc3; clear hown3 hg3 hloc3)
    have nnb : (Value.slice a3 (L.length + k) c3).ownBlock ≠ some xb := by
      rcases HL3.out with h | ⟨g, h, hg⟩
      · rw [h]; exact hne
      · rw [h]; intro e; cases e; omega
    refine bodyPost_end (v := .tuple #[]) (results_none (by kernel_rfl) _ _ _) rfl ⟨rfl, .slice a3 (L.length + k) c3, HB3.out.set 8 _, ?_, HL3.out.imp (fun h => h) (fun ⟨g, h1, h2⟩ => ⟨g, h1, by omega⟩), ?_⟩
    · rw [List.length_append, bc_append, Hkl.out]
      exact Sl.grown HO3.out (grown_set _ _ _ _) (fun g hg e => nnb (by rw [hg]; exact e.symm))
    · exact (HOn.out.trans (Only.of_grown HG3.out (S := fun k => k = xb ∨ (Value.slice la L.length lc).ownBlock = some k) fun k h => .inr h) fun k h => .inl h).set (.inl (.inl rfl))
end Go.Proofs.YtgamgomepdfgdaaGreat

namespace Go.Proofs.YtgamgomepdfgdaaGreat
open Go.RowKit

/-- a machine that is up: Y its yard's blocks -/
structure UpIs (w : World) (Y : Nat → Prop) (xb mb rb yb : Nat) (c : Cfg) (s : Qs) (L : List UInt8) (br : Bool) (keep : Int) (lv : Value) : Prop where
  box : Bx w xb 135 (machCells c mb lv (.pointer (some ⟨rb, 0, none⟩)))
  run : Bx w rb 137 (runCells yb br keep)
  log : Sl w 5 1 lv L.length (bc L)
  yard : YardAt w Y yb mb c s
  nx : ¬ Y xb
  nr : ¬ Y rb
  nl : ∀ g, lv.ownBlock = some g → ¬ Y g
  yl : ∀ k, Y k → k < w.heap.size

/-- the record's box -/
def box6 (kind lane id num : Int) (pass : Bool) (ea : Option Addr) (en ec : Nat) : Array Value := #[.int .i64 kind, .int .i64 lane, .slice ea en ec, .int .i64 id, .bool pass, .int .i64 num]
def In6 (w : World) (b : Nat) (kind lane id num : Int) (pass : Bool) (ea : Option Addr) (en ec : Nat) : Prop :=
  w.cell? ⟨b, 0, none⟩ = some (.int .i64 kind) ∧ w.cell? ⟨b, 1, none⟩ = some (.int .i64 lane) ∧ w.cell? ⟨b, 2, none⟩ = some (.slice ea en ec) ∧ w.cell? ⟨b, 3, none⟩ = some (.int .i64 id) ∧ w.cell? ⟨b, 4, none⟩ = some (.bool pass) ∧ w.cell? ⟨b, 5, none⟩ = some (.int .i64 num)

set_option maxRecDepth 100000 in
set_option maxHeartbeats 4000000 in
/-- what cannot be done is answered with why -/
theorem mAct_no (Y : Nat → Prop) (xb mb rb yb : Nat) (c : Cfg) (s : Qs) (L : List UInt8) (br : Bool) (keep : Int) (lv : Value) (kind lane id num : Int) (pass : Bool) (ea : Option Addr) (en ec : Nat) (k : Int) (hk : k ≠ 0) (w : World) (hU : UpIs w Y xb mb rb yb c s L br keep lv)
    (hC : ∀ W, Below w.heap.size w W → Calls Tryz.prog 110 #[.pointer (some ⟨yb, 0, none⟩), .agg #[.int .i64 kind, .int .i64 lane, .slice ea en ec, .int .i64 id, .bool pass, .int .i64 num]] W fun e W' => e = .returned (.int .i64 k) ∧ Below W.heap.size W W') :
    Calls Tryz.prog 73 #[.pointer (some ⟨xb, 0, none⟩), .agg #[.int .i64 kind, .int .i64 lane, .slice ea en ec, .int .i64 id, .bool pass, .int .i64 num]] w fun e w' => e = .returned (.int .i64 k) ∧ Below w.heap.size w w' := by
  have hC1 := hC (w.alloc (.cells #[.int .i64 kind, .int .i64 lane, .slice ea en ec, .int .i64 id, .bool pass, .int .i64 num] 140)).drew (below_new_drew _ _)
  have B0 := hU.box.mk (.cells #[.int .i64 kind, .int .i64 lane, .slice ea en ec, .int .i64 id, .bool pass, .int .i64 num] 140)
  have R0 := hU.run.mk (.cells #[.int .i64 kind, .int .i64 lane, .slice ea en ec, .int .i64 id, .bool pass, .int .i64 num] 140)
  have X0 := Bx.new w #[.int .i64 kind, .int .i64 lane, .slice ea en ec, .int .i64 id, .bool pass, .int .i64 num] 140
  have HB0 : Hid (Below w.heap.size w (w.alloc (.cells #[.int .i64 kind, .int .i64 lane, .slice ea en ec, .int .i64 id, .bool pass, .int .i64 num] 140))) := below_new _ _
  have hxl := B0.lt
  have hk' : (k == 0) = false := by simpa using hk
  clear hC hU
  go_enter Tryz.func73, Tryz.ntmps73
  go_upto_region 1 with fail
  generalize w.alloc (.cells #[.int .i64 kind, .int .i64 lane, .slice ea en ec, .int .i64 id, .bool pass, .int .i64 num] 140) = w0 at *
  have c9 : w0.cell? ⟨xb, 9, none⟩ = some (.pointer (some ⟨rb, 0, none⟩)) := B0.cell (i := 9) rfl
  have r0 : w0.cell? ⟨rb, 0, none⟩ = some (.pointer (some ⟨yb, 0, none⟩)) := R0.cell (i := 0) rfl
  have x0 : w0.cell? ⟨w.heap.size, 0, none⟩ = some (.int .i64 kind) := X0.cell (i := 0) rfl
  have x1 : w0.cell? ⟨w.heap.size, 1, none⟩ = some (.int .i64 lane) := X0.cell (i := 1) rfl
  have x2 : w0.cell? ⟨w.heap.size, 2, none⟩ = some (.slice ea en ec) := X0.cell (i := 2) rfl
  have x3 : w0.cell? ⟨w.heap.size, 3, none⟩ = some (.int .i64 id) := X0.cell (i := 3) rfl
  have x4 : w0.cell? ⟨w.heap.size, 4, none⟩ = some (.bool pass) := X0.cell (i := 4) rfl
  have x5 : w0.cell? ⟨w.heap.size, 5, none⟩ = some (.int .i64 num) := X0.cell (i := 5) rfl
  clear B0 R0 X0
  go_upto_region 3 with fail
  go_region_held_law (fun w' => w'.cell? ⟨xb, 9, none⟩ = some (.pointer (some ⟨rb, 0, none⟩)) ∧ w'.cell? ⟨rb, 0, none⟩ = some (.pointer (some ⟨yb, 0, none⟩)) ∧ w'.cell? ⟨w.heap.size, 0, none⟩ = some (.int .i64 kind) ∧ w'.cell? ⟨w.heap.size, 1, none⟩ = some (.int .i64 lane) ∧ w'.cell? ⟨w.heap.size, 2, none⟩ = some (.slice ea en ec) ∧ w'.cell? ⟨w.heap.size, 3, none⟩ = some (.int .i64 id) ∧ w'.cell? ⟨w.heap.size, 4, none⟩ = some (.bool pass) ∧ w'.cell? ⟨w.heap.size, 5, none⟩ = some (.int .i64 num)) (go_keep) ((go_at_call 110; refine hC1.mono ?_; rintro e w2 ⟨rfl, hb2⟩; have c92 := jcell_after hb2 c9; have r02 := jcell_after hb2 r0; have x02 := jcell_after hb2 x0; have x12 := jcell_after hb2 x1; have x22 := jcell_after hb2 x2; have x32 := jcell_after hb2 x3; have x42 := jcell_after hb2 x4; have x52 := jcell_after hb2 x5; have HB2 : Hid (Below w0.drew.heap.size w0.drew w2) := hb2; clear hb2))
  all_goals
    go_wp2_with fail
    go_ret
    exact ⟨rfl, HB0.out.trans ⟨HB2.out.os, HB2.out.tape, HB2.out.output, HB2.out.size, fun k hk => HB2.out.block k (Nat.lt_of_lt_of_le hk HB0.out.size)⟩⟩
end Go.Proofs.YtgamgomepdfgdaaGreat

namespace Go.Proofs.YtgamgomepdfgdaaGreat
open Go.RowKit

theorem Bx.later {w w' : World} {b : Nat} {t : TypeId} {cs : Array Value} (h : Bx w b t cs) (hb : Below w.heap.size w w') : Bx w' b t cs := (hb.block b h.lt).trans h
theorem Bx.kept {w w' : World} {b : Nat} {t : TypeId} {cs : Array Value} (h : Bx w b t cs) {S : Nat → Prop} (hO : Only w w' S) (hn : ¬ S b) : Bx w' b t cs := (hO.block b h.lt hn).trans h
theorem below_trans {w w1 w2 : World} (h : Below w.heap.size w w1) (h2 : Below w1.heap.size w1 w2) : Below w.heap.size w w2 := h.trans (h2.mono h.size)

/-- a record is asked for and made: what holds behind that -/
theorem up_later {w w' : World} {Y : Nat → Prop} {xb mb rb yb : Nat} {c : Cfg} {s : Qs} {L : List UInt8} {br : Bool} {keep : Int} {lv : Value} (h : UpIs w Y xb mb rb yb c s L br keep lv) (hb : Below w.heap.size w w') : UpIs w' Y xb mb rb yb c s L br keep lv :=
  ⟨h.box.later hb, h.run.later hb, h.log.later hb, h.yard.later hb, h.nx, h.nr, h.nl, fun k hk => Nat.lt_of_lt_of_le (h.yl k hk) hb.size⟩
theorem up_apart {w : World} {Y : Nat → Prop} {xb mb rb yb : Nat} {c : Cfg} {s : Qs} {L : List UInt8} {br : Bool} {keep : Int} {lv : Value} (h : UpIs w Y xb mb rb yb c s L br keep lv) : rb ≠ xb ∧ (∀ g, lv.ownBlock = some g → g ≠ xb ∧ g ≠ rb) :=
  ⟨h.run.ne h.box (by decide), fun g hg => ⟨fun e => h.log.ne h.box (by decide) (by rw [hg, e]), fun e => h.log.ne h.run (by decide) (by rw [hg, e])⟩⟩

theorem only_cell {w w' : World} {S : Nat → Prop} (h : Only w w' S) {b o : Nat} {v : Value} (hn : ¬ S b) (hc : w.cell? ⟨b, o, none⟩ = some v) : w'.cell? ⟨b, o, none⟩ = some v :=
  (World.cell?_of_block (w := w) (h.block b (jcell_lt hc) hn)).trans hc
/-- the blocks of S, and those that were laid meanwhile -/
def Upto (S : Nat → Prop) (w w' : World) : Nat → Prop := fun k => S k ∨ (w.heap.size ≤ k ∧ k < w'.heap.size)
theorem YardAt.tight {w : World} {S : Nat → Prop} {yb mb : Nat} {c : Cfg} {s : Qs} (h : YardAt w S yb mb c s) : YardAt w (fun k => S k ∧ k < w.heap.size) yb mb c s := by
  obtain ⟨q, sb, qv, ov, h⟩ := h
  exact ⟨q, sb, qv, ov, h.qs, h.box, h.row, h.eds, h.sub, h.ne, h.outs, ⟨h.fy, h.box.lt⟩, ⟨h.fs, h.sub.lt⟩, fun g hg => ⟨h.fq g hg, h.row.lt hg⟩, fun g hg => ⟨h.fo g hg, h.outs.lt hg⟩, fun x hx g hg => ⟨h.fe x hx g hg, (h.eds x hx).lt hg⟩⟩
/-- behind an act that was done -/
structure Acted (w w' : World) (Y : Nat → Prop) (xb mb rb yb : Nat) (c : Cfg) (s : Qs) (L : List UInt8) (keep : Int) (lv : Value) : Prop where
  up : ∃ Y' lv', UpIs w' Y' xb mb rb yb c s L false keep lv' ∧ (∀ k, Y' k → Y k ∨ w.heap.size ≤ k) ∧ (lv'.ownBlock = lv.ownBlock ∨ ∃ g, lv'.ownBlock = some g ∧ w.heap.size ≤ g)
  only : Only w w' (fun k => Y k ∨ k = xb ∨ lv.ownBlock = some k)

set_option maxRecDepth 100000 in
set_option maxHeartbeats 4000000 in
/-- what can be done is written, and done -/
theorem mAct_ok (Y : Nat → Prop) (xb mb rb yb : Nat) (c : Cfg) (s s' : Qs) (L l : List UInt8) (keep : Int) (lv : Value) (kind lane id num : Int) (pass : Bool) (ea : Option Addr) (en ec : Nat) (w : World) (hU : UpIs w Y xb mb rb yb c s L false keep lv) (hL : L.length < 1099511627776) (hl : l.length < 1099511627776)
    (hC : ∀ W, Below w.heap.size w W → Calls Tryz.prog 110 #[.pointer (some ⟨yb, 0, none⟩), .agg #[.int .i64 kind, .int .i64 lane, .slice ea en ec, .int .i64 id, .bool pass, .int .i64 num]] W fun e W' => e = .returned (.int .i64 0) ∧ Below W.heap.size W W')
    (hY : ∀ W, Below w.heap.size w W → Calls Tryz.prog 112 #[.agg #[.int .i64 kind, .int .i64 lane, .slice ea en ec, .int .i64 id, .bool pass, .int .i64 num]] W fun e W' => ∃ v', e = .returned v' ∧ Fresh W W' v' l)
    (hD : ∀ W, Only w W (fun k => k = xb ∨ lv.ownBlock = some k) → YardAt W Y yb mb c s → Calls Tryz.prog 76 #[.pointer (some ⟨yb, 0, none⟩), .agg #[.int .i64 kind, .int .i64 lane, .slice ea en ec, .int .i64 id, .bool pass, .int .i64 num]] W fun e W' => e = .returned (.tuple #[]) ∧ YardAt W' (Plus Y W) yb mb c s' ∧ Only W W' Y) :
    Calls Tryz.prog 73 #[.pointer (some ⟨xb, 0, none⟩), .agg #[.int .i64 kind, .int .i64 lane, .slice ea en ec, .int .i64 id, .bool pass, .int .i64 num]] w fun e w' => e = .returned (.int .i64 0) ∧ Acted w w' Y xb mb rb yb c s' (L ++ l) keep lv := by
  have hC1 := hC (w.alloc (.cells #[.int .i64 kind, .int .i64 lane, .slice ea en ec, .int .i64 id, .bool pass, .int .i64 num] 140)).drew (below_new_drew _ _)
  have X0 := Bx.new w #[.int .i64 kind, .int .i64 lane, .slice ea en ec, .int .i64 id, .bool pass, .int .i64 num] 140
  have HB0 : Hid (Below w.heap.size w (w.alloc (.cells #[.int .i64 kind, .int .i64 lane, .slice ea en ec, .int .i64 id, .bool pass, .int .i64 num] 140))) := below_new _ _
  have HU : Hid (UpIs w Y xb mb rb yb c s L false keep lv) := hU
  have hU0 : UpIs (w.alloc (.cells #[.int .i64 kind, .int .i64 lane, .slice ea en ec, .int .i64 id, .bool pass, .int .i64 num] 140)) Y xb mb rb yb c s L false keep lv := up_later hU (below_new _ _)
  have hsz : (w.alloc (.cells #[.int .i64 kind, .int .i64 lane, .slice ea en ec, .int .i64 id, .bool pass, .int .i64 num] 140)).heap.size = w.heap.size + 1 := by simp
  have hYW : Hid (∀ W, Below w.heap.size w W → Calls Tryz.prog 112 #[.agg #[.int .i64 kind, .int .i64 lane, .slice ea en ec, .int .i64 id, .bool pass, .int .i64 num]] W fun e W' => ∃ v', e = .returned v' ∧ Fresh W W' v' l) := hY
  have hDW : Hid (∀ W, Only w W (fun k => k = xb ∨ lv.ownBlock = some k) → YardAt W Y yb mb c s → Calls Tryz.prog 76 #[.pointer (some ⟨yb, 0, none⟩), .agg #[.int .i64 kind, .int .i64 lane, .slice ea en ec, .int .i64 id, .bool pass, .int .i64 num]] W fun e W' => e = .returned (.tuple #[]) ∧ YardAt W' (Plus Y W) yb mb c s' ∧ Only W W' Y) := hD
  clear hC hU hY hD
  go_enter Tryz.func73, Tryz.ntmps73
  go_upto_region 1 with fail
  generalize w.alloc (.cells #[.int .i64 kind, .int .i64 lane, .slice ea en ec, .int .i64 id, .bool pass, .int .i64 num] 140) = w0 at *
  have c9 : w0.cell? ⟨xb, 9, none⟩ = some (.pointer (some ⟨rb, 0, none⟩)) := hU0.box.cell (i := 9) rfl
  have r0 : w0.cell? ⟨rb, 0, none⟩ = some (.pointer (some ⟨yb, 0, none⟩)) := hU0.run.cell (i := 0) rfl
  have x0 : w0.cell? ⟨w.heap.size, 0, none⟩ = some (.int .i64 kind) := X0.cell (i := 0) rfl
  have x1 : w0.cell? ⟨w.heap.size, 1, none⟩ = some (.int .i64 lane) := X0.cell (i := 1) rfl
  have x2 : w0.cell? ⟨w.heap.size, 2, none⟩ = some (.slice ea en ec) := X0.cell (i := 2) rfl
  have x3 : w0.cell? ⟨w.heap.size, 3, none⟩ = some (.int .i64 id) := X0.cell (i := 3) rfl
  have x4 : w0.cell? ⟨w.heap.size, 4, none⟩ = some (.bool pass) := X0.cell (i := 4) rfl
  have x5 : w0.cell? ⟨w.heap.size, 5, none⟩ = some (.int .i64 num) := X0.cell (i := 5) rfl
  have HX0 : Hid (Bx w0 w.heap.size 140 #[.int .i64 kind, .int .i64 lane, .slice ea en ec, .int .i64 id, .bool pass, .int .i64 num]) := X0
  have HU0 : Hid (UpIs w0 Y xb mb rb yb c s L false keep lv) := hU0
  clear X0 hU0
  go_upto_region 3 with fail
  go_cut [5] from 6 (fun t wz => t = .int .i64 0 ∧ Below w0.heap.size w0 wz)
  case first =>
    go_region_held_law (fun w' => w'.cell? ⟨xb, 9, none⟩ = some (.pointer (some ⟨rb, 0, none⟩)) ∧ w'.cell? ⟨rb, 0, none⟩ = some (.pointer (some ⟨yb, 0, none⟩)) ∧ w'.cell? ⟨w.heap.size, 0, none⟩ = some (.int .i64 kind) ∧ w'.cell? ⟨w.heap.size, 1, none⟩ = some (.int .i64 lane) ∧ w'.cell? ⟨w.heap.size, 2, none⟩ = some (.slice ea en ec) ∧ w'.cell? ⟨w.heap.size, 3, none⟩ = some (.int .i64 id) ∧ w'.cell? ⟨w.heap.size, 4, none⟩ = some (.bool pass) ∧ w'.cell? ⟨w.heap.size, 5, none⟩ = some (.int .i64 num)) (go_keep) ((go_at_call 110; refine hC1.mono ?_; rintro e w2 ⟨rfl, hb2⟩; have c92 := jcell_after hb2 c9; have r02 := jcell_after hb2 r0; have x02 := jcell_after hb2 x0; have x12 := jcell_after hb2 x1; have x22 := jcell_after hb2 x2; have x32 := jcell_after hb2 x3; have x42 := jcell_after hb2 x4; have x52 := jcell_after hb2 x5; have HB2 : Hid (Below w0.drew.heap.size w0.drew w2) := hb2; clear hb2))
    all_goals
      go_wp2_with fail
      go_meet
      case rel => exact ⟨rfl, HB2.out.os, HB2.out.tape, HB2.out.output, HB2.out.size, HB2.out.block⟩
  case rest =>
    obtain ⟨rfl, hbz⟩ := hcut
    rename World => wz
    have HBZ : Hid (Below w.heap.size w wz) := below_trans HB0.out hbz
    have z0 := jcell_after hbz x0
    have z1 := jcell_after hbz x1
    have z2 := jcell_after hbz x2
    have z3 := jcell_after hbz x3
    have z4 := jcell_after hbz x4
    have z5 := jcell_after hbz x5
    have hYz := hYW.out wz HBZ.out
    have HUz : Hid (UpIs wz Y xb mb rb yb c s L false keep lv) := up_later HU.out HBZ.out
    have HXz : Hid (Bx wz w.heap.size 140 #[.int .i64 kind, .int .i64 lane, .slice ea en ec, .int .i64 id, .bool pass, .int .i64 num]) := HX0.out.later hbz
    clear c9 r0 x0 x1 x2 x3 x4 x5 hbz hC1 HX0 HU0 HB0 hYW hsz
    go_upto_region 7 with fail
    go_fit hYz
    rintro e w3 ⟨v3, rfl, hF⟩
    obtain ⟨va, vc, rfl⟩ := row_form hF.1
    have hUz3 := up_later HUz.out hF.2
    have hWr := mWrite xb mb rb yb c keep lv (.slice va l.length vc) L l w3 hUz3.box hUz3.run hUz3.log (Sl.of_row hF.1) hL hl
    have HB3 : Hid (Below w.heap.size w w3) := below_trans HBZ.out hF.2
    have HX3 : Hid (Bx w3 w.heap.size 140 #[.int .i64 kind, .int .i64 lane, .slice ea en ec, .int .i64 id, .bool pass, .int .i64 num]) := HXz.out.later hF.2
    have HU3 : Hid (UpIs w3 Y xb mb rb yb c s L false keep lv) := hUz3
    clear hF hUz3 hYz HUz HXz z0 z1 z2 z3 z4 z5
    go_upto_region 7 with fail
    go_fit hWr
    rintro e w4 ⟨rfl, lv', hW4⟩
    have hxw : xb < w.heap.size := HU.out.box.lt
    have hO4 : Only w w4 (fun k => k = xb ∨ lv.ownBlock = some k) := (Only.of_below HB3.out).trans hW4.only fun k hk => .inl hk
    have hX4 : Bx w4 w.heap.size 140 #[.int .i64 kind, .int .i64 lane, .slice ea en ec, .int .i64 id, .bool pass, .int .i64 num] := HX3.out.kept hW4.only (fun e => by
      rcases e with e | e
      · omega
      · have := HU.out.log.lt e; omega)
    have hap := up_apart HU.out
    have hR4 : Bx w4 rb 137 (runCells yb false keep) := HU3.out.run.kept hW4.only (fun e => by
      rcases e with e | e
      · exact hap.1 e
      · exact (hap.2 rb e).2 rfl)
    have hY4 : YardAt w4 Y yb mb c s := HU.out.yard.kept fun k hk hS => hO4.block k hk (fun e => by
      rcases e with e | e
      · subst e; exact HU.out.nx hS
      · exact HU.out.nl k e hS)
    have hD4 := hDW.out w4.drew ⟨hO4.os, hO4.tape, hO4.output, hO4.size, hO4.block⟩ (hY4.later ⟨rfl, rfl, rfl, Nat.le_refl _, fun _ _ => rfl⟩)
    have c9 : w4.cell? ⟨xb, 9, none⟩ = some (.pointer (some ⟨rb, 0, none⟩)) := hW4.box.cell (i := 9) rfl
    have r0 : w4.cell? ⟨rb, 0, none⟩ = some (.pointer (some ⟨yb, 0, none⟩)) := hR4.cell (i := 0) rfl
    have yx0 : w4.cell? ⟨w.heap.size, 0, none⟩ = some (.int .i64 kind) := hX4.cell (i := 0) rfl
    have yx1 : w4.cell? ⟨w.heap.size, 1, none⟩ = some (.int .i64 lane) := hX4.cell (i := 1) rfl
    have yx2 : w4.cell? ⟨w.heap.size, 2, none⟩ = some (.slice ea en ec) := hX4.cell (i := 2) rfl
    have yx3 : w4.cell? ⟨w.heap.size, 3, none⟩ = some (.int .i64 id) := hX4.cell (i := 3) rfl
    have yx4 : w4.cell? ⟨w.heap.size, 4, none⟩ = some (.bool pass) := hX4.cell (i := 4) rfl
    have yx5 : w4.cell? ⟨w.heap.size, 5, none⟩ = some (.int .i64 num) := hX4.cell (i := 5) rfl
    have HW4 : Hid (Wrote w3 w4 xb mb c lv (.pointer (some ⟨rb, 0, none⟩)) (L ++ l) lv') := hW4
    have HO4 : Hid (Only w w4 (fun k => k = xb ∨ lv.ownBlock = some k)) := hO4
    have HR4 : Hid (Bx w4 rb 137 (runCells yb false keep)) := hR4
    have hxr : w.heap.size ≠ xb := by omega
    have HX4 : Hid (Bx w4 w.heap.size 140 #[.int .i64 kind, .int .i64 lane, .slice ea en ec, .int .i64 id, .bool pass, .int .i64 num]) := hX4
    have HYb : Hid (∀ k, Y k → k ≠ xb ∧ k ≠ rb ∧ lv.ownBlock ≠ some k) := fun k hk => ⟨fun e => HU.out.nx (e ▸ hk), fun e => HU.out.nr (e ▸ hk), fun e => HU.out.nl k e hk⟩
    clear hW4 hO4 hX4 hR4 hY4 hWr hap HX3 HU3 hDW HBZ
    have nY : Hid (¬ Y w.heap.size) := fun h => Nat.lt_irrefl _ (HU.out.yl _ h)
    have nX : Hid (¬ Y xb) := HU.out.nx
    have nR : Hid (¬ Y rb) := HU.out.nr
    go_upto_region 9 with fail
    go_region_held_law (fun w' => w'.cell? ⟨xb, 9, none⟩ = some (.pointer (some ⟨rb, 0, none⟩)) ∧ w'.cell? ⟨rb, 0, none⟩ = some (.pointer (some ⟨yb, 0, none⟩)) ∧ w'.cell? ⟨w.heap.size, 0, none⟩ = some (.int .i64 kind) ∧ w'.cell? ⟨w.heap.size, 1, none⟩ = some (.int .i64 lane) ∧ w'.cell? ⟨w.heap.size, 2, none⟩ = some (.slice ea en ec) ∧ w'.cell? ⟨w.heap.size, 3, none⟩ = some (.int .i64 id) ∧ w'.cell? ⟨w.heap.size, 4, none⟩ = some (.bool pass) ∧ w'.cell? ⟨w.heap.size, 5, none⟩ = some (.int .i64 num)) (go_keep) ((go_at_call 76; refine hD4.mono ?_; rintro e w5 ⟨rfl, hY5, hO5⟩; have c95 := only_cell hO5 nX.out c9; have r05 := only_cell hO5 nR.out r0; have v0 := only_cell hO5 nY.out yx0; have v1 := only_cell hO5 nY.out yx1; have v2 := only_cell hO5 nY.out yx2; have v3 := only_cell hO5 nY.out yx3; have v4 := only_cell hO5 nY.out yx4; have v5 := only_cell hO5 nY.out yx5; have HY5 : Hid (YardAt w5 (Plus Y w4.drew) yb mb c s') := hY5; have HO5 : Hid (Only w4.drew w5 Y) := hO5; clear hY5 hO5))
    all_goals
      go_wp2_with fail
      go_ret
      have hU := HU.out
      have h45 : w4.heap.size ≤ w5.heap.size := HO5.out.size
      have h04 : w.heap.size ≤ w4.heap.size := HO4.out.size
      have hyt : YardAt w5 (Upto Y w4 w5) yb mb c s' := (HY5.out.tight).mono fun k hk => by
        rcases hk with ⟨hk | hk, hlt⟩
        · exact .inl hk
        · exact .inr ⟨hk, hlt⟩
      have O45 : Only w4 w5 Y := HO5.out.drew
      have nl' : ∀ g, lv'.ownBlock = some g → ¬ Y g := fun g hg => by
        rcases HW4.out.blk with e | ⟨g', e, hg'⟩
        · rw [e] at hg; exact hU.nl g hg
        · rw [e] at hg; cases hg
          intro h; have := hU.yl _ h; have := HB3.out.size; omega
      have lf : lv'.ownBlock = lv.ownBlock ∨ ∃ g, lv'.ownBlock = some g ∧ w3.heap.size ≤ g ∧ g < w4.heap.size := HW4.out.blk.imp (fun h => h) (fun ⟨g, h1, h2⟩ => ⟨g, h1, h2, HW4.out.log.lt h1⟩)
      have hrl : rb < w.heap.size := hU.run.lt
      have up4 : ∀ k, k < w4.heap.size → ¬ Y k → ¬ Upto Y w4 w5 k := fun k hk h1 h2 => by
        rcases h2 with h2 | h2
        · exact h1 h2
        · omega
      refine ⟨rfl, ⟨Upto Y w4 w5, lv', ⟨HW4.out.box.kept O45 nX.out, HR4.out.kept O45 nR.out, HW4.out.log.kept fun g hg => O45.block g (HW4.out.log.lt hg) (nl' g hg), hyt, ?_, ?_, ?_, ?_⟩, ?_, ?_⟩, ?_⟩
      · exact up4 xb (by omega) nX.out
      · exact up4 rb (by omega) nR.out
      · exact fun g hg => up4 g (HW4.out.log.lt hg) (nl' g hg)
      · rintro k (hk | hk)
        · have := hU.yl k hk; omega
        · exact hk.2
      · rintro k (hk | hk)
        · exact .inl hk
        · exact .inr (by omega)
      · exact lf.imp (fun h => h) (fun ⟨g, h1, h2, _⟩ => ⟨g, h1, Nat.le_trans HB3.out.size h2⟩)
      · exact (HO4.out.mono fun k hk => .inr hk).trans O45 fun k hk => .inl (.inl hk)
end Go.Proofs.YtgamgomepdfgdaaGreat
