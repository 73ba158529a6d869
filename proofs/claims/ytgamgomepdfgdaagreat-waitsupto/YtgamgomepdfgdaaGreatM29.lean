import Derived.Test.YtgamgomepdfgdaaGreatM28
namespace Go.Proofs.YtgamgomepdfgdaaGreat
open Go.RowKit

theorem bs_take (l : List UInt8) (n : Nat) : (bs l).extract 0 n = bs (l.take n) := by
  apply ByteArray.ext
  rw [ByteArray.data_extract]
  simp [bs]

/-- what a breaking machine has noted -/
def RBroke (w w' : World) (yb : Nat) (c : Cfg) (fv : Value) (lr : List Lr) (torn : ByteArray) (keep : Int) (lv : Value) (r : Rc) (ev : Value) (k : Nat) : Prop :=
  (k = r.bytes.length ∧ Noted w w' yb c fv (lr ++ [((r, ev) : Lr)]) torn true false keep lv) ∨ (k < r.bytes.length ∧ Noted w w' yb c fv lr (if k = 0 then torn else bs (r.bytes.take k)) true false keep lv)

set_option maxRecDepth 100000 in
set_option maxHeartbeats 4000000 in
/-- the machine breaks in its writing: in part, or behind the whole record -/
theorem rWriteBr (yb : Nat) (c : Cfg) (fv lv : Value) (lr : List Lr) (torn : ByteArray) (down : Bool) (keep : Int) (r : Rc) (ea : Option Addr) (en ec : Nat) (w : World) (hR : RefIs w yb c fv lr torn down true keep lv) (hn : lr.length < 1048576) (hr : r.ok) (hE : EdsIn w r ea en) (k : Nat) (hk : (k : Int) = max 0 (min keep r.bytes.length)) :
    Calls Tryz.prog 91 #[.pointer (some ⟨yb, 0, none⟩), .agg #[.int .i64 r.kind, .int .i64 r.lane, .int .i64 r.num, .bool r.pass, .slice ea en ec]] w fun e w' => e = .returned (.int .i64 8) ∧ RBroke w w' yb c fv lr torn keep lv r (.slice ea en ec) k := by
  obtain ⟨i0, hi0, hz0, hz1, hz2⟩ := info_parts info_lr
  obtain ⟨la, lc, rfl⟩ := hR.row.form
  have hne := hR.row.ne hR.box (by decide)
  have q1 : Hid (lr.length + 1 ≤ maxLen) := by show _ ≤ _; unfold maxLen; omega
  have q2 : Hid ((lr.length + 1) * 56 ≤ 140737488355328) := Nat.le_trans (Nat.mul_le_mul_right 56 (show lr.length + 1 ≤ 1048576 by omega)) (by decide)
  have h0 := hR.later (below_new w (.cells #[.int .i64 r.kind, .int .i64 r.lane, .int .i64 r.num, .bool r.pass, .slice ea en ec] 168))
  have X0 := Bx.new w #[.int .i64 r.kind, .int .i64 r.lane, .int .i64 r.num, .bool r.pass, .slice ea en ec] 168
  have HB0 : Hid (Below w.heap.size w (w.alloc (.cells #[.int .i64 r.kind, .int .i64 r.lane, .int .i64 r.num, .bool r.pass, .slice ea en ec] 168))) := below_new _ _
  have hE0 : EdsIn (w.alloc (.cells #[.int .i64 r.kind, .int .i64 r.lane, .int .i64 r.num, .bool r.pass, .slice ea en ec] 168)) r ea en := fun h1 => by
    obtain ⟨b, off, e1, e2, e3, e4, e5, e6⟩ := hE h1
    exact ⟨b, off, e1, e2, by simp; omega, fun i hi => jcell_after (below_new _ _) (e4 i hi), fun i hi => jcell_after (below_new _ _) (e5 i hi), fun i hi => jcell_after (below_new _ _) (e6 i hi)⟩
  have hBy := ref_bytes r hr ea en ec _ hE0
  unfold recV at hBy
  have hyl := hR.box.lt
  have hbl : r.bytes.length < 2000 := by
    have := Rc.body_lt hr
    rw [Rc.bytes_eq, recB_len']; omega
  have HK : Hid ((k : Int) = max 0 (min keep r.bytes.length)) := hk
  clear hR hE hE0 hk
  go_enter Tryz.func91, Tryz.ntmps91
  go_upto_region 1 with fail
  generalize w.alloc (.cells #[.int .i64 r.kind, .int .i64 r.lane, .int .i64 r.num, .bool r.pass, .slice ea en ec] 168) = w0 at *
  have c11 : w0.cell? ⟨yb, 11, none⟩ = some (.bool true) := h0.box.cell (i := 11) rfl
  have x0 : w0.cell? ⟨w.heap.size, 0, none⟩ = some (.int .i64 r.kind) := X0.cell (i := 0) rfl
  have x1 : w0.cell? ⟨w.heap.size, 1, none⟩ = some (.int .i64 r.lane) := X0.cell (i := 1) rfl
  have x2 : w0.cell? ⟨w.heap.size, 2, none⟩ = some (.int .i64 r.num) := X0.cell (i := 2) rfl
  have x3 : w0.cell? ⟨w.heap.size, 3, none⟩ = some (.bool r.pass) := X0.cell (i := 3) rfl
  have x4 : w0.cell? ⟨w.heap.size, 4, none⟩ = some (.slice ea en ec) := X0.cell (i := 4) rfl
  have H0 : Hid (RefIs w0 yb c fv lr torn down true keep (.slice la lr.length lc)) := h0
  have HX0 : Hid (Bx w0 w.heap.size 168 #[.int .i64 r.kind, .int .i64 r.lane, .int .i64 r.num, .bool r.pass, .slice ea en ec]) := X0
  have hs0 := HB0.out.size
  clear X0 h0
  go_upto_region 5 with fail
  go_fit hBy
  rintro e w1 ⟨rfl, hb1⟩
  have h1 := H0.out.later hb1
  have hX1 : Bx w1 w.heap.size 168 #[.int .i64 r.kind, .int .i64 r.lane, .int .i64 r.num, .bool r.pass, .slice ea en ec] := (hb1.block _ HX0.out.lt).trans HX0.out
  have HB1 : Hid (Below w.heap.size w w1) := HB0.out.trans (hb1.mono hs0)
  have f10 := h1.box.fr 10
  have f11 := h1.box.fr 11
  have c10 : w1.cell? ⟨yb, 10, none⟩ = some (.bool down) := h1.box.cell (i := 10) rfl
  have c11' : w1.cell? ⟨yb, 11, none⟩ = some (.bool true) := h1.box.cell (i := 11) rfl
  have H1 : Hid (RefIs w1 yb c fv lr torn down true keep (.slice la lr.length lc)) := h1
  have HX1 : Hid (Bx w1 w.heap.size 168 #[.int .i64 r.kind, .int .i64 r.lane, .int .i64 r.num, .bool r.pass, .slice ea en ec]) := hX1
  clear h1 hX1 hb1 hBy H0 HX0 x0 x1 x2 x3 x4 c11
  go_upto_region 7 with fail
  have hB2 : Bx ((w1.setCell ⟨yb, 10, none⟩ (.bool true)).setCell ⟨yb, 11, none⟩ (.bool false)) yb 151 (refCells c fv (.slice la lr.length lc) torn true false keep) := (H1.out.box.set 10 (.bool true)).set 11 (.bool false)
  have hG2 : w1.grownBy ((w1.setCell ⟨yb, 10, none⟩ (.bool true)).setCell ⟨yb, 11, none⟩ (.bool false)) (some yb) := (grown_set _ _ _ _).trans (grown_set _ _ _ _)
  have H2 : Hid (RefIs ((w1.setCell ⟨yb, 10, none⟩ (.bool true)).setCell ⟨yb, 11, none⟩ (.bool false)) yb c fv lr torn true false keep (.slice la lr.length lc)) := ⟨hB2, H1.out.row.grown hG2 (fun g hg e => hne (by rw [hg]; exact e.symm))⟩
  have hX2 : Bx ((w1.setCell ⟨yb, 10, none⟩ (.bool true)).setCell ⟨yb, 11, none⟩ (.bool false)) w.heap.size 168 #[.int .i64 r.kind, .int .i64 r.lane, .int .i64 r.num, .bool r.pass, .slice ea en ec] := HX1.out.grown hG2 (by simp; omega)
  have O2 : Hid (Only w ((w1.setCell ⟨yb, 10, none⟩ (.bool true)).setCell ⟨yb, 11, none⟩ (.bool false)) (fun k => k = yb ∨ (Value.slice la lr.length lc).ownBlock = some k)) := ((Only.of_below HB1.out).set (.inl (.inl rfl))).set (.inl (.inl rfl))
  generalize (w1.setCell ⟨yb, 10, none⟩ (.bool true)).setCell ⟨yb, 11, none⟩ (.bool false) = w2 at *
  have d12 : w2.cell? ⟨yb, 12, none⟩ = some (.int .i64 keep) := hB2.cell (i := 12) rfl
  have d9 : w2.cell? ⟨yb, 9, none⟩ = some (.string torn) := hB2.cell (i := 9) rfl
  have f9 := hB2.fr 9
  have d8 : w2.cell? ⟨yb, 8, none⟩ = some (.slice la lr.length lc) := hB2.cell (i := 8) rfl
  have d8o : ∀ o, (w2.alloc o).cell? ⟨yb, 8, none⟩ = some (.slice la lr.length lc) := fun o => (hB2.mk o).cell (i := 8) rfl
  have y0 : w2.cell? ⟨w.heap.size, 0, none⟩ = some (.int .i64 r.kind) := hX2.cell (i := 0) rfl
  have y1 : w2.cell? ⟨w.heap.size, 1, none⟩ = some (.int .i64 r.lane) := hX2.cell (i := 1) rfl
  have y2 : w2.cell? ⟨w.heap.size, 2, none⟩ = some (.int .i64 r.num) := hX2.cell (i := 2) rfl
  have y3 : w2.cell? ⟨w.heap.size, 3, none⟩ = some (.bool r.pass) := hX2.cell (i := 3) rfl
  have y4 : w2.cell? ⟨w.heap.size, 4, none⟩ = some (.slice ea en ec) := hX2.cell (i := 4) rfl
  have hs2 : Hid (w.heap.size ≤ w2.heap.size) := O2.out.size
  have hy2 := hB2.lt
  have hsz : (bs r.bytes).size = r.bytes.length := bs_size _
  clear hB2 hG2 hX2 H1 HX1 f10 f11 c10 c11'
  by_cases g1 : (r.bytes.length : Int) ≤ keep
  · have hkl : k = r.bytes.length := by have := HK.out; omega
    subst hkl
    have g1' : ((bs r.bytes).size : Int) ≤ keep := by rw [hsz]; exact g1
    go_upto_region 8 with fail
    go_region_law ((refine step_append_sl rfl _ _ 149 rfl _ i0 _ 5 56 Tryz.underlying149 hi0 hz0 hz1 hz2 rfl (by decide) (.slice la lr.length lc) _ _ rfl (Sl.mk H2.out.row _) ⟨w2.heap.size, 0, none⟩ 1 1 [.int .i64 r.kind, .int .i64 r.lane, .int .i64 r.num, .bool r.pass, .slice ea en ec] rfl rfl (cells_new w2 _ _) (by simp [Value.oneCell']) q1.out q2.out ?_; intro v3 w3 hown3 hg3 hloc3; obtain ⟨a3, c3, rfl⟩ := hown3.form; have HB3 : Hid (Bx w3 yb 151 (refCells c fv (.slice la lr.length lc) torn true false keep)) := Bx.grown (H2.out.box.mkd _) hg3 (fun e => hne e.symm); have e8 : w3.cell? ⟨yb, 8, none⟩ = some (.slice la lr.length lc) := HB3.out.cell (i := 8) rfl; have f3 := HB3.out.fr 8; have O3 : Hid (Sl w3 168 5 (.slice a3 (lr.length + 1) c3) (lr.length + 1) (lr.flatMap cL ++ [.int .i64 r.kind, .int .i64 r.lane, .int .i64 r.num, .bool r.pass, .slice ea en ec])) := hown3; have G3 : Hid (w2.grownBy w3 (Value.slice la lr.length lc).ownBlock) := (World.grownBy_alloc w2 _ _).trans ⟨hg3.os, hg3.tape, hg3.output, hg3.size, hg3.block⟩; have L3 : Hid ((Value.slice a3 (lr.length + 1) c3).ownBlock = (Value.slice la lr.length lc).ownBlock ∨ ∃ g, (Value.slice a3 (lr.length + 1) c3).ownBlock = some g ∧ w2.heap.size ≤ g) := hloc3.imp (fun h => h) (fun ⟨g, h, hle⟩ => ⟨g, h, Nat.le_trans (le_mkd w2 _) hle⟩); clear hown3 hg3 hloc3))
    all_goals
      go_wp2_with fail
      go_ret
      have nnb : (Value.slice a3 (lr.length + 1) c3).ownBlock ≠ some yb := by
        rcases L3.out with e | ⟨g, e, hg⟩
        · rw [e]; exact hne
        · rw [e]; intro x; cases x; omega
      refine ⟨rfl, .inl ⟨rfl, ⟨.slice a3 (lr.length + 1) c3, ⟨HB3.out.set 8 _, ?_⟩, L3.out.imp (fun h => h) (fun ⟨g, h1, h2⟩ => ⟨g, h1, Nat.le_trans hs2.out h2⟩)⟩, ?_⟩⟩
      · rw [List.length_append, List.flatMap_append]
        have : [((r, .slice ea en ec) : Lr)].flatMap cL = cL (r, .slice ea en ec) := by simp
        rw [this]
        exact Sl.grown O3.out (grown_set _ _ _ _) (fun g hg e => nnb (by rw [hg]; exact e.symm))
      · exact (O2.out.trans (Only.of_grown G3.out (S := fun k => k = yb ∨ (Value.slice la lr.length lc).ownBlock = some k) fun k h => .inr h) fun k h => .inl h).set (.inl (.inl rfl))
  · by_cases g2 : 0 < keep
    · obtain ⟨n, rfl⟩ : ∃ n : Nat, keep = n := ⟨keep.toNat, by omega⟩
      obtain rfl : n = k := by have := HK.out; omega
      have hlt : n < r.bytes.length := by omega
      have hn0 : ¬ n = 0 := by omega
      have g1' : ¬ (((bs r.bytes).size : Int) ≤ (n : Int)) := by rw [hsz]; exact g1
      have hsl : n ≤ (bs r.bytes).size := by rw [hsz]; omega
      have HT : Hid ((bs r.bytes).extract 0 n = bs (r.bytes.take n)) := bs_take _ _
      go_wp2_with fail
      go_ret
      refine ⟨rfl, .inr ⟨hlt, ⟨.slice la lr.length lc, ⟨?_, ?_⟩, .inl rfl⟩, O2.out.set (.inl (.inl rfl))⟩⟩
      · rw [if_neg hn0, ← HT.out]; exact H2.out.box.set 9 _
      · exact H2.out.row.grown (grown_set _ _ _ _) (fun g hg e => hne (by rw [hg]; exact e.symm))
    · obtain rfl : k = 0 := by have := HK.out; omega
      have hpos : 0 < r.bytes.length := by rw [Rc.bytes_eq, recB_len']; omega
      have g1' : ¬ (((bs r.bytes).size : Int) ≤ keep) := by rw [hsz]; exact g1
      go_wp2_with fail
      go_ret
      exact ⟨rfl, .inr ⟨hpos, ⟨_, by rw [if_pos rfl]; exact H2.out, .inl rfl⟩, O2.out⟩⟩
end Go.Proofs.YtgamgomepdfgdaaGreat

namespace Go.Proofs.YtgamgomepdfgdaaGreat
open Go.RowKit

set_option maxRecDepth 100000 in
set_option maxHeartbeats 2000000 in
theorem rBreak_down (yb : Nat) (c : Cfg) (fv lv : Value) (lr : List Lr) (torn : ByteArray) (broken : Bool) (keep k : Int) (w : World) (hR : RefIs w yb c fv lr torn true broken keep lv) :
    Calls Tryz.prog 49 #[.pointer (some ⟨yb, 0, none⟩), .int .i64 k] w fun e w' => e = .returned (.int .i64 8) ∧ w' = w := by
  have c10 : w.cell? ⟨yb, 10, none⟩ = some (.bool true) := hR.box.cell (i := 10) rfl
  clear hR
  go_enter Tryz.func49, Tryz.ntmps49
  go_wp2_with fail
  go_ret
  exact ⟨rfl, rfl⟩

set_option maxRecDepth 100000 in
set_option maxHeartbeats 2000000 in
theorem rBreak_up (yb : Nat) (c : Cfg) (fv lv : Value) (lr : List Lr) (torn : ByteArray) (broken : Bool) (keep k : Int) (w : World) (hR : RefIs w yb c fv lr torn false broken keep lv) :
    Calls Tryz.prog 49 #[.pointer (some ⟨yb, 0, none⟩), .int .i64 k] w fun e w' => e = .returned (.int .i64 0) ∧ RefIs w' yb c fv lr torn false true k lv ∧ Only w w' (fun j => j = yb) := by
  have c10 : w.cell? ⟨yb, 10, none⟩ = some (.bool false) := hR.box.cell (i := 10) rfl
  have c11 : w.cell? ⟨yb, 11, none⟩ = some (.bool broken) := hR.box.cell (i := 11) rfl
  have c12 : w.cell? ⟨yb, 12, none⟩ = some (.int .i64 keep) := hR.box.cell (i := 12) rfl
  have f11 := hR.box.fr 11
  have f12 := hR.box.fr 12
  have HR : Hid (RefIs w yb c fv lr torn false broken keep lv) := hR
  clear hR
  go_enter Tryz.func49, Tryz.ntmps49
  go_wp2_with fail
  go_ret
  have h := HR.out
  exact ⟨rfl, ⟨(h.box.set 11 (.bool true)).set 12 (.int .i64 k), h.row.grown ((grown_set _ _ _ _).trans (grown_set _ _ _ _)) (fun g hg e => (h.row.ne h.box (by decide)) (by rw [hg]; exact e.symm))⟩, ((Only.refl w (fun j => j = yb)).set (.inl rfl)).set (.inl rfl)⟩

set_option maxRecDepth 100000 in
set_option maxHeartbeats 2000000 in
theorem rCrash_down (yb : Nat) (c : Cfg) (fv lv : Value) (lr : List Lr) (torn : ByteArray) (broken : Bool) (keep : Int) (w : World) (hR : RefIs w yb c fv lr torn true broken keep lv) :
    Calls Tryz.prog 51 #[.pointer (some ⟨yb, 0, none⟩)] w fun e w' => e = .returned (.int .i64 8) ∧ w' = w := by
  have c10 : w.cell? ⟨yb, 10, none⟩ = some (.bool true) := hR.box.cell (i := 10) rfl
  clear hR
  go_enter Tryz.func51, Tryz.ntmps51
  go_wp2_with fail
  go_ret
  exact ⟨rfl, rfl⟩

set_option maxRecDepth 100000 in
set_option maxHeartbeats 2000000 in
theorem rCrash_up (yb : Nat) (c : Cfg) (fv lv : Value) (lr : List Lr) (torn : ByteArray) (broken : Bool) (keep : Int) (w : World) (hR : RefIs w yb c fv lr torn false broken keep lv) :
    Calls Tryz.prog 51 #[.pointer (some ⟨yb, 0, none⟩)] w fun e w' => e = .returned (.int .i64 0) ∧ RefIs w' yb c fv lr torn true false keep lv ∧ Only w w' (fun j => j = yb) := by
  have c10 : w.cell? ⟨yb, 10, none⟩ = some (.bool false) := hR.box.cell (i := 10) rfl
  have c11 : w.cell? ⟨yb, 11, none⟩ = some (.bool broken) := hR.box.cell (i := 11) rfl
  have f10 := hR.box.fr 10
  have f11 := hR.box.fr 11
  have HR : Hid (RefIs w yb c fv lr torn false broken keep lv) := hR
  clear hR
  go_enter Tryz.func51, Tryz.ntmps51
  go_wp2_with fail
  go_ret
  have h := HR.out
  exact ⟨rfl, ⟨(h.box.set 10 (.bool true)).set 11 (.bool false), h.row.grown ((grown_set _ _ _ _).trans (grown_set _ _ _ _)) (fun g hg e => (h.row.ne h.box (by decide)) (by rw [hg]; exact e.symm))⟩, ((Only.refl w (fun j => j = yb)).set (.inl rfl)).set (.inl rfl)⟩

set_option maxRecDepth 100000 in
set_option maxHeartbeats 2000000 in
theorem rRecover_up (yb : Nat) (c : Cfg) (fv lv : Value) (lr : List Lr) (torn : ByteArray) (broken : Bool) (keep : Int) (w : World) (hR : RefIs w yb c fv lr torn false broken keep lv) :
    Calls Tryz.prog 52 #[.pointer (some ⟨yb, 0, none⟩)] w fun e w' => e = .returned (.int .i64 9) ∧ w' = w := by
  have c10 : w.cell? ⟨yb, 10, none⟩ = some (.bool false) := hR.box.cell (i := 10) rfl
  clear hR
  go_enter Tryz.func52, Tryz.ntmps52
  go_wp2_with fail
  go_ret
  exact ⟨rfl, rfl⟩

set_option maxRecDepth 100000 in
set_option maxHeartbeats 2000000 in
theorem rPoll_down (yb : Nat) (c : Cfg) (fv lv : Value) (lr : List Lr) (torn : ByteArray) (broken : Bool) (keep : Int) (w : World) (hR : RefIs w yb c fv lr torn true broken keep lv) :
    Calls Tryz.prog 57 #[.pointer (some ⟨yb, 0, none⟩)] w fun e w' => e = .returned (.tuple #[.agg #[.int .i64 0, .int .i64 0, .int .i64 0], .int .i64 8]) ∧ Below w.heap.size w w' := by
  have c10 : w.cell? ⟨yb, 10, none⟩ = some (.bool true) := hR.box.cell (i := 10) rfl
  have hyl := hR.box.lt
  clear hR
  go_enter Tryz.func57, Tryz.ntmps57
  go_wp2_with fail
  refine bodyPost_ret (by simp [results, Tryz.results57, go_sem]; rfl) rfl ⟨by rfl, ?_⟩
  exact below_new _ _
end Go.Proofs.YtgamgomepdfgdaaGreat

namespace Go.Proofs.YtgamgomepdfgdaaGreat
open Go.RowKit

/-- what rNow asks of what was noted -/
structure LrFits (c : Cfg) (lr : List Lr) : Prop where
  ok : ∀ x ∈ lr, LrOk x
  fits : Fits c (lr.map Prod.fst)
  len : lr.length < 1048576

/-- now, of a machine of the document's -/
theorem rNowOf {w : World} {yb : Nat} {c : Cfg} {fv lv : Value} {lr : List Lr} {torn : ByteArray} {down broken : Bool} {keep : Int} (hR : RefIs w yb c fv lr torn down broken keep lv) (hfv : IsSl fv) (hF : LrFits c lr) (hc : c.Ok) :
    Calls Tryz.prog 90 #[.pointer (some ⟨yb, 0, none⟩)] w fun e w' => (∃ nb, e = .returned (.pointer (some ⟨nb, 0, none⟩)) ∧ NowAt w' w.heap.size nb c fv (Qs.all (lr.map Prod.fst))) ∧ Below w.heap.size w w' :=
  rNow yb c fv lv torn down broken keep lr w hR.box hfv hR.row hF.ok hF.fits hc hF.len

set_option maxRecDepth 100000 in
set_option maxHeartbeats 2000000 in
theorem rPoll_none (yb : Nat) (c : Cfg) (fv lv : Value) (lr : List Lr) (torn : ByteArray) (broken : Bool) (keep : Int) (w : World) (hR : RefIs w yb c fv lr torn false broken keep lv) (hfv : IsSl fv) (hF : LrFits c lr) (hc : c.Ok) (ha : (Qs.all (lr.map Prod.fst)).acked = (Qs.all (lr.map Prod.fst)).outs.length) :
    Calls Tryz.prog 57 #[.pointer (some ⟨yb, 0, none⟩)] w fun e w' => e = .returned (.tuple #[.agg #[.int .i64 0, .int .i64 0, .int .i64 0], .int .i64 5]) ∧ Below w.heap.size w w' := by
  have c10 : w.cell? ⟨yb, 10, none⟩ = some (.bool false) := hR.box.cell (i := 10) rfl
  have hN := rNowOf (hR.later (below_new w (.cells #[.int .i64 0, .int .i64 0, .int .i64 0] 99))) hfv hF hc
  have hyl := hR.box.lt
  generalize Qs.all (lr.map Prod.fst) = s at hN ha
  clear hR hF
  go_enter Tryz.func57, Tryz.ntmps57
  go_wp2_with fail
  go_fit hN
  rintro e w1 ⟨⟨nb, rfl, q, idv, qv, ov, h⟩, hb1⟩
  obtain ⟨oa, ocap, rfl⟩ := row_shape3 h.outs
  have n13 : w1.cell? ⟨nb, 13, none⟩ = some (.int .i64 s.acked) := h.box.cell (i := 13) rfl
  have n12 : w1.cell? ⟨nb, 12, none⟩ = some (.slice oa s.outs.length ocap) := h.box.cell (i := 12) rfl
  have d0 : w1.cell? ⟨w.heap.size, 0, none⟩ = some (.int .i64 0) := jcell_after hb1 (by simp)
  have d1 : w1.cell? ⟨w.heap.size, 1, none⟩ = some (.int .i64 0) := jcell_after hb1 (by simp)
  have d2 : w1.cell? ⟨w.heap.size, 2, none⟩ = some (.int .i64 0) := jcell_after hb1 (by simp)
  have B1 : Bx w1 w.heap.size 99 #[.int .i64 0, .int .i64 0, .int .i64 0] := (hb1.block _ (by simp)).trans (Bx.new w #[.int .i64 0, .int .i64 0, .int .i64 0] 99)
  have fr : ∀ i, w1.frozen? ⟨w.heap.size, i, none⟩ = false := fun i => B1.fr i
  have HB1 : Hid (Bx w1 w.heap.size 99 #[.int .i64 0, .int .i64 0, .int .i64 0]) := B1
  have HB : Hid (Below w.heap.size w w1) := (below_new _ _).trans (hb1.mono (by simp))
  rw [ha] at n13
  clear h hb1 hN B1 ha
  go_upto_region 4 with fail
  go_region_held_law (fun w' => w'.cell? ⟨nb, 13, none⟩ = some (.int .i64 s.outs.length) ∧ w'.cell? ⟨nb, 12, none⟩ = some (.slice oa s.outs.length ocap)) (go_keep) (fail)
  all_goals
    go_wp2_with fail
    have BW := ((HB1.out.set 0 (.int .i64 0)).set 1 (.int .i64 0)).set 2 (.int .i64 0)
    simp only [List.setIfInBounds_toArray, List.set_cons_zero, List.set_cons_succ] at BW
    have HW := below_set (below_set (below_set HB.out (Nat.le_refl _) 0 (.int .i64 0)) (Nat.le_refl _) 1 (.int .i64 0)) (Nat.le_refl _) 2 (.int .i64 0)
    generalize ((w1.setCell ⟨w.heap.size, 0, none⟩ (.int .i64 0)).setCell ⟨w.heap.size, 1, none⟩ (.int .i64 0)).setCell ⟨w.heap.size, 2, none⟩ (.int .i64 0) = W at *
    have e0 := BW.cell (i := 0) (v := .int .i64 0) rfl
    have e1 := BW.cell (i := 1) (v := .int .i64 0) rfl
    have e2 := BW.cell (i := 2) (v := .int .i64 0) rfl
    exact bodyPost_ret (v := .tuple #[.agg #[.int .i64 0, .int .i64 0, .int .i64 0], .int .i64 5]) (by simp [results, Tryz.results57, go_sem, e0, e1, e2]) rfl ⟨rfl, HW.os, HW.tape, HW.output, HW.size, HW.block⟩

theorem oc_get : ∀ (l : List (Nat × Nat)) (k i : Nat) (h : i < l.length) (j : Nat), j < 3 → (oc k l)[i * 3 + j]? = [(.int .i64 (((k + i : Nat) : Int) + 1) : Value), .int .i64 l[i].1, .int .i64 l[i].2][j]?
  | [], _, _, h, _, _ => by simp at h
  | o :: l, k, 0, _, j, hj => by
    rw [oc, List.getElem?_append_left (by simp; omega)]; simp
  | o :: l, k, i + 1, h, j, hj => by
    rw [oc, List.getElem?_append_right (by simp; omega)]
    have e : (i + 1) * 3 + j - [(.int .i64 ((k : Int) + 1) : Value), .int .i64 o.1, .int .i64 o.2].length = i * 3 + j := by simp; omega
    rw [e, oc_get l (k + 1) i (by simpa using h) j hj]
    have e2 : k + 1 + i = k + (i + 1) := by omega
    rw [e2]; rfl

set_option maxRecDepth 100000 in
set_option maxHeartbeats 2000000 in
theorem rPoll_some (yb : Nat) (c : Cfg) (fv lv : Value) (lr : List Lr) (torn : ByteArray) (broken : Bool) (keep : Int) (w : World) (hR : RefIs w yb c fv lr torn false broken keep lv) (hfv : IsSl fv) (hF : LrFits c lr) (hc : c.Ok) (s : Qs) (hs : s = Qs.all (lr.map Prod.fst)) (ha : s.acked < s.outs.length) (hol : s.outs.length < 1048576) :
    Calls Tryz.prog 57 #[.pointer (some ⟨yb, 0, none⟩)] w fun e w' => e = .returned (.tuple #[.agg #[.int .i64 ((s.acked : Int) + 1), .int .i64 (s.outs[s.acked]'ha).1, .int .i64 (s.outs[s.acked]'ha).2], .int .i64 0]) ∧ Below w.heap.size w w' := by
  have c10 : w.cell? ⟨yb, 10, none⟩ = some (.bool false) := hR.box.cell (i := 10) rfl
  have hN := rNowOf (hR.later (below_new w (.cells #[.int .i64 0, .int .i64 0, .int .i64 0] 99))) hfv hF hc
  have hyl := hR.box.lt
  rw [← hs] at hN
  obtain ⟨o, ho⟩ : ∃ o, s.outs[s.acked]'ha = o := ⟨_, rfl⟩
  rw [ho]
  have HOo : Hid (s.outs[s.acked]'ha = o) := ho
  clear hR hF hs ho
  go_enter Tryz.func57, Tryz.ntmps57
  go_wp2_with fail
  go_fit hN
  rintro e w1 ⟨⟨nb, rfl, q, idv, qv, ov, h⟩, hb1⟩
  obtain ⟨go, oo, ocap, rfl, _, _⟩ := (Sl.of_row h.outs).addr (by omega)
  have n13 : w1.cell? ⟨nb, 13, none⟩ = some (.int .i64 s.acked) := h.box.cell (i := 13) rfl
  have n12 : w1.cell? ⟨nb, 12, none⟩ = some (.slice (some ⟨go, oo, none⟩) s.outs.length ocap) := h.box.cell (i := 12) rfl
  have kk : ∀ j (u : Value), j < 3 → [(.int .i64 (((0 + s.acked : Nat) : Int) + 1) : Value), .int .i64 o.1, .int .i64 o.2][j]? = some u → w1.cell? ⟨go, oo + s.acked * 3 + j, none⟩ = some u := fun j u hj hu => by
    rw [Nat.add_assoc]
    exact (Sl.of_row h.outs).cell (by rw [oc_get s.outs 0 s.acked ha j hj, HOo.out]; exact hu)
  have u0 : w1.cell? ⟨go, oo + s.acked * 3, none⟩ = some (.int .i64 ((s.acked : Int) + 1)) := kk 0 _ (by decide) (by simp)
  have u1' := kk 1 _ (by decide) rfl
  have u2' := kk 2 _ (by decide) rfl
  have d0 : w1.cell? ⟨w.heap.size, 0, none⟩ = some (.int .i64 0) := jcell_after hb1 (by simp)
  have d1 : w1.cell? ⟨w.heap.size, 1, none⟩ = some (.int .i64 0) := jcell_after hb1 (by simp)
  have d2 : w1.cell? ⟨w.heap.size, 2, none⟩ = some (.int .i64 0) := jcell_after hb1 (by simp)
  have B1 : Bx w1 w.heap.size 99 #[.int .i64 0, .int .i64 0, .int .i64 0] := (hb1.block _ (by simp)).trans (Bx.new w #[.int .i64 0, .int .i64 0, .int .i64 0] 99)
  have fr : ∀ i, w1.frozen? ⟨w.heap.size, i, none⟩ = false := fun i => B1.fr i
  have HB1 : Hid (Bx w1 w.heap.size 99 #[.int .i64 0, .int .i64 0, .int .i64 0]) := B1
  have HB : Hid (Below w.heap.size w w1) := (below_new _ _).trans (hb1.mono (by simp))
  have hgo : go < w1.heap.size := jcell_lt u0
  have hgw : go ≠ w.heap.size := fun e => by
    have h1 := (World.ownsRow.lt h.outs go rfl).1
    simp at h1; omega
  have hnw : nb ≠ w.heap.size := fun e => by
    have h1 := h.low
    simp at h1; omega
  have hai : (s.acked : Int) < (s.outs.length : Int) := by omega
  have hane : ((s.acked : Int) == (s.outs.length : Int)) = false := by simp; omega
  have hane2 : ¬ ((s.acked : Int) = (s.outs.length : Int)) := by omega
  clear h hb1 hN B1 kk
  go_upto_region 4 with fail
  go_cut [21] from 5 (fun t wz => t = .bool false ∧ wz = w1.drew)
  case first =>
    go_region_held_law (fun w' => w'.cell? ⟨nb, 13, none⟩ = some (.int .i64 s.acked) ∧ w'.cell? ⟨nb, 12, none⟩ = some (.slice (some ⟨go, oo, none⟩) s.outs.length ocap)) (go_keep) (fail)
    all_goals
      go_wp2_with fail
      go_meet
      case rel => exact ⟨rfl, rfl⟩
  case rest =>
    obtain ⟨rfl, rfl⟩ := hcut
    have hwg : w.heap.size ≠ go := hgw.symm
    have hwn : w.heap.size ≠ nb := hnw.symm
    go_wp2_with fail
    go_region_held_law (fun w' => w'.cell? ⟨nb, 13, none⟩ = some (.int .i64 s.acked) ∧ w'.cell? ⟨nb, 12, none⟩ = some (.slice (some ⟨go, oo, none⟩) s.outs.length ocap) ∧ w'.cell? ⟨go, oo + s.acked * 3, none⟩ = some (.int .i64 ((s.acked : Int) + 1)) ∧ w'.cell? ⟨go, oo + s.acked * 3 + 1, none⟩ = some (.int .i64 o.1) ∧ w'.cell? ⟨go, oo + s.acked * 3 + 2, none⟩ = some (.int .i64 o.2)) (go_keep) (fail)
    all_goals
      go_wp2_with fail
      have BW := ((HB1.out.set 0 (.int .i64 ((s.acked : Int) + 1))).set 1 (.int .i64 o.1)).set 2 (.int .i64 o.2)
      simp only [List.setIfInBounds_toArray, List.set_cons_zero, List.set_cons_succ] at BW
      have HW := below_set (below_set (below_set HB.out (Nat.le_refl _) 0 (.int .i64 ((s.acked : Int) + 1))) (Nat.le_refl _) 1 (.int .i64 o.1)) (Nat.le_refl _) 2 (.int .i64 o.2)
      generalize ((w1.setCell ⟨w.heap.size, 0, none⟩ (.int .i64 ((s.acked : Int) + 1))).setCell ⟨w.heap.size, 1, none⟩ (.int .i64 o.1)).setCell ⟨w.heap.size, 2, none⟩ (.int .i64 o.2) = W at *
      have e0 := BW.cell (i := 0) (v := .int .i64 ((s.acked : Int) + 1)) rfl
      have e1 := BW.cell (i := 1) (v := .int .i64 o.1) rfl
      have e2 := BW.cell (i := 2) (v := .int .i64 o.2) rfl
      exact bodyPost_ret (v := .tuple #[.agg #[.int .i64 ((s.acked : Int) + 1), .int .i64 o.1, .int .i64 o.2], .int .i64 0]) (by simp [results, Tryz.results57, go_sem, e0, e1, e2]) rfl ⟨rfl, HW.os, HW.tape, HW.output, HW.size, HW.block⟩
end Go.Proofs.YtgamgomepdfgdaaGreat
