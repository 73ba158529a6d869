import Derived.Test.YtgamgomepdfgdaaGreatM29
import Derived.Test.YtgamgomepdfgdaaGreatM26
namespace Go.Proofs.YtgamgomepdfgdaaGreat
open Go.RowKit

set_option maxRecDepth 100000 in
set_option maxHeartbeats 2000000 in
theorem rCancel_down (yb : Nat) (c : Cfg) (fv lv : Value) (lr : List Lr) (torn : ByteArray) (broken : Bool) (keep id : Int) (w : World) (hR : RefIs w yb c fv lr torn true broken keep lv) :
    Calls Tryz.prog 41 #[.pointer (some ⟨yb, 0, none⟩), .int .i64 id] w fun e w' => e = .returned (.int .i64 8) ∧ w' = w := by
  have c10 : w.cell? ⟨yb, 10, none⟩ = some (.bool true) := hR.box.cell (i := 10) rfl
  clear hR
  go_enter Tryz.func41, Tryz.ntmps41
  go_wp2_with fail
  go_ret
  exact ⟨rfl, rfl⟩

/-- the answer of Cancel: not found; or what writing answers, behind some reading -/
def CancelRes (w w' : World) (e : Ending) (ex : Prop) (k : Int) (R : World → World → Prop) : Prop :=
  (¬ ex ∧ e = .returned (.int .i64 5) ∧ Below w.heap.size w w') ∨ (ex ∧ e = .returned (.int .i64 k) ∧ ∃ W, Below w.heap.size w W ∧ R W w')

set_option maxRecDepth 100000 in
set_option maxHeartbeats 4000000 in
theorem rCancel_up (yb : Nat) (c : Cfg) (fv lv : Value) (lr : List Lr) (torn : ByteArray) (broken : Bool) (keep id k : Int) (R : World → World → Prop) (w : World) (hR : RefIs w yb c fv lr torn false broken keep lv) (hfv : IsSl fv) (hF : LrFits c lr) (hc : c.Ok) (s : Qs) (hs : s = Qs.all (lr.map Prod.fst))
    (hW : (∃ x ∈ s.queue, (x.id : Int) = id) → ∀ W, Below w.heap.size w W → Calls Tryz.prog 91 #[.pointer (some ⟨yb, 0, none⟩), .agg #[.int .i64 2, .int .i64 0, .int .i64 id, .bool false, .slice none 0 0]] W fun e w' => e = .returned (.int .i64 k) ∧ R W w') :
    Calls Tryz.prog 41 #[.pointer (some ⟨yb, 0, none⟩), .int .i64 id] w fun e w' => CancelRes w w' e (∃ x ∈ s.queue, (x.id : Int) = id) k R := by
  have c10 : w.cell? ⟨yb, 10, none⟩ = some (.bool false) := hR.box.cell (i := 10) rfl
  have hN := rNowOf hR hfv hF hc
  have hq16 : s.queue.length ≤ 16 := by rw [hs]; exact Nat.le_trans hF.fits.inv.len hc.2.2.2.2.2.2.2
  rw [← hs] at hN
  have HW : Hid ((∃ x ∈ s.queue, (x.id : Int) = id) → ∀ W, Below w.heap.size w W → Calls Tryz.prog 91 #[.pointer (some ⟨yb, 0, none⟩), .agg #[.int .i64 2, .int .i64 0, .int .i64 id, .bool false, .slice none 0 0]] W fun e w' => e = .returned (.int .i64 k) ∧ R W w') := hW
  obtain ⟨p, hp⟩ : ∃ p : Prop, p = ∃ x ∈ s.queue, (x.id : Int) = id := ⟨_, rfl⟩
  rw [← hp] at HW ⊢
  have HP : Hid (p ↔ ∃ x ∈ s.queue, (x.id : Int) = id) := by rw [hp]; exact Iff.rfl
  clear hR hF hs hW hp
  go_enter Tryz.func41, Tryz.ntmps41
  go_wp2_with fail
  go_fit hN
  rintro e w1 ⟨⟨nb, rfl, q, idv, qv, ov, h⟩, hb1⟩
  have HPq : Hid (p ↔ ∃ x ∈ q, (x.1.id : Int) = id) := by
    refine HP.out.trans ?_
    rw [← h.qs]
    constructor
    · rintro ⟨x, hx, he⟩
      obtain ⟨y, hy, rfl⟩ := List.mem_map.1 hx
      exact ⟨y, hy, he⟩
    · rintro ⟨x, hx, he⟩
      exact ⟨x.1, List.mem_map.2 ⟨x, hx, rfl⟩, he⟩
  have hql : q.length ≤ 16 := by rw [← List.length_map (f := Prod.fst), h.qs]; exact hq16
  obtain ⟨qa, qcap, rfl⟩ := row_shape3 h.row
  have n10 : w1.cell? ⟨nb, 10, none⟩ = some (.slice qa q.length qcap) := h.box.cell (i := 10) rfl
  have HRow : Hid (w1.ownsRow w.heap.size 165 4 (.slice qa q.length qcap) q.length ((q.map wt).flatMap cW)) := h.row
  have HB1 : Hid (Below w.heap.size w w1) := hb1
  clear h hN HP hb1 hq16
  go_wp2_with fail
  go_loopw [6] (fun i wr => ∃ j : Nat, j ≤ q.length ∧ i = .int .i64 j ∧ wr = w1 ∧ Hid (∀ m (h : m < j) (h' : m < q.length), (q[m].1.id : Int) ≠ id)) (fun i _ => q.length - (intOf i).toNat)
  case atStart => exact ⟨0, Nat.zero_le _, rfl, rfl, fun m h => by omega⟩
  case round =>
    obtain ⟨j, hj, rfl, rfl, hno⟩ := hrel
    by_cases hlj : j < q.length
    · obtain ⟨g, hqa⟩ : ∃ g, qa = some ⟨g, 0, none⟩ := by
        rcases HRow.out.2 with ⟨_, h0⟩ | ⟨g, cap, cur, e, _⟩
        · omega
        · injection e with e _ _; exact ⟨g, e⟩
      subst hqa
      have d0 : wr.cell? ⟨g, j * 4, none⟩ = some (.int .i64 q[j].1.id) := by
        have h1 := World.ownsRow.cells (g := g) HRow.out rfl
        have h2 := flat_get cW 4 (fun _ => rfl) (q.map wt) j 0 (by rw [List.length_map]; exact hlj) (by decide)
        have h3 := h1 (j * 4 + 0) (.int .i64 q[j].1.id) (by rw [h2]; simp [cW, wt])
        rw [addr_add, Nat.zero_add, Nat.add_zero] at h3
        exact h3
      have hgl := jcell_lt d0
      have Hy : Hid ((q[j].1.id : Int) = id → p) := fun h => HPq.out.2 ⟨q[j], List.getElem_mem hlj, h⟩
      have Hn : Hid ((q[j].1.id : Int) ≠ id → ∀ m (h : m < j + 1) (h' : m < q.length), (q[m].1.id : Int) ≠ id) := fun h m hm hm' => by
        by_cases e : m = j
        · subst e; exact h
        · exact hno.out m (by omega) hm'
      generalize q[j].1.id = a0 at *
      clear hno
      by_cases hid : (a0 : Int) = id
      · have hpp : Hid p := Hy.out hid
        have hWr := HW.out hpp.out wr HB1.out
        subst hid
        go_wp2_with fail
        go_fit hWr
        rintro e w2 ⟨rfl, hR2⟩
        have HR2 : Hid (R wr w2) := hR2
        clear hR2 hWr
        go_wp2_with fail
        go_ret
        exact .inr ⟨hpp.out, rfl, wr, HB1.out, HR2.out⟩
      · have hne : ((a0 : Int) == id) = false := by simpa using hid
        have hne2 : ¬ ((a0 : Int) = id) := hid
        go_wp2_with fail
        exact ⟨⟨j + 1, hlj, by go_num, by first | exact rfl | exact trivial, Hn.out hid⟩, by simp [intOf]; omega⟩
    · have Hnp : Hid (¬ p) := fun hp => by
        obtain ⟨x, hx, he⟩ := HPq.out.1 hp
        obtain ⟨m, hm, rfl⟩ := List.mem_iff_getElem.1 hx
        exact hno.out m (by omega) hm he
      go_wp2_with fail
      go_ret
      exact .inl ⟨Hnp.out, rfl, HB1.out⟩
end Go.Proofs.YtgamgomepdfgdaaGreat

namespace Go.Proofs.YtgamgomepdfgdaaGreat
open Go.RowKit

set_option maxRecDepth 100000 in
set_option maxHeartbeats 2000000 in
theorem rAck_err (yb : Nat) (n k a b d : Int) (hk : k ≠ 0) (w : World) (hP : Calls Tryz.prog 57 #[.pointer (some ⟨yb, 0, none⟩)] w fun e w' => e = .returned (.tuple #[.agg #[.int .i64 a, .int .i64 b, .int .i64 d], .int .i64 k]) ∧ Below w.heap.size w w') :
    Calls Tryz.prog 93 #[.pointer (some ⟨yb, 0, none⟩), .int .i64 n] w fun e w' => e = .returned (.int .i64 k) ∧ Below w.heap.size w w' := by
  have hk' : (k == 0) = false := by simpa using hk
  go_enter Tryz.func93, Tryz.ntmps93
  go_wp2_with fail
  go_fit hP
  rintro e w1 ⟨rfl, hb1⟩
  have HB : Hid (Below w.heap.size w w1) := hb1
  clear hb1 hP
  go_wp2_with fail
  go_ret
  exact ⟨rfl, HB.out.trans ((below_new _ _).mono HB.out.size)⟩

set_option maxRecDepth 100000 in
set_option maxHeartbeats 2000000 in
theorem rAck_no (yb : Nat) (n a b d : Int) (hn : a ≠ n) (w : World) (hP : Calls Tryz.prog 57 #[.pointer (some ⟨yb, 0, none⟩)] w fun e w' => e = .returned (.tuple #[.agg #[.int .i64 a, .int .i64 b, .int .i64 d], .int .i64 0]) ∧ Below w.heap.size w w') :
    Calls Tryz.prog 93 #[.pointer (some ⟨yb, 0, none⟩), .int .i64 n] w fun e w' => e = .returned (.int .i64 5) ∧ Below w.heap.size w w' := by
  have hn' : (a == n) = false := by simpa using hn
  go_enter Tryz.func93, Tryz.ntmps93
  go_wp2_with fail
  go_fit hP
  rintro e w1 ⟨rfl, hb1⟩
  have HB : Hid (Below w.heap.size w w1) := hb1
  clear hb1 hP
  go_wp2_with fail
  go_ret
  exact ⟨rfl, HB.out.trans ((below_new _ _).mono HB.out.size)⟩

set_option maxRecDepth 100000 in
set_option maxHeartbeats 2000000 in
theorem rAck_ok (yb : Nat) (n k b d : Int) (R : World → World → Prop) (w : World) (hP : Calls Tryz.prog 57 #[.pointer (some ⟨yb, 0, none⟩)] w fun e w' => e = .returned (.tuple #[.agg #[.int .i64 n, .int .i64 b, .int .i64 d], .int .i64 0]) ∧ Below w.heap.size w w')
    (hW : ∀ W, Below w.heap.size w W → Calls Tryz.prog 91 #[.pointer (some ⟨yb, 0, none⟩), .agg #[.int .i64 6, .int .i64 0, .int .i64 n, .bool false, .slice none 0 0]] W fun e w' => e = .returned (.int .i64 k) ∧ R W w') :
    Calls Tryz.prog 93 #[.pointer (some ⟨yb, 0, none⟩), .int .i64 n] w fun e w' => e = .returned (.int .i64 k) ∧ ∃ W, Below w.heap.size w W ∧ R W w' := by
  have HW : Hid (∀ W, Below w.heap.size w W → Calls Tryz.prog 91 #[.pointer (some ⟨yb, 0, none⟩), .agg #[.int .i64 6, .int .i64 0, .int .i64 n, .bool false, .slice none 0 0]] W fun e w' => e = .returned (.int .i64 k) ∧ R W w') := hW
  clear hW
  go_enter Tryz.func93, Tryz.ntmps93
  go_wp2_with fail
  go_fit hP
  rintro e w1 ⟨rfl, hb1⟩
  have HB : Hid (Below w.heap.size w (w1.alloc (.cells #[.int .i64 n, .int .i64 b, .int .i64 d] 99))) := hb1.trans ((below_new _ _).mono hb1.size)
  have hWr := HW.out _ HB.out
  clear hb1 hP HW
  go_wp2_with fail
  go_fit hWr
  rintro e w2 ⟨rfl, hR2⟩
  have HR2 : Hid (R (w1.alloc (.cells #[.int .i64 n, .int .i64 b, .int .i64 d] 99)) w2) := hR2
  clear hR2 hWr
  go_wp2_with fail
  go_ret
  exact ⟨rfl, _, HB.out, HR2.out⟩

set_option maxRecDepth 100000 in
set_option maxHeartbeats 2000000 in
theorem rRecover_down (yb : Nat) (c : Cfg) (fv lv : Value) (lr : List Lr) (torn : ByteArray) (broken : Bool) (keep : Int) (w : World) (hR : RefIs w yb c fv lr torn true broken keep lv) (hn : lr.length < 1048576) :
    Calls Tryz.prog 52 #[.pointer (some ⟨yb, 0, none⟩)] w fun e w' => e = .returned (.int .i64 0) ∧ Noted w w' yb c fv (lr ++ [((⟨7, 0, 0, false, []⟩, .slice none 0 0) : Lr)]) ⟨#[]⟩ false broken keep lv := by
  obtain ⟨i0, hi0, hz0, hz1, hz2⟩ := info_parts info_lr
  obtain ⟨la, lc, rfl⟩ := hR.row.form
  have hne := hR.row.ne hR.box (by decide)
  have q1 : Hid (lr.length + 1 ≤ maxLen) := by show _ ≤ _; unfold maxLen; omega
  have q2 : Hid ((lr.length + 1) * 56 ≤ 140737488355328) := Nat.le_trans (Nat.mul_le_mul_right 56 (show lr.length + 1 ≤ 1048576 by omega)) (by decide)
  have c10 : w.cell? ⟨yb, 10, none⟩ = some (.bool true) := hR.box.cell (i := 10) rfl
  have c9 : w.cell? ⟨yb, 9, none⟩ = some (.string torn) := hR.box.cell (i := 9) rfl
  have f10 := hR.box.fr 10
  have f9 := hR.box.fr 9
  have hyl := hR.box.lt
  have hB2 : Bx ((w.setCell ⟨yb, 10, none⟩ (.bool false)).setCell ⟨yb, 9, none⟩ (.string ⟨#[]⟩)) yb 151 (refCells c fv (.slice la lr.length lc) ⟨#[]⟩ false broken keep) := (hR.box.set 10 (.bool false)).set 9 (.string ⟨#[]⟩)
  have hG2 : w.grownBy ((w.setCell ⟨yb, 10, none⟩ (.bool false)).setCell ⟨yb, 9, none⟩ (.string ⟨#[]⟩)) (some yb) := (grown_set _ _ _ _).trans (grown_set _ _ _ _)
  have H2 : Hid (RefIs ((w.setCell ⟨yb, 10, none⟩ (.bool false)).setCell ⟨yb, 9, none⟩ (.string ⟨#[]⟩)) yb c fv lr ⟨#[]⟩ false broken keep (.slice la lr.length lc)) := ⟨hB2, hR.row.grown hG2 (fun g hg e => hne (by rw [hg]; exact e.symm))⟩
  have O2 : Hid (Only w ((w.setCell ⟨yb, 10, none⟩ (.bool false)).setCell ⟨yb, 9, none⟩ (.string ⟨#[]⟩)) (fun k => k = yb ∨ (Value.slice la lr.length lc).ownBlock = some k)) := ((Only.refl w _).set (.inl (.inl rfl))).set (.inl (.inl rfl))
  clear hR hB2 hG2
  go_enter Tryz.func52, Tryz.ntmps52
  go_upto_region 5 with fail
  generalize (w.setCell ⟨yb, 10, none⟩ (.bool false)).setCell ⟨yb, 9, none⟩ (.string ⟨#[]⟩) = w2 at *
  have d8 : w2.cell? ⟨yb, 8, none⟩ = some (.slice la lr.length lc) := H2.out.box.cell (i := 8) rfl
  have hs2 : Hid (w.heap.size ≤ w2.heap.size) := O2.out.size
  have hy2 := H2.out.box.lt
  clear c10 c9 f10 f9
  go_wp2_with (at_builtin; refine wpList_append_sl _ rfl _ _ 149 rfl _ i0 _ 5 56 Tryz.underlying149 hi0 hz0 hz1 hz2 rfl (by decide) (.slice la lr.length lc) _ _ rfl (Sl.mk H2.out.row _) ⟨w2.heap.size, 0, none⟩ 1 1 [.int .i64 7, .int .i64 0, .int .i64 0, .bool false, .slice none 0 0] rfl rfl (cells_new w2 _ _) (by simp [Value.oneCell']) q1.out q2.out ?_; intro v3 w3 hown3 hg3 hloc3; obtain ⟨a3, c3, rfl⟩ := hown3.form; have HB3 : Hid (Bx w3 yb 151 (refCells c fv (.slice la lr.length lc) ⟨#[]⟩ false broken keep)) := Bx.grown (H2.out.box.mk _) hg3 (fun e => hne e.symm); have e8 : w3.cell? ⟨yb, 8, none⟩ = some (.slice la lr.length lc) := HB3.out.cell (i := 8) rfl; have f3 := HB3.out.fr 8; have O3 : Hid (Sl w3 168 5 (.slice a3 (lr.length + 1) c3) (lr.length + 1) (lr.flatMap cL ++ [.int .i64 7, .int .i64 0, .int .i64 0, .bool false, .slice none 0 0])) := hown3; have G3 : Hid (w2.grownBy w3 (Value.slice la lr.length lc).ownBlock) := (World.grownBy_alloc w2 _ _).trans hg3; have L3 : Hid ((Value.slice a3 (lr.length + 1) c3).ownBlock = (Value.slice la lr.length lc).ownBlock ∨ ∃ g, (Value.slice a3 (lr.length + 1) c3).ownBlock = some g ∧ w2.heap.size ≤ g) := hloc3.imp (fun h => h) (fun ⟨g, h, hle⟩ => ⟨g, h, Nat.le_trans (by simp) hle⟩); clear hown3 hg3 hloc3)
  go_ret
  have nnb : (Value.slice a3 (lr.length + 1) c3).ownBlock ≠ some yb := by
    rcases L3.out with e | ⟨g, e, hg⟩
    · rw [e]; exact hne
    · rw [e]; intro x; cases x; omega
  refine ⟨rfl, ⟨.slice a3 (lr.length + 1) c3, ⟨HB3.out.set 8 _, ?_⟩, L3.out.imp (fun h => h) (fun ⟨g, h1, h2⟩ => ⟨g, h1, Nat.le_trans hs2.out h2⟩)⟩, ?_⟩
  · rw [List.length_append, List.flatMap_append]
    have : [((⟨7, 0, 0, false, []⟩, .slice none 0 0) : Lr)].flatMap cL = [.int .i64 7, .int .i64 0, .int .i64 0, .bool false, .slice none 0 0] := by simp [cL]
    rw [this]
    exact Sl.grown O3.out (grown_set _ _ _ _) (fun g hg e => nnb (by rw [hg]; exact e.symm))
  · exact (O2.out.trans (Only.of_grown G3.out (S := fun k => k = yb ∨ (Value.slice la lr.length lc).ownBlock = some k) fun k h => .inr h) fun k h => .inl h).set (.inl (.inl rfl))
end Go.Proofs.YtgamgomepdfgdaaGreat

namespace Go.Proofs.YtgamgomepdfgdaaGreat
open Go.RowKit

set_option maxRecDepth 100000 in
set_option maxHeartbeats 1000000 in
theorem mTree_down (xb mb : Nat) (c : Cfg) (L : List UInt8) (lv : Value) (w : World) (hD : DownIs w xb mb c L lv) :
    Calls Tryz.prog 64 #[.pointer (some ⟨xb, 0, none⟩)] w fun e w' => e = .returned (.tuple #[.slice none 0 0, .int .i64 8]) ∧ w' = w := by
  have c9 : w.cell? ⟨xb, 9, none⟩ = some (.pointer none) := hD.box.cell (i := 9) rfl
  clear hD
  have hT : Calls Tryz.prog 100 #[.pointer (some ⟨xb, 0, none⟩), .func (.func 101) #[] #[]] w fun e w' => e = .returned (.tuple #[.slice none 0 0, .int .i64 8]) ∧ w' = w := by
    go_enter Tryz.func100, Tryz.ntmps100
    go_wp2_with fail
    exact bodyPost_ret (v := .tuple #[.slice none 0 0, .int .i64 8]) (by simp [results, Tryz.results100, go_sem]) rfl ⟨rfl, rfl⟩
  go_enter Tryz.func64, Tryz.ntmps64
  go_wp2_with fail
  go_fit hT
  rintro e w1 ⟨rfl, rfl⟩
  go_wp2_with fail
  exact bodyPost_ret (v := .tuple #[.slice none 0 0, .int .i64 8]) (by simp [results, Tryz.results64, go_sem]) rfl ⟨rfl, rfl⟩

set_option maxRecDepth 100000 in
set_option maxHeartbeats 1000000 in
theorem rTree_down (yb : Nat) (c : Cfg) (fv lv : Value) (lr : List Lr) (torn : ByteArray) (broken : Bool) (keep : Int) (w : World) (hR : RefIs w yb c fv lr torn true broken keep lv) :
    Calls Tryz.prog 134 #[.pointer (some ⟨yb, 0, none⟩)] w fun e w' => e = .returned (.tuple #[.slice none 0 0, .int .i64 8]) ∧ w' = w := by
  have c10 : w.cell? ⟨yb, 10, none⟩ = some (.bool true) := hR.box.cell (i := 10) rfl
  clear hR
  go_enter Tryz.func134, Tryz.ntmps134
  go_wp2_with fail
  exact bodyPost_ret (v := .tuple #[.slice none 0 0, .int .i64 8]) (by simp [results, Tryz.results134, go_sem]) rfl ⟨rfl, rfl⟩

set_option maxRecDepth 100000 in
set_option maxHeartbeats 1000000 in
theorem mMain_down (xb mb : Nat) (c : Cfg) (L : List UInt8) (lv : Value) (w : World) (hD : DownIs w xb mb c L lv) :
    Calls Tryz.prog 66 #[.pointer (some ⟨xb, 0, none⟩)] w fun e w' => e = .returned (.tuple #[.slice none 0 0, .int .i64 8]) ∧ w' = w := by
  have c9 : w.cell? ⟨xb, 9, none⟩ = some (.pointer none) := hD.box.cell (i := 9) rfl
  clear hD
  have hT : Calls Tryz.prog 103 #[.pointer (some ⟨xb, 0, none⟩), .func (.func 104) #[] #[]] w fun e w' => e = .returned (.tuple #[.slice none 0 0, .int .i64 8]) ∧ w' = w := by
    go_enter Tryz.func103, Tryz.ntmps103
    go_wp2_with fail
    exact bodyPost_ret (v := .tuple #[.slice none 0 0, .int .i64 8]) (by simp [results, Tryz.results103, go_sem]) rfl ⟨rfl, rfl⟩
  go_enter Tryz.func66, Tryz.ntmps66
  go_wp2_with fail
  go_fit hT
  rintro e w1 ⟨rfl, rfl⟩
  go_wp2_with fail
  exact bodyPost_ret (v := .tuple #[.slice none 0 0, .int .i64 8]) (by simp [results, Tryz.results66, go_sem]) rfl ⟨rfl, rfl⟩

set_option maxRecDepth 100000 in
set_option maxHeartbeats 1000000 in
theorem rMain_down (yb : Nat) (c : Cfg) (fv lv : Value) (lr : List Lr) (torn : ByteArray) (broken : Bool) (keep : Int) (w : World) (hR : RefIs w yb c fv lr torn true broken keep lv) :
    Calls Tryz.prog 136 #[.pointer (some ⟨yb, 0, none⟩)] w fun e w' => e = .returned (.tuple #[.slice none 0 0, .int .i64 8]) ∧ w' = w := by
  have c10 : w.cell? ⟨yb, 10, none⟩ = some (.bool true) := hR.box.cell (i := 10) rfl
  clear hR
  go_enter Tryz.func136, Tryz.ntmps136
  go_wp2_with fail
  exact bodyPost_ret (v := .tuple #[.slice none 0 0, .int .i64 8]) (by simp [results, Tryz.results136, go_sem]) rfl ⟨rfl, rfl⟩

set_option maxRecDepth 100000 in
set_option maxHeartbeats 1000000 in
theorem mQueue_down (xb mb : Nat) (c : Cfg) (L : List UInt8) (lv : Value) (w : World) (hD : DownIs w xb mb c L lv) :
    Calls Tryz.prog 27 #[.pointer (some ⟨xb, 0, none⟩)] w fun e w' => e = .returned (.tuple #[.slice none 0 0, .int .i64 8]) ∧ w' = w := by
  have c9 : w.cell? ⟨xb, 9, none⟩ = some (.pointer none) := hD.box.cell (i := 9) rfl
  clear hD
  have hT : Calls Tryz.prog 71 #[.pointer (some ⟨xb, 0, none⟩), .func (.func 72) #[] #[]] w fun e w' => e = .returned (.tuple #[.slice none 0 0, .int .i64 8]) ∧ w' = w := by
    go_enter Tryz.func71, Tryz.ntmps71
    go_wp2_with fail
    exact bodyPost_ret (v := .tuple #[.slice none 0 0, .int .i64 8]) (by simp [results, Tryz.results71, go_sem]) rfl ⟨rfl, rfl⟩
  go_enter Tryz.func27, Tryz.ntmps27
  go_wp2_with fail
  go_fit hT
  rintro e w1 ⟨rfl, rfl⟩
  go_wp2_with fail
  exact bodyPost_ret (v := .tuple #[.slice none 0 0, .int .i64 8]) (by simp [results, Tryz.results27, go_sem]) rfl ⟨rfl, rfl⟩

set_option maxRecDepth 100000 in
set_option maxHeartbeats 1000000 in
theorem rQueue_down (yb : Nat) (c : Cfg) (fv lv : Value) (lr : List Lr) (torn : ByteArray) (broken : Bool) (keep : Int) (w : World) (hR : RefIs w yb c fv lr torn true broken keep lv) :
    Calls Tryz.prog 138 #[.pointer (some ⟨yb, 0, none⟩)] w fun e w' => e = .returned (.tuple #[.slice none 0 0, .int .i64 8]) ∧ w' = w := by
  have c10 : w.cell? ⟨yb, 10, none⟩ = some (.bool true) := hR.box.cell (i := 10) rfl
  clear hR
  go_enter Tryz.func138, Tryz.ntmps138
  go_wp2_with fail
  exact bodyPost_ret (v := .tuple #[.slice none 0 0, .int .i64 8]) (by simp [results, Tryz.results138, go_sem]) rfl ⟨rfl, rfl⟩

set_option maxRecDepth 100000 in
set_option maxHeartbeats 1000000 in
theorem mTrain_down (xb mb : Nat) (c : Cfg) (L : List UInt8) (lv : Value) (w : World) (hD : DownIs w xb mb c L lv) :
    Calls Tryz.prog 69 #[.pointer (some ⟨xb, 0, none⟩)] w fun e w' => e = .returned (.tuple #[.slice none 0 0, .int .i64 8]) ∧ w' = w := by
  have c9 : w.cell? ⟨xb, 9, none⟩ = some (.pointer none) := hD.box.cell (i := 9) rfl
  clear hD
  have hT : Calls Tryz.prog 105 #[.pointer (some ⟨xb, 0, none⟩), .func (.func 106) #[] #[]] w fun e w' => e = .returned (.tuple #[.slice none 0 0, .int .i64 8]) ∧ w' = w := by
    go_enter Tryz.func105, Tryz.ntmps105
    go_wp2_with fail
    exact bodyPost_ret (v := .tuple #[.slice none 0 0, .int .i64 8]) (by simp [results, Tryz.results105, go_sem]) rfl ⟨rfl, rfl⟩
  go_enter Tryz.func69, Tryz.ntmps69
  go_wp2_with fail
  go_fit hT
  rintro e w1 ⟨rfl, rfl⟩
  go_wp2_with fail
  exact bodyPost_ret (v := .tuple #[.slice none 0 0, .int .i64 8]) (by simp [results, Tryz.results69, go_sem]) rfl ⟨rfl, rfl⟩

set_option maxRecDepth 100000 in
set_option maxHeartbeats 1000000 in
theorem rTrain_down (yb : Nat) (c : Cfg) (fv lv : Value) (lr : List Lr) (torn : ByteArray) (broken : Bool) (keep : Int) (w : World) (hR : RefIs w yb c fv lr torn true broken keep lv) :
    Calls Tryz.prog 140 #[.pointer (some ⟨yb, 0, none⟩)] w fun e w' => e = .returned (.tuple #[.slice none 0 0, .int .i64 8]) ∧ w' = w := by
  have c10 : w.cell? ⟨yb, 10, none⟩ = some (.bool true) := hR.box.cell (i := 10) rfl
  clear hR
  go_enter Tryz.func140, Tryz.ntmps140
  go_wp2_with fail
  exact bodyPost_ret (v := .tuple #[.slice none 0 0, .int .i64 8]) (by simp [results, Tryz.results140, go_sem]) rfl ⟨rfl, rfl⟩

set_option maxRecDepth 100000 in
set_option maxHeartbeats 1000000 in
theorem mJobs_down (xb mb : Nat) (c : Cfg) (L : List UInt8) (lv : Value) (w : World) (hD : DownIs w xb mb c L lv) :
    Calls Tryz.prog 70 #[.pointer (some ⟨xb, 0, none⟩)] w fun e w' => e = .returned (.tuple #[.slice none 0 0, .int .i64 8]) ∧ w' = w := by
  have c9 : w.cell? ⟨xb, 9, none⟩ = some (.pointer none) := hD.box.cell (i := 9) rfl
  clear hD
  have hT : Calls Tryz.prog 107 #[.pointer (some ⟨xb, 0, none⟩), .func (.func 108) #[] #[]] w fun e w' => e = .returned (.tuple #[.slice none 0 0, .int .i64 8]) ∧ w' = w := by
    go_enter Tryz.func107, Tryz.ntmps107
    go_wp2_with fail
    exact bodyPost_ret (v := .tuple #[.slice none 0 0, .int .i64 8]) (by simp [results, Tryz.results107, go_sem]) rfl ⟨rfl, rfl⟩
  go_enter Tryz.func70, Tryz.ntmps70
  go_wp2_with fail
  go_fit hT
  rintro e w1 ⟨rfl, rfl⟩
  go_wp2_with fail
  exact bodyPost_ret (v := .tuple #[.slice none 0 0, .int .i64 8]) (by simp [results, Tryz.results70, go_sem]) rfl ⟨rfl, rfl⟩

set_option maxRecDepth 100000 in
set_option maxHeartbeats 1000000 in
theorem rJobs_down (yb : Nat) (c : Cfg) (fv lv : Value) (lr : List Lr) (torn : ByteArray) (broken : Bool) (keep : Int) (w : World) (hR : RefIs w yb c fv lr torn true broken keep lv) :
    Calls Tryz.prog 92 #[.pointer (some ⟨yb, 0, none⟩)] w fun e w' => e = .returned (.tuple #[.slice none 0 0, .int .i64 8]) ∧ w' = w := by
  have c10 : w.cell? ⟨yb, 10, none⟩ = some (.bool true) := hR.box.cell (i := 10) rfl
  clear hR
  go_enter Tryz.func92, Tryz.ntmps92
  go_wp2_with fail
  exact bodyPost_ret (v := .tuple #[.slice none 0 0, .int .i64 8]) (by simp [results, Tryz.results92, go_sem]) rfl ⟨rfl, rfl⟩
end Go.Proofs.YtgamgomepdfgdaaGreat

namespace Go.Proofs.YtgamgomepdfgdaaGreat
open Go.RowKit

theorem info_apw : (Tryz.prog.info? 71).map (fun i => (i.zero, i.size, i.bytes)) = some (some (.agg #[.int .i64 0, .int .i64 0, .int .i64 0]), 3, 24) := by kernel_rfl

/-- one that waits, as it is told -/
abbrev Tw := Nat × Nat × Nat
def cT (x : Tw) : List Value := [.int .i64 x.1, .int .i64 x.2.1, .int .i64 x.2.2]
def tOf (x : Pw) : Tw := (x.1.id, x.1.lane, x.1.passed)

theorem cells_new2 (w : World) (o : Obj) (cs : List Value) (t : TypeId) : ∀ j u, cs[j]? = some u → ((w.alloc o).alloc (.cells cs.toArray t)).cell? ((⟨w.heap.size + 1, 0, none⟩ : Addr).add j) = some u := by
  have e : w.heap.size + 1 = (w.alloc o).heap.size := by simp
  rw [e]
  exact cells_new (w.alloc o) cs t
theorem q3' {w w' : World} (h : Below w.heap.size w w') (o : Obj) : w.heap.size ≤ (w'.alloc o).heap.size := by
  have := h.size
  simp; omega

set_option maxRecDepth 100000 in
set_option maxHeartbeats 1000000 in
theorem yQueue (age : Nat) (ha : 1 ≤ age ∧ age < 9) (yb : Nat) (q : List Pw) (v : Value) (cs : Array Value) (w : World) (hB : Bx w yb 201 cs) (h9 : cs[9]? = some v) (hS : Sl w 193 6 v q.length (q.flatMap (cP age))) (H : ∀ x ∈ q, x.1.lane < 1000 ∧ x.1.passed < 4611686018427387904 ∧ IsSl x.2) (hn : q.length ≤ 16) (hd : q.Pairwise fun x y => ordOf x < ordOf y) :
    Calls Tryz.prog 72 #[.pointer (some ⟨yb, 0, none⟩)] w fun e w' => (∃ v', e = .returned v' ∧ w'.ownsRow w.heap.size 71 3 v' q.length (((rkG (laneOf age) q 1000).map tOf).flatMap cT)) ∧ Below w.heap.size w w' := by
  obtain ⟨i0, hi, hz0, hz1, hz2⟩ := info_parts info_apw
  have hR := yByRank age ha q v w hS H hn hd
  have c9 := hB.cell h9
  have hrl := rkG_len (age := age) H
  have hsl : Hid (∀ x ∈ rkG (laneOf age) q 1000, IsSl x.2) := fun x hx => (H x ((rkG_perm fun x hx => Nat.lt_of_le_of_lt (Nat.sub_le _ _) (H x hx).1).mem_iff.1 hx)).2.2
  obtain ⟨va, vc, rfl⟩ := hS.form
  clear hB hS H hd h9
  generalize rkG (laneOf age) q 1000 = r at *
  go_enter Tryz.func72, Tryz.ntmps72
  go_wp2_with fail
  go_fit hR
  rintro e w1 ⟨⟨v1, rfl, hs1⟩, hb1⟩
  obtain ⟨a1, c1, rfl⟩ := hs1.form
  clear hR
  go_wp2_with fail
  have HR1 : Hid (Sl w1 193 6 (.slice a1 q.length c1) q.length (r.flatMap (cP age))) := hs1
  have HB1 : Hid (Below w.heap.size w w1) := hb1
  clear hs1 hb1 c9
  go_loopw [3, 12] (fun lv iv wr => ∃ k : Nat, k ≤ q.length ∧ iv = .int .i64 k ∧ Hid (wr.ownsRow w1.heap.size 71 3 lv k (((r.take k).map tOf).flatMap cT)) ∧ Hid (Below w1.heap.size w1 wr)) (fun _ i _ => q.length - (intOf i).toNat)
  case atStart => exact ⟨0, Nat.zero_le _, rfl, World.ownsRow_nil _ _ _ _, Below.refl _ _⟩
  case round =>
    obtain ⟨k, hk, rfl, hr, hb⟩ := hrel
    by_cases hlk : k < q.length
    · have hlr : k < r.length := by omega
      obtain ⟨g, off, cap, hv, _⟩ := HR1.out.addr (by omega)
      have hS : Hid (Sl w1 193 6 (.slice (some ⟨g, off, none⟩) q.length cap) q.length (r.flatMap (cP age))) := by rw [← hv]; exact HR1.out
      injection hv with hva _ hvc
      subst hva hvc
      have kk : ∀ j (u : Value), j < 6 → (cP age r[k])[j]? = some u → wr.cell? ⟨g, off + k * 6 + j, none⟩ = some u := fun j u hj hu => by
        have := hS.out.cell (j := k * 6 + j) (u := u) (by rw [flat_get (cP age) 6 (fun _ => rfl) r k j hlr hj]; exact hu)
        rw [Nat.add_assoc]; exact jcell_after hb.out this
      obtain ⟨ea, en, ec, he⟩ := hsl.out _ (List.getElem_mem hlr)
      have d0 : wr.cell? ⟨g, off + k * 6, none⟩ = some (.int .i64 r[k].1.id) := kk 0 _ (by decide) rfl
      have d1 := kk 1 (.int .i64 r[k].1.lane) (by decide) rfl
      have d2 := kk 2 (.int .i64 r[k].1.passed) (by decide) rfl
      have d3 := kk 3 (.int .i64 age) (by decide) rfl
      have d4 := kk 4 (.int .i64 r[k].1.ord) (by decide) rfl
      have d5 := kk 5 (.slice ea en ec) (by decide) (by rw [← he]; rfl)
      have hgl := jcell_lt d0
      have HW : Hid (((r.take (k + 1)).map tOf).flatMap cT = ((r.take k).map tOf).flatMap cT ++ [.int .i64 r[k].1.id, .int .i64 r[k].1.lane, .int .i64 r[k].1.passed]) := by
        show _ = _
        rw [List.take_succ_eq_append_getElem hlr, List.map_append, List.flatMap_append]; simp [cT, tOf]
      generalize r[k].1.id = x0 at *
      generalize r[k].1.lane = x1 at *
      generalize r[k].1.passed = x2 at *
      generalize r[k].1.ord = x4 at *
      clear he kk
      have q1 : Hid (k + 1 ≤ maxLen) := by show _ ≤ _; unfold maxLen; omega
      have q2 : Hid ((k + 1) * 24 ≤ 140737488355328) := by show _ ≤ _; omega
      have q3 : Hid (∀ o o', w1.heap.size ≤ ((wr.alloc o).alloc o').heap.size) := fun o o' => by
        have := hb.out.size
        show w1.heap.size ≤ _
        simp; omega
      go_wp2_with (at_builtin; refine wpList_append_own_at _ rfl (.tmp 16) (.tmp 19) _ rfl w1.heap.size _ i0 _ 3 24 Tryz.underlying61 hi hz0 hz1 hz2 rfl (by decide) u3 _ _ rfl (World.ownsRow.alloc (World.ownsRow.alloc hr.out _) _) ⟨wr.heap.size + 1, 0, none⟩ 1 1 [.int .i64 x0, .int .i64 x1, .int .i64 x2] rfl rfl (cells_new2 wr _ _ _) (by simp [Value.oneCell']) q1.out q2.out (q3.out _ _) ?_; intro v3 w3 hown3 hg3 hnil3 hloc3)
      refine ⟨⟨k + 1, hlk, by go_num, ?_, ?_⟩, by simp [intOf]; omega⟩
      · show w3.ownsRow _ _ _ _ _ _
        rw [HW.out]
        exact hown3
      · exact ((hb.out.alloc hb.out.size _).alloc (q3' hb.out _) _).grown hg3 (q3.out _ _) (fun j hj => (World.ownsRow.lt hr.out j hj).1)
    · obtain rfl : k = q.length := by omega
      have hr' : Hid (wr.ownsRow w.heap.size 71 3 u3 q.length ((r.map tOf).flatMap cT)) := by
        have := row_low hr.out (base' := w.heap.size) HB1.out.size
        rwa [List.take_of_length_le (by omega)] at this
      have HB : Hid (Below w.heap.size w wr) := below_trans HB1.out hb.out
      obtain ⟨a4, c4, rfl⟩ := row_shape3 hr'.out
      clear hr
      go_wp2_with fail
      go_ret
      exact ⟨⟨_, rfl, hr'.out⟩, HB.out⟩
end Go.Proofs.YtgamgomepdfgdaaGreat
