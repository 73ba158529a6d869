import Derived.Test.YtgamgomepdfgdaaGreatM15
import Derived.Test.YtgamgomepdfgdaaGreatM16
import Derived.Test.YtgamgomepdfgdaaGreatM14
namespace Go.Proofs.YtgamgomepdfgdaaGreat
open Go.RowKit Go.Maps Go.Sort

theorem below_drewd {n : Nat} {w w' : World} (h : Below n w w') : Below n w w'.drew := ⟨h.os, h.tape, h.output, h.size, h.block⟩

/-- what a Submit is answered with (0: it can be) -/
def SubErr (c : Cfg) (s : Qs) (id lane : Int) (es : List Ed) (k : Int) : Prop :=
  (¬ ChOK c id lane es ∧ k = 2) ∨ (ChOK c id lane es ∧ id.toNat ∈ s.ids ∧ k = 3) ∨ (ChOK c id lane es ∧ id.toNat ∉ s.ids ∧ c.queue ≤ s.queue.length ∧ k = 4) ∨ (ChOK c id lane es ∧ id.toNat ∉ s.ids ∧ s.queue.length < c.queue ∧ k = 0)

theorem Subm.look {w : World} {sb : Nat} {ids : List Nat} (h : Subm w sb ids) {n : Nat} (hn : n < 9223372036854775808) :
    (Instr.lookup 194 (.map (some sb)) (.int .i64 n) true).run Tryz.prog w = .ok (.tuple #[.agg #[], .bool (ids.contains n)]) w := by
  obtain ⟨D, h1, h2, h3⟩ := h
  obtain ⟨v, ps, hrun, hv⟩ := h1.look_ok lawI underS (zeroU w) (zd := .agg []) (zp := []) unitElem_mk (keyI hn)
  obtain ⟨rfl, _⟩ := unitElem_inv hv
  rw [← h3 n]
  exact hrun

set_option maxRecDepth 100000 in
set_option maxHeartbeats 4000000 in
theorem yCheckSubmit (S : Nat → Prop) (yb mb : Nat) (c : Cfg) (s : Qs) (kind id lane num : Int) (pass : Bool) (es : List Ed) (ea : Option Addr) (en ec : Nat) (w : World) (hY : YardAt w S yb mb c s) (hE : EditsAt w (.slice ea en ec) es) (hc : CapOK (.slice ea en ec)) (hn : es.length < 8796093022208) (hq : s.queue.length ≤ 16) :
    Calls Tryz.prog 157 #[.pointer (some ⟨yb, 0, none⟩), .agg #[.int .i64 kind, .int .i64 lane, .slice ea en ec, .int .i64 id, .bool pass, .int .i64 num]] w fun e w' => (∃ k : Int, e = .returned (.int .i64 k) ∧ SubErr c s id lane es k) ∧ Below w.heap.size w w' := by
  obtain ⟨q, sb, qv, ov, h⟩ := hY
  have hC := yChange yb c _ kind id lane num pass es ea en ec (w.alloc (.cells #[.int .i64 kind, .int .i64 lane, .slice ea en ec, .int .i64 id, .bool pass, .int .i64 num] 140)) (h.box.mk _) rfl (hE.later (below_new _ _)) hc hn
  have hql := h.qlen
  obtain ⟨qa, qcap, rfl⟩ := h.row.form
  have y6 := h.box.cell (i := 6) (v := .int .i64 c.queue) rfl
  have y9 := h.box.cell (i := 9) (v := .slice qa q.length qcap) rfl
  have y10 := h.box.cell (i := 10) (v := .map (some sb)) rfl
  have hU := h.sub
  have HP : Hid (∀ k, SubErr c s id lane es k ↔ ((¬ ChOK c id lane es ∧ k = 2) ∨ (ChOK c id lane es ∧ id.toNat ∈ s.ids ∧ k = 3) ∨ (ChOK c id lane es ∧ id.toNat ∉ s.ids ∧ c.queue ≤ s.queue.length ∧ k = 4) ∨ (ChOK c id lane es ∧ id.toNat ∉ s.ids ∧ s.queue.length < c.queue ∧ k = 0))) := fun k => Iff.rfl
  have Hid1 : Hid (ChOK c id lane es → 1 ≤ id ∧ id ≤ 1000000) := fun h => ⟨h.1, h.2.1⟩
  generalize SubErr c s id lane es = P at HP ⊢
  generalize ChOK c id lane es = r at HP hC Hid1
  have HQL : Hid (q.length = s.queue.length) := hql
  have hq16 : q.length ≤ 16 := by omega
  clear h hE hql
  go_enter Tryz.func157, Tryz.ntmps157
  go_wp2_with fail
  go_fit hC
  rintro e w1 ⟨⟨t, rfl, ht⟩, hb1⟩
  have x3 : w1.cell? ⟨w.heap.size, 3, none⟩ = some (.int .i64 id) := jcell_after hb1 (by simp)
  have hb : Below w.heap.size w w1 := (below_new _ _).trans (hb1.mono (by simp))
  have HB : Hid (Below w.heap.size w w1) := hb
  have z6 := jcell_after hb y6
  have z9 := jcell_after hb y9
  have z10 := jcell_after hb y10
  have hU1 := hU.later hb
  have Ht : Hid (t = true ↔ r) := ht
  clear y6 y9 y10 hU ht hb hb1 hC
  cases t
  · have F : Hid (P 2) := (HP.out 2).2 (.inl ⟨fun x => Bool.noConfusion (Ht.out.2 x), rfl⟩)
    go_wp2_with fail
    go_ret
    exact ⟨⟨2, rfl, F.out⟩, HB.out⟩
  · have hr : r := Ht.out.1 rfl
    obtain ⟨i1, i2⟩ := Hid1.out hr
    obtain ⟨n, rfl⟩ : ∃ n : Nat, id = n := ⟨id.toNat, by omega⟩
    have L1 := (show Subm w1.drew sb s.ids from hU1).look (n := n) (by omega)
    have L2 := fun o => (show Subm (w1.alloc o).drew sb s.ids from hU1.later (below_new_drew _ _)).look (n := n) (by omega)
    have HR : Hid r := hr
    have F3 : Hid (n ∈ s.ids → P 3) := fun h => (HP.out 3).2 (.inr (.inl ⟨HR.out, by simpa using h, rfl⟩))
    have F4 : Hid (n ∉ s.ids → c.queue ≤ q.length → P 4) := fun h h' => (HP.out 4).2 (.inr (.inr (.inl ⟨HR.out, by simpa using h, by rw [← HQL.out]; exact h', rfl⟩)))
    have F0 : Hid (n ∉ s.ids → q.length < c.queue → P 0) := fun h h' => (HP.out 0).2 (.inr (.inr (.inr ⟨HR.out, by simpa using h, by rw [← HQL.out]; exact h', rfl⟩)))
    clear HP hr hU1 Hid1 Ht
    by_cases hm : n ∈ s.ids
    · have hcn : s.ids.contains n = true := by simpa using hm
      simp only [hcn] at L1 L2
      have G3 : Hid (P 3) := F3.out hm
      clear F3 F4 F0 hm hcn
      go_wp2_with fail
      go_region_held_law (fun w' => w'.cell? ⟨w.heap.size, 3, none⟩ = some (.int .i64 n) ∧ w'.cell? ⟨yb, 10, none⟩ = some (.map (some sb))) (go_keep) (fail)
      all_goals
        go_wp2_with fail
        go_ret
        exact ⟨⟨3, rfl, G3.out⟩, HB.out.trans ((below_new_drew _ _).mono HB.out.size)⟩
    · have hcn : s.ids.contains n = false := by simpa using hm
      simp only [hcn] at L1 L2
      have G4 : Hid (c.queue ≤ q.length → P 4) := F4.out hm
      have G0 : Hid (q.length < c.queue → P 0) := F0.out hm
      clear F3 F4 F0 hm hcn
      go_wp2_with fail
      go_cut [5, 6] from 7 (fun _ t wz => t = .bool false ∧ ∃ o, wz = (w1.alloc o).drew)
      case first =>
        go_region_held_law (fun w' => w'.cell? ⟨w.heap.size, 3, none⟩ = some (.int .i64 n) ∧ w'.cell? ⟨yb, 10, none⟩ = some (.map (some sb))) (go_keep) (fail)
        all_goals
          go_wp2_with fail
          go_meet
          case rel => exact ⟨rfl, _, rfl⟩
      case rest =>
        obtain ⟨rfl, o, rfl⟩ := hcut
        have v6 := jcell_after (below_new_drew w1 o) z6
        have v9 := jcell_after (below_new_drew w1 o) z9
        have HB2 : Hid (Below w.heap.size w (w1.alloc o).drew) := HB.out.trans ((below_new_drew _ _).mono HB.out.size)
        clear z6 z9 z10 L1 L2
        generalize (w1.alloc o).drew = w2 at *
        by_cases hlt : q.length < c.queue
        · have K : Hid (P 0) := G0.out hlt
          have hge : ¬ ((c.queue : Int) ≤ (q.length : Int)) := by omega
          clear G4 G0
          go_wp2_with fail
          go_region_held_law (fun w' => w'.cell? ⟨yb, 6, none⟩ = some (.int .i64 c.queue) ∧ w'.cell? ⟨yb, 9, none⟩ = some (.slice qa q.length qcap)) (go_keep) (fail)
          all_goals
            go_wp2_with fail
            go_ret
            exact ⟨⟨0, rfl, K.out⟩, below_drewd HB2.out⟩
        · have K : Hid (P 4) := G4.out (by omega)
          have hge : ((c.queue : Int) ≤ (q.length : Int)) := by omega
          clear G4 G0
          go_wp2_with fail
          go_region_held_law (fun w' => w'.cell? ⟨yb, 6, none⟩ = some (.int .i64 c.queue) ∧ w'.cell? ⟨yb, 9, none⟩ = some (.slice qa q.length qcap)) (go_keep) (fail)
          all_goals
            go_wp2_with fail
            go_ret
            exact ⟨⟨4, rfl, K.out⟩, below_drewd HB2.out⟩
end Go.Proofs.YtgamgomepdfgdaaGreat

namespace Go.Proofs.YtgamgomepdfgdaaGreat
open Go.RowKit


set_option maxRecDepth 100000 in
set_option maxHeartbeats 1000000 in
/-- the oldest outcome -/
theorem yOldest_some (S : Nat → Prop) (yb mb : Nat) (c : Cfg) (s : Qs) (w : World) (hY : YardAt w S yb mb c s) (ha : s.acked < s.outs.length) :
    Calls Tryz.prog 123 #[.pointer (some ⟨yb, 0, none⟩)] w fun e w' => e = .returned (.tuple #[.agg #[.int .i64 ((s.acked : Int) + 1), .int .i64 (s.outs[s.acked]'ha).1, .int .i64 (s.outs[s.acked]'ha).2], .bool true]) ∧ Below w.heap.size w w' := by
  obtain ⟨q, sb, qv, ov, h⟩ := hY
  have hd : s.outs.drop s.acked = s.outs[s.acked] :: s.outs.drop (s.acked + 1) := List.drop_eq_getElem_cons ha
  have hS := h.outs
  rw [hd, oc] at hS
  obtain ⟨m, hm⟩ : ∃ m, s.outs.length - s.acked = m + 1 := ⟨s.outs.length - s.acked - 1, by omega⟩
  rw [hm] at hS
  have hF := outFirst_some yb 15 m 201 _ _ _ ov _ _ (w.alloc (.cells #[.int .i64 0, .int .i64 0, .int .i64 0] 99)) (h.box.mk _) rfl (hS.mk _)
  generalize s.outs[s.acked] = o at *
  have hyl := h.box.lt
  clear h hS hd hm
  go_enter Tryz.func123, Tryz.ntmps123
  go_wp2_with fail
  go_fit hF
  rintro e w1 ⟨rfl, hb1⟩
  have d0 : w1.cell? ⟨w.heap.size, 0, none⟩ = some (.int .i64 0) := jcell_after hb1 (by simp)
  have d1 : w1.cell? ⟨w.heap.size, 1, none⟩ = some (.int .i64 0) := jcell_after hb1 (by simp)
  have d2 : w1.cell? ⟨w.heap.size, 2, none⟩ = some (.int .i64 0) := jcell_after hb1 (by simp)
  have fr : ∀ i, w1.frozen? ⟨w.heap.size, i, none⟩ = false := fun i => frozen_after hb1 (by simp) ((Bx.new w #[.int .i64 0, .int .i64 0, .int .i64 0] 99).fr i)
  have HB : Hid (Below w.heap.size w w1) := (below_new _ _).trans (hb1.mono (by simp))
  have B1 : Hid (Bx w1 w.heap.size 99 #[.int .i64 0, .int .i64 0, .int .i64 0]) := (hb1.block _ (by simp)).trans (Bx.new w #[.int .i64 0, .int .i64 0, .int .i64 0] 99)
  clear hb1 hF
  go_wp2_with fail
  have BW := ((B1.out.set 0 (.int .i64 ((s.acked : Int) + 1))).set 1 (.int .i64 o.1)).set 2 (.int .i64 o.2)
  simp only [List.setIfInBounds_toArray, List.set_cons_zero, List.set_cons_succ] at BW
  have HW := below_set (below_set (below_set HB.out (Nat.le_refl _) 0 (.int .i64 ((s.acked : Int) + 1))) (Nat.le_refl _) 1 (.int .i64 o.1)) (Nat.le_refl _) 2 (.int .i64 o.2)
  generalize ((w1.setCell ⟨w.heap.size, 0, none⟩ (.int .i64 ((s.acked : Int) + 1))).setCell ⟨w.heap.size, 1, none⟩ (.int .i64 o.1)).setCell ⟨w.heap.size, 2, none⟩ (.int .i64 o.2) = W at *
  have e0 := BW.cell (i := 0) (v := .int .i64 ((s.acked : Int) + 1)) rfl
  have e1 := BW.cell (i := 1) (v := .int .i64 o.1) rfl
  have e2 := BW.cell (i := 2) (v := .int .i64 o.2) rfl
  exact bodyPost_ret (v := .tuple #[.agg #[.int .i64 ((s.acked : Int) + 1), .int .i64 o.1, .int .i64 o.2], .bool true]) (by simp [results, Tryz.results123, go_sem, e0, e1, e2]) rfl ⟨rfl, HW⟩

set_option maxRecDepth 100000 in
set_option maxHeartbeats 1000000 in
theorem yOldest_none (S : Nat → Prop) (yb mb : Nat) (c : Cfg) (s : Qs) (w : World) (hY : YardAt w S yb mb c s) (ha : s.acked = s.outs.length) :
    Calls Tryz.prog 123 #[.pointer (some ⟨yb, 0, none⟩)] w fun e w' => e = .returned (.tuple #[.agg #[.int .i64 0, .int .i64 0, .int .i64 0], .bool false]) ∧ Below w.heap.size w w' := by
  obtain ⟨q, sb, qv, ov, h⟩ := hY
  have hS := h.outs
  rw [ha, List.drop_length, Nat.sub_self] at hS
  have hF := outFirst_none yb 15 201 ov _ (w.alloc (.cells #[.int .i64 0, .int .i64 0, .int .i64 0] 99)) (h.box.mk _) rfl (hS.mk _)
  have hyl := h.box.lt
  clear h hS
  go_enter Tryz.func123, Tryz.ntmps123
  go_wp2_with fail
  go_fit hF
  rintro e w1 ⟨rfl, hb1⟩
  have d0 : w1.cell? ⟨w.heap.size, 0, none⟩ = some (.int .i64 0) := jcell_after hb1 (by simp)
  have d1 : w1.cell? ⟨w.heap.size, 1, none⟩ = some (.int .i64 0) := jcell_after hb1 (by simp)
  have d2 : w1.cell? ⟨w.heap.size, 2, none⟩ = some (.int .i64 0) := jcell_after hb1 (by simp)
  have fr : ∀ i, w1.frozen? ⟨w.heap.size, i, none⟩ = false := fun i => frozen_after hb1 (by simp) ((Bx.new w #[.int .i64 0, .int .i64 0, .int .i64 0] 99).fr i)
  have HB : Hid (Below w.heap.size w w1) := (below_new _ _).trans (hb1.mono (by simp))
  have B1 : Hid (Bx w1 w.heap.size 99 #[.int .i64 0, .int .i64 0, .int .i64 0]) := (hb1.block _ (by simp)).trans (Bx.new w #[.int .i64 0, .int .i64 0, .int .i64 0] 99)
  clear hb1 hF
  go_wp2_with fail
  have BW := ((B1.out.set 0 (.int .i64 0)).set 1 (.int .i64 0)).set 2 (.int .i64 0)
  simp only [List.setIfInBounds_toArray, List.set_cons_zero, List.set_cons_succ] at BW
  have HW := below_set (below_set (below_set HB.out (Nat.le_refl _) 0 (.int .i64 0)) (Nat.le_refl _) 1 (.int .i64 0)) (Nat.le_refl _) 2 (.int .i64 0)
  generalize ((w1.setCell ⟨w.heap.size, 0, none⟩ (.int .i64 0)).setCell ⟨w.heap.size, 1, none⟩ (.int .i64 0)).setCell ⟨w.heap.size, 2, none⟩ (.int .i64 0) = W at *
  have e0 := BW.cell (i := 0) (v := .int .i64 0) rfl
  have e1 := BW.cell (i := 1) (v := .int .i64 0) rfl
  have e2 := BW.cell (i := 2) (v := .int .i64 0) rfl
  exact bodyPost_ret (v := .tuple #[.agg #[.int .i64 0, .int .i64 0, .int .i64 0], .bool false]) (by simp [results, Tryz.results123, go_sem, e0, e1, e2]) rfl ⟨rfl, HW⟩
end Go.Proofs.YtgamgomepdfgdaaGreat

namespace Go.Proofs.YtgamgomepdfgdaaGreat
open Go.RowKit

set_option maxRecDepth 100000 in
set_option maxHeartbeats 2000000 in
theorem yCheck2 (S : Nat → Prop) (yb mb : Nat) (c : Cfg) (s : Qs) (id : Int) (w : World) (hY : YardAt w S yb mb c s) (hq : s.queue.length ≤ 16) :
    Calls Tryz.prog 110 #[.pointer (some ⟨yb, 0, none⟩), .agg #[.int .i64 2, .int .i64 0, .slice none 0 0, .int .i64 id, .bool false, .int .i64 0]] w fun e w' => (((∃ x ∈ s.queue, (x.id : Int) = id) ∧ e = .returned (.int .i64 0)) ∨ ((¬ ∃ x ∈ s.queue, (x.id : Int) = id) ∧ e = .returned (.int .i64 5))) ∧ Below w.heap.size w w' := by
  obtain ⟨q, sb, qv, ov, h⟩ := hY
  have hW := yWaits q c.age yb id qv _ (w.alloc (.cells #[.int .i64 2, .int .i64 0, .slice none 0 0, .int .i64 id, .bool false, .int .i64 0] 140)) (h.box.mk _) rfl (h.row.mk _) h.sl (by rw [h.qlen]; exact hq)
  have hp : (∃ x ∈ q, (x.1.id : Int) = id) ↔ ∃ x ∈ s.queue, (x.id : Int) = id := by
    rw [← h.qs]
    constructor
    · rintro ⟨x, hx, he⟩
      exact ⟨x.1, List.mem_map.2 ⟨x, hx, rfl⟩, he⟩
    · rintro ⟨x, hx, he⟩
      obtain ⟨y, hy, rfl⟩ := List.mem_map.1 hx
      exact ⟨y, hy, he⟩
  have HP : Hid _ := hp
  generalize (∃ x ∈ q, (x.1.id : Int) = id) = p at hW HP
  generalize (∃ x ∈ s.queue, (x.id : Int) = id) = r at HP ⊢
  clear h hp
  go_enter Tryz.func110, Tryz.ntmps110
  go_wp2_with fail
  go_fit hW
  rintro e w1 ⟨⟨t, rfl, ht⟩, hb1⟩
  have HB : Hid (Below w.heap.size w w1) := (below_new _ _).trans (hb1.mono (by simp))
  have Ht : Hid (t = true ↔ r) := ht.trans HP.out
  clear ht hb1 hW HP
  cases t
  · go_wp2_with fail
    go_ret
    exact ⟨.inr ⟨fun x => Bool.noConfusion (Ht.out.2 x), rfl⟩, HB.out⟩
  · go_wp2_with fail
    go_ret
    exact ⟨.inl ⟨by first | exact Ht.out.1 rfl | exact Ht.out.1 trivial, rfl⟩, HB.out⟩

set_option maxRecDepth 100000 in
set_option maxHeartbeats 2000000 in
theorem yCheck7 (yb : Nat) (w : World) :
    Calls Tryz.prog 110 #[.pointer (some ⟨yb, 0, none⟩), .agg #[.int .i64 7, .int .i64 0, .slice none 0 0, .int .i64 0, .bool false, .int .i64 0]] w fun e w' => e = .returned (.int .i64 0) ∧ Below w.heap.size w w' := by
  go_enter Tryz.func110, Tryz.ntmps110
  go_wp2_with fail
  go_ret
  exact ⟨rfl, below_new _ _⟩

set_option maxRecDepth 100000 in
set_option maxHeartbeats 2000000 in
theorem yCheck6 (S : Nat → Prop) (yb mb : Nat) (c : Cfg) (s : Qs) (n : Int) (w : World) (hY : YardAt w S yb mb c s) (ha : s.acked ≤ s.outs.length) :
    Calls Tryz.prog 110 #[.pointer (some ⟨yb, 0, none⟩), .agg #[.int .i64 6, .int .i64 0, .slice none 0 0, .int .i64 0, .bool false, .int .i64 n]] w fun e w' => (((s.acked < s.outs.length ∧ n = (s.acked : Int) + 1) ∧ e = .returned (.int .i64 0)) ∨ ((¬ (s.acked < s.outs.length ∧ n = (s.acked : Int) + 1)) ∧ e = .returned (.int .i64 5))) ∧ Below w.heap.size w w' := by
  have hY0 : YardAt (w.alloc (.cells #[.int .i64 6, .int .i64 0, .slice none 0 0, .int .i64 0, .bool false, .int .i64 n] 140)) S yb mb c s := hY.later (below_new _ _)
  by_cases h1 : s.acked < s.outs.length
  · have hO := yOldest_some S yb mb c s _ hY0 h1
    generalize s.outs[s.acked] = o at hO
    have HP : Hid (s.acked < s.outs.length) := h1
    clear hY hY0 ha h1
    go_enter Tryz.func110, Tryz.ntmps110
    go_wp2_with fail
    go_fit hO
    rintro e w1 ⟨rfl, hb1⟩
    have HB : Hid (Below w.heap.size w w1) := (below_new _ _).trans (hb1.mono (by simp))
    have x5 : w1.cell? ⟨w.heap.size, 5, none⟩ = some (.int .i64 n) := jcell_after hb1 (by simp)
    have x5o : ∀ o, (w1.alloc o).cell? ⟨w.heap.size, 5, none⟩ = some (.int .i64 n) := fun o => jcell_after (below_new w1 o) x5
    have hlt := jcell_lt x5
    clear hb1 hO
    by_cases h2 : n = (s.acked : Int) + 1
    · subst h2
      go_wp2_with fail
      go_ret
      exact ⟨.inl ⟨by first | exact ⟨HP.out, rfl⟩ | exact HP.out, rfl⟩, HB.out.trans ((below_new _ _).mono HB.out.size)⟩
    · have hne : (((s.acked : Int) + 1) == n) = false := by simp; omega
      have hne2 : ¬ ((s.acked : Int) + 1 = n) := by omega
      go_wp2_with fail
      go_ret
      exact ⟨.inr ⟨by first | exact (fun x => h2 x.2) | (simp; omega), rfl⟩, HB.out.trans ((below_new _ _).mono HB.out.size)⟩
  · have hO := yOldest_none S yb mb c s _ hY0 (by omega)
    have HP : Hid (¬ s.acked < s.outs.length) := h1
    clear hY hY0 ha h1
    go_enter Tryz.func110, Tryz.ntmps110
    go_wp2_with fail
    go_fit hO
    rintro e w1 ⟨rfl, hb1⟩
    have HB : Hid (Below w.heap.size w w1) := (below_new _ _).trans (hb1.mono (by simp))
    clear hb1 hO
    go_wp2_with fail
    go_ret
    exact ⟨.inr ⟨fun x => HP.out x.1, rfl⟩, HB.out.trans ((below_new _ _).mono HB.out.size)⟩
end Go.Proofs.YtgamgomepdfgdaaGreat

namespace Go.Proofs.YtgamgomepdfgdaaGreat
open Go.RowKit

theorem Only.from_new {w w' : World} {o : Obj} {S : Nat → Prop} (h : Only (w.alloc o) w' S) : Only w w' S := (Only.of_below (S := S) (below_new w o)).trans h fun _ hk => .inl hk
theorem Plus.from_new {S : Nat → Prop} {w : World} {o : Obj} : ∀ k, Plus S (w.alloc o) k → Plus S w k := fun k h => by
  rcases h with h | h
  · exact .inl h
  · exact .inr (by have : (w.alloc o).heap.size = w.heap.size + 1 := by simp
                   omega)

set_option maxRecDepth 100000 in
set_option maxHeartbeats 2000000 in
theorem yDo1 (S : Nat → Prop) (yb mb id lane num : Nat) (pass : Bool) (b eo ec : Nat) (es : List Ed) (c : Cfg) (s : Qs) (w : World) (hY : YardAt w S yb mb c s) (hn : s.queue.length ≤ 16) (hsm : Small es) (hid : id ≤ 1000000) (hnew : id ∉ s.ids) (hi : s.ids.length < 1048576000)
    (hlt : b < w.heap.size) (h0 : ∀ i (h : i < es.length), w.cell? ⟨b, eo + i * 3, none⟩ = some (.string es[i].1)) (h1 : ∀ i (h : i < es.length), w.cell? ⟨b, eo + i * 3 + 1, none⟩ = some (.string es[i].2.1)) (h2 : ∀ i (h : i < es.length), w.cell? ⟨b, eo + i * 3 + 2, none⟩ = some (.string es[i].2.2)) :
    Calls Tryz.prog 76 #[.pointer (some ⟨yb, 0, none⟩), .agg (recC 1 lane (some ⟨b, eo, none⟩) es.length ec id pass num)] w fun e w' => e = .returned (.tuple #[]) ∧ YardAt w' (Plus S w) yb mb c { s with ids := s.ids ++ [id], queue := s.queue ++ [⟨id, lane, 0, s.ids.length, es⟩] } ∧ Only w w' S := by
  have hS := ySubmit S yb mb 1 id lane num pass b eo ec es c s (w.alloc (.cells (recC 1 lane (some ⟨b, eo, none⟩) es.length ec id pass num) 140)) (hY.later (below_new _ _)) hn hsm hid hnew hi (by simp; omega) (fun i h => jcell_after (below_new _ _) (h0 i h)) (fun i h => jcell_after (below_new _ _) (h1 i h)) (fun i h => jcell_after (below_new _ _) (h2 i h))
  clear hY h0 h1 h2
  unfold recC at hS ⊢
  go_enter Tryz.func76, Tryz.ntmps76
  go_wp2_with fail
  go_fit hS
  rintro e w1 ⟨rfl, hY1, hO1⟩
  have HY : Hid _ := hY1
  have HO : Hid _ := hO1
  clear hY1 hO1 hS
  go_wp2_with fail
  exact bodyPost_end (v := .tuple #[]) (results_none (by kernel_rfl) _ _ _) rfl ⟨rfl, YardAt.mono HY.out Plus.from_new, Only.from_new HO.out⟩

set_option maxRecDepth 100000 in
set_option maxHeartbeats 2000000 in
theorem yDo2 (S : Nat → Prop) (yb mb id : Nat) (c : Cfg) (s : Qs) (w : World) (hY : YardAt w S yb mb c s) (hn : s.queue.length ≤ 16) (hex : ∃ x ∈ s.queue, x.id = id) (ho : s.outs.length < 1048576000) (ha : s.acked ≤ s.outs.length) :
    Calls Tryz.prog 76 #[.pointer (some ⟨yb, 0, none⟩), .agg #[.int .i64 2, .int .i64 0, .slice none 0 0, .int .i64 id, .bool false, .int .i64 0]] w fun e w' => e = .returned (.tuple #[]) ∧ YardAt w' (Plus S w) yb mb c { s with queue := s.queue.filter fun c => c.id != id, outs := s.outs ++ [(id, 4)] } ∧ Only w w' S := by
  have hS := yWithdraw S yb mb id c s (w.alloc (.cells #[.int .i64 2, .int .i64 0, .slice none 0 0, .int .i64 id, .bool false, .int .i64 0] 140)) (hY.later (below_new _ _)) hn hex ho ha
  clear hY hex
  go_enter Tryz.func76, Tryz.ntmps76
  go_wp2_with fail
  go_fit hS
  rintro e w1 ⟨rfl, hY1, hO1⟩
  have HY : Hid _ := hY1
  have HO : Hid _ := hO1
  clear hY1 hO1 hS
  go_wp2_with fail
  exact bodyPost_end (v := .tuple #[]) (results_none (by kernel_rfl) _ _ _) rfl ⟨rfl, YardAt.mono HY.out Plus.from_new, Only.from_new HO.out⟩

set_option maxRecDepth 100000 in
set_option maxHeartbeats 2000000 in
theorem yDo6 (S : Nat → Prop) (yb mb : Nat) (n : Int) (c : Cfg) (s : Qs) (w : World) (hY : YardAt w S yb mb c s) (ha : s.acked < s.outs.length) :
    Calls Tryz.prog 76 #[.pointer (some ⟨yb, 0, none⟩), .agg #[.int .i64 6, .int .i64 0, .slice none 0 0, .int .i64 0, .bool false, .int .i64 n]] w fun e w' => e = .returned (.tuple #[]) ∧ YardAt w' (Plus S w) yb mb c { s with acked := s.acked + 1 } ∧ Only w w' S := by
  obtain ⟨q, sb, qv, ov, h⟩ := hY
  have HY : Hid (YardIs w S yb mb c s q sb qv ov) := h
  have hd : s.outs.drop s.acked = s.outs[s.acked] :: s.outs.drop (s.acked + 1) := List.drop_eq_getElem_cons ha
  have hS := h.outs
  rw [hd, oc] at hS
  obtain ⟨m, hm⟩ : ∃ m, s.outs.length - s.acked = m + 1 := ⟨s.outs.length - s.acked - 1, by omega⟩
  rw [hm] at hS
  have hne := h.outs.ne h.box (by decide)
  have hD := outDrop yb 15 m 201 ov _ _ _ _ _ (w.alloc (.cells #[.int .i64 6, .int .i64 0, .slice none 0 0, .int .i64 0, .bool false, .int .i64 n] 140)) (h.box.mk _) rfl (hS.mk _) hne
  have Hm : Hid (s.outs.length - (s.acked + 1) = m) := by show _ = _; omega
  have hyl := h.box.lt
  clear h hS hd hm
  go_enter Tryz.func76, Tryz.ntmps76
  go_wp2_with fail
  go_fit hD
  rintro e w1 ⟨rfl, v', hB1, hS1, hv1, hO1⟩
  have HB : Hid _ := hB1
  have HS : Hid _ := hS1
  have HV : Hid _ := hv1
  have HO : Hid _ := hO1
  clear hB1 hS1 hv1 hO1 hD
  go_wp2_with fail
  have h := HY.out
  have O : Only w w1 (fun k => k = yb ∨ ov.ownBlock = some k) := Only.from_new HO.out
  have old : ∀ k, k < w.heap.size → k ≠ yb → ov.ownBlock ≠ some k → w1.heap[k]? = w.heap[k]? := fun k hk h1 h2 => O.block k hk (fun e => by
    rcases e with e | e
    · exact h1 e
    · exact h2 e)
  refine bodyPost_end (v := .tuple #[]) (results_none (by kernel_rfl) _ _ _) rfl ⟨rfl, ⟨q, sb, qv, v', h.qs, ?_, h.row.kept fun k hk => ?_, fun x hx => (h.eds x hx).kept fun k hk => ?_, h.sub.same ?_, h.ne, ?_, .inl h.fy, .inl h.fs, fun g hg => .inl (h.fq g hg), fun g hg => ?_, fun x hx g hg => .inl (h.fe x hx g hg)⟩, O.mono fun k hk => ?_⟩
  · have := HB.out
    rwa [set15] at this
  · exact old k (h.row.lt hk) (fun e => h.row.ne h.box (by decide) (by rw [hk, e])) (h.row.apart h.outs (by decide) hk)
  · have he := h.eds x hx
    exact old k (he.lt hk) (fun e => he.ne h.box (by decide) (by rw [hk, e])) (he.apart h.outs (by decide) hk)
  · exact old sb h.sub.lt (h.sub.ne_box h.box) (h.sub.ne_sl h.outs)
  · show Sl w1 _ 3 v' (s.outs.length - (s.acked + 1)) (oc (s.acked + 1) (s.outs.drop (s.acked + 1)))
    rw [Hm.out]; exact HS.out
  · rw [HV.out] at hg; exact .inl (h.fo g hg)
  · rcases hk with hk | hk
    · rw [hk]; exact h.fy
    · exact h.fo k hk

set_option maxRecDepth 100000 in
set_option maxHeartbeats 2000000 in
theorem yCheck1 (S : Nat → Prop) (yb mb : Nat) (c : Cfg) (s : Qs) (id lane : Int) (es : List Ed) (ea : Option Addr) (en ec : Nat) (w : World) (hY : YardAt w S yb mb c s) (hE : EditsAt w (.slice ea en ec) es) (hc : CapOK (.slice ea en ec)) (hn : es.length < 8796093022208) (hq : s.queue.length ≤ 16) :
    Calls Tryz.prog 110 #[.pointer (some ⟨yb, 0, none⟩), .agg #[.int .i64 1, .int .i64 lane, .slice ea en ec, .int .i64 id, .bool false, .int .i64 0]] w fun e w' => (∃ k : Int, e = .returned (.int .i64 k) ∧ SubErr c s id lane es k) ∧ Below w.heap.size w w' := by
  have hC := yCheckSubmit S yb mb c s 1 id lane 0 false es ea en ec (w.alloc (.cells #[.int .i64 1, .int .i64 lane, .slice ea en ec, .int .i64 id, .bool false, .int .i64 0] 140)) (hY.later (below_new _ _)) (hE.later (below_new _ _)) hc hn hq
  generalize SubErr c s id lane es = P at hC ⊢
  clear hY hE
  go_enter Tryz.func110, Tryz.ntmps110
  go_wp2_with fail
  go_fit hC
  rintro e w1 ⟨⟨k, rfl, hk⟩, hb1⟩
  have HK : Hid (P k) := hk
  have HB : Hid (Below w.heap.size w w1) := (below_new _ _).trans (hb1.mono (by simp))
  clear hk hb1 hC
  go_wp2_with fail
  go_ret
  exact ⟨⟨k, rfl, HK.out⟩, HB.out⟩
end Go.Proofs.YtgamgomepdfgdaaGreat
