import Derived.Test.YtgamgomepdfgdaaGreatM30
import Derived.Test.YtgamgomepdfgdaaGreatM17
import Derived.Test.YtgamgomepdfgdaaGreatM32
namespace Go.Proofs.YtgamgomepdfgdaaGreat
open Go.RowKit

set_option maxRecDepth 100000 in
set_option maxHeartbeats 2000000 in
theorem rSubmit_down (yb : Nat) (c : Cfg) (fv lv : Value) (lr : List Lr) (torn : ByteArray) (broken : Bool) (keep id lane : Int) (ea : Option Addr) (en ec : Nat) (w : World) (hR : RefIs w yb c fv lr torn true broken keep lv) :
    Calls Tryz.prog 87 #[.pointer (some ⟨yb, 0, none⟩), .int .i64 id, .int .i64 lane, .slice ea en ec] w fun e w' => e = .returned (.int .i64 8) ∧ w' = w := by
  have c10 : w.cell? ⟨yb, 10, none⟩ = some (.bool true) := hR.box.cell (i := 10) rfl
  clear hR
  go_enter Tryz.func87, Tryz.ntmps87
  go_wp2_with fail
  go_ret
  exact ⟨rfl, rfl⟩

/-- the answer of Submit: why not; or what writing answers, behind some reading and a copy of the edits -/
def SubRes (w w' : World) (e : Ending) (c : Cfg) (s : Qs) (id lane : Int) (es : List Ed) (k : Int) (R : World → Nat → World → Prop) : Prop :=
  (∃ k' : Int, k' ≠ 0 ∧ SubErr c s id lane es k' ∧ e = .returned (.int .i64 k') ∧ Below w.heap.size w w') ∨
  (SubErr c s id lane es 0 ∧ e = .returned (.int .i64 k) ∧ ∃ W g, Below w.heap.size w W ∧ W.ownsRow w.heap.size 49 3 (.slice (some ⟨g, 0, none⟩) es.length es.length) es.length (es.flatMap cE) ∧ R W g w')

set_option maxRecDepth 100000 in
set_option maxHeartbeats 4000000 in
theorem rSubmit_up (yb : Nat) (c : Cfg) (fv lv : Value) (lr : List Lr) (torn : ByteArray) (broken : Bool) (keep id lane k : Int) (es : List Ed) (ea : Option Addr) (ec : Nat) (R : World → Nat → World → Prop) (w : World) (hR : RefIs w yb c fv lr torn false broken keep lv) (hfv : IsSl fv) (hF : LrFits c lr) (hc : c.Ok) (s : Qs) (hs : s = Qs.all (lr.map Prod.fst)) (hE : EditsAt w (.slice ea es.length ec) es) (hen : es.length < 8796093022208)
    (hW : SubErr c s id lane es 0 → ∀ W g, Below w.heap.size w W → W.ownsRow w.heap.size 49 3 (.slice (some ⟨g, 0, none⟩) es.length es.length) es.length (es.flatMap cE) → Calls Tryz.prog 91 #[.pointer (some ⟨yb, 0, none⟩), .agg #[.int .i64 1, .int .i64 lane, .int .i64 id, .bool false, .slice (some ⟨g, 0, none⟩) es.length es.length]] W fun e w' => e = .returned (.int .i64 k) ∧ R W g w') :
    Calls Tryz.prog 87 #[.pointer (some ⟨yb, 0, none⟩), .int .i64 id, .int .i64 lane, .slice ea es.length ec] w fun e w' => SubRes w w' e c s id lane es k R := by
  obtain ⟨i0, hi, hz0, hz1, hz2⟩ := info_parts info49b
  have hsz : (Tryz.prog.info? 49).map (·.size) = some 3 := by rw [hi]; simp [hz1]
  have c10 : w.cell? ⟨yb, 10, none⟩ = some (.bool false) := hR.box.cell (i := 10) rfl
  have hMay := editsMay_any es _ w hE hen
  have HR : Hid (RefIs w yb c fv lr torn false broken keep lv) := hR
  have HE : Hid (EditsAt w (.slice ea es.length ec) es) := hE
  have HS : Hid (∀ k, SubErr c s id lane es k ↔ ((¬ ChOK c id lane es ∧ k = 2) ∨ (ChOK c id lane es ∧ id.toNat ∈ s.ids ∧ k = 3) ∨ (ChOK c id lane es ∧ id.toNat ∉ s.ids ∧ c.queue ≤ s.queue.length ∧ k = 4) ∨ (ChOK c id lane es ∧ id.toNat ∉ s.ids ∧ s.queue.length < c.queue ∧ k = 0))) := fun k => Iff.rfl
  have HC : Hid (ChOK c id lane es ↔ (1 ≤ id ∧ id ≤ 1000000 ∧ 0 ≤ lane ∧ lane < c.lanes ∧ EditsOK es)) := Iff.rfl
  have HW : Hid (SubErr c s id lane es 0 → ∀ W g, Below w.heap.size w W → W.ownsRow w.heap.size 49 3 (.slice (some ⟨g, 0, none⟩) es.length es.length) es.length (es.flatMap cE) → Calls Tryz.prog 91 #[.pointer (some ⟨yb, 0, none⟩), .agg #[.int .i64 1, .int .i64 lane, .int .i64 id, .bool false, .slice (some ⟨g, 0, none⟩) es.length es.length]] W fun e w' => e = .returned (.int .i64 k) ∧ R W g w') := hW
  unfold SubRes
  generalize SubErr c s id lane es = P at HS HW ⊢
  clear hR hE hW
  have hcl : c.lanes ≤ 4 := hc.1.2
  go_enter Tryz.func87, Tryz.ntmps87
  go_wp2_with fail
  go_fit hMay
  rintro e w1 ⟨⟨r, rfl, hr⟩, hb1⟩
  have HRI : Hid (r = true ↔ EditsOK es) := hr
  have HB1 : Hid (Below w.heap.size w w1) := hb1
  have hR1 := HR.out.later hb1
  have d0 : w1.cell? ⟨yb, 0, none⟩ = some (.int .i64 c.lanes) := hR1.box.cell (i := 0) rfl
  clear hr hMay c10 hb1
  by_cases hch : r = true ∧ ¬ id < 1 ∧ ¬ 1000000 < id ∧ ¬ lane < 0 ∧ ¬ (c.lanes : Int) ≤ lane
  · obtain ⟨rfl, n1, n2, n3, n4⟩ := hch
    have HCH : Hid (ChOK c id lane es) := HC.out.2 ⟨by omega, by omega, by omega, by omega, HRI.out.1 rfl⟩
    have hN := rNowOf hR1 hfv hF hc
    rw [← hs] at hN
    have hlen := Qs.all_len (lr.map Prod.fst)
    rw [← hs, List.length_map] at hlen
    have hil : s.ids.length < 1048576 := by have := hF.len; omega
    have hc6 : Hid (Bx w1 yb 151 (refCells c fv lv torn false broken keep)) := hR1.box
    have hq16 : s.queue.length ≤ 16 := by rw [hs]; exact Nat.le_trans hF.fits.inv.len hc.2.2.2.2.2.2.2
    have hcq : c.queue ≤ 16 := hc.2.2.2.2.2.2.2
    clear hR1 hF hs hlen
    go_wp2_with fail
    go_fit hN
    rintro e w2 ⟨⟨nb, rfl, q, idv, qv, ov, h⟩, hb2⟩
    have HB2 : Hid (Below w.heap.size w w2) := HB1.out.trans (hb2.mono HB1.out.size)
    obtain ⟨ia, ic, rfl⟩ := row_shape3 h.ids
    obtain ⟨qa, qc, rfl⟩ := row_shape3 h.row
    have n9 : w2.cell? ⟨nb, 9, none⟩ = some (.slice ia s.ids.length ic) := h.box.cell (i := 9) rfl
    have n10 : w2.cell? ⟨nb, 10, none⟩ = some (.slice qa q.length qc) := h.box.cell (i := 10) rfl
    have e6 : w2.cell? ⟨yb, 6, none⟩ = some (.int .i64 c.queue) := jcell_after hb2 (hc6.out.cell (i := 6) rfl)
    have Hql : Hid (q.length = s.queue.length) := by show _ = _; rw [← h.qs, List.length_map]
    have HI : Hid (w2.ownsRow w1.heap.size 3 1 (.slice ia s.ids.length ic) s.ids.length (s.ids.map cI)) := h.ids
    clear hN h hb2 d0 hc6
    have HP : Hid (id.toNat ∈ s.ids ↔ ∃ m, ∃ h : m < s.ids.length, (s.ids[m] : Int) = id) := by
      constructor
      · intro hm
        obtain ⟨m, h, e⟩ := List.mem_iff_getElem.1 hm
        exact ⟨m, h, by rw [e]; omega⟩
      · rintro ⟨m, h, e⟩
        rw [← e]; exact List.getElem_mem h
    go_wp2_with fail
    go_loopw [11] (fun i wr => ∃ j : Nat, j ≤ s.ids.length ∧ i = .int .i64 j ∧ wr = w2 ∧ Hid (∀ m (h : m < j) (h' : m < s.ids.length), (s.ids[m] : Int) ≠ id)) (fun i _ => s.ids.length - (intOf i).toNat)
    case atStart => exact ⟨0, Nat.zero_le _, rfl, rfl, fun m h => by omega⟩
    case round =>
      obtain ⟨j, hj, rfl, rfl, hno⟩ := hrel
      by_cases hlj : j < s.ids.length
      · obtain ⟨g, hia⟩ : ∃ g, ia = some ⟨g, 0, none⟩ := by
          rcases HI.out.2 with ⟨_, h0⟩ | ⟨g, cap, cur, e, _⟩
          · omega
          · injection e with e _ _; exact ⟨g, e⟩
        subst hia
        have d0 : wr.cell? ⟨g, j, none⟩ = some (.int .i64 s.ids[j]) := by
          have h1 := World.ownsRow.cells (g := g) HI.out rfl
          have h3 := h1 j (.int .i64 s.ids[j]) (by simp [cI, hlj])
          rw [addr_add, Nat.zero_add] at h3
          exact h3
        have hgl := jcell_lt d0
        have Hy : Hid ((s.ids[j] : Int) = id → id.toNat ∈ s.ids) := fun h => HP.out.2 ⟨j, hlj, h⟩
        have Hn : Hid ((s.ids[j] : Int) ≠ id → ∀ m (h : m < j + 1) (h' : m < s.ids.length), (s.ids[m] : Int) ≠ id) := fun h m hm hm' => by
          by_cases e : m = j
          · subst e; exact h
          · exact hno.out m (by omega) hm'
        generalize s.ids[j] = a0 at *
        clear hno
        by_cases hid : (a0 : Int) = id
        · have hpp : Hid (id.toNat ∈ s.ids) := Hy.out hid
          subst hid
          go_wp2_with fail
          go_ret
          exact .inl ⟨3, by decide, (HS.out 3).2 (.inr (.inl ⟨HCH.out, hpp.out, rfl⟩)), rfl, HB2.out⟩
        · have hne : ((a0 : Int) == id) = false := by simpa using hid
          have hne2 : ¬ ((a0 : Int) = id) := hid
          go_wp2_with fail
          exact ⟨⟨j + 1, hlj, by go_num, by first | exact rfl | exact trivial, Hn.out hid⟩, by simp [intOf]; omega⟩
      · have Hnp : Hid (id.toNat ∉ s.ids) := fun hp => by
          obtain ⟨m, hm, he⟩ := HP.out.1 hp
          exact hno.out m (by omega) hm he
        by_cases hfull : c.queue ≤ s.queue.length
        · have hfull' : (c.queue : Int) ≤ (q.length : Int) := by have := Hql.out; omega
          go_wp2_with fail
          go_quiet (fail)
          go_wp2_with fail
          go_ret
          exact .inl ⟨4, by decide, (HS.out 4).2 (.inr (.inr (.inl ⟨HCH.out, Hnp.out, hfull, rfl⟩))), rfl, ⟨HB2.out.os, HB2.out.tape, HB2.out.output, HB2.out.size, HB2.out.block⟩⟩
        · have hfull' : ¬ (c.queue : Int) ≤ (q.length : Int) := by have := Hql.out; omega
          have HP0 : Hid (P 0) := (HS.out 0).2 (.inr (.inr (.inr ⟨HCH.out, Hnp.out, by omega, rfl⟩)))
          have HWr := HW.out HP0.out
          have HEr : Hid (EditsAt wr (.slice ea es.length ec) es) := HE.out.later HB2.out
          have q2 : Hid (i0.bytes * es.length ≤ 281474976710656) := by
            show i0.bytes * es.length ≤ 281474976710656
            have h1 : es.length ≤ 4 := (HC.out.1 HCH.out).2.2.2.2.2.1
            rw [hz2]; omega
          have hone : ∀ v ∈ es.flatMap cE, v.oneCell' = true := one_flatE es
          have h4 : es.length ≤ 4 := (HC.out.1 HCH.out).2.2.2.2.2.1
          go_wp2_with fail
          go_quiet (fail)
          go_wp2_with (first | (at_make; refine wpList_make_full _ rfl _ _ _ rfl wr.heap.size _ i0 _ 3 Tryz.underlying27 hi hz0 hz1 _ _ _ _ es.length rfl rfl (by omega) (by omega) q2.out (by unfold maxLen; omega) (Nat.le_refl _) ?_; intro w3 hrow3 hg3) | (refine wpList_copyK _ rfl _ _ _ _ rfl 49 3 wr.heap.size Tryz.underlying27 hsz _ es.length ea es.length ec rfl rfl (Nat.le_refl _) _ hrow3 (es.flatMap cE) (flat_len cE 3 (fun _ => rfl) es) (fun h0 => src_edits (HEr.out.grown (show wr.grownBy w3 none from ⟨hg3.os, hg3.tape, hg3.output, hg3.size, hg3.block⟩) (Classical.em _)) h0) hone ?_; intro w4 hrow4 hg4))
          have e0 : (madeCells (Value.agg #[Value.string ⟨#[]⟩, Value.string ⟨#[]⟩, Value.string ⟨#[]⟩]).cells (es.length * 3)).toList.drop (es.flatMap cE).length = [] := by
            apply List.drop_eq_nil_of_le
            have := hrow3.1
            rw [this, flat_len cE 3 (fun _ => rfl) es]
            exact Nat.le_refl _
          have hg3' : wr.grownBy w3 none := ⟨hg3.os, hg3.tape, hg3.output, hg3.size, hg3.block⟩
          have HB4 : Hid (Below w.heap.size w w4) := (HB2.out.grown hg3' HB2.out.size (by simp)).grown hg4 (Nat.le_trans HB2.out.size hg3'.size) (fun k h => by cases h; exact HB2.out.size)
          have HR4 : Hid (w4.ownsRow w.heap.size 49 3 (.slice (some ⟨wr.heap.size, 0, none⟩) es.length es.length) es.length (es.flatMap cE)) := by
            have := row_low hrow4 (base' := w.heap.size) HB2.out.size
            rw [e0, List.append_nil] at this
            exact this
          have hC := HWr w4 wr.heap.size HB4.out HR4.out
          clear hrow3 hrow4 hg3 hg4 hg3' e0 HWr
          go_fit hC
          rintro e w5 ⟨rfl, hR5⟩
          have HR5 : Hid (R w4 wr.heap.size w5) := hR5
          clear hR5 hC
          go_wp2_with fail
          go_ret
          exact .inr ⟨HP0.out, rfl, w4, wr.heap.size, HB4.out, HR4.out, HR5.out⟩
  · have hno : Hid (¬ ChOK c id lane es) := fun h => by
      obtain ⟨a1, a2, a3, a4, a5⟩ := HC.out.1 h
      exact hch ⟨HRI.out.2 a5, by omega, by omega, by omega, by omega⟩
    have hcase : r = false ∨ (r = true ∧ id < 1) ∨ (r = true ∧ ¬ id < 1 ∧ 1000000 < id) ∨ (r = true ∧ ¬ id < 1 ∧ ¬ 1000000 < id ∧ lane < 0) ∨ (r = true ∧ ¬ id < 1 ∧ ¬ 1000000 < id ∧ ¬ lane < 0 ∧ (c.lanes : Int) ≤ lane) := by
      cases r
      · exact .inl rfl
      · refine .inr ?_
        by_cases a1 : id < 1
        · exact .inl ⟨rfl, a1⟩
        · by_cases a2 : 1000000 < id
          · exact .inr (.inl ⟨rfl, a1, a2⟩)
          · by_cases a3 : lane < 0
            · exact .inr (.inr (.inl ⟨rfl, a1, a2, a3⟩))
            · by_cases a4 : (c.lanes : Int) ≤ lane
              · exact .inr (.inr (.inr ⟨rfl, a1, a2, a3, a4⟩))
              · exact absurd ⟨rfl, a1, a2, a3, a4⟩ hch
    clear hch hR1
    rcases hcase with rfl | ⟨rfl, a1⟩ | ⟨rfl, a1, a2⟩ | ⟨rfl, a1, a2, a3⟩ | ⟨rfl, a1, a2, a3, a4⟩
    all_goals
      go_wp2_with fail
      go_ret
      exact .inl ⟨2, by decide, (HS.out 2).2 (.inl ⟨hno.out, rfl⟩), rfl, HB1.out⟩
end Go.Proofs.YtgamgomepdfgdaaGreat

namespace Go.Proofs.YtgamgomepdfgdaaGreat
open Go.RowKit

set_option maxRecDepth 100000 in
set_option maxHeartbeats 1000000 in
theorem rTree_up (yb : Nat) (c : Cfg) (fa : Option Addr) (fn fc : Nat) (lv : Value) (lr : List Lr) (torn : ByteArray) (broken : Bool) (keep : Int) (w : World) (hR : RefIs w yb c (.slice fa fn fc) lr torn false broken keep lv) (hF : LrFits c lr) (hc : c.Ok) :
    Calls Tryz.prog 134 #[.pointer (some ⟨yb, 0, none⟩)] w fun e w' => e = .returned (.tuple #[.slice fa fn fc, .int .i64 0]) ∧ Below w.heap.size w w' := by
  have c10 : w.cell? ⟨yb, 10, none⟩ = some (.bool false) := hR.box.cell (i := 10) rfl
  have hN := rNowOf hR ⟨_, _, _, rfl⟩ hF hc
  generalize Qs.all (lr.map Prod.fst) = s at hN
  clear hR hF
  go_enter Tryz.func134, Tryz.ntmps134
  go_wp2_with fail
  go_fit hN
  rintro e w1 ⟨⟨nb, rfl, q, idv, qv, ov, h⟩, hb1⟩
  have n7 : w1.cell? ⟨nb, 7, none⟩ = some (.slice fa fn fc) := h.box.cell (i := 7) rfl
  have HB : Hid (Below w.heap.size w w1) := hb1
  clear h hb1 hN
  go_wp2_with fail
  exact bodyPost_ret (v := .tuple #[.slice fa fn fc, .int .i64 0]) (by simp [results, Tryz.results134, go_sem]) rfl ⟨rfl, HB.out⟩

set_option maxRecDepth 100000 in
set_option maxHeartbeats 1000000 in
theorem rMain_up (yb : Nat) (c : Cfg) (fv lv : Value) (lr : List Lr) (torn : ByteArray) (broken : Bool) (keep : Int) (w : World) (hR : RefIs w yb c fv lr torn false broken keep lv) (hfv : IsSl fv) (hF : LrFits c lr) (hc : c.Ok) :
    Calls Tryz.prog 136 #[.pointer (some ⟨yb, 0, none⟩)] w fun e w' => e = .returned (.tuple #[.slice none 0 0, .int .i64 0]) ∧ Below w.heap.size w w' := by
  have c10 : w.cell? ⟨yb, 10, none⟩ = some (.bool false) := hR.box.cell (i := 10) rfl
  have hN := rNowOf hR hfv hF hc
  generalize Qs.all (lr.map Prod.fst) = s at hN
  clear hR hF
  go_enter Tryz.func136, Tryz.ntmps136
  go_wp2_with fail
  go_fit hN
  rintro e w1 ⟨⟨nb, rfl, q, idv, qv, ov, h⟩, hb1⟩
  have n8 : w1.cell? ⟨nb, 8, none⟩ = some (.slice none 0 0) := h.box.cell (i := 8) rfl
  have HB : Hid (Below w.heap.size w w1) := hb1
  clear h hb1 hN
  go_wp2_with fail
  exact bodyPost_ret (v := .tuple #[.slice none 0 0, .int .i64 0]) (by simp [results, Tryz.results136, go_sem]) rfl ⟨rfl, HB.out⟩
end Go.Proofs.YtgamgomepdfgdaaGreat

namespace Go.Proofs.YtgamgomepdfgdaaGreat
open Go.RowKit

set_option maxRecDepth 100000 in
set_option maxHeartbeats 1000000 in
theorem rTrain_up (yb : Nat) (c : Cfg) (fv lv : Value) (lr : List Lr) (torn : ByteArray) (broken : Bool) (keep : Int) (w : World) (hR : RefIs w yb c fv lr torn false broken keep lv) (hfv : IsSl fv) (hF : LrFits c lr) (hc : c.Ok) :
    Calls Tryz.prog 140 #[.pointer (some ⟨yb, 0, none⟩)] w fun e w' => e = .returned (.tuple #[.slice none 0 0, .int .i64 0]) ∧ Below w.heap.size w w' := by
  have c10 : w.cell? ⟨yb, 10, none⟩ = some (.bool false) := hR.box.cell (i := 10) rfl
  have hN := rNowOf hR hfv hF hc
  generalize Qs.all (lr.map Prod.fst) = s at hN
  clear hR hF
  go_enter Tryz.func140, Tryz.ntmps140
  go_wp2_with fail
  go_fit hN
  rintro e w1 ⟨⟨nb, rfl, q, idv, qv, ov, h⟩, hb1⟩
  have n11 : w1.cell? ⟨nb, 11, none⟩ = some (.slice none 0 0) := h.box.cell (i := 11) rfl
  have HB : Hid (Below w.heap.size w w1) := hb1
  clear h hb1 hN
  go_wp2_with fail
  go_loopw [4, 6] (fun o i wr => o = .slice none 0 0 ∧ i = .int .i64 0 ∧ wr = w1) (fun _ _ _ => 0)
  case atStart => exact ⟨rfl, rfl, rfl⟩
  case round =>
    obtain ⟨rfl, rfl, rfl⟩ := hrel
    go_wp2_with fail
    exact bodyPost_ret (v := .tuple #[.slice none 0 0, .int .i64 0]) (by simp [results, Tryz.results140, go_sem]) rfl ⟨rfl, HB.out⟩

set_option maxRecDepth 100000 in
set_option maxHeartbeats 1000000 in
theorem rJobs_up (yb : Nat) (c : Cfg) (fv lv : Value) (lr : List Lr) (torn : ByteArray) (broken : Bool) (keep : Int) (w : World) (hR : RefIs w yb c fv lr torn false broken keep lv) (hfv : IsSl fv) (hF : LrFits c lr) (hc : c.Ok) :
    Calls Tryz.prog 92 #[.pointer (some ⟨yb, 0, none⟩)] w fun e w' => e = .returned (.tuple #[.slice none 0 0, .int .i64 0]) ∧ Below w.heap.size w w' := by
  have c10 : w.cell? ⟨yb, 10, none⟩ = some (.bool false) := hR.box.cell (i := 10) rfl
  have hN := rNowOf hR hfv hF hc
  generalize Qs.all (lr.map Prod.fst) = s at hN
  clear hR hF
  go_enter Tryz.func92, Tryz.ntmps92
  go_wp2_with fail
  go_fit hN
  rintro e w1 ⟨⟨nb, rfl, q, idv, qv, ov, h⟩, hb1⟩
  have n14 : w1.cell? ⟨nb, 14, none⟩ = some (.int .i64 0) := h.box.cell (i := 14) rfl
  have HB : Hid (Below w.heap.size w w1) := hb1
  clear h hb1 hN
  go_wp2_with fail
  go_loopw [4, 6] (fun o i wr => o = .slice none 0 0 ∧ i = .int .i64 1 ∧ wr = w1) (fun _ _ _ => 0)
  case atStart => exact ⟨rfl, rfl, rfl⟩
  case round =>
    obtain ⟨rfl, rfl, rfl⟩ := hrel
    go_wp2_with fail
    exact bodyPost_ret (v := .tuple #[.slice none 0 0, .int .i64 0]) (by simp [results, Tryz.results92, go_sem]) rfl ⟨rfl, HB.out⟩
end Go.Proofs.YtgamgomepdfgdaaGreat

namespace Go.Proofs.YtgamgomepdfgdaaGreat
open Go.RowKit

theorem EdsIn.later {w w' : World} {r : Rc} {ea : Option Addr} {en : Nat} (h : EdsIn w r ea en) (hb : Below w.heap.size w w') : EdsIn w' r ea en := fun h1 => by
  obtain ⟨b, off, e1, e2, e3, e4, e5, e6⟩ := h h1
  exact ⟨b, off, e1, e2, Nat.lt_of_lt_of_le e3 hb.size, fun i hi => jcell_after hb (e4 i hi), fun i hi => jcell_after hb (e5 i hi), fun i hi => jcell_after hb (e6 i hi)⟩

set_option maxRecDepth 100000 in
set_option maxHeartbeats 2000000 in
theorem rLog (yb : Nat) (c : Cfg) (fv lv : Value) (lr : List Lr) (T : List UInt8) (down broken : Bool) (keep : Int) (w : World) (hR : RefIs w yb c fv lr (bs T) down broken keep lv) (hok : ∀ x ∈ lr, x.1.ok ∧ ∃ a n cap, x.2 = .slice a n cap ∧ EdsIn w x.1 a n) (hn : lr.length < 1048576) (hl : (allB (lr.map Prod.fst)).length + T.length < 1099511627776) :
    Calls Tryz.prog 143 #[.pointer (some ⟨yb, 0, none⟩)] w fun e w' => e = .returned (.string (bs (allB (lr.map Prod.fst) ++ T))) ∧ Below w.heap.size w w' := by
  obtain ⟨la, lc, rfl⟩ := hR.row.form
  have b8 : w.cell? ⟨yb, 8, none⟩ = some (.slice la lr.length lc) := hR.box.cell (i := 8) rfl
  have b9 : w.cell? ⟨yb, 9, none⟩ = some (.string (bs T)) := hR.box.cell (i := 9) rfl
  have HL : Hid (Sl w 168 5 (.slice la lr.length lc) lr.length (lr.flatMap cL)) := hR.row
  have HOK : Hid (∀ x ∈ lr, x.1.ok ∧ ∃ a n cap, x.2 = .slice a n cap ∧ EdsIn w x.1 a n) := hok
  clear hR hok
  go_enter Tryz.func143, Tryz.ntmps143
  go_wp2_with fail
  go_loopw [3, 4] (fun sv i wr => ∃ k : Nat, k ≤ lr.length ∧ i = .int .i64 k ∧ sv = .string (bs (allB ((lr.map Prod.fst).take k))) ∧ Hid (Below w.heap.size w wr)) (fun _ i _ => lr.length - (intOf i).toNat)
  case atStart => exact ⟨0, Nat.zero_le _, rfl, by rfl, Below.refl _ _⟩
  case round =>
    obtain ⟨k, hk, rfl, rfl, hBk⟩ := hrel
    have c8 := jcell_after hBk.out b8
    have c9 := jcell_after hBk.out b9
    have htk : (allB ((lr.map Prod.fst).take k)).length ≤ (allB (lr.map Prod.fst)).length := by
      have := allB_le (lr.map Prod.fst) k []
      rwa [List.append_nil] at this
    by_cases hlk : k < lr.length
    · have hlm : k < (lr.map Prod.fst).length := by rw [List.length_map]; exact hlk
      obtain ⟨hro, ea, en, ec, he, hE⟩ := HOK.out _ (List.getElem_mem hlk)
      have hBy := ref_bytes lr[k].1 hro ea en ec wr (hE.later hBk.out)
      unfold recV at hBy
      have hst : allB ((lr.map Prod.fst).take (k + 1)) = allB ((lr.map Prod.fst).take k) ++ lr[k].1.bytes := by
        rw [allB_take hlm]; simp
      have hlen1 : (allB ((lr.map Prod.fst).take (k + 1))).length ≤ (allB (lr.map Prod.fst)).length := by
        have := allB_le (lr.map Prod.fst) (k + 1) []
        rwa [List.append_nil] at this
      have hcat : bs (allB ((lr.map Prod.fst).take k)) ++ bs lr[k].1.bytes = bs (allB ((lr.map Prod.fst).take (k + 1))) := by rw [bs_append, hst]
      obtain ⟨g, off, cap, hv, _⟩ := HL.out.addr (by omega)
      have hS : Hid (Sl w 168 5 (.slice (some ⟨g, off, none⟩) lr.length cap) lr.length (lr.flatMap cL)) := by rw [← hv]; exact HL.out
      injection hv with hva _ hvc
      subst hva hvc
      have kk : ∀ j (u : Value), j < 5 → (cL lr[k])[j]? = some u → wr.cell? ⟨g, off + k * 5 + j, none⟩ = some u := fun j u hj hu => by
        have := hS.out.cell (j := k * 5 + j) (u := u) (by rw [flat_get cL 5 (fun _ => rfl) lr k j hlk hj]; exact hu)
        rw [Nat.add_assoc]; exact jcell_after hBk.out this
      have d0 : wr.cell? ⟨g, off + k * 5, none⟩ = some (.int .i64 lr[k].1.kind) := kk 0 _ (by decide) rfl
      have d1 := kk 1 (.int .i64 lr[k].1.lane) (by decide) rfl
      have d2 := kk 2 (.int .i64 lr[k].1.num) (by decide) rfl
      have d3 := kk 3 (.bool lr[k].1.pass) (by decide) rfl
      have d4 := kk 4 (.slice ea en ec) (by decide) (by rw [← he]; rfl)
      have hgl := jcell_lt d0
      have hsum : (bs (allB ((lr.map Prod.fst).take k))).size + (bs lr[k].1.bytes).size = (allB ((lr.map Prod.fst).take (k + 1))).length := by rw [bs_size, bs_size, hst, List.length_append]
      have hno : ¬ 9223372036854775807 < (bs (allB ((lr.map Prod.fst).take k))).size + (bs lr[k].1.bytes).size := by rw [hsum]; omega
      clear hsum
      obtain ⟨A1, hA1e⟩ : ∃ A1, allB ((lr.map Prod.fst).take (k + 1)) = A1 := ⟨_, rfl⟩
      rw [hA1e] at hst hlen1 hcat
      have HA1 : Hid (allB ((lr.map Prod.fst).take (k + 1)) = A1) := hA1e
      clear hA1e
      generalize allB ((lr.map Prod.fst).take k) = A0 at *
      generalize lr[k].1.bytes = By at *
      generalize lr[k].1.kind = r0 at *
      generalize lr[k].1.lane = r1 at *
      generalize lr[k].1.num = r2 at *
      generalize lr[k].1.pass = r3 at *
      have hsz : (bs A1).size = A1.length := bs_size _
      have hA1 : A1.length < 1099511627776 := by omega
      clear he kk hst hE hro hlen1 htk
      go_wp2_with fail
      go_fit hBy
      rintro e w1 ⟨rfl, hb1⟩
      have H2 : Hid (Below w.heap.size w w1) := hBk.out.trans (hb1.mono hBk.out.size)
      clear hb1 hBy
      go_wp2_with fail
      exact ⟨⟨k + 1, hlk, by go_num, by rw [HA1.out], H2.out⟩, by simp [intOf]; omega⟩
    · obtain rfl : k = lr.length := by omega
      have hall : (lr.map Prod.fst).take lr.length = lr.map Prod.fst := List.take_of_length_le (by rw [List.length_map]; exact Nat.le_refl _)
      rw [hall]
      have hno : ¬ 9223372036854775807 < (bs (allB (lr.map Prod.fst))).size + (bs T).size := by rw [bs_size, bs_size]; omega
      clear hall htk
      have hcat : bs (allB (lr.map Prod.fst)) ++ bs T = bs (allB (lr.map Prod.fst) ++ T) := bs_append _ _
      go_wp2_with fail
      go_ret
      exact ⟨rfl, hBk.out⟩
end Go.Proofs.YtgamgomepdfgdaaGreat
