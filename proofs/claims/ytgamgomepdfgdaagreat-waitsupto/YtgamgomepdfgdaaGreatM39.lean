import Derived.Test.YtgamgomepdfgdaaGreatM36
namespace Go.Proofs.YtgamgomepdfgdaaGreat
open Go.RowKit

theorem info_ownTo : (Tryz.prog.info? 172).map (fun i => (i.zero, i.size, i.bytes)) = some (some (.agg #[.slice none 0 0, .int .i64 0]), 2, 32) := by kernel_rfl
theorem info_ownTe : (Tryz.prog.info? 110).map (fun i => (i.zero, i.size, i.bytes)) = some (some (.agg #[.int .i64 0, .slice none 0 0]), 2, 32) := by kernel_rfl

/-- the state of the loop -/
def L3 (w wr : World) (bb : Nat) (bx : Value → Array Value) (K : Nat → Prop) (V0 l0 : Value) (d : Kd) (k : Nat) (lv : Value) (j : Nat) : Prop :=
  ∃ a' cap' va' vcap' rs', lv = .slice a' j cap' ∧ rs'.length = k + j + 1 ∧ St w wr bb bx K V0 l0 d k (.slice va' rs'.length vcap') lv j rs'
theorem own_p1 {j : Nat} (hj : j < 3) : j + 1 ≤ maxLen := by unfold maxLen; omega
theorem own_p2 {j b : Nat} (hb : b ≤ 64) (hj : j < 3) : (j + 1) * b ≤ 140737488355328 := own_le hb (Nat.le_trans (Nat.mul_le_mul_right 64 (show j + 1 ≤ 3 by omega)) (by decide))

set_option maxRecDepth 100000 in
set_option maxHeartbeats 4000000 in
theorem ownT (bb N : Nat) (K : Nat → Prop) (w : World) (hB : BookAt w K bb N) (hN : N < 1048576000) :
    Calls Tryz.prog 137 #[.pointer (some ⟨bb, 0, none⟩), .slice none 0 0] w fun e w' => e = .returned (.tuple #[]) ∧ Owned w w' K bb N (.slice none 0 0) := by
  obtain ⟨i0, hi, hz0, hz1, hz2⟩ := info_parts info_ownTo
  obtain ⟨i1, hj, hy0, hy1, hy2⟩ := info_parts info_ownTe
  obtain ⟨fs, ws, ts, gs, js, fv, wv, tv, gv, jv, hb, hnf, hnw, hnt, hng, hnj⟩ := hB
  obtain ⟨va, vcap, rfl⟩ := hb.t.row.form
  have c0 : w.cell? ⟨bb, 3, none⟩ = some (.slice va ts.length vcap) := hb.box.cell (i := 3) rfl
  have HB : Hid (BookIs w K bb fs ws ts gs js fv wv (.slice va ts.length vcap) gv jv) := hb
  have hkN : ts.length ≤ N := hnt
  have hll : Hid (∀ g, (Value.slice none 0 0).ownBlock = some g → g < w.heap.size) := fun g hg => by simp [Value.ownBlock] at hg
  have HL : Hid (∀ g, (Value.slice none 0 0).ownBlock = some g → ¬ K g) := fun g hg => by simp [Value.ownBlock] at hg
  obtain ⟨k, hk⟩ : ∃ k, k = ts.length := ⟨_, rfl⟩
  have HK : Hid (ts.length = k) := hk.symm
  have hk40 : k < 1099511627776 := by omega
  have Hle : Hid (fs.length ≤ N ∧ ws.length ≤ N ∧ ts.length ≤ N ∧ gs.length ≤ N ∧ js.length ≤ N) := ⟨hnf, hnw, hnt, hng, hnj⟩
  rw [← hk] at c0 hkN
  clear hb hnf hnw hnt hng hnj hk
  go_enter Tryz.func137, Tryz.ntmps137
  go_wp2
  refine wp_loop_rounds 1 ?_
  rw [rounds_succ]
  go_wp2
  refine wp_loop_rounds 1 ?_
  rw [rounds_succ]
  have hs0 : Hid (St w w bb (fun V => bookCells fv wv V gv jv) K (.slice va k vcap) (.slice none 0 0) dT k (.slice va ts.length vcap) (.slice none 0 0) 0 ts) := by
    have := BL.start (w := w) (bx := fun V => bookCells fv wv V gv jv) HB.out.t HB.out.box HB.out.kb (Only.refl _ _) HL.out (d := dT) (k := k) (n := 0) (l := .slice none 0 0) (Sl.nil _ _ _)
    rw [HK.out] at this ⊢
    exact this
  have q1 : Hid (k + 1 ≤ maxLen) := own_q3 (by omega)
  have q2 : Hid ((k + 1) * 32 ≤ 140737488355328) := own_q4 (by omega)
  rw [HK.out] at hs0
  have Hrow : Hid (Sl w 172 2 (.slice va k vcap) k (ts.flatMap cN)) := by have := hs0.out.row; rw [HK.out] at this; exact this
  have d0 : w.cell? ⟨bb, 3, none⟩ = some (.slice va k vcap) := hs0.out.box.cell (i := 3) rfl
  clear c0
  go_wp2_with (at_builtin; refine wpList_append_slt _ rfl _ _ 84 rfl _ i0 _ 2 32 Tryz.underlying84 hi hz0 hz1 hz2 rfl (by decide) (.slice va k vcap) _ _ rfl (Sl.mk Hrow.out (.cells #[.slice none 0 0, .int .i64 k] 172)) ⟨w.heap.size, 0, none⟩ 1 1 [.slice none 0 0, .int .i64 k] rfl rfl (cells_new w _ _) (by simp [Value.oneCell']) (by decide) q1.out q2.out ?_; intro V1 w3 hS3 hM3; obtain ⟨a1, c1, rfl⟩ := hS3.form; have HS3 : Hid (Sl w3 172 2 (.slice a1 (k + 1) c1) (k + 1) (ts.flatMap cN ++ [.slice none 0 0, .int .i64 k])) := hS3; have HM3 : Hid (Moved (w.alloc (.cells #[.slice none 0 0, .int .i64 k] 172)) w3 (.slice va k vcap) (.slice a1 (k + 1) c1) k 1) := hM3; have HA3 := (hs0.out.later (below_new _ _)).append ⟨by decide, by decide⟩ (by rw [HK.out]; exact HS3.out) (by rw [HK.out]; exact HM3.out); have e0 : w3.cell? ⟨bb, 3, none⟩ = some (.slice va k vcap) := HA3.1.cell (i := 3) rfl; have f0 := HA3.1.fr 3; clear hS3 hM3 HA3)
  have hpush : Hid (St w (w3.setCell ⟨bb, 3, none⟩ (.slice a1 (k + 1) c1)) bb (fun V => bookCells fv wv V gv jv) K (.slice va k vcap) (.slice none 0 0) dT k (.slice a1 (k + 1) c1) (.slice none 0 0) 0 (ts ++ [((.slice none 0 0 : Value), 0, k)])) := (hs0.out.later (below_new _ _)).push (j := 3) ⟨by decide, by decide⟩ (by decide) (by rw [HK.out]; exact HS3.out) (by rw [HK.out]; exact HM3.out) hk40 rfl
  have hL : Hid (L3 w (w3.setCell ⟨bb, 3, none⟩ (.slice a1 (k + 1) c1)) bb (fun V => bookCells fv wv V gv jv) K (.slice va k vcap) (.slice none 0 0) dT k (.slice none 0 0) 0) := ⟨none, 0, a1, c1, ts ++ [((.slice none 0 0 : Value), 0, k)], rfl, by rw [List.length_append, HK.out]; rfl, by
    have h := hpush.out
    have e : (ts ++ [((.slice none 0 0 : Value), 0, k)]).length = k + 1 := by rw [List.length_append, HK.out]; rfl
    rw [e]; exact h⟩
  generalize w3.setCell ⟨bb, 3, none⟩ (.slice a1 (k + 1) c1) = w4 at *
  clear hs0 Hrow d0 q1 q2 e0 f0 HS3 HM3 hpush
  go_loopw [1, 7] (fun lv iv wr => ∃ j : Nat, j ≤ 3 ∧ iv = .int .i64 j ∧ Hid (L3 w wr bb (fun V => bookCells fv wv V gv jv) K (.slice va k vcap) (.slice none 0 0) dT k lv j)) (fun _ i _ => 3 - (intOf i).toNat)
  case atStart => exact ⟨0, by omega, rfl, hL⟩
  case round =>
    obtain ⟨j, hj3, rfl, hl2⟩ := hrel
    obtain ⟨a', cap', va', vcap', rs', rfl, hlen, hst⟩ := hl2.out
    have Hlen : Hid (rs'.length = k + j + 1) := hlen
    rw [hlen] at hst
    have Hst : Hid (St w wr bb (fun V => bookCells fv wv V gv jv) K (.slice va k vcap) (.slice none 0 0) dT k (.slice va' (k + j + 1) vcap') (.slice a' j cap') j rs') := hst
    clear hst hlen hl2 hL
    by_cases hlt3 : j < 3
    · have q1 : Hid (j + 1 ≤ maxLen) := own_p1 hlt3
      have q2 : Hid ((j + 1) * 32 ≤ 140737488355328) := own_p2 (by decide) hlt3
      have q3 : Hid (k + j + 1 + 1 ≤ maxLen) := own_q3 (by omega)
      have q4 : Hid ((k + j + 1 + 1) * 32 ≤ 140737488355328) := own_q4 (by omega)
      go_wp2_with (first
        | (at_builtin; refine wpList_append_slt _ rfl _ _ 106 rfl _ i1 _ 2 32 Tryz.underlying106 hj hy0 hy1 hy2 rfl (by decide) (.slice a' j cap') _ _ rfl (Sl.mk Hst.out.list (.cells #[.int .i64 (-1 - (k : Int)), .slice none 0 0] 110)) ⟨wr.heap.size, 0, none⟩ 1 1 [.int .i64 (-1 - (k : Int)), .slice none 0 0] rfl rfl (cells_new wr _ _) (by simp [Value.oneCell']) (by decide) q1.out q2.out ?_; intro lv1 w3 hS3 hM3; obtain ⟨a2, c2, rfl⟩ := hS3.form; have Hm : Hid (St w w3 bb (fun V => bookCells fv wv V gv jv) K (.slice va k vcap) (.slice none 0 0) dT k (.slice va' (k + j + 1) vcap') (.slice a2 (j + 1) c2) (j + 1) rs') := (Hst.out.later (below_new _ _)).more (by decide) (by decide) (fun _ => rfl) hS3 hM3; have d3 : w3.cell? ⟨bb, 3, none⟩ = some (.slice va' (k + j + 1) vcap') := Hm.out.box.cell (i := 3) rfl; have Hrow3 : Hid (Sl w3 172 2 (.slice va' (k + j + 1) vcap') (k + j + 1) (rs'.flatMap cN)) := (by have := Hm.out.row; rw [Hlen.out] at this; exact this); clear hS3 hM3)
        | (at_builtin; refine wpList_append_slt _ rfl _ _ 84 rfl _ i0 _ 2 32 Tryz.underlying84 hi hz0 hz1 hz2 rfl (by decide) (.slice va' (k + j + 1) vcap') _ _ rfl (Sl.mk Hrow3.out (.cells #[.slice a2 (j + 1) c2, .int .i64 k] 172)) ⟨w3.heap.size, 0, none⟩ 1 1 [.slice a2 (j + 1) c2, .int .i64 k] rfl rfl (cells_new w3 _ _) (by simp [Value.oneCell']) (by decide) q3.out q4.out ?_; intro V2 w4 hS4 hM4; obtain ⟨a3, c3, rfl⟩ := hS4.form; have HS4 : Hid (Sl w4 172 2 (.slice a3 (k + j + 1 + 1) c3) (k + j + 1 + 1) (rs'.flatMap cN ++ [.slice a2 (j + 1) c2, .int .i64 k])) := hS4; have HM4 : Hid (Moved (w3.alloc (.cells #[.slice a2 (j + 1) c2, .int .i64 k] 172)) w4 (.slice va' (k + j + 1) vcap') (.slice a3 (k + j + 1 + 1) c3) (k + j + 1) 1) := hM4; have HA4 := (Hm.out.later (below_new _ _)).append ⟨by decide, by decide⟩ (by rw [Hlen.out]; exact HS4.out) (by rw [Hlen.out]; exact HM4.out); have e4 : w4.cell? ⟨bb, 3, none⟩ = some (.slice va' (k + j + 1) vcap') := HA4.1.cell (i := 3) rfl; have f4 := HA4.1.fr 3; clear hS4 hM4 HA4))
      have hpush : St w (w4.setCell ⟨bb, 3, none⟩ (.slice a3 (k + j + 1 + 1) c3)) bb (fun V => bookCells fv wv V gv jv) K (.slice va k vcap) (.slice none 0 0) dT k (.slice a3 (k + j + 1 + 1) c3) (.slice a2 (j + 1) c2) (j + 1) (rs' ++ [((.slice a2 (j + 1) c2 : Value), j + 1, k)]) := (Hm.out.later (below_new _ _)).push (j := 3) ⟨by decide, by decide⟩ (by decide) (by rw [Hlen.out]; exact HS4.out) (by rw [Hlen.out]; exact HM4.out) hk40 rfl
      refine ⟨⟨j + 1, by omega, by go_num, ⟨a2, c2, a3, c3, rs' ++ [((.slice a2 (j + 1) c2 : Value), j + 1, k)], rfl, by rw [List.length_append, Hlen.out]; rfl, ?_⟩⟩, by simp [intOf]; omega⟩
      have e : (rs' ++ [((.slice a2 (j + 1) c2 : Value), j + 1, k)]).length = k + j + 1 + 1 := by rw [List.length_append, Hlen.out]; rfl
      rw [e]; exact hpush
    · obtain rfl : j = 3 := by omega
      go_wp2
      refine bodyPost_end (v := .tuple #[]) (results_none (by kernel_rfl) _ _ _) rfl ⟨rfl, ?_⟩
      have hS := Hst.out
      have hb := HB.out
      rw [HK.out] at hb
      have hle := Hle.out
      have hrl : rs'.length ≤ N + 4 := by rw [Hlen.out]; omega
      have hsz := hS.only.size
      refine ⟨KL K (.slice none 0 0) w wr, ⟨fs, ws, rs', gs, js, _, _, _, _, _, ⟨hS.box, .inl hb.kb, KL.lt hb.kl hll.out hsz, hS.other hb.f HL.out hb.t.row hb.box (by decide), hS.other hb.q HL.out hb.t.row hb.box (by decide), hS.done hb.t.fv, hS.other hb.g HL.out hb.t.row hb.box (by decide), hS.other hb.j HL.out hb.t.row hb.box (by decide)⟩, (by omega), (by omega), hrl, (by omega), (by omega)⟩, KL.sub, hS.only.mono fun q hq => ?_⟩
      rcases hq with h | h | h
      · rw [h]; exact .inl hb.kb
      · exact .inl (hb.t.fv q h)
      · exact .inr h
end Go.Proofs.YtgamgomepdfgdaaGreat

namespace Go.Proofs.YtgamgomepdfgdaaGreat
open Go.RowKit

theorem info_ownGo : (Tryz.prog.info? 174).map (fun i => (i.zero, i.size, i.bytes)) = some (some (.agg #[.slice none 0 0, .int .i64 0]), 2, 32) := by kernel_rfl
theorem info_ownGe : (Tryz.prog.info? 119).map (fun i => (i.zero, i.size, i.bytes)) = some (some (.agg #[.slice none 0 0, .int .i64 0, .bool false, .int .i64 0]), 4, 48) := by kernel_rfl

set_option maxRecDepth 100000 in
set_option maxHeartbeats 4000000 in
theorem ownG (bb N : Nat) (K : Nat → Prop) (w : World) (hB : BookAt w K bb N) (hN : N < 1048576000) :
    Calls Tryz.prog 141 #[.pointer (some ⟨bb, 0, none⟩), .slice none 0 0] w fun e w' => e = .returned (.tuple #[]) ∧ Owned w w' K bb N (.slice none 0 0) := by
  obtain ⟨i0, hi, hz0, hz1, hz2⟩ := info_parts info_ownGo
  obtain ⟨i1, hj, hy0, hy1, hy2⟩ := info_parts info_ownGe
  obtain ⟨fs, ws, ts, gs, js, fv, wv, tv, gv, jv, hb, hnf, hnw, hnt, hng, hnj⟩ := hB
  obtain ⟨va, vcap, rfl⟩ := hb.g.row.form
  have c0 : w.cell? ⟨bb, 4, none⟩ = some (.slice va gs.length vcap) := hb.box.cell (i := 4) rfl
  have HB : Hid (BookIs w K bb fs ws ts gs js fv wv tv (.slice va gs.length vcap) jv) := hb
  have hkN : gs.length ≤ N := hng
  have hll : Hid (∀ g, (Value.slice none 0 0).ownBlock = some g → g < w.heap.size) := fun g hg => by simp [Value.ownBlock] at hg
  have HL : Hid (∀ g, (Value.slice none 0 0).ownBlock = some g → ¬ K g) := fun g hg => by simp [Value.ownBlock] at hg
  obtain ⟨k, hk⟩ : ∃ k, k = gs.length := ⟨_, rfl⟩
  have HK : Hid (gs.length = k) := hk.symm
  have hk40 : k < 1099511627776 := by omega
  have Hle : Hid (fs.length ≤ N ∧ ws.length ≤ N ∧ ts.length ≤ N ∧ gs.length ≤ N ∧ js.length ≤ N) := ⟨hnf, hnw, hnt, hng, hnj⟩
  rw [← hk] at c0 hkN
  clear hb hnf hnw hnt hng hnj hk
  go_enter Tryz.func141, Tryz.ntmps141
  go_wp2
  refine wp_loop_rounds 1 ?_
  rw [rounds_succ]
  go_wp2
  refine wp_loop_rounds 1 ?_
  rw [rounds_succ]
  have hs0 : Hid (St w w bb (fun V => bookCells fv wv tv V jv) K (.slice va k vcap) (.slice none 0 0) dG k (.slice va gs.length vcap) (.slice none 0 0) 0 gs) := by
    have := BL.start (w := w) (bx := fun V => bookCells fv wv tv V jv) HB.out.g HB.out.box HB.out.kb (Only.refl _ _) HL.out (d := dG) (k := k) (n := 0) (l := .slice none 0 0) (Sl.nil _ _ _)
    rw [HK.out] at this ⊢
    exact this
  have q1 : Hid (k + 1 ≤ maxLen) := own_q3 (by omega)
  have q2 : Hid ((k + 1) * 32 ≤ 140737488355328) := own_q4 (by omega)
  rw [HK.out] at hs0
  have Hrow : Hid (Sl w 174 2 (.slice va k vcap) k (gs.flatMap cN)) := by have := hs0.out.row; rw [HK.out] at this; exact this
  have d0 : w.cell? ⟨bb, 4, none⟩ = some (.slice va k vcap) := hs0.out.box.cell (i := 4) rfl
  clear c0
  go_wp2_with (at_builtin; refine wpList_append_slt _ rfl _ _ 85 rfl _ i0 _ 2 32 Tryz.underlying85 hi hz0 hz1 hz2 rfl (by decide) (.slice va k vcap) _ _ rfl (Sl.mk Hrow.out (.cells #[.slice none 0 0, .int .i64 k] 174)) ⟨w.heap.size, 0, none⟩ 1 1 [.slice none 0 0, .int .i64 k] rfl rfl (cells_new w _ _) (by simp [Value.oneCell']) (by decide) q1.out q2.out ?_; intro V1 w3 hS3 hM3; obtain ⟨a1, c1, rfl⟩ := hS3.form; have HS3 : Hid (Sl w3 174 2 (.slice a1 (k + 1) c1) (k + 1) (gs.flatMap cN ++ [.slice none 0 0, .int .i64 k])) := hS3; have HM3 : Hid (Moved (w.alloc (.cells #[.slice none 0 0, .int .i64 k] 174)) w3 (.slice va k vcap) (.slice a1 (k + 1) c1) k 1) := hM3; have HA3 := (hs0.out.later (below_new _ _)).append ⟨by decide, by decide⟩ (by rw [HK.out]; exact HS3.out) (by rw [HK.out]; exact HM3.out); have e0 : w3.cell? ⟨bb, 4, none⟩ = some (.slice va k vcap) := HA3.1.cell (i := 4) rfl; have f0 := HA3.1.fr 4; clear hS3 hM3 HA3)
  have hpush : Hid (St w (w3.setCell ⟨bb, 4, none⟩ (.slice a1 (k + 1) c1)) bb (fun V => bookCells fv wv tv V jv) K (.slice va k vcap) (.slice none 0 0) dG k (.slice a1 (k + 1) c1) (.slice none 0 0) 0 (gs ++ [((.slice none 0 0 : Value), 0, k)])) := (hs0.out.later (below_new _ _)).push (j := 4) ⟨by decide, by decide⟩ (by decide) (by rw [HK.out]; exact HS3.out) (by rw [HK.out]; exact HM3.out) hk40 rfl
  have hL : Hid (L3 w (w3.setCell ⟨bb, 4, none⟩ (.slice a1 (k + 1) c1)) bb (fun V => bookCells fv wv tv V jv) K (.slice va k vcap) (.slice none 0 0) dG k (.slice none 0 0) 0) := ⟨none, 0, a1, c1, gs ++ [((.slice none 0 0 : Value), 0, k)], rfl, by rw [List.length_append, HK.out]; rfl, by
    have h := hpush.out
    have e : (gs ++ [((.slice none 0 0 : Value), 0, k)]).length = k + 1 := by rw [List.length_append, HK.out]; rfl
    rw [e]; exact h⟩
  generalize w3.setCell ⟨bb, 4, none⟩ (.slice a1 (k + 1) c1) = w4 at *
  clear hs0 Hrow d0 q1 q2 e0 f0 HS3 HM3 hpush
  go_loopw [1, 7] (fun lv iv wr => ∃ j : Nat, j ≤ 3 ∧ iv = .int .i64 j ∧ Hid (L3 w wr bb (fun V => bookCells fv wv tv V jv) K (.slice va k vcap) (.slice none 0 0) dG k lv j)) (fun _ i _ => 3 - (intOf i).toNat)
  case atStart => exact ⟨0, by omega, rfl, hL⟩
  case round =>
    obtain ⟨j, hj3, rfl, hl2⟩ := hrel
    obtain ⟨a', cap', va', vcap', rs', rfl, hlen, hst⟩ := hl2.out
    have Hlen : Hid (rs'.length = k + j + 1) := hlen
    rw [hlen] at hst
    have Hst : Hid (St w wr bb (fun V => bookCells fv wv tv V jv) K (.slice va k vcap) (.slice none 0 0) dG k (.slice va' (k + j + 1) vcap') (.slice a' j cap') j rs') := hst
    clear hst hlen hl2 hL
    by_cases hlt3 : j < 3
    · have q1 : Hid (j + 1 ≤ maxLen) := own_p1 hlt3
      have q2 : Hid ((j + 1) * 48 ≤ 140737488355328) := own_p2 (by decide) hlt3
      have q3 : Hid (k + j + 1 + 1 ≤ maxLen) := own_q3 (by omega)
      have q4 : Hid ((k + j + 1 + 1) * 32 ≤ 140737488355328) := own_q4 (by omega)
      go_wp2_with (first
        | (at_builtin; refine wpList_append_slt _ rfl _ _ 115 rfl _ i1 _ 4 48 Tryz.underlying115 hj hy0 hy1 hy2 rfl (by decide) (.slice a' j cap') _ _ rfl (Sl.mk Hst.out.list (.cells #[.slice none 0 0, .int .i64 0, .bool false, .int .i64 (-1 - (k : Int))] 119)) ⟨wr.heap.size, 0, none⟩ 1 1 [.slice none 0 0, .int .i64 0, .bool false, .int .i64 (-1 - (k : Int))] rfl rfl (cells_new wr _ _) (by simp [Value.oneCell']) (by decide) q1.out q2.out ?_; intro lv1 w3 hS3 hM3; obtain ⟨a2, c2, rfl⟩ := hS3.form; have Hm : Hid (St w w3 bb (fun V => bookCells fv wv tv V jv) K (.slice va k vcap) (.slice none 0 0) dG k (.slice va' (k + j + 1) vcap') (.slice a2 (j + 1) c2) (j + 1) rs') := (Hst.out.later (below_new _ _)).more (by decide) (by decide) (fun _ => rfl) hS3 hM3; have d3 : w3.cell? ⟨bb, 4, none⟩ = some (.slice va' (k + j + 1) vcap') := Hm.out.box.cell (i := 4) rfl; have Hrow3 : Hid (Sl w3 174 2 (.slice va' (k + j + 1) vcap') (k + j + 1) (rs'.flatMap cN)) := (by have := Hm.out.row; rw [Hlen.out] at this; exact this); clear hS3 hM3)
        | (at_builtin; refine wpList_append_slt _ rfl _ _ 85 rfl _ i0 _ 2 32 Tryz.underlying85 hi hz0 hz1 hz2 rfl (by decide) (.slice va' (k + j + 1) vcap') _ _ rfl (Sl.mk Hrow3.out (.cells #[.slice a2 (j + 1) c2, .int .i64 k] 174)) ⟨w3.heap.size, 0, none⟩ 1 1 [.slice a2 (j + 1) c2, .int .i64 k] rfl rfl (cells_new w3 _ _) (by simp [Value.oneCell']) (by decide) q3.out q4.out ?_; intro V2 w4 hS4 hM4; obtain ⟨a3, c3, rfl⟩ := hS4.form; have HS4 : Hid (Sl w4 174 2 (.slice a3 (k + j + 1 + 1) c3) (k + j + 1 + 1) (rs'.flatMap cN ++ [.slice a2 (j + 1) c2, .int .i64 k])) := hS4; have HM4 : Hid (Moved (w3.alloc (.cells #[.slice a2 (j + 1) c2, .int .i64 k] 174)) w4 (.slice va' (k + j + 1) vcap') (.slice a3 (k + j + 1 + 1) c3) (k + j + 1) 1) := hM4; have HA4 := (Hm.out.later (below_new _ _)).append ⟨by decide, by decide⟩ (by rw [Hlen.out]; exact HS4.out) (by rw [Hlen.out]; exact HM4.out); have e4 : w4.cell? ⟨bb, 4, none⟩ = some (.slice va' (k + j + 1) vcap') := HA4.1.cell (i := 4) rfl; have f4 := HA4.1.fr 4; clear hS4 hM4 HA4))
      have hpush : St w (w4.setCell ⟨bb, 4, none⟩ (.slice a3 (k + j + 1 + 1) c3)) bb (fun V => bookCells fv wv tv V jv) K (.slice va k vcap) (.slice none 0 0) dG k (.slice a3 (k + j + 1 + 1) c3) (.slice a2 (j + 1) c2) (j + 1) (rs' ++ [((.slice a2 (j + 1) c2 : Value), j + 1, k)]) := (Hm.out.later (below_new _ _)).push (j := 4) ⟨by decide, by decide⟩ (by decide) (by rw [Hlen.out]; exact HS4.out) (by rw [Hlen.out]; exact HM4.out) hk40 rfl
      refine ⟨⟨j + 1, by omega, by go_num, ⟨a2, c2, a3, c3, rs' ++ [((.slice a2 (j + 1) c2 : Value), j + 1, k)], rfl, by rw [List.length_append, Hlen.out]; rfl, ?_⟩⟩, by simp [intOf]; omega⟩
      have e : (rs' ++ [((.slice a2 (j + 1) c2 : Value), j + 1, k)]).length = k + j + 1 + 1 := by rw [List.length_append, Hlen.out]; rfl
      rw [e]; exact hpush
    · obtain rfl : j = 3 := by omega
      go_wp2
      refine bodyPost_end (v := .tuple #[]) (results_none (by kernel_rfl) _ _ _) rfl ⟨rfl, ?_⟩
      have hS := Hst.out
      have hb := HB.out
      rw [HK.out] at hb
      have hle := Hle.out
      have hrl : rs'.length ≤ N + 4 := by rw [Hlen.out]; omega
      have hsz := hS.only.size
      refine ⟨KL K (.slice none 0 0) w wr, ⟨fs, ws, ts, rs', js, _, _, _, _, _, ⟨hS.box, .inl hb.kb, KL.lt hb.kl hll.out hsz, hS.other hb.f HL.out hb.g.row hb.box (by decide), hS.other hb.q HL.out hb.g.row hb.box (by decide), hS.other hb.t HL.out hb.g.row hb.box (by decide), hS.done hb.g.fv, hS.other hb.j HL.out hb.g.row hb.box (by decide)⟩, (by omega), (by omega), (by omega), hrl, (by omega)⟩, KL.sub, hS.only.mono fun q hq => ?_⟩
      rcases hq with h | h | h
      · rw [h]; exact .inl hb.kb
      · exact .inl (hb.g.fv q h)
      · exact .inr h
end Go.Proofs.YtgamgomepdfgdaaGreat

namespace Go.Proofs.YtgamgomepdfgdaaGreat
open Go.RowKit

theorem info_ownJo : (Tryz.prog.info? 176).map (fun i => (i.zero, i.size, i.bytes)) = some (some (.agg #[.slice none 0 0, .int .i64 0]), 2, 32) := by kernel_rfl
theorem info_ownJe : (Tryz.prog.info? 124).map (fun i => (i.zero, i.size, i.bytes)) = some (some (.agg #[.int .i64 0, .int .i64 0, .slice none 0 0, .slice none 0 0]), 4, 64) := by kernel_rfl

set_option maxRecDepth 100000 in
set_option maxHeartbeats 4000000 in
theorem ownJ (bb N : Nat) (K : Nat → Prop) (w : World) (hB : BookAt w K bb N) (hN : N < 1048576000) :
    Calls Tryz.prog 142 #[.pointer (some ⟨bb, 0, none⟩), .slice none 0 0] w fun e w' => e = .returned (.tuple #[]) ∧ Owned w w' K bb N (.slice none 0 0) := by
  obtain ⟨i0, hi, hz0, hz1, hz2⟩ := info_parts info_ownJo
  obtain ⟨i1, hj, hy0, hy1, hy2⟩ := info_parts info_ownJe
  obtain ⟨fs, ws, ts, gs, js, fv, wv, tv, gv, jv, hb, hnf, hnw, hnt, hng, hnj⟩ := hB
  obtain ⟨va, vcap, rfl⟩ := hb.j.row.form
  have c0 : w.cell? ⟨bb, 5, none⟩ = some (.slice va js.length vcap) := hb.box.cell (i := 5) rfl
  have HB : Hid (BookIs w K bb fs ws ts gs js fv wv tv gv (.slice va js.length vcap)) := hb
  have hkN : js.length ≤ N := hnj
  have hll : Hid (∀ g, (Value.slice none 0 0).ownBlock = some g → g < w.heap.size) := fun g hg => by simp [Value.ownBlock] at hg
  have HL : Hid (∀ g, (Value.slice none 0 0).ownBlock = some g → ¬ K g) := fun g hg => by simp [Value.ownBlock] at hg
  obtain ⟨k, hk⟩ : ∃ k, k = js.length := ⟨_, rfl⟩
  have HK : Hid (js.length = k) := hk.symm
  have hk40 : k < 1099511627776 := by omega
  have Hle : Hid (fs.length ≤ N ∧ ws.length ≤ N ∧ ts.length ≤ N ∧ gs.length ≤ N ∧ js.length ≤ N) := ⟨hnf, hnw, hnt, hng, hnj⟩
  rw [← hk] at c0 hkN
  clear hb hnf hnw hnt hng hnj hk
  go_enter Tryz.func142, Tryz.ntmps142
  go_wp2
  refine wp_loop_rounds 1 ?_
  rw [rounds_succ]
  go_wp2
  refine wp_loop_rounds 1 ?_
  rw [rounds_succ]
  have hs0 : Hid (St w w bb (fun V => bookCells fv wv tv gv V) K (.slice va k vcap) (.slice none 0 0) dJ k (.slice va js.length vcap) (.slice none 0 0) 0 js) := by
    have := BL.start (w := w) (bx := fun V => bookCells fv wv tv gv V) HB.out.j HB.out.box HB.out.kb (Only.refl _ _) HL.out (d := dJ) (k := k) (n := 0) (l := .slice none 0 0) (Sl.nil _ _ _)
    rw [HK.out] at this ⊢
    exact this
  have q1 : Hid (k + 1 ≤ maxLen) := own_q3 (by omega)
  have q2 : Hid ((k + 1) * 32 ≤ 140737488355328) := own_q4 (by omega)
  rw [HK.out] at hs0
  have Hrow : Hid (Sl w 176 2 (.slice va k vcap) k (js.flatMap cN)) := by have := hs0.out.row; rw [HK.out] at this; exact this
  have d0 : w.cell? ⟨bb, 5, none⟩ = some (.slice va k vcap) := hs0.out.box.cell (i := 5) rfl
  clear c0
  go_wp2_with (at_builtin; refine wpList_append_slt _ rfl _ _ 86 rfl _ i0 _ 2 32 Tryz.underlying86 hi hz0 hz1 hz2 rfl (by decide) (.slice va k vcap) _ _ rfl (Sl.mk Hrow.out (.cells #[.slice none 0 0, .int .i64 k] 176)) ⟨w.heap.size, 0, none⟩ 1 1 [.slice none 0 0, .int .i64 k] rfl rfl (cells_new w _ _) (by simp [Value.oneCell']) (by decide) q1.out q2.out ?_; intro V1 w3 hS3 hM3; obtain ⟨a1, c1, rfl⟩ := hS3.form; have HS3 : Hid (Sl w3 176 2 (.slice a1 (k + 1) c1) (k + 1) (js.flatMap cN ++ [.slice none 0 0, .int .i64 k])) := hS3; have HM3 : Hid (Moved (w.alloc (.cells #[.slice none 0 0, .int .i64 k] 176)) w3 (.slice va k vcap) (.slice a1 (k + 1) c1) k 1) := hM3; have HA3 := (hs0.out.later (below_new _ _)).append ⟨by decide, by decide⟩ (by rw [HK.out]; exact HS3.out) (by rw [HK.out]; exact HM3.out); have e0 : w3.cell? ⟨bb, 5, none⟩ = some (.slice va k vcap) := HA3.1.cell (i := 5) rfl; have f0 := HA3.1.fr 5; clear hS3 hM3 HA3)
  have hpush : Hid (St w (w3.setCell ⟨bb, 5, none⟩ (.slice a1 (k + 1) c1)) bb (fun V => bookCells fv wv tv gv V) K (.slice va k vcap) (.slice none 0 0) dJ k (.slice a1 (k + 1) c1) (.slice none 0 0) 0 (js ++ [((.slice none 0 0 : Value), 0, k)])) := (hs0.out.later (below_new _ _)).push (j := 5) ⟨by decide, by decide⟩ (by decide) (by rw [HK.out]; exact HS3.out) (by rw [HK.out]; exact HM3.out) hk40 rfl
  have hL : Hid (L3 w (w3.setCell ⟨bb, 5, none⟩ (.slice a1 (k + 1) c1)) bb (fun V => bookCells fv wv tv gv V) K (.slice va k vcap) (.slice none 0 0) dJ k (.slice none 0 0) 0) := ⟨none, 0, a1, c1, js ++ [((.slice none 0 0 : Value), 0, k)], rfl, by rw [List.length_append, HK.out]; rfl, by
    have h := hpush.out
    have e : (js ++ [((.slice none 0 0 : Value), 0, k)]).length = k + 1 := by rw [List.length_append, HK.out]; rfl
    rw [e]; exact h⟩
  generalize w3.setCell ⟨bb, 5, none⟩ (.slice a1 (k + 1) c1) = w4 at *
  clear hs0 Hrow d0 q1 q2 e0 f0 HS3 HM3 hpush
  go_loopw [1, 7] (fun lv iv wr => ∃ j : Nat, j ≤ 3 ∧ iv = .int .i64 j ∧ Hid (L3 w wr bb (fun V => bookCells fv wv tv gv V) K (.slice va k vcap) (.slice none 0 0) dJ k lv j)) (fun _ i _ => 3 - (intOf i).toNat)
  case atStart => exact ⟨0, by omega, rfl, hL⟩
  case round =>
    obtain ⟨j, hj3, rfl, hl2⟩ := hrel
    obtain ⟨a', cap', va', vcap', rs', rfl, hlen, hst⟩ := hl2.out
    have Hlen : Hid (rs'.length = k + j + 1) := hlen
    rw [hlen] at hst
    have Hst : Hid (St w wr bb (fun V => bookCells fv wv tv gv V) K (.slice va k vcap) (.slice none 0 0) dJ k (.slice va' (k + j + 1) vcap') (.slice a' j cap') j rs') := hst
    clear hst hlen hl2 hL
    by_cases hlt3 : j < 3
    · have q1 : Hid (j + 1 ≤ maxLen) := own_p1 hlt3
      have q2 : Hid ((j + 1) * 64 ≤ 140737488355328) := own_p2 (by decide) hlt3
      have q3 : Hid (k + j + 1 + 1 ≤ maxLen) := own_q3 (by omega)
      have q4 : Hid ((k + j + 1 + 1) * 32 ≤ 140737488355328) := own_q4 (by omega)
      go_wp2_with (first
        | (at_builtin; refine wpList_append_slt _ rfl _ _ 120 rfl _ i1 _ 4 64 Tryz.underlying120 hj hy0 hy1 hy2 rfl (by decide) (.slice a' j cap') _ _ rfl (Sl.mk Hst.out.list (.cells #[.int .i64 (-1 - (k : Int)), .int .i64 0, .slice none 0 0, .slice none 0 0] 124)) ⟨wr.heap.size, 0, none⟩ 1 1 [.int .i64 (-1 - (k : Int)), .int .i64 0, .slice none 0 0, .slice none 0 0] rfl rfl (cells_new wr _ _) (by simp [Value.oneCell']) (by decide) q1.out q2.out ?_; intro lv1 w3 hS3 hM3; obtain ⟨a2, c2, rfl⟩ := hS3.form; have Hm : Hid (St w w3 bb (fun V => bookCells fv wv tv gv V) K (.slice va k vcap) (.slice none 0 0) dJ k (.slice va' (k + j + 1) vcap') (.slice a2 (j + 1) c2) (j + 1) rs') := (Hst.out.later (below_new _ _)).more (by decide) (by decide) (fun _ => rfl) hS3 hM3; have d3 : w3.cell? ⟨bb, 5, none⟩ = some (.slice va' (k + j + 1) vcap') := Hm.out.box.cell (i := 5) rfl; have Hrow3 : Hid (Sl w3 176 2 (.slice va' (k + j + 1) vcap') (k + j + 1) (rs'.flatMap cN)) := (by have := Hm.out.row; rw [Hlen.out] at this; exact this); clear hS3 hM3)
        | (at_builtin; refine wpList_append_slt _ rfl _ _ 86 rfl _ i0 _ 2 32 Tryz.underlying86 hi hz0 hz1 hz2 rfl (by decide) (.slice va' (k + j + 1) vcap') _ _ rfl (Sl.mk Hrow3.out (.cells #[.slice a2 (j + 1) c2, .int .i64 k] 176)) ⟨w3.heap.size, 0, none⟩ 1 1 [.slice a2 (j + 1) c2, .int .i64 k] rfl rfl (cells_new w3 _ _) (by simp [Value.oneCell']) (by decide) q3.out q4.out ?_; intro V2 w4 hS4 hM4; obtain ⟨a3, c3, rfl⟩ := hS4.form; have HS4 : Hid (Sl w4 176 2 (.slice a3 (k + j + 1 + 1) c3) (k + j + 1 + 1) (rs'.flatMap cN ++ [.slice a2 (j + 1) c2, .int .i64 k])) := hS4; have HM4 : Hid (Moved (w3.alloc (.cells #[.slice a2 (j + 1) c2, .int .i64 k] 176)) w4 (.slice va' (k + j + 1) vcap') (.slice a3 (k + j + 1 + 1) c3) (k + j + 1) 1) := hM4; have HA4 := (Hm.out.later (below_new _ _)).append ⟨by decide, by decide⟩ (by rw [Hlen.out]; exact HS4.out) (by rw [Hlen.out]; exact HM4.out); have e4 : w4.cell? ⟨bb, 5, none⟩ = some (.slice va' (k + j + 1) vcap') := HA4.1.cell (i := 5) rfl; have f4 := HA4.1.fr 5; clear hS4 hM4 HA4))
      have hpush : St w (w4.setCell ⟨bb, 5, none⟩ (.slice a3 (k + j + 1 + 1) c3)) bb (fun V => bookCells fv wv tv gv V) K (.slice va k vcap) (.slice none 0 0) dJ k (.slice a3 (k + j + 1 + 1) c3) (.slice a2 (j + 1) c2) (j + 1) (rs' ++ [((.slice a2 (j + 1) c2 : Value), j + 1, k)]) := (Hm.out.later (below_new _ _)).push (j := 5) ⟨by decide, by decide⟩ (by decide) (by rw [Hlen.out]; exact HS4.out) (by rw [Hlen.out]; exact HM4.out) hk40 rfl
      refine ⟨⟨j + 1, by omega, by go_num, ⟨a2, c2, a3, c3, rs' ++ [((.slice a2 (j + 1) c2 : Value), j + 1, k)], rfl, by rw [List.length_append, Hlen.out]; rfl, ?_⟩⟩, by simp [intOf]; omega⟩
      have e : (rs' ++ [((.slice a2 (j + 1) c2 : Value), j + 1, k)]).length = k + j + 1 + 1 := by rw [List.length_append, Hlen.out]; rfl
      rw [e]; exact hpush
    · obtain rfl : j = 3 := by omega
      go_wp2
      refine bodyPost_end (v := .tuple #[]) (results_none (by kernel_rfl) _ _ _) rfl ⟨rfl, ?_⟩
      have hS := Hst.out
      have hb := HB.out
      rw [HK.out] at hb
      have hle := Hle.out
      have hrl : rs'.length ≤ N + 4 := by rw [Hlen.out]; omega
      have hsz := hS.only.size
      refine ⟨KL K (.slice none 0 0) w wr, ⟨fs, ws, ts, gs, rs', _, _, _, _, _, ⟨hS.box, .inl hb.kb, KL.lt hb.kl hll.out hsz, hS.other hb.f HL.out hb.j.row hb.box (by decide), hS.other hb.q HL.out hb.j.row hb.box (by decide), hS.other hb.t HL.out hb.j.row hb.box (by decide), hS.other hb.g HL.out hb.j.row hb.box (by decide), hS.done hb.j.fv⟩, (by omega), (by omega), (by omega), (by omega), hrl⟩, KL.sub, hS.only.mono fun q hq => ?_⟩
      rcases hq with h | h | h
      · rw [h]; exact .inl hb.kb
      · exact .inl (hb.j.fv q h)
      · exact .inr h
end Go.Proofs.YtgamgomepdfgdaaGreat
