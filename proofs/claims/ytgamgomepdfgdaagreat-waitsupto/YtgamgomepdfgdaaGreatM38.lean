import Derived.Test.YtgamgomepdfgdaaGreatM36
namespace Go.Proofs.YtgamgomepdfgdaaGreat
open Go.RowKit

theorem info_ownFo : (Tryz.prog.info? 93).map (fun i => (i.zero, i.size, i.bytes)) = some (some (.agg #[.slice none 0 0, .int .i64 0]), 2, 32) := by kernel_rfl
theorem info_ownFe : (Tryz.prog.info? 80).map (fun i => (i.zero, i.size, i.bytes)) = some (some (.agg #[.string ⟨#[]⟩, .string ⟨#[]⟩]), 2, 32) := by kernel_rfl

set_option maxRecDepth 100000 in
set_option maxHeartbeats 4000000 in
theorem ownF (xs : List Value) (a : Option Addr) (n cap bb base N : Nat) (K : Nat → Prop) (w : World) (hB : BookAt w K bb N) (hN : N < 1048576000) (hown : w.ownsRow base 80 2 (.slice a n cap) n xs) (hl : ∀ g, (Value.slice a n cap).ownBlock = some g → ¬ K g) (hn : Hid ((n + 100) * 64 ≤ 140737488355328)) (hln : n < 8796093022208) :
    Calls Tryz.prog 135 #[.pointer (some ⟨bb, 0, none⟩), .slice a n cap] w fun e w' => e = .returned (.tuple #[]) ∧ Owned w w' K bb N (.slice a n cap) := by
  obtain ⟨i0, hi, hz0, hz1, hz2⟩ := info_parts info_ownFo
  obtain ⟨i1, hj, hy0, hy1, hy2⟩ := info_parts info_ownFe
  have hsz : (Tryz.prog.info? 80).map (·.size) = some 2 := by rw [hj]; simp [hy1]
  obtain ⟨fs, ws, ts, gs, js, fv, wv, tv, gv, jv, hb, hnf, hnw, hnt, hng, hnj⟩ := hB
  obtain ⟨va, vcap, rfl⟩ := hb.f.row.form
  have c0 : w.cell? ⟨bb, 0, none⟩ = some (.slice va fs.length vcap) := hb.box.cell (i := 0) rfl
  have HB : Hid (BookIs w K bb fs ws ts gs js (.slice va fs.length vcap) wv tv gv jv) := hb
  have hkN : fs.length ≤ N := hnf
  have hll : Hid (∀ g, (Value.slice a n cap).ownBlock = some g → g < w.heap.size) := fun g hg => (Sl.of_row hown).lt hg
  have HL : Hid (∀ g, (Value.slice a n cap).ownBlock = some g → ¬ K g) := hl
  have HO : Hid (w.ownsRow base 80 2 (.slice a n cap) n xs) := hown
  obtain ⟨k, hk⟩ : ∃ k, k = fs.length := ⟨_, rfl⟩
  have HK : Hid (fs.length = k) := hk.symm
  have hk40 : k < 1099511627776 := by omega
  have Hle : Hid (fs.length ≤ N ∧ ws.length ≤ N ∧ ts.length ≤ N ∧ gs.length ≤ N ∧ js.length ≤ N) := ⟨hnf, hnw, hnt, hng, hnj⟩
  rw [← hk] at c0 hkN
  clear hb hown hl hnf hnw hnt hng hnj hk
  go_enter Tryz.func135, Tryz.ntmps135
  go_wp2
  go_loopw [5] (fun iv wr => ∃ i : Nat, i ≤ n ∧ iv = .int .i64 i ∧ Hid (wr.ownsRow base 80 2 (.slice a n cap) n (rep (dF.mrk k) i ++ xs.drop (i * 2))) ∧ Hid (Only w wr (fun q => (Value.slice a n cap).ownBlock = some q))) (fun i _ => n - (intOf i).toNat)
  case atStart => exact ⟨0, Nat.zero_le _, rfl, by simpa [rep] using HO, Only.refl _ _⟩
  case round =>
    obtain ⟨i, hin, rfl, hm, ho⟩ := hrel
    by_cases hlt : i < n
    · have Hfit : Hid (i * 2 + 2 ≤ (rep (dF.mrk k) i ++ xs.drop (i * 2)).length) := by
        show i * 2 + 2 ≤ (rep (dF.mrk k) i ++ xs.drop (i * 2)).length
        rw [hm.out.1]; omega
      obtain ⟨g, rfl⟩ : ∃ g, a = some ⟨g, 0, none⟩ := by
        rcases hm.out.2 with ⟨_, h⟩ | ⟨g, cap', cur, h, _⟩
        · omega
        · exact ⟨g, by simpa using (Value.slice.inj h).1⟩
      clear c0
      have hfo := fileOf_all k hk40 wr
      go_wp2_with (first | (go_at_call 54; refine hfo.mono ?_; rintro e w1 ⟨rfl, hbel⟩) | (refine wpList_store_elem _ rfl _ _ _ rfl base _ 2 _ _ _ _ _ (World.ownsRow.kept hm.out (below_grown hbel) (Classical.em _)) rfl [.string (mark k).1, .string (mark k).2] rfl hsz Hfit.out (by simp [Value.oneCell']) ?_; intro w2 hrow2 hg2))
      refine ⟨⟨i + 1, by omega, by go_num, ?_, (ho.out.trans (Only.of_below (S := fun _ => False) hbel) fun _ h => h.elim).trans (Only.of_grown (S := fun q => (Value.slice (some ⟨g, 0, none⟩) n cap).ownBlock = some q) hg2 fun q h => h) fun _ h => .inl h⟩, by simp [intOf]; omega⟩
      show w2.ownsRow _ _ _ _ _ _
      rw [← rep_seg (m := dF.mrk k) (size := 2) rfl]
      exact hrow2
    · obtain rfl : i = n := by omega
      have hs0 : Hid (St w wr bb (fun V => bookCells V wv tv gv jv) K (.slice va k vcap) (.slice a i cap) dF k (.slice va fs.length vcap) (.slice a i cap) i fs) := by
        have h1 := hm.out
        have h2 := HO.out.1
        rw [List.drop_of_length_le (by omega), List.append_nil] at h1
        have := BL.start (bx := fun V => bookCells V wv tv gv jv) HB.out.f HB.out.box HB.out.kb ho.out HL.out (d := dF) (k := k) (Sl.of_row h1)
        rw [HK.out] at this ⊢
        exact this
      have Hbw : Hid (w.heap.size ≤ wr.heap.size) := ho.out.size
      have q1 : Hid (k + 1 ≤ maxLen) := own_q3 (by omega)
      have q2 : Hid ((k + 1) * 32 ≤ 140737488355328) := own_q4 (by omega)
      rw [HK.out] at hs0
      have Hrow : Hid (Sl wr 93 2 (.slice va k vcap) k (fs.flatMap cN)) := by have := hs0.out.row; rw [HK.out] at this; exact this
      have d0 : wr.cell? ⟨bb, 0, none⟩ = some (.slice va k vcap) := hs0.out.box.cell (i := 0) rfl
      clear c0 hm ho
      go_wp2_with (at_builtin; refine wpList_append_slt _ rfl _ _ 81 rfl _ i0 _ 2 32 Tryz.underlying81 hi hz0 hz1 hz2 rfl (by decide) (.slice va k vcap) _ _ rfl (Sl.mk Hrow.out (.cells #[.slice a i cap, .int .i64 k] 93)) ⟨wr.heap.size, 0, none⟩ 1 1 [.slice a i cap, .int .i64 k] rfl rfl (cells_new wr _ _) (by simp [Value.oneCell']) (by decide) q1.out q2.out ?_; intro V1 w3 hS3 hM3; obtain ⟨a1, c1, rfl⟩ := hS3.form; have HS3 : Hid (Sl w3 93 2 (.slice a1 (k + 1) c1) (k + 1) (fs.flatMap cN ++ [.slice a i cap, .int .i64 k])) := hS3; have HM3 : Hid (Moved (wr.alloc (.cells #[.slice a i cap, .int .i64 k] 93)) w3 (.slice va k vcap) (.slice a1 (k + 1) c1) k 1) := hM3; have HA3 := (hs0.out.later (below_new _ _)).append ⟨by decide, by decide⟩ (by rw [HK.out]; exact HS3.out) (by rw [HK.out]; exact HM3.out); have e0 : w3.cell? ⟨bb, 0, none⟩ = some (.slice va k vcap) := HA3.1.cell (i := 0) rfl; have f0 := HA3.1.fr 0; clear hS3 hM3 HA3)
      have hpush : Hid (St w (w3.setCell ⟨bb, 0, none⟩ (.slice a1 (k + 1) c1)) bb (fun V => bookCells V wv tv gv jv) K (.slice va k vcap) (.slice a i cap) dF k (.slice a1 (k + 1) c1) (.slice a i cap) i (fs ++ [((.slice a i cap : Value), i, k)])) := (hs0.out.later (below_new _ _)).push (j := 0) ⟨by decide, by decide⟩ (by decide) (by rw [HK.out]; exact HS3.out) (by rw [HK.out]; exact HM3.out) hk40 rfl
      have hL : Hid (L2 w (w3.setCell ⟨bb, 0, none⟩ (.slice a1 (k + 1) c1)) bb (fun V => bookCells V wv tv gv jv) K (.slice va k vcap) (.slice a i cap) dF k i (.slice a i cap) 0) := ⟨a, cap, a1, c1, fs ++ [((.slice a i cap : Value), i, k)], rfl, by rw [List.length_append, HK.out]; rfl, by
        have h := hpush.out
        have e : (fs ++ [((.slice a i cap : Value), i, k)]).length = k + 1 := by rw [List.length_append, HK.out]; rfl
        rw [e]; exact h⟩
      generalize w3.setCell ⟨bb, 0, none⟩ (.slice a1 (k + 1) c1) = w4 at *
      clear hs0 Hrow d0 q1 q2 e0 f0 HS3 HM3 hpush
      go_loopw [1, 6] (fun lv iv wr => ∃ j : Nat, j ≤ 3 ∧ iv = .int .i64 j ∧ Hid (L2 w wr bb (fun V => bookCells V wv tv gv jv) K (.slice va k vcap) (.slice a i cap) dF k i lv j)) (fun _ i _ => 3 - (intOf i).toNat)
      case atStart => exact ⟨0, by omega, rfl, hL⟩
      case round =>
        obtain ⟨j, hj3, rfl, hl2⟩ := hrel
        obtain ⟨a', cap', va', vcap', rs', rfl, hlen, hst⟩ := hl2.out
        have Hlen : Hid (rs'.length = k + j + 1) := hlen
        rw [hlen] at hst
        have Hst : Hid (St w wr bb (fun V => bookCells V wv tv gv jv) K (.slice va k vcap) (.slice a i cap) dF k (.slice va' (k + j + 1) vcap') (.slice a' (i + j) cap') (i + j) rs') := hst
        clear hst hlen hl2 hL
        by_cases hlt3 : j < 3
        · have q1 : Hid (i + j + 1 ≤ maxLen) := own_q1 hln hlt3
          have q2 : Hid ((i + j + 1) * 32 ≤ 140737488355328) := own_le (by decide) (own_q2 hn.out hlt3)
          have q3 : Hid (k + j + 1 + 1 ≤ maxLen) := own_q3 (by omega)
          have q4 : Hid ((k + j + 1 + 1) * 32 ≤ 140737488355328) := own_q4 (by omega)
          have hfo := fileOf_all k hk40 wr
          go_wp2_with (first
            | (go_at_call 54; refine hfo.mono ?_; rintro e w1 ⟨rfl, hbel⟩; have HS1 : Hid (St w w1 bb (fun V => bookCells V wv tv gv jv) K (.slice va k vcap) (.slice a i cap) dF k (.slice va' (k + j + 1) vcap') (.slice a' (i + j) cap') (i + j) rs') := Hst.out.later hbel)
            | (at_builtin; refine wpList_append_slt _ rfl _ _ 24 rfl _ i1 _ 2 32 Tryz.underlying24 hj hy0 hy1 hy2 rfl (by decide) (.slice a' (i + j) cap') _ _ rfl (Sl.mk HS1.out.list (.cells #[.string (mark k).1, .string (mark k).2] 80)) ⟨w1.heap.size, 0, none⟩ 1 1 [.string (mark k).1, .string (mark k).2] rfl rfl (cells_new w1 _ _) (by simp [Value.oneCell']) (by decide) q1.out q2.out ?_; intro lv1 w3 hS3 hM3; obtain ⟨a2, c2, rfl⟩ := hS3.form; have Hm : Hid (St w w3 bb (fun V => bookCells V wv tv gv jv) K (.slice va k vcap) (.slice a i cap) dF k (.slice va' (k + j + 1) vcap') (.slice a2 (i + j + 1) c2) (i + j + 1) rs') := (HS1.out.later (below_new _ _)).more (by decide) (by decide) (fun _ => rfl) hS3 hM3; have d3 : w3.cell? ⟨bb, 0, none⟩ = some (.slice va' (k + j + 1) vcap') := Hm.out.box.cell (i := 0) rfl; have Hrow3 : Hid (Sl w3 93 2 (.slice va' (k + j + 1) vcap') (k + j + 1) (rs'.flatMap cN)) := (by have := Hm.out.row; rw [Hlen.out] at this; exact this); clear hS3 hM3)
            | (at_builtin; refine wpList_append_slt _ rfl _ _ 81 rfl _ i0 _ 2 32 Tryz.underlying81 hi hz0 hz1 hz2 rfl (by decide) (.slice va' (k + j + 1) vcap') _ _ rfl (Sl.mk Hrow3.out (.cells #[.slice a2 (i + j + 1) c2, .int .i64 k] 93)) ⟨w3.heap.size, 0, none⟩ 1 1 [.slice a2 (i + j + 1) c2, .int .i64 k] rfl rfl (cells_new w3 _ _) (by simp [Value.oneCell']) (by decide) q3.out q4.out ?_; intro V2 w4 hS4 hM4; obtain ⟨a3, c3, rfl⟩ := hS4.form; have HS4 : Hid (Sl w4 93 2 (.slice a3 (k + j + 1 + 1) c3) (k + j + 1 + 1) (rs'.flatMap cN ++ [.slice a2 (i + j + 1) c2, .int .i64 k])) := hS4; have HM4 : Hid (Moved (w3.alloc (.cells #[.slice a2 (i + j + 1) c2, .int .i64 k] 93)) w4 (.slice va' (k + j + 1) vcap') (.slice a3 (k + j + 1 + 1) c3) (k + j + 1) 1) := hM4; have HA4 := (Hm.out.later (below_new _ _)).append ⟨by decide, by decide⟩ (by rw [Hlen.out]; exact HS4.out) (by rw [Hlen.out]; exact HM4.out); have e4 : w4.cell? ⟨bb, 0, none⟩ = some (.slice va' (k + j + 1) vcap') := HA4.1.cell (i := 0) rfl; have f4 := HA4.1.fr 0; clear hS4 hM4 HA4))
          have hpush : St w (w4.setCell ⟨bb, 0, none⟩ (.slice a3 (k + j + 1 + 1) c3)) bb (fun V => bookCells V wv tv gv jv) K (.slice va k vcap) (.slice a i cap) dF k (.slice a3 (k + j + 1 + 1) c3) (.slice a2 (i + j + 1) c2) (i + j + 1) (rs' ++ [((.slice a2 (i + j + 1) c2 : Value), i + j + 1, k)]) := (Hm.out.later (below_new _ _)).push (j := 0) ⟨by decide, by decide⟩ (by decide) (by rw [Hlen.out]; exact HS4.out) (by rw [Hlen.out]; exact HM4.out) hk40 rfl
          refine ⟨⟨j + 1, by omega, by go_num, ⟨a2, c2, a3, c3, rs' ++ [((.slice a2 (i + j + 1) c2 : Value), i + j + 1, k)], rfl, by rw [List.length_append, Hlen.out]; rfl, ?_⟩⟩, by simp [intOf]; omega⟩
          have e : (rs' ++ [((.slice a2 (i + j + 1) c2 : Value), i + j + 1, k)]).length = k + j + 1 + 1 := by rw [List.length_append, Hlen.out]; rfl
          rw [e]; exact hpush
        · obtain rfl : j = 3 := by omega
          go_wp2
          refine bodyPost_end (v := .tuple #[]) (results_none (by kernel_rfl) _ _ _) rfl ⟨rfl, ?_⟩
          have hS := Hst.out
          have hb := HB.out
          rw [HK.out] at hb
          have hle := Hle.out
          have hrl : rs'.length ≤ N + 4 := by rw [Hlen.out]; omega
          have hsz := hS.only.size
          refine ⟨KL K (.slice a i cap) w wr, ⟨rs', ws, ts, gs, js, _, _, _, _, _, ⟨hS.box, .inl hb.kb, KL.lt hb.kl hll.out hsz, hS.done hb.f.fv, hS.other hb.q HL.out hb.f.row hb.box (by decide), hS.other hb.t HL.out hb.f.row hb.box (by decide), hS.other hb.g HL.out hb.f.row hb.box (by decide), hS.other hb.j HL.out hb.f.row hb.box (by decide)⟩, hrl, (by omega), (by omega), (by omega), (by omega)⟩, KL.sub, hS.only.mono fun q hq => ?_⟩
          rcases hq with h | h | h
          · rw [h]; exact .inl hb.kb
          · exact .inl (hb.f.fv q h)
          · exact .inr h
end Go.Proofs.YtgamgomepdfgdaaGreat

namespace Go.Proofs.YtgamgomepdfgdaaGreat
open Go.RowKit

theorem info_ownWo : (Tryz.prog.info? 97).map (fun i => (i.zero, i.size, i.bytes)) = some (some (.agg #[.slice none 0 0, .int .i64 0]), 2, 32) := by kernel_rfl
theorem info_ownWe : (Tryz.prog.info? 71).map (fun i => (i.zero, i.size, i.bytes)) = some (some (.agg #[.int .i64 0, .int .i64 0, .int .i64 0]), 3, 24) := by kernel_rfl

set_option maxRecDepth 100000 in
set_option maxHeartbeats 4000000 in
theorem ownW (xs : List Value) (a : Option Addr) (n cap bb base N : Nat) (K : Nat → Prop) (w : World) (hB : BookAt w K bb N) (hN : N < 1048576000) (hown : w.ownsRow base 71 3 (.slice a n cap) n xs) (hl : ∀ g, (Value.slice a n cap).ownBlock = some g → ¬ K g) (hn : Hid ((n + 100) * 64 ≤ 140737488355328)) (hln : n < 8796093022208) :
    Calls Tryz.prog 139 #[.pointer (some ⟨bb, 0, none⟩), .slice a n cap] w fun e w' => e = .returned (.tuple #[]) ∧ Owned w w' K bb N (.slice a n cap) := by
  obtain ⟨i0, hi, hz0, hz1, hz2⟩ := info_parts info_ownWo
  obtain ⟨i1, hj, hy0, hy1, hy2⟩ := info_parts info_ownWe
  have hsz : (Tryz.prog.info? 71).map (·.size) = some 3 := by rw [hj]; simp [hy1]
  obtain ⟨fs, ws, ts, gs, js, fv, wv, tv, gv, jv, hb, hnf, hnw, hnt, hng, hnj⟩ := hB
  obtain ⟨va, vcap, rfl⟩ := hb.q.row.form
  have c0 : w.cell? ⟨bb, 2, none⟩ = some (.slice va ws.length vcap) := hb.box.cell (i := 2) rfl
  have HB : Hid (BookIs w K bb fs ws ts gs js fv (.slice va ws.length vcap) tv gv jv) := hb
  have hkN : ws.length ≤ N := hnw
  have hll : Hid (∀ g, (Value.slice a n cap).ownBlock = some g → g < w.heap.size) := fun g hg => (Sl.of_row hown).lt hg
  have HL : Hid (∀ g, (Value.slice a n cap).ownBlock = some g → ¬ K g) := hl
  have HO : Hid (w.ownsRow base 71 3 (.slice a n cap) n xs) := hown
  obtain ⟨k, hk⟩ : ∃ k, k = ws.length := ⟨_, rfl⟩
  have HK : Hid (ws.length = k) := hk.symm
  have hk40 : k < 1099511627776 := by omega
  have Hle : Hid (fs.length ≤ N ∧ ws.length ≤ N ∧ ts.length ≤ N ∧ gs.length ≤ N ∧ js.length ≤ N) := ⟨hnf, hnw, hnt, hng, hnj⟩
  rw [← hk] at c0 hkN
  clear hb hown hl hnf hnw hnt hng hnj hk
  go_enter Tryz.func139, Tryz.ntmps139
  go_wp2
  go_loopw [5] (fun iv wr => ∃ i : Nat, i ≤ n ∧ iv = .int .i64 i ∧ Hid (wr.ownsRow base 71 3 (.slice a n cap) n (rep (dW.mrk k) i ++ xs.drop (i * 3))) ∧ Hid (Only w wr (fun q => (Value.slice a n cap).ownBlock = some q))) (fun i _ => n - (intOf i).toNat)
  case atStart => exact ⟨0, Nat.zero_le _, rfl, by simpa [rep] using HO, Only.refl _ _⟩
  case round =>
    obtain ⟨i, hin, rfl, hm, ho⟩ := hrel
    by_cases hlt : i < n
    · have Hfit : Hid (i * 3 + 3 ≤ (rep (dW.mrk k) i ++ xs.drop (i * 3)).length) := by
        show i * 3 + 3 ≤ (rep (dW.mrk k) i ++ xs.drop (i * 3)).length
        rw [hm.out.1]; omega
      obtain ⟨g, rfl⟩ : ∃ g, a = some ⟨g, 0, none⟩ := by
        rcases hm.out.2 with ⟨_, h⟩ | ⟨g, cap', cur, h, _⟩
        · omega
        · exact ⟨g, by simpa using (Value.slice.inj h).1⟩
      clear c0
      go_wp2_with (refine wpList_store_elem _ rfl _ _ _ rfl base _ 3 _ _ _ _ _ hm.out rfl [.int .i64 (-1 - (k : Int)), .int .i64 0, .int .i64 0] rfl hsz Hfit.out (by simp [Value.oneCell']) ?_; intro w2 hrow2 hg2)
      refine ⟨⟨i + 1, by omega, by go_num, ?_, ho.out.trans (Only.of_grown (S := fun q => (Value.slice (some ⟨g, 0, none⟩) n cap).ownBlock = some q) hg2 fun q h => h) fun _ h => .inl h⟩, by simp [intOf]; omega⟩
      show w2.ownsRow _ _ _ _ _ _
      rw [← rep_seg (m := dW.mrk k) (size := 3) rfl]
      exact hrow2
    · obtain rfl : i = n := by omega
      have hs0 : Hid (St w wr bb (fun V => bookCells fv V tv gv jv) K (.slice va k vcap) (.slice a i cap) dW k (.slice va ws.length vcap) (.slice a i cap) i ws) := by
        have h1 := hm.out
        have h2 := HO.out.1
        rw [List.drop_of_length_le (by omega), List.append_nil] at h1
        have := BL.start (bx := fun V => bookCells fv V tv gv jv) HB.out.q HB.out.box HB.out.kb ho.out HL.out (d := dW) (k := k) (Sl.of_row h1)
        rw [HK.out] at this ⊢
        exact this
      have Hbw : Hid (w.heap.size ≤ wr.heap.size) := ho.out.size
      have q1 : Hid (k + 1 ≤ maxLen) := own_q3 (by omega)
      have q2 : Hid ((k + 1) * 32 ≤ 140737488355328) := own_q4 (by omega)
      rw [HK.out] at hs0
      have Hrow : Hid (Sl wr 97 2 (.slice va k vcap) k (ws.flatMap cN)) := by have := hs0.out.row; rw [HK.out] at this; exact this
      have d0 : wr.cell? ⟨bb, 2, none⟩ = some (.slice va k vcap) := hs0.out.box.cell (i := 2) rfl
      clear c0 hm ho
      go_wp2_with (at_builtin; refine wpList_append_slt _ rfl _ _ 83 rfl _ i0 _ 2 32 Tryz.underlying83 hi hz0 hz1 hz2 rfl (by decide) (.slice va k vcap) _ _ rfl (Sl.mk Hrow.out (.cells #[.slice a i cap, .int .i64 k] 97)) ⟨wr.heap.size, 0, none⟩ 1 1 [.slice a i cap, .int .i64 k] rfl rfl (cells_new wr _ _) (by simp [Value.oneCell']) (by decide) q1.out q2.out ?_; intro V1 w3 hS3 hM3; obtain ⟨a1, c1, rfl⟩ := hS3.form; have HS3 : Hid (Sl w3 97 2 (.slice a1 (k + 1) c1) (k + 1) (ws.flatMap cN ++ [.slice a i cap, .int .i64 k])) := hS3; have HM3 : Hid (Moved (wr.alloc (.cells #[.slice a i cap, .int .i64 k] 97)) w3 (.slice va k vcap) (.slice a1 (k + 1) c1) k 1) := hM3; have HA3 := (hs0.out.later (below_new _ _)).append ⟨by decide, by decide⟩ (by rw [HK.out]; exact HS3.out) (by rw [HK.out]; exact HM3.out); have e0 : w3.cell? ⟨bb, 2, none⟩ = some (.slice va k vcap) := HA3.1.cell (i := 2) rfl; have f0 := HA3.1.fr 2; clear hS3 hM3 HA3)
      have hpush : Hid (St w (w3.setCell ⟨bb, 2, none⟩ (.slice a1 (k + 1) c1)) bb (fun V => bookCells fv V tv gv jv) K (.slice va k vcap) (.slice a i cap) dW k (.slice a1 (k + 1) c1) (.slice a i cap) i (ws ++ [((.slice a i cap : Value), i, k)])) := (hs0.out.later (below_new _ _)).push (j := 2) ⟨by decide, by decide⟩ (by decide) (by rw [HK.out]; exact HS3.out) (by rw [HK.out]; exact HM3.out) hk40 rfl
      have hL : Hid (L2 w (w3.setCell ⟨bb, 2, none⟩ (.slice a1 (k + 1) c1)) bb (fun V => bookCells fv V tv gv jv) K (.slice va k vcap) (.slice a i cap) dW k i (.slice a i cap) 0) := ⟨a, cap, a1, c1, ws ++ [((.slice a i cap : Value), i, k)], rfl, by rw [List.length_append, HK.out]; rfl, by
        have h := hpush.out
        have e : (ws ++ [((.slice a i cap : Value), i, k)]).length = k + 1 := by rw [List.length_append, HK.out]; rfl
        rw [e]; exact h⟩
      generalize w3.setCell ⟨bb, 2, none⟩ (.slice a1 (k + 1) c1) = w4 at *
      clear hs0 Hrow d0 q1 q2 e0 f0 HS3 HM3 hpush
      go_loopw [1, 6] (fun lv iv wr => ∃ j : Nat, j ≤ 3 ∧ iv = .int .i64 j ∧ Hid (L2 w wr bb (fun V => bookCells fv V tv gv jv) K (.slice va k vcap) (.slice a i cap) dW k i lv j)) (fun _ i _ => 3 - (intOf i).toNat)
      case atStart => exact ⟨0, by omega, rfl, hL⟩
      case round =>
        obtain ⟨j, hj3, rfl, hl2⟩ := hrel
        obtain ⟨a', cap', va', vcap', rs', rfl, hlen, hst⟩ := hl2.out
        have Hlen : Hid (rs'.length = k + j + 1) := hlen
        rw [hlen] at hst
        have Hst : Hid (St w wr bb (fun V => bookCells fv V tv gv jv) K (.slice va k vcap) (.slice a i cap) dW k (.slice va' (k + j + 1) vcap') (.slice a' (i + j) cap') (i + j) rs') := hst
        clear hst hlen hl2 hL
        by_cases hlt3 : j < 3
        · have q1 : Hid (i + j + 1 ≤ maxLen) := own_q1 hln hlt3
          have q2 : Hid ((i + j + 1) * 24 ≤ 140737488355328) := own_le (by decide) (own_q2 hn.out hlt3)
          have q3 : Hid (k + j + 1 + 1 ≤ maxLen) := own_q3 (by omega)
          have q4 : Hid ((k + j + 1 + 1) * 32 ≤ 140737488355328) := own_q4 (by omega)
          go_wp2_with (first
            | (at_builtin; refine wpList_append_slt _ rfl _ _ 61 rfl _ i1 _ 3 24 Tryz.underlying61 hj hy0 hy1 hy2 rfl (by decide) (.slice a' (i + j) cap') _ _ rfl (Sl.mk Hst.out.list (.cells #[.int .i64 (-1 - (k : Int)), .int .i64 0, .int .i64 0] 71)) ⟨wr.heap.size, 0, none⟩ 1 1 [.int .i64 (-1 - (k : Int)), .int .i64 0, .int .i64 0] rfl rfl (cells_new wr _ _) (by simp [Value.oneCell']) (by decide) q1.out q2.out ?_; intro lv1 w3 hS3 hM3; obtain ⟨a2, c2, rfl⟩ := hS3.form; have Hm : Hid (St w w3 bb (fun V => bookCells fv V tv gv jv) K (.slice va k vcap) (.slice a i cap) dW k (.slice va' (k + j + 1) vcap') (.slice a2 (i + j + 1) c2) (i + j + 1) rs') := (Hst.out.later (below_new _ _)).more (by decide) (by decide) (fun _ => rfl) hS3 hM3; have d3 : w3.cell? ⟨bb, 2, none⟩ = some (.slice va' (k + j + 1) vcap') := Hm.out.box.cell (i := 2) rfl; have Hrow3 : Hid (Sl w3 97 2 (.slice va' (k + j + 1) vcap') (k + j + 1) (rs'.flatMap cN)) := (by have := Hm.out.row; rw [Hlen.out] at this; exact this); clear hS3 hM3)
            | (at_builtin; refine wpList_append_slt _ rfl _ _ 83 rfl _ i0 _ 2 32 Tryz.underlying83 hi hz0 hz1 hz2 rfl (by decide) (.slice va' (k + j + 1) vcap') _ _ rfl (Sl.mk Hrow3.out (.cells #[.slice a2 (i + j + 1) c2, .int .i64 k] 97)) ⟨w3.heap.size, 0, none⟩ 1 1 [.slice a2 (i + j + 1) c2, .int .i64 k] rfl rfl (cells_new w3 _ _) (by simp [Value.oneCell']) (by decide) q3.out q4.out ?_; intro V2 w4 hS4 hM4; obtain ⟨a3, c3, rfl⟩ := hS4.form; have HS4 : Hid (Sl w4 97 2 (.slice a3 (k + j + 1 + 1) c3) (k + j + 1 + 1) (rs'.flatMap cN ++ [.slice a2 (i + j + 1) c2, .int .i64 k])) := hS4; have HM4 : Hid (Moved (w3.alloc (.cells #[.slice a2 (i + j + 1) c2, .int .i64 k] 97)) w4 (.slice va' (k + j + 1) vcap') (.slice a3 (k + j + 1 + 1) c3) (k + j + 1) 1) := hM4; have HA4 := (Hm.out.later (below_new _ _)).append ⟨by decide, by decide⟩ (by rw [Hlen.out]; exact HS4.out) (by rw [Hlen.out]; exact HM4.out); have e4 : w4.cell? ⟨bb, 2, none⟩ = some (.slice va' (k + j + 1) vcap') := HA4.1.cell (i := 2) rfl; have f4 := HA4.1.fr 2; clear hS4 hM4 HA4))
          have hpush : St w (w4.setCell ⟨bb, 2, none⟩ (.slice a3 (k + j + 1 + 1) c3)) bb (fun V => bookCells fv V tv gv jv) K (.slice va k vcap) (.slice a i cap) dW k (.slice a3 (k + j + 1 + 1) c3) (.slice a2 (i + j + 1) c2) (i + j + 1) (rs' ++ [((.slice a2 (i + j + 1) c2 : Value), i + j + 1, k)]) := (Hm.out.later (below_new _ _)).push (j := 2) ⟨by decide, by decide⟩ (by decide) (by rw [Hlen.out]; exact HS4.out) (by rw [Hlen.out]; exact HM4.out) hk40 rfl
          refine ⟨⟨j + 1, by omega, by go_num, ⟨a2, c2, a3, c3, rs' ++ [((.slice a2 (i + j + 1) c2 : Value), i + j + 1, k)], rfl, by rw [List.length_append, Hlen.out]; rfl, ?_⟩⟩, by simp [intOf]; omega⟩
          have e : (rs' ++ [((.slice a2 (i + j + 1) c2 : Value), i + j + 1, k)]).length = k + j + 1 + 1 := by rw [List.length_append, Hlen.out]; rfl
          rw [e]; exact hpush
        · obtain rfl : j = 3 := by omega
          go_wp2
          refine bodyPost_end (v := .tuple #[]) (results_none (by kernel_rfl) _ _ _) rfl ⟨rfl, ?_⟩
          have hS := Hst.out
          have hb := HB.out
          rw [HK.out] at hb
          have hle := Hle.out
          have hrl : rs'.length ≤ N + 4 := by rw [Hlen.out]; omega
          have hsz := hS.only.size
          refine ⟨KL K (.slice a i cap) w wr, ⟨fs, rs', ts, gs, js, _, _, _, _, _, ⟨hS.box, .inl hb.kb, KL.lt hb.kl hll.out hsz, hS.other hb.f HL.out hb.q.row hb.box (by decide), hS.done hb.q.fv, hS.other hb.t HL.out hb.q.row hb.box (by decide), hS.other hb.g HL.out hb.q.row hb.box (by decide), hS.other hb.j HL.out hb.q.row hb.box (by decide)⟩, (by omega), hrl, (by omega), (by omega), (by omega)⟩, KL.sub, hS.only.mono fun q hq => ?_⟩
          rcases hq with h | h | h
          · rw [h]; exact .inl hb.kb
          · exact .inl (hb.q.fv q h)
          · exact .inr h
end Go.Proofs.YtgamgomepdfgdaaGreat
