import Derived.Test.YtgamgomepdfgdaaOwnS
namespace Go.Proofs.Ytgamgomepdfgdaa
open Go.RowKit

theorem info64 : (Try.prog.info? 64).map (fun i => (i.zero, i.size, i.bytes)) = some (some (.agg #[.slice none 0 0, .int .i64 0]), 2, 32) := by kernel_rfl
theorem isz31 : (Try.prog.info? 31).map (·.size) = some 1 := by kernel_rfl
theorem info47c : (Try.prog.info? 47).map (fun i => (i.zero, i.size, i.bytes)) = some (some (.agg #[.string ⟨#[]⟩, .string ⟨#[]⟩]), 2, 32) := by kernel_rfl

/-- it shares no row with v -/
def Elsewhere (v : Value) (r : En) : Prop := ∀ g, r.1.ownBlock = some g → v.ownBlock = some g → r.2.1 = 0

theorem Ent.kept_other {w w' : World} {r : En} {v : Value} (h : Ent w r) (ha : Elsewhere v r) (hg : w.grownBy w' v.ownBlock) : Ent w' r := by
  by_cases h0 : r.2.1 = 0
  · rcases h with h | ⟨g, cap, cur, h1, _, _⟩
    · exact .inl h
    · exact .inl ⟨h0, _, cap, by rw [h1, h0]⟩
  · rcases h with h | ⟨g, cap, cur, h1, h2, h3⟩
    · exact .inl h
    · exact .inr ⟨g, cap, cur, h1, by rw [hg.block g (lt_of_heap h2) (fun e => h0 (ha g (by rw [h1]; rfl) e.symm)), h2], h3⟩

/-- the list is marked as far as i -/
structure Mk (w0 : World) (S : Nat → Prop) (base k : Nat) (rs : List En) (wr : World) (lv : Value) (n i : Nat) (xs : List Value) : Prop where
  row : wr.ownsRow base 47 2 lv n (marks i k ++ xs.drop (i * 2))
  ents : ∀ r ∈ rs, Ent wr r
  kept : KeptBut w0 wr S

theorem mk_seg {i k : Nat} {xs : List Value} : (marks i k ++ xs.drop (i * 2)).take (i * 2) ++ cF (mark k) ++ (marks i k ++ xs.drop (i * 2)).drop (i * 2 + 2) = marks (i + 1) k ++ xs.drop ((i + 1) * 2) := by
  have hl := marks_len i k
  have e1 : (marks i k ++ xs.drop (i * 2)).take (i * 2) = marks i k := by rw [← hl, List.take_left]
  have e2 : (marks i k ++ xs.drop (i * 2)).drop (i * 2 + 2) = (xs.drop (i * 2)).drop 2 := by rw [← List.drop_drop]; congr 1; exact List.drop_left' hl
  have e3 : (i + 1) * 2 = i * 2 + 2 := by omega
  rw [e1, e2, marks_succ, List.drop_drop, e3]

theorem Mk.next {w0 wr w1 w' : World} {S : Nat → Prop} {bb base k n i : Nat} {rs : List En} {lv V : Value} {xs : List Value} (h : Mk w0 S base k rs wr lv n i xs) (hb : Bk w0 S bb base rs wr V) (he : ∀ r ∈ rs, Elsewhere lv r) (hS : ∀ q, lv.ownBlock = some q → S q)
    (hg1 : wr.grownBy w1 none) (hg : w1.grownBy w' lv.ownBlock) (hrow : w'.ownsRow base 47 2 lv n ((marks i k ++ xs.drop (i * 2)).take (i * 2) ++ cF (mark k) ++ (marks i k ++ xs.drop (i * 2)).drop (i * 2 + 2))) :
    Mk w0 S base k rs w' lv n (i + 1) xs ∧ Bk w0 S bb base rs w' V := by
  rw [mk_seg] at hrow
  refine ⟨⟨hrow, fun r hr => ((h.ents r hr).kept hg1 (fun _ _ e => by cases e)).kept_other (he r hr) hg, (h.kept.grown hg1 (fun _ e => by cases e)).grown hg (fun q e => .inl (hS q e))⟩, (hb.kept' hg1 (fun _ _ _ e => by cases e)).kept' hg (fun g cur t e ht hh => ?_)⟩
  have h1 := h.row.kept hg1 (Classical.em _)
  obtain ⟨cur', hc⟩ := row_obj h1 e
  rw [hc] at hh
  simp at hh
  exact ht hh.2.symm

theorem base_alloc {base : Nat} {wr : World} (h : base ≤ wr.heap.size) (o : Obj) : base ≤ (wr.alloc o).heap.size := by simp; omega
theorem Bk.box3 {w0 wr w3 : World} {S : Nat → Prop} {bb base : Nat} {rs : List En} {V : Value} {o : Obj} (hb : Bk w0 S bb base rs wr V) (hg3 : (wr.alloc o).grownBy w3 V.ownBlock) : w3.heap[bb]? = some (.cells (boxOf V) 38 (0, 0)) := by
  have ba : Bk w0 S bb base rs (wr.alloc o) V := hb.kept' (World.grownBy_alloc wr o none) (fun _ _ _ e => by cases e)
  have hbne : some bb ≠ V.ownBlock := fun e => by
    obtain ⟨cur', hc⟩ := row_obj ba.row e.symm
    have := ba.box
    rw [hc] at this; simp at this
  rw [hg3.block bb (lt_of_heap ba.box) hbne, ba.box]

theorem Bk.cell {w0 wr : World} {S : Nat → Prop} {bb base : Nat} {rs : List En} {V : Value} (h : Bk w0 S bb base rs wr V) : wr.cell? ⟨bb, 0, none⟩ = some V := by
  have := h.box; simp [World.cell?, this, boxOf]
/-- the lists of one call: their mark, no longer than this -/
def Fit (k n : Nat) (new : List En) : Prop := ∀ r ∈ new, r.2.2 = k ∧ r.2.1 ≤ n
theorem Fit.one (v : Value) (k n : Nat) : Fit k (n + 3) [(v, n, k)] := fun r hr => by
  obtain rfl : r = (v, n, k) := by simpa using hr
  exact ⟨rfl, Nat.le_add_right _ _⟩
theorem Fit.snoc {k n m : Nat} {new : List En} {v : Value} (h : Fit k n new) (hm : m ≤ n) : Fit k n (new ++ [(v, m, k)]) := fun r hr => by
  rcases List.mem_append.1 hr with hr | hr
  · exact h r hr
  · obtain rfl : r = (v, m, k) := by simpa using hr
    exact ⟨rfl, hm⟩
/-- the second loop's state -/
def L2 (w0 : World) (S : Nat → Prop) (bb base k n : Nat) (rs : List En) (wr : World) (lv : Value) (j : Nat) : Prop :=
  ∃ a' cap' va' vcap' rs', lv = .slice a' (n + j) cap' ∧ (∃ new, rs' = rs ++ new ∧ new.length = j + 1 ∧ Fit k (n + 3) new) ∧ St w0 S base k rs' wr lv (n + j) ∧ Bk w0 S bb base rs' wr (.slice va' rs'.length vcap')

theorem own_room1 {i j : Nat} (h : i < 8796093022208) (hj : j < 3) : i + j + 1 ≤ maxLen := by unfold maxLen; omega
theorem own_room2 {i j : Nat} (h : (i + 100) * 32 ≤ 140737488355328) (hj : j < 3) : (i + j + 1) * 32 ≤ 140737488355328 := Nat.le_trans (Nat.mul_le_mul_right 32 (show i + j + 1 ≤ i + 100 by omega)) h
theorem own_room3 {m k j : Nat} (h : m = k + (j + 1)) (hk : k = 0 ∨ k = 4) (hj : j < 3) : m + 1 ≤ maxLen := by unfold maxLen; omega
theorem own_room4 {m k j : Nat} (h : m = k + (j + 1)) (hk : k = 0 ∨ k = 4) (hj : j < 3) : (m + 1) * 32 ≤ 140737488355328 := Nat.le_trans (Nat.mul_le_mul_right 32 (show m + 1 ≤ 9 by omega)) (by decide)

set_option maxRecDepth 100000 in
set_option maxHeartbeats 2000000 in
theorem own_walk (xs : List Value) (a : Option Addr) (n cap bb base : Nat) (va : Option Addr) (vcap : Nat) (rs : List En) (S : Nat → Prop) (w : World) (hk : rs.length = 0 ∨ rs.length = 4)
    (hbook : Bk w S bb base rs w (.slice va rs.length vcap)) (hown : w.ownsRow base 47 2 (.slice a n cap) n xs) (hS : ∀ q, (Value.slice a n cap).ownBlock = some q → S q)
    (hents : ∀ r ∈ rs, Ent w r ∧ Elsewhere (.slice a n cap) r) (heb : Hid (∀ r ∈ rs, ∀ q, r.1.ownBlock = some q → S q ∨ w.heap.size ≤ q)) (hbase : base ≤ w.heap.size) (hn : Hid ((n + 100) * 32 ≤ 140737488355328)) (hln : n < 8796093022208) :
    Calls Try.prog 10 #[.pointer (some ⟨bb, 0, none⟩), .slice a n cap] w fun e w' => e = .returned (.tuple #[]) ∧
      ∃ lv V new, new.length = 4 ∧ Fit rs.length (n + 3) new ∧ St w S base rs.length (rs ++ new) w' lv (n + 3) ∧ Bk w S bb base (rs ++ new) w' V := by
  obtain ⟨i0, hi, hz0, hz1, hz2⟩ := info_parts info64
  obtain ⟨i1, hj, hy0, hy1, hy2⟩ := info_parts info47c
  have hsz : (Try.prog.info? 47).map (·.size) = some 2 := by rw [hj]; simp [hy1]
  have hV : w.cell? ⟨bb, 0, none⟩ = some (.slice va rs.length vcap) := by have := hbook.box; simp [World.cell?, this, boxOf]
  go_enter Try.func10, Try.ntmps10
  go_wp2
  go_loopw [5] (fun iv wr => ∃ i : Nat, i ≤ n ∧ iv = .int .i64 i ∧ Hid (Mk w S base rs.length rs wr (.slice a n cap) n i xs) ∧ Hid (Bk w S bb base rs wr (.slice va rs.length vcap))) (fun i _ => n - (intOf i).toNat)
  case atStart => exact ⟨0, by omega, rfl, ⟨by simpa [marks] using hown, fun r hr => (hents r hr).1, KeptBut.refl _ _⟩, hbook⟩
  case round =>
    obtain ⟨i, hin, rfl, hm, hb⟩ := hrel
    by_cases hlt : i < n
    · have hrow := hm.out.row
      have hfo := fileOf_any rs.length hk wr
      obtain ⟨g, rfl⟩ : ∃ g, a = some ⟨g, 0, none⟩ := by
        rcases hrow.2 with ⟨_, h⟩ | ⟨g, cap', cur, h, _⟩
        · omega
        · exact ⟨g, by simpa using (Value.slice.inj h).1⟩
      have Hfit : Hid (i * 2 + 2 ≤ (marks i rs.length ++ xs.drop (i * 2)).length) := by
        show i * 2 + 2 ≤ (marks i rs.length ++ xs.drop (i * 2)).length
        rw [hrow.1]; omega
      have Hrow : Hid _ := hrow
      clear hrow hV
      go_wp2_with (first | (go_at_call 27; refine hfo.mono ?_; rintro e w1 ⟨rfl, hbel⟩) | (refine wpList_store_elem _ rfl _ _ _ rfl base _ 2 _ _ _ _ _ (World.ownsRow.kept Hrow.out (below_grown hbel) (Classical.em _)) rfl (cF (mark rs.length)) rfl hsz Hfit.out (by simp [cF, Value.oneCell']) ?_; intro w2 hrow2 hg2))
      obtain ⟨h1, h2⟩ := hm.out.next hb.out (fun r hr => (hents r hr).2) hS (below_grown hbel) hg2 hrow2
      exact ⟨⟨i + 1, by omega, by go_num, h1, h2⟩, by simp [intOf]; omega⟩
    · obtain rfl : i = n := by omega
      have hs0 : Hid (St w S base rs.length rs wr (.slice a i cap) i) := by
        refine ⟨?_, fun r hr => ⟨hm.out.ents r hr, fun g e1 e2 => .inl ((hents r hr).2 g e1 e2)⟩, hm.out.kept, fun q e => .inl (hS q e), heb.out⟩
        have h1 := hm.out.row
        have h2 := hown.1
        rwa [List.drop_of_length_le (by omega), List.append_nil] at h1
      have Hbox : Hid _ := hb.out.box
      have HVrow : Hid _ := hb.out.row
      have hV1 : wr.cell? ⟨bb, 0, none⟩ = some (.slice va rs.length vcap) := by have := hb.out.box; simp [World.cell?, this, boxOf]
      have hbw : Hid (base ≤ wr.heap.size) := Nat.le_trans hbase hm.out.kept.size
      have q1 : Hid (rs.length + 1 ≤ maxLen) := by show _ ≤ _; unfold maxLen; omega
      have q2 : Hid ((rs.length + 1) * 32 ≤ 140737488355328) := by show _ ≤ _; omega
      clear hV hm hown hents
      go_wp2_with (first | (at_builtin; (refine wpList_append_tells _ rfl _ _ 31 rfl base _ i0 _ 2 32 Try.underlying31 hi hz0 hz1 hz2 rfl (by decide) _ _ _ rfl (World.ownsRow.alloc HVrow.out (.cells #[.slice a i cap, .int .i64 rs.length] 64)) ⟨wr.heap.size, 0, none⟩ 1 1 [.slice a i cap, .int .i64 rs.length] rfl rfl (cell_two_new wr _ _ _) (by simp [Value.oneCell']) (by decide) q1.out q2.out (base_alloc hbw.out _) ?_); intro V1 w3 hrow3 hg3 hV3; have hbx3 : Hid _ := hb.out.box3 hg3; obtain ⟨a1, c1, rfl⟩ := row_shape hrow3; go_frame) | (refine wpList_store_box _ rfl _ _ _ rfl bb _ _ _ hbx3.out rfl rfl rfl isz31 ?_; intro w4 hbx4 hg4))
      have hpush := push hs0.out hb.out hg3 hrow3 hV3 hg4 hbx4
      have hL : Hid (L2 w S bb base rs.length i rs w4 (.slice a i cap) 0) := ⟨a, cap, a1, c1, rs ++ [(.slice a i cap, i, rs.length)], rfl, ⟨_, rfl, rfl, Fit.one _ _ _⟩, hpush.1, by simpa using hpush.2⟩
      clear hs0 hb Hbox HVrow hV1 hbw q1 q2 hbx3 hbx4 hg4 hg3 hrow3 hV3 hpush hbook
      go_loopw [1, 6] (fun lv iv wr => ∃ j : Nat, j ≤ 3 ∧ iv = .int .i64 j ∧ Hid (L2 w S bb base rs.length i rs wr lv j)) (fun _ i _ => 3 - (intOf i).toNat)
      case atStart => exact ⟨0, by omega, rfl, hL⟩
      case round =>
        obtain ⟨j, hj3, rfl, hl2⟩ := hrel
        by_cases hlt3 : j < 3
        · obtain ⟨a', cap', va', vcap', rs', rfl, ⟨new, hnew, hnl, hfit⟩, hst, hbk⟩ := hl2.out
          have HF : Hid _ := hfit
          have hlen : rs'.length = rs.length + (j + 1) := by rw [hnew, List.length_append, hnl]
          have hfo := fileOf_any rs.length hk wr
          have Hst : Hid _ := hst
          have Hbk : Hid _ := hbk
          have Hlen : Hid _ := hlen
          have HN : Hid _ := hnew
          have HN1 : Hid _ := hnl
          have hcap : Hid (i + j + 1 ≤ maxLen) := own_room1 hln hlt3
          have hbyt : Hid ((i + j + 1) * 32 ≤ 140737488355328) := own_room2 hn.out hlt3
          have hcap2 : Hid (rs'.length + 1 ≤ maxLen) := own_room3 hlen hk hlt3
          have hbyt2 : Hid ((rs'.length + 1) * 32 ≤ 140737488355328) := own_room4 hlen hk hlt3
          clear hst hbk hlen hnew hnl hfit hl2 hL
          go_wp2_with (first
            | (go_at_call 27; refine hfo.mono ?_; rintro e w1 ⟨rfl, hbel⟩; have Hs1 : Hid _ := St.kept' Hst.out (below_grown hbel) (fun _ e => by cases e) (fun _ _ e => by cases e); have Hb1 : Hid _ := Bk.kept' Hbk.out (below_grown hbel) (fun _ _ _ e => by cases e))
            | (at_builtin; refine wpList_append_tells _ rfl _ _ 22 rfl base _ i1 _ 2 32 Try.underlying22 hj hy0 hy1 hy2 rfl (by decide) _ _ _ rfl (World.ownsRow.alloc Hs1.out.row (.cells #[.string (mark rs.length).1, .string (mark rs.length).2] 47)) ⟨w1.heap.size, 0, none⟩ 1 1 [.string (mark rs.length).1, .string (mark rs.length).2] rfl rfl (cell_two_new w1 _ _ _) (by simp [Value.oneCell']) (by decide) hcap.out hbyt.out (base_alloc (Nat.le_trans hbase Hs1.out.kept.size) _) ?_; intro lv1 w3 hrow3 hg3 hV3; have Hm : Hid _ := more Hs1.out Hb1.out hg3 hrow3 hV3; obtain ⟨a2, c2, rfl⟩ := row_shape hrow3; have hcell3 := Hm.out.2.cell; go_frame)
            | (at_builtin; refine wpList_append_tells _ rfl _ _ 31 rfl base _ i0 _ 2 32 Try.underlying31 hi hz0 hz1 hz2 rfl (by decide) _ _ _ rfl (World.ownsRow.alloc Hm.out.2.row (.cells #[.slice a2 (i + j + 1) c2, .int .i64 rs.length] 64)) ⟨w3.heap.size, 0, none⟩ 1 1 [.slice a2 (i + j + 1) c2, .int .i64 rs.length] rfl rfl (cell_two_new w3 _ _ _) (by simp [Value.oneCell']) (by decide) hcap2.out hbyt2.out (base_alloc (Nat.le_trans hbase Hm.out.1.kept.size) _) ?_; intro V2 w4 hrow4 hg4 hV4; have hbx4 : Hid _ := Hm.out.2.box3 hg4; obtain ⟨a3, c3, rfl⟩ := row_shape hrow4; go_frame)
            | (refine wpList_store_box _ rfl _ _ _ rfl bb _ _ _ hbx4.out rfl rfl rfl isz31 ?_; intro w5 hbx5 hg5))
          have hpush := push Hm.out.1 Hm.out.2 hg4 hrow4 hV4 hg5 hbx5
          exact ⟨⟨j + 1, by omega, by go_num, ⟨a2, c2, a3, c3, rs' ++ [(.slice a2 (i + j + 1) c2, i + j + 1, rs.length)], rfl, ⟨new ++ [(.slice a2 (i + j + 1) c2, i + j + 1, rs.length)], by rw [HN.out, List.append_assoc], by rw [List.length_append, HN1.out]; rfl, Fit.snoc HF.out (by omega)⟩, hpush.1, by simpa using hpush.2⟩⟩, by simp [intOf]; omega⟩
        · obtain rfl : j = 3 := by omega
          obtain ⟨a', cap', va', vcap', rs', rfl, ⟨new, rfl, hnl, hfit⟩, hst, hbk⟩ := hl2.out
          have Hst : Hid _ := hst
          have Hbk : Hid _ := hbk
          clear hst hbk hl2 hL
          go_wp2
          refine bodyPost_end (v := .tuple #[]) (results_none (by kernel_rfl) _ _ _) rfl ?_
          exact ⟨rfl, _, _, new, hnl, hfit, Hst.out, Hbk.out⟩
end Go.Proofs.Ytgamgomepdfgdaa
