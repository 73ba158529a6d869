import Derived.Test.YtgamgomepdfgdaaApplied
namespace Go.Proofs.Ytgamgomepdfgdaa
open Go.RowKit

def ARes (e : Ending) (w' : World) (l : List Fl) (es : List Ed) : Prop :=
  ((∀ x ∈ es, standsL l x.1 = x.2.1) ∧ ∃ (l' : List Fl) (v : Value), e = .returned (.tuple #[v, .bool true]) ∧ Told l' (edited (standsL l) es) ∧ FilesAt w' v l') ∨
  ((¬ ∀ x ∈ es, standsL l x.1 = x.2.1) ∧ e = .returned (.tuple #[.slice none 0 0, .bool false]))

theorem low_le {w wr : World} (h : Below w.heap.size w wr) : w.heap.size ≤ wr.heap.size := h.size

set_option maxRecDepth 100000 in
set_option maxHeartbeats 2000000 in
theorem applied_walk (l : List Fl) (es : List Ed) (a : Option Addr) (b off cap be oe ce : Nat) (w : World) (ha : Hid (0 < l.length → a = some ⟨b, off, none⟩ ∧ b < w.heap.size)) (hfa : FilesAt w (.slice a l.length cap) l) (hbe : be < w.heap.size)
    (h0 : ∀ i (h : i < l.length), w.cell? ⟨b, off + i * 2, none⟩ = some (.string l[i].1)) (h1 : ∀ i (h : i < l.length), w.cell? ⟨b, off + i * 2 + 1, none⟩ = some (.string l[i].2))
    (e0 : ∀ i (h : i < es.length), w.cell? ⟨be, oe + i * 3, none⟩ = some (.string es[i].1)) (e1 : ∀ i (h : i < es.length), w.cell? ⟨be, oe + i * 3 + 1, none⟩ = some (.string es[i].2.1)) (e2 : ∀ i (h : i < es.length), w.cell? ⟨be, oe + i * 3 + 2, none⟩ = some (.string es[i].2.2))
    (hn : Hid ((l.length + 100) * 32 ≤ 140737488355328)) (hln : l.length < 8796093022208) (hm : es.length ≤ 4) (hg : Hid (Good okFl Prod.fst l)) (hge : Hid (Good okEd Prod.fst es)) :
    Calls Try.prog 21 #[.slice a l.length cap, .slice (some ⟨be, oe, none⟩) es.length ce] w fun e w' => ARes e w' l es ∧ Below w.heap.size w w' := by
  obtain ⟨i0, hi, hz0, hz1, hz2⟩ := info_parts info47
  go_enter Try.func21, Try.ntmps21
  go_wp2
  go_loopw [6] (fun iv wr => ∃ k : Nat, k ≤ es.length ∧ iv = .int .i64 k ∧ Hid (Drew w wr) ∧ Hid (∀ j (_ : j < k) (h' : j < es.length), standsL l es[j].1 = es[j].2.1)) (fun iv _ => es.length - (intOf iv).toNat)
  case atStart => exact ⟨0, Nat.zero_le _, rfl, Drew.refl _, fun j h => by omega⟩
  case round =>
    obtain ⟨k, hk, rfl, hdr, hall⟩ := hrel
    by_cases hlk : k < es.length
    · obtain ⟨f0, f1, f2, fb⟩ := edits_cells hdr.out.below hbe e0 e1 e2
      have hst : ∀ n, Calls Try.prog 29 #[.slice a l.length cap, .string es[k].1] (wr.drewN n) fun e w'' => e = .returned (.string (standsL l es[k].1)) ∧ w'' = wr.drewN n := fun n =>
        ref_stands l es[k].1 _ (wr.drewN n) (hfa.later (drew_below (.one _ _) hdr.out.below)) (by omega)
      have H1 : Hid ((!((standsL l es[k].1).toList == es[k].2.1.toList)) = true → ¬ ∀ x ∈ es, standsL l x.1 = x.2.1) := fun h hx => by
        rw [hx _ (List.getElem_mem hlk)] at h; simp at h
      have H2 : Hid ((!((standsL l es[k].1).toList == es[k].2.1.toList)) = false → standsL l es[k].1 = es[k].2.1) := fun h => (beq_true_iff _ _).1 (by simpa using h)
      clear h0 h1 e0 e1 e2 hfa ha
      go_wp2
      go_quiet ((go_at_call 29; exact Calls.quiet_of_same (hst _)))
      go_wp2
      · go_ret2
        exact ⟨.inr ⟨H1.out ‹_›, rfl⟩, drew_below (.one _ _) hdr.out.below⟩
      · exact ⟨⟨k + 1, hlk, by go_num, hdr.out.trans (.one _ _), fun x hx hx' => by
          by_cases e : x = k
          · subst e; exact H2.out ‹_›
          · exact hall.out x (by omega) hx'⟩, by simp [intOf]; omega⟩
    · have Hall : Hid (∀ x ∈ es, standsL l x.1 = x.2.1) := fun x hx => by
        obtain ⟨j, hj, rfl⟩ := List.mem_iff_getElem.1 hx
        exact hall.out j (by omega) hj
      obtain ⟨wo, hwo⟩ : ∃ x, x = wr := ⟨wr, rfl⟩
      subst hwo
      have hB0 := hdr.out.below
      obtain ⟨e0, e1, e2, hbe⟩ := edits_cells hB0 hbe e0 e1 e2
      have hcl : Hid (0 < l.length → a = some ⟨b, off, none⟩ ∧ (∀ i (h : i < l.length), wo.cell? ⟨b, off + i * 2, none⟩ = some (.string l[i].1)) ∧ (∀ i (h : i < l.length), wo.cell? ⟨b, off + i * 2 + 1, none⟩ = some (.string l[i].2)) ∧ b < wo.heap.size) := fun h =>
        ⟨(ha.out h).1, files_cells hB0 (ha.out h).2 h0 h1⟩
      clear h0 h1 hall hfa ha
      go_wp2
      go_loopw [7, 8] (fun ov iv wr => ∃ i : Nat, i ≤ l.length ∧ iv = .int .i64 i ∧ wr.ownsRow wo.heap.size 47 2 ov (keep es (l.take i)).length ((keep es (l.take i)).flatMap cF) ∧ Below wo.heap.size wo wr) (fun _ iv _ => l.length - (intOf iv).toNat)
      case atStart => exact ⟨0, Nat.zero_le _, rfl, World.ownsRow_nil _ _ _ _, Below.refl _ _⟩
      case round =>
        obtain ⟨i, hil, rfl, hrow, hb⟩ := hrel
        obtain ⟨w1, hw1⟩ : ∃ x, x = wr := ⟨wr, rfl⟩
        subst hw1
        by_cases hli : i < l.length
        · obtain ⟨rfl, g0, g1, gb⟩ := hcl.out (by omega)
          obtain ⟨g0, g1, gb⟩ := files_cells hb gb g0 g1
          obtain ⟨d0, d1, d2, db⟩ := edits_cells hb hbe e0 e1 e2
          clear e0 e1 e2 hcl
          go_wp2
          go_loopw [9, 10] (fun tv kv wr' => ∃ (k : Nat) (t : Bool), k ≤ es.length ∧ kv = .int .i64 k ∧ tv = .bool t ∧ Hid (t = touch (es.take k) l[i].1) ∧ Hid (Drew w1 wr')) (fun _ kv _ => es.length - (intOf kv).toNat)
          case atStart => exact ⟨0, false, Nat.zero_le _, rfl, rfl, rfl, Drew.refl _⟩
          case round =>
            obtain ⟨k, t, hk, rfl, rfl, ht, hdr2⟩ := hrel
            obtain ⟨f0, f1, f2, fb⟩ := edits_cells hdr2.out.below db d0 d1 d2
            obtain ⟨k0, k1, kb⟩ := files_cells hdr2.out.below gb g0 g1
            clear d0 d1 d2 g0 g1
            by_cases hlk : k < es.length
            · have HT : Hid (touch (es.take (k + 1)) l[i].1 = (touch (es.take k) l[i].1 || (es[k].1.toList == l[i].1.toList))) := by
                show _ = _
                rw [List.take_succ_eq_append_getElem hlk]; exact touch_snoc _ _ _
              cases t
              · go_wp2
                go_quiet (fail)
                go_wp2
                exact ⟨⟨k + 1, _, hlk, by go_num, rfl, by show _ = _; rw [HT.out, ← ht.out]; rfl, hdr2.out.trans (.one _ _)⟩, by simp [intOf]; omega⟩
              · go_wp2
                go_quiet (fail)
                go_wp2
                exact ⟨⟨k + 1, true, hlk, by go_num, rfl, by show _ = _; rw [HT.out, ← ht.out]; rfl, hdr2.out.trans (.one _ _)⟩, by simp [intOf]; omega⟩
            · have e : es.take k = es := List.take_of_length_le (by omega)
              have Ht : Hid (t = touch es l[i].1) := by have := ht.out; rwa [e] at this
              have hkl := keep_len es (l.take i)
              have htl : (l.take i).length ≤ i := by rw [List.length_take]; omega
              have hb' := drew_below hdr2.out hb
              have hrow' := drew_row hdr2.out hrow
              have hw2 := hb'.size
              clear e ht
              cases t
              · have HK : Hid (keep es (l.take (i + 1)) = keep es (l.take i) ++ [l[i]]) := keep_hit hli Ht.out.symm
                have q1 : Hid ((keep es (l.take i)).length + 1 ≤ maxLen) := roomlen' (m := l.length + 100) (by omega) hn.out
                have q2 : Hid (((keep es (l.take i)).length + 1) * 32 ≤ 140737488355328) := room32' (m := l.length + 100) (by omega) hn.out
                have q3 : Hid (∀ o, wo.heap.size ≤ (wr.alloc o).heap.size) := fun o => room_base hw2 o
                clear hkl htl
                generalize keep es (l.take i) = bl at hrow' q1 q2 HK
                go_wp2_with (at_builtin; go_must (refine wpList_append_own _ rfl _ _ _ rfl wo.heap.size _ i0 _ 2 32 Try.underlying22 hi hz0 hz1 hz2 rfl (by decide) _ _ _ rfl (hrow'.alloc (.cells #[.string l[i].1, .string l[i].2] 47)) ⟨wr.heap.size, 0, none⟩ 1 1 [.string l[i].1, .string l[i].2] rfl rfl (cell_two_new wr _ _ _) (by simp [Value.oneCell']) q1.out q2.out (q3.out _) ?_); intro v' w3 hown' hg3 hnil3; go_frame)
                exact ⟨⟨i + 1, hli, by go_num, by rw [HK.out]; exact row_snoc rfl hown', (hb'.alloc hb'.size _).grown hg3 (q3.out _) (fun j hj => (hrow'.lt j hj).1)⟩, by simp [intOf]; omega⟩
              · have HK : Hid (keep es (l.take (i + 1)) = keep es (l.take i)) := keep_miss hli Ht.out.symm
                clear hkl htl
                go_wp2
                exact ⟨⟨i + 1, hli, by go_num, by rw [HK.out]; exact hrow', hb'⟩, by simp [intOf]; omega⟩
        · have e : l.take i = l := List.take_of_length_le (by omega)
          rw [e] at hrow
          have hkl := keep_len es l
          clear e hcl
          go_wp2
          go_loopw [7, 11] (fun ov kv wr' => ∃ k : Nat, k ≤ es.length ∧ kv = .int .i64 k ∧ wr'.ownsRow wo.heap.size 47 2 ov (keep es l ++ news (es.take k)).length ((keep es l ++ news (es.take k)).flatMap cF) ∧ Below wo.heap.size wo wr') (fun _ kv _ => es.length - (intOf kv).toNat)
          case atStart => exact ⟨0, Nat.zero_le _, rfl, by rw [show es.take 0 = [] from rfl, show news [] = [] from rfl, List.append_nil]; exact hrow, hb⟩
          case round =>
            clear hrow hb
            obtain ⟨k, hk, rfl, hrow, hb⟩ := hrel
            obtain ⟨f0, f1, f2, fb⟩ := edits_cells hb hbe e0 e1 e2
            have hw2 := hb.size
            by_cases hlk : k < es.length
            · have hnl := news_len (es.take k)
              have htl : (es.take k).length ≤ k := by rw [List.length_take]; omega
              have hbl : (keep es l ++ news (es.take k)).length ≤ l.length + 4 := by rw [List.length_append]; omega
              clear e0 e1 e2
              cases hem : es[k].2.2.toList.isEmpty
              · have HK : Hid (keep es l ++ news (es.take (k + 1)) = (keep es l ++ news (es.take k)) ++ [(es[k].1, es[k].2.2)]) := by show _ = _; rw [news_hit hlk hem, List.append_assoc]
                have q1 : Hid ((keep es l ++ news (es.take k)).length + 1 ≤ maxLen) := roomlen' (m := l.length + 100) (by omega) hn.out
                have q2 : Hid (((keep es l ++ news (es.take k)).length + 1) * 32 ≤ 140737488355328) := room32' (m := l.length + 100) (by omega) hn.out
                have q3 : Hid (wo.heap.size ≤ (wr.alloc (.cells #[.string es[k].1, .string es[k].2.2] 47)).heap.size) := room_base hw2 _
                have c0 := f0 k hlk
                have c2 := f2 k hlk
                clear hnl htl hbl hkl f1
                generalize keep es l ++ news (es.take k) = bl at hrow q1 q2 HK
                have hrow1 := hrow.alloc (.cells #[.string es[k].1, .string es[k].2.2] 47)
                go_wp2
                go_region_held_law (fun w' => w'.cell? ⟨be, oe + k * 3, none⟩ = some (.string es[k].1) ∧ w'.cell? ⟨be, oe + k * 3 + 2, none⟩ = some (.string es[k].2.2)) (go_keep) ((refine step_append_own rfl _ _ _ rfl wo.heap.size _ i0 _ 2 32 Try.underlying22 hi hz0 hz1 hz2 rfl (by decide) u7 _ _ rfl hrow1 ⟨wr.heap.size, 0, none⟩ 1 1 [.string es[k].1, .string es[k].2.2] rfl rfl (cell_two_new wr _ _ _) (by simp [Value.oneCell']) q1.out q2.out q3.out ?_; intro v' w3 hown' hg3; obtain ⟨m0, m2⟩ := cells_app hbe hrow hg3 c0 c2))
                go_wp2
                exact ⟨⟨k + 1, hlk, by go_num, by rw [HK.out]; exact row_snoc rfl (by assumption), below_app (nq := 1) hb hrow (by assumption)⟩, by simp [intOf]; omega⟩
              · have HK : Hid (keep es l ++ news (es.take (k + 1)) = keep es l ++ news (es.take k)) := by show _ = _; rw [news_miss hlk hem]
                clear hnl htl hbl hkl
                go_wp2
                exact ⟨⟨k + 1, hlk, by go_num, by rw [HK.out]; exact hrow, hb⟩, by simp [intOf]; omega⟩
            · have e : es.take k = es := List.take_of_length_le (by omega)
              rw [e] at hrow
              have hnl := news_len es
              have hbl : (keep es l ++ news es).length ≤ l.length + 4 := by rw [List.length_append]; omega
              obtain ⟨o1, o2, o3⟩ := out_inv hg.out.2 (fun f hf x => by have := ((okFl_iff f).1 (hg.out.1 f hf)).2.1; rw [x] at this; exact absurd this (by decide)) hge.out.2
              have hsz : ∀ f ∈ keep es l ++ news es, f.1.size ≤ maxLen := fun f hf => by
                rcases List.mem_append.1 hf with h | h
                · have := ((okFl_iff f).1 (hg.out.1 f (mem_keep.1 h).1)).1.2; unfold maxLen; omega
                · obtain ⟨x, hx, rfl, _⟩ := mem_news.1 h
                  have := ((okEd_iff x).1 (hge.out.1 x hx)).1.2; show x.1.size ≤ maxLen; unfold maxLen; omega
              have hT := told_any (keep es l ++ news es) u7 wr (FilesAt.of_row hrow) (room32' (m := l.length + 100) (by omega) hn.out) o1 hsz
              have HO : Hid (∀ ss, Rising ss → ss.Perm (keep es l ++ news es) → Told ss (edited (standsL l) es)) := fun ss h1 h2 => told_of_perm h1 h2 o2 o1 o3
              have hB : Below w.heap.size w wr := hB0.trans (hb.mono hB0.size)
              clear e hnl hbl o1 o2 o3 hsz hrow hkl e0 e1 e2 f0 f1 f2
              generalize keep es l ++ news es = ol at hT HO
              go_wp2_with fail
              refine hT.mono ?_
              rintro e w4 ⟨⟨ss, v4, rfl, hri, hpe, hro⟩, hb4⟩
              go_wp2
              go_ret2
              exact ⟨.inl ⟨Hall.out, ss, v4, rfl, HO.out ss hri hpe, FilesAt.of_row hro⟩, hB.trans (hb4.mono hB.size)⟩
end Go.Proofs.Ytgamgomepdfgdaa
