import Derived.Test.YtgamgomepdfgdaaSel
import Derived.Test.YtgamgomepdfgdaaMayE
import Derived.Test.YtgamgomepdfgdaaListF
namespace Go.Proofs.Ytgamgomepdfgdaa
open Go.RowKit

def lenOf : Value → Nat
  | .slice _ n _ => n
  | _ => 0

theorem lenOf_row {w : World} {base : Nat} {e : TypeId} {size : Nat} {v : Value} {n : Nat} {xs : List Value} (h : w.ownsRow base e size v n xs) : lenOf v = n := by
  rcases h.2 with ⟨rfl, rfl⟩ | ⟨g, cap, cur, rfl, _⟩ <;> rfl

theorem Drew.trans {a b c : World} (h : Drew a b) (h' : Drew b c) : Drew a c := by
  obtain ⟨n, rfl⟩ := h
  obtain ⟨m, rfl⟩ := h'
  exact .two _ _ _
theorem drew_files {w w' : World} (h : Drew w w') {b off : Nat} {l : List Fl} (h0 : ∀ i (h : i < l.length), w.cell? ⟨b, off + i * 2, none⟩ = some (.string l[i].1)) (h1 : ∀ i (h : i < l.length), w.cell? ⟨b, off + i * 2 + 1, none⟩ = some (.string l[i].2)) :
    (∀ i (h : i < l.length), w'.cell? ⟨b, off + i * 2, none⟩ = some (.string l[i].1)) ∧ (∀ i (h : i < l.length), w'.cell? ⟨b, off + i * 2 + 1, none⟩ = some (.string l[i].2)) ∧ w'.heap.size = w.heap.size := by
  obtain ⟨n, rfl⟩ := h; exact ⟨h0, h1, rfl⟩
theorem drew_row {w w' : World} (h : Drew w w') {base : Nat} {e : TypeId} {size : Nat} {v : Value} {n : Nat} {xs : List Value} (hr : w.ownsRow base e size v n xs) : w'.ownsRow base e size v n xs := by
  obtain ⟨n, rfl⟩ := h; exact hr
theorem drew_below {a w w' : World} {B : Nat} (h : Drew w w') (hb : Below B a w) : Below B a w' := by
  obtain ⟨n, rfl⟩ := h; exact hb.trans ⟨rfl, rfl, rfl, Nat.le_refl _, fun _ _ => rfl⟩

theorem nil_or_snoc (ss : List Fl) : ss = [] ∨ ∃ L last, ss = L ++ [last] := by
  rcases List.eq_nil_or_concat ss with h | ⟨L, b, h⟩
  · exact .inl h
  · exact .inr ⟨L, b, by rw [h, List.concat_eq_append]⟩
theorem order_val (a b : ByteArray) (w : World) (ha : a.size ≤ maxLen) {r : Bool} (hr : ltB a b = r) :
    Calls Try.prog 39 #[.string a, .string b] w fun e w' => e = .returned (.bool r) ∧ Drew w w' := by
  rw [← hr]; exact order_any a b w ha

theorem row_snoc {w : World} {base : Nat} {e : TypeId} {v : Value} {n : Nat} {ss : List Fl} {f : Fl} (hn : n = ss.length) (h : w.ownsRow base e 2 v (n + 1) (ss.flatMap cF ++ [.string f.1, .string f.2])) : w.ownsRow base e 2 v (ss ++ [f]).length ((ss ++ [f]).flatMap cF) := by
  subst hn
  have e1 : (ss ++ [f]).length = ss.length + 1 := by simp
  have e2 : (ss ++ [f]).flatMap cF = ss.flatMap cF ++ [.string f.1, .string f.2] := by simp [cF]
  rw [e1, e2]; exact h

theorem room_len {a n : Nat} (h : a + 1 < n) (hn : (n + 1) * 32 ≤ 140737488355328) : a + 1 + 1 ≤ maxLen := by unfold maxLen; omega
theorem room_bytes {a n : Nat} (h : a + 1 < n) (hn : (n + 1) * 32 ≤ 140737488355328) : (a + 1 + 1) * 32 ≤ 140737488355328 :=
  Nat.le_trans (Nat.mul_le_mul_right 32 (by omega)) hn
theorem room_base {w wr : World} (h : w.heap.size ≤ wr.heap.size) (o : Obj) : w.heap.size ≤ (wr.alloc o).heap.size := by simp; omega

theorem files_drew {w : World} {b off n : Nat} {l : List Fl}
    (h0 : ∀ i (h : i < l.length), w.cell? ⟨b, off + i * 2, none⟩ = some (.string l[i].1)) : ∀ i (h : i < l.length), (w.drewN n).cell? ⟨b, off + i * 2, none⟩ = some (.string l[i].1) := h0

set_option maxRecDepth 100000 in
set_option maxHeartbeats 4000000 in
theorem told_row (l : List Fl) (b off cap : Nat) (w : World) (hlt : b < w.heap.size) (hn : (l.length + 1) * 32 ≤ 140737488355328)
    (h0 : ∀ i (h : i < l.length), w.cell? ⟨b, off + i * 2, none⟩ = some (.string l[i].1)) (h1 : ∀ i (h : i < l.length), w.cell? ⟨b, off + i * 2 + 1, none⟩ = some (.string l[i].2)) (ha : Apart Prod.fst l) (hsz : ∀ f ∈ l, f.1.size ≤ maxLen) :
    Calls Try.prog 30 #[.slice (some ⟨b, off, none⟩) l.length cap] w fun e w' => (∃ (ss : List Fl) (v : Value), e = .returned v ∧ Rising ss ∧ ss.Perm l ∧ w'.ownsRow w.heap.size 47 2 v ss.length (ss.flatMap cF)) ∧ Below w.heap.size w w' := by
  obtain ⟨i0, hi, hz0, hz1, hz2⟩ := info_parts info47
  go_enter Try.func30, Try.ntmps30
  go_wp2
  go_loopw [3] (fun v wr => ∃ (ss : List Fl), wr.ownsRow w.heap.size 47 2 v ss.length (ss.flatMap cF) ∧ SelInv l ss ∧ Below w.heap.size w wr) (fun v _ => l.length - lenOf v)
  case atStart => exact ⟨[], World.ownsRow_nil _ _ _ _, sel_start l, Below.refl _ _⟩
  case round =>
    obtain ⟨ss, hrow, hsel, hb⟩ := hrel
    obtain ⟨wo, hwo⟩ : ∃ x, x = wr := ⟨wr, rfl⟩
    subst hwo
    obtain ⟨g0, g1, gb⟩ := files_cells hb hlt h0 h1
    have hle := sel_le hsel
    have hv : ∃ a c, u3 = .slice a ss.length c := by
      rcases hrow.2 with ⟨h, h'⟩ | ⟨g, cap, cur, h, _⟩
      · exact ⟨_, _, by rw [h, h']⟩
      · exact ⟨_, _, h⟩
    clear h0 h1
    by_cases hlk : ss.length < l.length
    · rcases nil_or_snoc ss with rfl | ⟨L, last, rfl⟩
      · have Hsel : Hid (SelInv l []) := hsel
        have hrow0 := hrow
        obtain ⟨a, c, rfl⟩ := hv
        clear hsel hrow hle
        simp only [List.length_nil] at hlk
        go_wp2
        go_loopw [4, 5] (fun bv i wr' => ∃ k : Nat, k ≤ l.length ∧ i = .int .i64 k ∧ Hid (Drew wo wr') ∧ Hid (Bst l ([]) k bv)) (fun _ i _ => l.length - (intOf i).toNat)
        case atStart => exact ⟨0, Nat.zero_le _, rfl, Drew.refl _, bst_start l _⟩
        case round =>
          obtain ⟨k, hk, rfl, hdr, hbst⟩ := hrel
          obtain ⟨f0, f1, fs⟩ := drew_files hdr.out g0 g1
          have gb' : b < wr.heap.size := by omega
          have Hfs : Hid (wr.heap.size = wo.heap.size) := fs
          clear g0 g1 fs
          by_cases hkl : k < l.length
          · rcases hbst.out with ⟨rfl, hno⟩ | ⟨bb, rfl, hbk, hbl, hB1, hB2⟩
            · have Hn : Hid (Bst l [] (k + 1) (.int .i64 k)) := bst_first hno hkl (beh_nil _)
              clear hno hbst
              go_wp2
              exact ⟨⟨k + 1, hkl, by go_num, hdr, Hn⟩, by simp [intOf]; omega⟩
            · have H1 : Hid (ltB l[k].1 l[bb].1 = true → Bst l [] (k + 1) (.int .i64 k)) := fun h => bst_less hbl hB2 hkl (beh_nil _) (of_decide_eq_true h)
              have H2 : Hid (ltB l[k].1 l[bb].1 = false → Bst l [] (k + 1) (.int .i64 bb)) := fun h => bst_keep hbk hbl hB1 hB2 hkl (of_decide_eq_false h)
              have hkm : l[k].1.size ≤ maxLen := hsz _ (List.getElem_mem hkl)
              clear hB1 hB2 hbst
              go_wp2
              go_quiet ((go_at_call 39; exact Calls.quiet_of (order_any _ _ _ hkm)))
              go_wp2
              · exact ⟨⟨k + 1, hkl, by go_num, hdr.out.trans (.one _ _), H1.out ‹_›⟩, by simp [intOf]; omega⟩
              · exact ⟨⟨k + 1, hkl, by go_num, hdr.out.trans (.one _ _), H2.out (by first | assumption | simpa using ‹¬ ltB l[k].1 l[bb].1 = true›)⟩, by simp [intOf]; omega⟩
          · obtain ⟨bb, rfl, hbl, hsel'⟩ := bst_end hbst.out hkl Hsel.out hlk ha
            have Hsel' : Hid (SelInv l ([] ++ [l[bb]])) := hsel'
            have hb' := drew_below hdr.out hb
            have hrow1 := drew_row hdr.out hrow0
            have hwb := hb'.size
            clear hsel' hbst
            go_wp2_with (at_builtin; go_must (refine wpList_append_own _ rfl _ _ _ rfl w.heap.size _ i0 _ 2 32 Try.underlying22 hi hz0 hz1 hz2 rfl (by decide) _ _ _ rfl (hrow1.alloc (.cells #[.string l[bb].1, .string l[bb].2] 47)) ⟨wr.heap.size, 0, none⟩ 1 1 [.string l[bb].1, .string l[bb].2] rfl rfl (cell_two_new wr _ _ _) (by simp [Value.oneCell']) (by first | (unfold maxLen; omega) | (simp [maxLen]; done) | (simp [maxLen]; omega)) (by first | omega | (simp; done) | (simp; omega)) (by first | omega | (simp; done) | (simp; omega)) ?_); intro v' w3 hown' hg3 hnil3; go_frame)
            have hl3 := lenOf_row hown'
            refine ⟨⟨[] ++ [l[bb]], row_snoc (by simp) hown', Hsel'.out, ?_⟩, ?_⟩
            · exact (hb'.alloc hb'.size _).grown hg3 (by simp; omega) (fun j hj => (hrow1.lt j hj).1)
            · rw [hl3]; show _ < l.length - 0; omega
      · have Hsel : Hid (SelInv l (L ++ [last])) := hsel
        have hrow0 := hrow
        have HLK : Hid ((L ++ [last]).length < l.length) := hlk
        have hlk1 : L.length + 1 < l.length := by simpa using hlk
        have HBE : Hid (∀ f, Beh (L ++ [last]) f ↔ last.1.data.toList < f.1.data.toList) := fun f => by
          have := beh_last hsel.1 (by simp) f
          simpa using this
        have hlm : last.1.size ≤ maxLen := by
          obtain ⟨_, rest, hp, _⟩ := hsel
          exact hsz _ (hp.mem_iff.2 (by simp))
        clear hv
        have hln : (L ++ [last]).length = L.length + 1 := by simp
        rcases FilesAt.of_row hrow with ⟨h, _⟩ | ⟨g, og, cg, hu3, hgl, r0, _⟩
        · simp at h
        rw [hln] at hu3 hrow0
        clear hrow
        subst hu3
        have rl : wo.cell? ⟨g, og + L.length * 2, none⟩ = some (.string last.1) := by
          have := r0 L.length (by simp)
          simpa using this
        clear hsel hle r0 hlk hln
        go_wp2
        go_loopw [4, 5] (fun bv i wr' => ∃ k : Nat, k ≤ l.length ∧ i = .int .i64 k ∧ Hid (Drew wo wr') ∧ Hid (Bst l (L ++ [last]) k bv)) (fun _ i _ => l.length - (intOf i).toNat)
        case atStart => exact ⟨0, Nat.zero_le _, rfl, Drew.refl _, bst_start l _⟩
        case round =>
          obtain ⟨k, hk, rfl, hdr, hbst⟩ := hrel
          obtain ⟨f0, f1, fs⟩ := drew_files hdr.out g0 g1
          have gb' : b < wr.heap.size := by omega
          have Hfs : Hid (wr.heap.size = wo.heap.size) := fs
          have rl' : wr.cell? ⟨g, og + L.length * 2, none⟩ = some (.string last.1) := by
            obtain ⟨n, h⟩ := hdr.out; rw [h]; exact rl
          clear g0 g1 fs rl
          by_cases hkl : k < l.length
          · have hkm : l[k].1.size ≤ maxLen := hsz _ (List.getElem_mem hkl)
            cases hbt : ltB last.1 l[k].1
            · have Hs := bst_skip hbst.out hkl (fun h => by have := (HBE.out _).1 h; exact absurd this (of_decide_eq_false hbt))
              have HS : Hid (Bst l (L ++ [last]) (k + 1) u4) := Hs
              clear Hs hbst
              go_wp2
              go_quiet ((go_at_call 39; exact Calls.quiet_of (order_val _ _ _ hlm hbt)))
              go_wp2
              exact ⟨⟨k + 1, hkl, by go_num, hdr.out.trans (.one _ _), HS⟩, by simp [intOf]; omega⟩
            · have hBk := (HBE.out l[k]).2 (of_decide_eq_true hbt)
              rcases hbst.out with ⟨rfl, hno⟩ | ⟨bb, rfl, hbk, hbl, hB1, hB2⟩
              · have Hn : Hid (Bst l (L ++ [last]) (k + 1) (.int .i64 k)) := bst_first hno hkl hBk
                clear hno hbst hBk
                go_wp2
                go_quiet ((go_at_call 39; exact Calls.quiet_of (order_val _ _ _ hlm hbt)))
                go_wp2
                exact ⟨⟨k + 1, hkl, by go_num, hdr.out.trans (.one _ _), Hn⟩, by simp [intOf]; omega⟩
              · have H1 : Hid (ltB l[k].1 l[bb].1 = true → Bst l (L ++ [last]) (k + 1) (.int .i64 k)) := fun h => bst_less hbl hB2 hkl hBk (of_decide_eq_true h)
                have H2 : Hid (ltB l[k].1 l[bb].1 = false → Bst l (L ++ [last]) (k + 1) (.int .i64 bb)) := fun h => bst_keep hbk hbl hB1 hB2 hkl (of_decide_eq_false h)
                clear hB1 hB2 hbst hBk
                go_wp2
                go_quiet ((go_at_call 39; exact Calls.quiet_of (order_val _ _ _ hlm hbt)))
                generalize hW : wr.drewN nq = wx
                have hdx : Hid (Drew wo wx) := by rw [← hW]; exact hdr.out.trans (.one _ _)
                obtain ⟨e0, e1, es⟩ := drew_files (w := wr) (w' := wx) (by rw [← hW]; exact .one _ _) f0 f1
                clear hW f0 f1 rl' hdr es
                go_wp2
                go_quiet ((go_at_call 39; exact Calls.quiet_of (order_any _ _ _ hkm)))
                go_wp2
                · exact ⟨⟨k + 1, hkl, by go_num, hdx.out.trans (.one _ _), H1.out ‹_›⟩, by simp [intOf]; omega⟩
                · exact ⟨⟨k + 1, hkl, by go_num, hdx.out.trans (.one _ _), H2.out (by first | assumption | simpa using ‹¬ ltB l[k].1 l[bb].1 = true›)⟩, by simp [intOf]; omega⟩
          · obtain ⟨bb, rfl, hbl, hsel'⟩ := bst_end hbst.out hkl Hsel.out HLK.out ha
            have Hsel' : Hid (SelInv l ((L ++ [last]) ++ [l[bb]])) := hsel'
            have hb' := drew_below hdr.out hb
            have hrow1 := drew_row hdr.out hrow0
            have hwb := hb'.size
            clear hsel' hbst
            have q1 : Hid (L.length + 1 + 1 ≤ maxLen) := room_len hlk1 hn
            have q2 : Hid ((L.length + 1 + 1) * 32 ≤ 140737488355328) := room_bytes hlk1 hn
            have q3 : Hid (w.heap.size ≤ (wr.alloc (.cells #[.string l[bb].1, .string l[bb].2] 47)).heap.size) := room_base hwb _
            go_wp2_with (at_builtin; go_must (refine wpList_append_own _ rfl _ _ _ rfl w.heap.size _ i0 _ 2 32 Try.underlying22 hi hz0 hz1 hz2 rfl (by decide) _ _ _ rfl (hrow1.alloc (.cells #[.string l[bb].1, .string l[bb].2] 47)) ⟨wr.heap.size, 0, none⟩ 1 1 [.string l[bb].1, .string l[bb].2] rfl rfl (cell_two_new wr _ _ _) (by simp [Value.oneCell']) q1.out q2.out q3.out ?_); intro v' w3 hown' hg3 hnil3; go_frame)
            have hl3 := lenOf_row hown'
            refine ⟨⟨(L ++ [last]) ++ [l[bb]], row_snoc (by simp) hown', Hsel'.out, ?_⟩, ?_⟩
            · exact (hb'.alloc hb'.size _).grown hg3 (by simp; omega) (fun j hj => (hrow1.lt j hj).1)
            · rw [hl3]; show _ < l.length - (L.length + 1); omega
    · obtain ⟨a, c, rfl⟩ := hv
      have Hp : Hid (ss.Perm l) := sel_end hsel hlk
      have hr := hsel.1
      go_wp2
      go_ret
      exact ⟨⟨ss, _, rfl, hr, Hp.out, hrow⟩, hb⟩
end Go.Proofs.Ytgamgomepdfgdaa
