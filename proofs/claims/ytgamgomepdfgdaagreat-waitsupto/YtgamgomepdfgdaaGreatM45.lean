import Derived.Test.YtgamgomepdfgdaaGreatM01
import Derived.Test.YtgamgomepdfgdaaGreatM13
import Derived.Test.YtgamgomepdfgdaaGreatM23
import Derived.Test.YtgamgomepdfgdaaGreatM26
import Derived.Test.YtgamgomepdfgdaaGreatM12
import Derived.Test.YtgamgomepdfgdaaGreatM28
namespace Go.Proofs.YtgamgomepdfgdaaGreat
open Go.RowKit

/-- behind all that was told so far -/
def Beh (ss : List Fl) (f : Fl) : Prop := ∀ x ∈ ss, x.1.data.toList < f.1.data.toList

theorem beh_nil (f : Fl) : Beh [] f := fun x hx => by simp at hx

theorem beh_last {ss : List Fl} (hr : Rising ss) (h : ss.length - 1 < ss.length) (f : Fl) : Beh ss f ↔ (ss[ss.length - 1]).1.data.toList < f.1.data.toList := by
  constructor
  · intro hb; exact hb _ (List.getElem_mem h)
  · intro hl x hx
    obtain ⟨i, hi, rfl⟩ := List.mem_iff_getElem.1 hx
    by_cases e : i = ss.length - 1
    · subst e; exact hl
    · exact List.lt_trans (List.pairwise_iff_getElem.1 hr i (ss.length - 1) hi h (by omega)) hl

def SelInv (l ss : List Fl) : Prop := Rising ss ∧ ∃ rest, l.Perm (ss ++ rest) ∧ ∀ f ∈ rest, Beh ss f

theorem sel_start (l : List Fl) : SelInv l [] := ⟨List.Pairwise.nil, l, .refl _, fun f _ => beh_nil f⟩

theorem sel_more {l ss : List Fl} (h : SelInv l ss) (hl : ss.length < l.length) : ∃ f ∈ l, Beh ss f := by
  obtain ⟨_, rest, hp, hb⟩ := h
  have := hp.length_eq
  rw [List.length_append] at this
  cases rest with
  | nil => simp at this; omega
  | cons f r => exact ⟨f, hp.mem_iff.2 (by simp), hb f (by simp)⟩

theorem sel_end {l ss : List Fl} (h : SelInv l ss) (hl : ¬ ss.length < l.length) : ss.Perm l := by
  obtain ⟨_, rest, hp, _⟩ := h
  have := hp.length_eq
  rw [List.length_append] at this
  have e : rest = [] := List.length_eq_zero_iff.1 (by omega)
  subst e
  rw [List.append_nil] at hp
  exact hp.symm

theorem sel_le {l ss : List Fl} (h : SelInv l ss) : ss.length ≤ l.length := by
  obtain ⟨_, rest, hp, _⟩ := h
  have := hp.length_eq
  rw [List.length_append] at this
  omega

theorem lt_of_ne {a b : Fl} (h : a.1 ≠ b.1) (hn : ¬ a.1.data.toList < b.1.data.toList) : b.1.data.toList < a.1.data.toList := by
  rcases Classical.em (b.1.data.toList < a.1.data.toList) with h' | h'
  · exact h'
  · exact absurd (eq_of_data (List.le_antisymm (List.not_lt.1 h') (List.not_lt.1 hn))) h

theorem sel_step {l ss : List Fl} (h : SelInv l ss) (ha : Apart Prod.fst l) {a : Fl} (hal : a ∈ l) (hb : Beh ss a) (hmin : ∀ f ∈ l, Beh ss f → ¬ f.1.data.toList < a.1.data.toList) : SelInv l (ss ++ [a]) := by
  obtain ⟨hr, rest, hp, hbr⟩ := h
  have har : a ∈ rest := by
    rcases List.mem_append.1 (hp.mem_iff.1 hal) with h | h
    · exact absurd (hb a h) (List.lt_irrefl _)
    · exact h
  obtain ⟨s, t, rfl⟩ := List.append_of_mem har
  have ha' : Apart Prod.fst (ss ++ (s ++ a :: t)) := hp.pairwise ha (fun {x y} hxy => hxy.symm)
  have hst : ∀ f ∈ s ++ t, f.1 ≠ a.1 := by
    have h2 := (List.pairwise_append.1 ha').2.1
    have h3 := List.pairwise_append.1 h2
    intro f hf
    rcases List.mem_append.1 hf with h | h
    · exact h3.2.2 f h a (by simp)
    · exact ((List.pairwise_cons.1 h3.2.1).1 f h).symm
  refine ⟨List.pairwise_append.2 ⟨hr, List.pairwise_singleton _ _, fun x hx y hy => by rw [List.mem_singleton.1 hy]; exact hb x hx⟩, s ++ t, ?_, ?_⟩
  · refine hp.trans ?_
    rw [List.append_assoc]
    exact List.Perm.append_left ss List.perm_middle
  · intro f hf x hx
    have hf' : f ∈ s ++ a :: t := by
      rcases List.mem_append.1 hf with h | h
      · exact List.mem_append_left _ h
      · exact List.mem_append_right _ (List.mem_cons_of_mem _ h)
    rcases List.mem_append.1 hx with h | h
    · exact hbr f hf' x h
    · rw [List.mem_singleton.1 h]
      exact lt_of_ne (hst f hf) (hmin f (hp.mem_iff.2 (List.mem_append_right _ hf')) (hbr f hf'))

/-- the best one of the first k -/
def Bst (l ss : List Fl) (k : Nat) (v : Value) : Prop :=
  (v = .int .i64 (-1) ∧ ∀ j (_ : j < k) (h' : j < l.length), ¬ Beh ss l[j]) ∨
  ∃ b : Nat, v = .int .i64 b ∧ b < k ∧ ∃ hb : b < l.length, Beh ss l[b] ∧ ∀ j (_ : j < k) (h' : j < l.length), Beh ss l[j] → ¬ l[j].1.data.toList < l[b].1.data.toList

theorem bst_start (l ss : List Fl) : Bst l ss 0 (.int .i64 (-1)) := .inl ⟨rfl, fun j h => by omega⟩

theorem bst_skip {l ss : List Fl} {k : Nat} {v : Value} (h : Bst l ss k v) (hk : k < l.length) (hn : ¬ Beh ss l[k]) : Bst l ss (k + 1) v := by
  rcases h with ⟨e, h⟩ | ⟨b, e, hbk, hb, h1, h2⟩
  · exact .inl ⟨e, fun j hj hj' => by
      by_cases x : j = k
      · subst x; exact hn
      · exact h j (by omega) hj'⟩
  · exact .inr ⟨b, e, by omega, hb, h1, fun j hj hj' hB => by
      by_cases x : j = k
      · subst x; exact absurd hB hn
      · exact h2 j (by omega) hj' hB⟩

theorem bst_first {l ss : List Fl} {k : Nat} (h : ∀ j (_ : j < k) (h' : j < l.length), ¬ Beh ss l[j]) (hk : k < l.length) (hb : Beh ss l[k]) : Bst l ss (k + 1) (.int .i64 k) :=
  .inr ⟨k, rfl, by omega, hk, hb, fun j hj hj' hB => by
    by_cases x : j = k
    · subst x; exact List.lt_irrefl _
    · exact absurd hB (h j (by omega) hj')⟩

theorem bst_less {l ss : List Fl} {k b : Nat} (hb : b < l.length) (h : ∀ j (_ : j < k) (h' : j < l.length), Beh ss l[j] → ¬ l[j].1.data.toList < l[b].1.data.toList) (hk : k < l.length) (hB : Beh ss l[k]) (hlt : l[k].1.data.toList < l[b].1.data.toList) : Bst l ss (k + 1) (.int .i64 k) :=
  .inr ⟨k, rfl, by omega, hk, hB, fun j hj hj' hBj => by
    by_cases x : j = k
    · subst x; exact List.lt_irrefl _
    · exact fun hl => h j (by omega) hj' hBj (List.lt_trans hl hlt)⟩

theorem bst_keep {l ss : List Fl} {k b : Nat} (hbk : b < k) (hb : b < l.length) (h1 : Beh ss l[b]) (h : ∀ j (_ : j < k) (h' : j < l.length), Beh ss l[j] → ¬ l[j].1.data.toList < l[b].1.data.toList) (hk : k < l.length) (hlt : ¬ l[k].1.data.toList < l[b].1.data.toList) : Bst l ss (k + 1) (.int .i64 b) :=
  .inr ⟨b, rfl, by omega, hb, h1, fun j hj hj' hBj => by
    by_cases x : j = k
    · subst x; exact hlt
    · exact h j (by omega) hj' hBj⟩

/-- behind the last round there is a best one, and with it the rule goes on -/
theorem bst_end {l ss : List Fl} {k : Nat} {v : Value} (h : Bst l ss k v) (hk : ¬ k < l.length) (hs : SelInv l ss) (hlt : ss.length < l.length) (ha : Apart Prod.fst l) :
    ∃ b : Nat, v = .int .i64 b ∧ ∃ hb : b < l.length, SelInv l (ss ++ [l[b]]) := by
  rcases h with ⟨_, h⟩ | ⟨b, e, hbk, hb, h1, h2⟩
  · obtain ⟨f, hf, hB⟩ := sel_more hs hlt
    obtain ⟨j, hj, rfl⟩ := List.mem_iff_getElem.1 hf
    exact absurd hB (h j (by omega) hj)
  · refine ⟨b, e, hb, sel_step hs ha (List.getElem_mem hb) h1 fun f hf hB => ?_⟩
    obtain ⟨j, hj, rfl⟩ := List.mem_iff_getElem.1 hf
    exact h2 j (by omega) hj hB
end Go.Proofs.YtgamgomepdfgdaaGreat

namespace Go.Proofs.YtgamgomepdfgdaaGreat
open Go.RowKit

def lenOf : Value → Nat
  | .slice _ n _ => n
  | _ => 0

theorem lenOf_row {w : World} {base : Nat} {e : TypeId} {size : Nat} {v : Value} {n : Nat} {xs : List Value} (h : w.ownsRow base e size v n xs) : lenOf v = n := by
  rcases h.2 with ⟨rfl, rfl⟩ | ⟨g, cap, cur, rfl, _⟩ <;> rfl

theorem Drew.trans {a b c : World} (h : Drew a b) (h' : Drew b c) : Drew a c := by
  obtain ⟨n, rfl⟩ := h
  obtain ⟨m, rfl⟩ := h'
  exact .two _ _ _
theorem drew_files {w w' : World} (h : Drew w w') {b off : Nat} {l : List Fl} (h0 : ∀ i (h : i < l.length), w.cell? ⟨b, off + i * 2, none⟩ = some (.string l[i].1)) (h1 : ∀ i (h : i < l.length), w.cell? ⟨b, off + i * 2 + 1, none⟩ = some (.string l[i].2)) :
    (∀ i (h : i < l.length), w'.cell? ⟨b, off + i * 2, none⟩ = some (.string l[i].1)) ∧ (∀ i (h : i < l.length), w'.cell? ⟨b, off + i * 2 + 1, none⟩ = some (.string l[i].2)) ∧ w'.heap.size = w.heap.size := by
  obtain ⟨n, rfl⟩ := h; exact ⟨h0, h1, rfl⟩
theorem drew_row {w w' : World} (h : Drew w w') {base : Nat} {e : TypeId} {size : Nat} {v : Value} {n : Nat} {xs : List Value} (hr : w.ownsRow base e size v n xs) : w'.ownsRow base e size v n xs := by
  obtain ⟨n, rfl⟩ := h; exact hr
theorem drew_below {a w w' : World} {B : Nat} (h : Drew w w') (hb : Below B a w) : Below B a w' := by
  obtain ⟨n, rfl⟩ := h; exact hb.trans ⟨rfl, rfl, rfl, Nat.le_refl _, fun _ _ => rfl⟩

theorem nil_or_snoc (ss : List Fl) : ss = [] ∨ ∃ L last, ss = L ++ [last] := by
  rcases List.eq_nil_or_concat ss with h | ⟨L, b, h⟩
  · exact .inl h
  · exact .inr ⟨L, b, by rw [h, List.concat_eq_append]⟩
theorem order_val (a b : ByteArray) (w : World) (ha : a.size ≤ maxLen) {r : Bool} (hr : ltB a b = r) :
    Calls Tryz.prog 125 #[.string a, .string b] w fun e w' => e = .returned (.bool r) ∧ Drew w w' := by
  rw [← hr]; exact order_any a b w ha

theorem row_snoc {w : World} {base : Nat} {e : TypeId} {v : Value} {n : Nat} {ss : List Fl} {f : Fl} (hn : n = ss.length) (h : w.ownsRow base e 2 v (n + 1) (ss.flatMap cF ++ [.string f.1, .string f.2])) : w.ownsRow base e 2 v (ss ++ [f]).length ((ss ++ [f]).flatMap cF) := by
  subst hn
  have e1 : (ss ++ [f]).length = ss.length + 1 := by simp
  have e2 : (ss ++ [f]).flatMap cF = ss.flatMap cF ++ [.string f.1, .string f.2] := by simp [cF]
  rw [e1, e2]; exact h

theorem room_len {a n : Nat} (h : a + 1 < n) (hn : (n + 1) * 32 ≤ 140737488355328) : a + 1 + 1 ≤ maxLen := by unfold maxLen; omega
theorem room_bytes {a n : Nat} (h : a + 1 < n) (hn : (n + 1) * 32 ≤ 140737488355328) : (a + 1 + 1) * 32 ≤ 140737488355328 :=
  Nat.le_trans (Nat.mul_le_mul_right 32 (by omega)) hn
theorem room_base {w wr : World} (h : w.heap.size ≤ wr.heap.size) (o : Obj) : w.heap.size ≤ (wr.alloc o).heap.size := by simp; omega

theorem files_drew {w : World} {b off n : Nat} {l : List Fl}
    (h0 : ∀ i (h : i < l.length), w.cell? ⟨b, off + i * 2, none⟩ = some (.string l[i].1)) : ∀ i (h : i < l.length), (w.drewN n).cell? ⟨b, off + i * 2, none⟩ = some (.string l[i].1) := h0

set_option maxRecDepth 100000 in
set_option maxHeartbeats 4000000 in
theorem told_row (l : List Fl) (b off cap : Nat) (w : World) (hlt : b < w.heap.size) (hn : (l.length + 1) * 32 ≤ 140737488355328)
    (h0 : ∀ i (h : i < l.length), w.cell? ⟨b, off + i * 2, none⟩ = some (.string l[i].1)) (h1 : ∀ i (h : i < l.length), w.cell? ⟨b, off + i * 2 + 1, none⟩ = some (.string l[i].2)) (ha : Apart Prod.fst l) (hsz : ∀ f ∈ l, f.1.size ≤ maxLen) :
    Calls Tryz.prog 83 #[.slice (some ⟨b, off, none⟩) l.length cap] w fun e w' => (∃ (ss : List Fl) (v : Value), e = .returned v ∧ Rising ss ∧ ss.Perm l ∧ w'.ownsRow w.heap.size 80 2 v ss.length (ss.flatMap cF)) ∧ Below w.heap.size w w' := by
  obtain ⟨i0, hi, hz0, hz1, hz2⟩ := info_parts info47
  go_enter Tryz.func83, Tryz.ntmps83
  go_wp2
  go_loopw [3] (fun v wr => ∃ (ss : List Fl), wr.ownsRow w.heap.size 80 2 v ss.length (ss.flatMap cF) ∧ SelInv l ss ∧ Below w.heap.size w wr) (fun v _ => l.length - lenOf v)
  case atStart => exact ⟨[], World.ownsRow_nil _ _ _ _, sel_start l, Below.refl _ _⟩
  case round =>
    obtain ⟨ss, hrow, hsel, hb⟩ := hrel
    obtain ⟨wo, hwo⟩ : ∃ x, x = wr := ⟨wr, rfl⟩
    subst hwo
    obtain ⟨g0, g1, gb⟩ := files_cells hb hlt h0 h1
    have hle := sel_le hsel
    have hv : ∃ a c, u3 = .slice a ss.length c := by
      rcases hrow.2 with ⟨h, h'⟩ | ⟨g, cap, cur, h, _⟩
      · exact ⟨_, _, by rw [h, h']⟩
      · exact ⟨_, _, h⟩
    clear h0 h1
    by_cases hlk : ss.length < l.length
    · rcases nil_or_snoc ss with rfl | ⟨L, last, rfl⟩
      · have Hsel : Hid (SelInv l []) := hsel
        have hrow0 := hrow
        obtain ⟨a, c, rfl⟩ := hv
        clear hsel hrow hle
        simp only [List.length_nil] at hlk
        go_wp2
        go_loopw [4, 5] (fun bv i wr' => ∃ k : Nat, k ≤ l.length ∧ i = .int .i64 k ∧ Hid (Drew wo wr') ∧ Hid (Bst l ([]) k bv)) (fun _ i _ => l.length - (intOf i).toNat)
        case atStart => exact ⟨0, Nat.zero_le _, rfl, Drew.refl _, bst_start l _⟩
        case round =>
          obtain ⟨k, hk, rfl, hdr, hbst⟩ := hrel
          obtain ⟨f0, f1, fs⟩ := drew_files hdr.out g0 g1
          have gb' : b < wr.heap.size := by omega
          have Hfs : Hid (wr.heap.size = wo.heap.size) := fs
          clear g0 g1 fs
          by_cases hkl : k < l.length
          · rcases hbst.out with ⟨rfl, hno⟩ | ⟨bb, rfl, hbk, hbl, hB1, hB2⟩
            · have Hn : Hid (Bst l [] (k + 1) (.int .i64 k)) := bst_first hno hkl (beh_nil _)
              clear hno hbst
              go_wp2
              exact ⟨⟨k + 1, hkl, by go_num, hdr, Hn⟩, by simp [intOf]; omega⟩
            · have H1 : Hid (ltB l[k].1 l[bb].1 = true → Bst l [] (k + 1) (.int .i64 k)) := fun h => bst_less hbl hB2 hkl (beh_nil _) (of_decide_eq_true h)
              have H2 : Hid (ltB l[k].1 l[bb].1 = false → Bst l [] (k + 1) (.int .i64 bb)) := fun h => bst_keep hbk hbl hB1 hB2 hkl (of_decide_eq_false h)
              have hkm : l[k].1.size ≤ maxLen := hsz _ (List.getElem_mem hkl)
              clear hB1 hB2 hbst
              go_wp2
              go_quiet ((go_at_call 125; exact Calls.quiet_of (order_any _ _ _ hkm)))
              go_wp2
              · exact ⟨⟨k + 1, hkl, by go_num, hdr.out.trans (.one _ _), H1.out ‹_›⟩, by simp [intOf]; omega⟩
              · exact ⟨⟨k + 1, hkl, by go_num, hdr.out.trans (.one _ _), H2.out (by first | assumption | simpa using ‹¬ ltB l[k].1 l[bb].1 = true›)⟩, by simp [intOf]; omega⟩
          · obtain ⟨bb, rfl, hbl, hsel'⟩ := bst_end hbst.out hkl Hsel.out hlk ha
            have Hsel' : Hid (SelInv l ([] ++ [l[bb]])) := hsel'
            have hb' := drew_below hdr.out hb
            have hrow1 := drew_row hdr.out hrow0
            have hwb := hb'.size
            clear hsel' hbst
            go_wp2_with (at_builtin; go_must (refine wpList_append_own _ rfl _ _ _ rfl w.heap.size _ i0 _ 2 32 Tryz.underlying24 hi hz0 hz1 hz2 rfl (by decide) _ _ _ rfl (hrow1.alloc (.cells #[.string l[bb].1, .string l[bb].2] 80)) ⟨wr.heap.size, 0, none⟩ 1 1 [.string l[bb].1, .string l[bb].2] rfl rfl (cell_two_new wr _ _ _) (by simp [Value.oneCell']) (by first | (unfold maxLen; omega) | (simp [maxLen]; done) | (simp [maxLen]; omega)) (by first | omega | (simp; done) | (simp; omega)) (by first | omega | (simp; done) | (simp; omega)) ?_); intro v' w3 hown' hg3 hnil3; go_frame)
            have hl3 := lenOf_row hown'
            refine ⟨⟨[] ++ [l[bb]], row_snoc (by simp) hown', Hsel'.out, ?_⟩, ?_⟩
            · exact (hb'.alloc hb'.size _).grown hg3 (by simp; omega) (fun j hj => (hrow1.lt j hj).1)
            · rw [hl3]; show _ < l.length - 0; omega
      · have Hsel : Hid (SelInv l (L ++ [last])) := hsel
        have hrow0 := hrow
        have HLK : Hid ((L ++ [last]).length < l.length) := hlk
        have hlk1 : L.length + 1 < l.length := by simpa using hlk
        have HBE : Hid (∀ f, Beh (L ++ [last]) f ↔ last.1.data.toList < f.1.data.toList) := fun f => by
          have := beh_last hsel.1 (by simp) f
          simpa using this
        have hlm : last.1.size ≤ maxLen := by
          obtain ⟨_, rest, hp, _⟩ := hsel
          exact hsz _ (hp.mem_iff.2 (by simp))
        clear hv
        have hln : (L ++ [last]).length = L.length + 1 := by simp
        rcases FilesAt.of_row hrow with ⟨h, _⟩ | ⟨g, og, cg, hu3, hgl, r0, _⟩
        · simp at h
        rw [hln] at hu3 hrow0
        clear hrow
        subst hu3
        have rl : wo.cell? ⟨g, og + L.length * 2, none⟩ = some (.string last.1) := by
          have := r0 L.length (by simp)
          simpa using this
        clear hsel hle r0 hlk hln
        go_wp2
        go_loopw [4, 5] (fun bv i wr' => ∃ k : Nat, k ≤ l.length ∧ i = .int .i64 k ∧ Hid (Drew wo wr') ∧ Hid (Bst l (L ++ [last]) k bv)) (fun _ i _ => l.length - (intOf i).toNat)
        case atStart => exact ⟨0, Nat.zero_le _, rfl, Drew.refl _, bst_start l _⟩
        case round =>
          obtain ⟨k, hk, rfl, hdr, hbst⟩ := hrel
          obtain ⟨f0, f1, fs⟩ := drew_files hdr.out g0 g1
          have gb' : b < wr.heap.size := by omega
          have Hfs : Hid (wr.heap.size = wo.heap.size) := fs
          have rl' : wr.cell? ⟨g, og + L.length * 2, none⟩ = some (.string last.1) := by
            obtain ⟨n, h⟩ := hdr.out; rw [h]; exact rl
          clear g0 g1 fs rl
          by_cases hkl : k < l.length
          · have hkm : l[k].1.size ≤ maxLen := hsz _ (List.getElem_mem hkl)
            cases hbt : ltB last.1 l[k].1
            · have Hs := bst_skip hbst.out hkl (fun h => by have := (HBE.out _).1 h; exact absurd this (of_decide_eq_false hbt))
              have HS : Hid (Bst l (L ++ [last]) (k + 1) u4) := Hs
              clear Hs hbst
              go_wp2
              go_quiet ((go_at_call 125; exact Calls.quiet_of (order_val _ _ _ hlm hbt)))
              go_wp2
              exact ⟨⟨k + 1, hkl, by go_num, hdr.out.trans (.one _ _), HS⟩, by simp [intOf]; omega⟩
            · have hBk := (HBE.out l[k]).2 (of_decide_eq_true hbt)
              rcases hbst.out with ⟨rfl, hno⟩ | ⟨bb, rfl, hbk, hbl, hB1, hB2⟩
              · have Hn : Hid (Bst l (L ++ [last]) (k + 1) (.int .i64 k)) := bst_first hno hkl hBk
                clear hno hbst hBk
                go_wp2
                go_quiet ((go_at_call 125; exact Calls.quiet_of (order_val _ _ _ hlm hbt)))
                go_wp2
                exact ⟨⟨k + 1, hkl, by go_num, hdr.out.trans (.one _ _), Hn⟩, by simp [intOf]; omega⟩
              · have H1 : Hid (ltB l[k].1 l[bb].1 = true → Bst l (L ++ [last]) (k + 1) (.int .i64 k)) := fun h => bst_less hbl hB2 hkl hBk (of_decide_eq_true h)
                have H2 : Hid (ltB l[k].1 l[bb].1 = false → Bst l (L ++ [last]) (k + 1) (.int .i64 bb)) := fun h => bst_keep hbk hbl hB1 hB2 hkl (of_decide_eq_false h)
                clear hB1 hB2 hbst hBk
                go_wp2
                go_quiet ((go_at_call 125; exact Calls.quiet_of (order_val _ _ _ hlm hbt)))
                generalize hW : wr.drewN nq = wx
                have hdx : Hid (Drew wo wx) := by rw [← hW]; exact hdr.out.trans (.one _ _)
                obtain ⟨e0, e1, es⟩ := drew_files (w := wr) (w' := wx) (by rw [← hW]; exact .one _ _) f0 f1
                clear hW f0 f1 rl' hdr es
                go_wp2
                go_quiet ((go_at_call 125; exact Calls.quiet_of (order_any _ _ _ hkm)))
                go_wp2
                · exact ⟨⟨k + 1, hkl, by go_num, hdx.out.trans (.one _ _), H1.out ‹_›⟩, by simp [intOf]; omega⟩
                · exact ⟨⟨k + 1, hkl, by go_num, hdx.out.trans (.one _ _), H2.out (by first | assumption | simpa using ‹¬ ltB l[k].1 l[bb].1 = true›)⟩, by simp [intOf]; omega⟩
          · obtain ⟨bb, rfl, hbl, hsel'⟩ := bst_end hbst.out hkl Hsel.out HLK.out ha
            have Hsel' : Hid (SelInv l ((L ++ [last]) ++ [l[bb]])) := hsel'
            have hb' := drew_below hdr.out hb
            have hrow1 := drew_row hdr.out hrow0
            have hwb := hb'.size
            clear hsel' hbst
            have q1 : Hid (L.length + 1 + 1 ≤ maxLen) := room_len hlk1 hn
            have q2 : Hid ((L.length + 1 + 1) * 32 ≤ 140737488355328) := room_bytes hlk1 hn
            have q3 : Hid (w.heap.size ≤ (wr.alloc (.cells #[.string l[bb].1, .string l[bb].2] 80)).heap.size) := room_base hwb _
            go_wp2_with (at_builtin; go_must (refine wpList_append_own _ rfl _ _ _ rfl w.heap.size _ i0 _ 2 32 Tryz.underlying24 hi hz0 hz1 hz2 rfl (by decide) _ _ _ rfl (hrow1.alloc (.cells #[.string l[bb].1, .string l[bb].2] 80)) ⟨wr.heap.size, 0, none⟩ 1 1 [.string l[bb].1, .string l[bb].2] rfl rfl (cell_two_new wr _ _ _) (by simp [Value.oneCell']) q1.out q2.out q3.out ?_); intro v' w3 hown' hg3 hnil3; go_frame)
            have hl3 := lenOf_row hown'
            refine ⟨⟨(L ++ [last]) ++ [l[bb]], row_snoc (by simp) hown', Hsel'.out, ?_⟩, ?_⟩
            · exact (hb'.alloc hb'.size _).grown hg3 (by simp; omega) (fun j hj => (hrow1.lt j hj).1)
            · rw [hl3]; show _ < l.length - (L.length + 1); omega
    · obtain ⟨a, c, rfl⟩ := hv
      have Hp : Hid (ss.Perm l) := sel_end hsel hlk
      have hr := hsel.1
      go_wp2
      go_ret
      exact ⟨⟨ss, _, rfl, hr, Hp.out, hrow⟩, hb⟩
end Go.Proofs.YtgamgomepdfgdaaGreat

namespace Go.Proofs.YtgamgomepdfgdaaGreat
open Go.RowKit

set_option maxRecDepth 100000 in
set_option maxHeartbeats 1000000 in
theorem in_val (n a b : Int) (r : Bool) (hr : r = true ↔ (a ≤ n ∧ n ≤ b)) (w : World) :
    Calls Tryz.prog 81 #[.int .i64 n, .int .i64 a, .int .i64 b] w fun e w' => e = .returned (.bool r) ∧ w' = w := by
  have Hr : Hid (r = true ↔ (a ≤ n ∧ n ≤ b)) := hr
  clear hr
  by_cases h1 : a ≤ n
  · by_cases h2 : n ≤ b
    · have e : Hid (r = true) := Hr.out.2 ⟨h1, h2⟩
      go_enter Tryz.func81, Tryz.ntmps81
      go_wp2
      go_ret
      exact ⟨by rw [e.out]; rfl, rfl⟩
    · have e : Hid (r = false) := by
        show r = false
        cases r
        · rfl
        · exact absurd (Hr.out.1 rfl).2 h2
      go_enter Tryz.func81, Tryz.ntmps81
      go_wp2
      go_ret
      exact ⟨by rw [e.out]; rfl, rfl⟩
  · have e : Hid (r = false) := by
      show r = false
      cases r
      · rfl
      · exact absurd (Hr.out.1 rfl).1 h1
    go_enter Tryz.func81, Tryz.ntmps81
    go_wp2
    go_ret
    exact ⟨by rw [e.out]; rfl, rfl⟩

theorem dec_val (p : Prop) : ∃ r : Bool, r = true ↔ p := by
  by_cases h : p
  · exact ⟨true, fun _ => h, fun _ => rfl⟩
  · exact ⟨false, fun x => (Bool.noConfusion x), fun x => absurd x h⟩
/-- the document's settings -/
def boxC (n0 n1 n2 n3 n4 n5 n6 : Int) : Obj := .cells #[.int .i64 n0, .int .i64 n1, .int .i64 n2, .int .i64 n3, .int .i64 n4, .int .i64 n5, .int .i64 n6] 23

set_option maxRecDepth 100000 in
set_option maxHeartbeats 4000000 in
theorem rNew_config (n0 n1 n2 n3 n4 n5 n6 : Int) (fa : Option Addr) (fn fc : Nat) (w : World) (hno : ¬ CfgOk n0 n1 n2 n3 n4 n5 n6) :
    Calls Tryz.prog 35 #[.agg #[.int .i64 n0, .int .i64 n1, .int .i64 n2, .int .i64 n3, .int .i64 n4, .int .i64 n5, .int .i64 n6], .slice fa fn fc] w fun e w' => e = .returned (.tuple #[.pointer none, .int .i64 1]) ∧ Below w.heap.size w w' := by
  obtain ⟨r0, g0⟩ := dec_val (1 ≤ n0 ∧ n0 ≤ 4)
  have c0 := in_val n0 1 4 r0 g0
  obtain ⟨r1, g1⟩ := dec_val (1 ≤ n1 ∧ n1 ≤ 8)
  have c1 := in_val n1 1 8 r1 g1
  obtain ⟨r2, g2⟩ := dec_val (1 ≤ n2 ∧ n2 ≤ 8)
  have c2 := in_val n2 1 8 r2 g2
  obtain ⟨r3, g3⟩ := dec_val (1 ≤ n3 ∧ n3 ≤ 4)
  have c3 := in_val n3 1 4 r3 g3
  obtain ⟨r4, g4⟩ := dec_val (0 ≤ n4 ∧ n4 ≤ 3)
  have c4 := in_val n4 0 3 r4 g4
  obtain ⟨r5, g5⟩ := dec_val (1 ≤ n5 ∧ n5 ≤ 100)
  have c5 := in_val n5 1 100 r5 g5
  obtain ⟨r6, g6⟩ := dec_val (1 ≤ n6 ∧ n6 ≤ 16)
  have c6 := in_val n6 1 16 r6 g6
  have HN : Hid (¬ (r0 = true ∧ r1 = true ∧ r2 = true ∧ r3 = true ∧ r4 = true ∧ r5 = true ∧ r6 = true)) := fun h => hno ⟨g0.1 h.1, g1.1 h.2.1, g2.1 h.2.2.1, g3.1 h.2.2.2.1, g4.1 h.2.2.2.2.1, g5.1 h.2.2.2.2.2.1, g6.1 h.2.2.2.2.2.2⟩
  clear hno g0 g1 g2 g3 g4 g5 g6
  have ha : r0 = false ∨ (r0 = true ∧ r1 = false) ∨ (r0 = true ∧ r1 = true ∧ r2 = false) ∨ (r0 = true ∧ r1 = true ∧ r2 = true ∧ r3 = false) ∨ (r0 = true ∧ r1 = true ∧ r2 = true ∧ r3 = true) := by
    cases r0 <;> cases r1 <;> cases r2 <;> cases r3 <;> simp
  have hb : r4 = false ∨ (r4 = true ∧ r5 = false) ∨ (r4 = true ∧ r5 = true ∧ r6 = false) ∨ (r4 = true ∧ r5 = true ∧ r6 = true) := by
    cases r4 <;> cases r5 <;> cases r6 <;> simp
  rcases ha with rfl | ⟨rfl, rfl⟩ | ⟨rfl, rfl, rfl⟩ | ⟨rfl, rfl, rfl, rfl⟩ | ⟨rfl, rfl, rfl, rfl⟩ <;> rcases hb with rfl | ⟨rfl, rfl⟩ | ⟨rfl, rfl, rfl⟩ | ⟨rfl, rfl, rfl⟩
  all_goals first
    | exact absurd ⟨rfl, rfl, rfl, rfl, rfl, rfl, rfl⟩ HN.out
    | (go_enter Tryz.func35, Tryz.ntmps35
       go_wp2_with (first | (go_at_call 81; go_fit (c0 _); rintro e w' ⟨rfl, rfl⟩) | (go_at_call 81; go_fit (c1 _); rintro e w' ⟨rfl, rfl⟩) | (go_at_call 81; go_fit (c2 _); rintro e w' ⟨rfl, rfl⟩) | (go_at_call 81; go_fit (c3 _); rintro e w' ⟨rfl, rfl⟩) | (go_at_call 81; go_fit (c4 _); rintro e w' ⟨rfl, rfl⟩) | (go_at_call 81; go_fit (c5 _); rintro e w' ⟨rfl, rfl⟩) | (go_at_call 81; go_fit (c6 _); rintro e w' ⟨rfl, rfl⟩))
       refine bodyPost_ret (v := .tuple #[.pointer none, .int .i64 1]) (by simp [results, Tryz.results35, go_sem]) rfl ⟨rfl, below_new _ _⟩)

end Go.Proofs.YtgamgomepdfgdaaGreat
