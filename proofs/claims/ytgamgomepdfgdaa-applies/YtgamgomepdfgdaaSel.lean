import Derived.Test.YtgamgomepdfgdaaMem
namespace Go.Proofs.Ytgamgomepdfgdaa
open Go.RowKit

/-- behind all that was told so far -/
def Beh (ss : List Fl) (f : Fl) : Prop := ∀ x ∈ ss, x.1.data.toList < f.1.data.toList

theorem beh_nil (f : Fl) : Beh [] f := fun x hx => by simp at hx

theorem beh_last {ss : List Fl} (hr : Rising ss) (h : ss.length - 1 < ss.length) (f : Fl) : Beh ss f ↔ (ss[ss.length - 1]).1.data.toList < f.1.data.toList := by
  constructor
  · intro hb; exact hb _ (List.getElem_mem h)
  · intro hl x hx
    obtain ⟨i, hi, rfl⟩ := List.mem_iff_getElem.1 hx
    by_cases e : i = ss.length - 1
    · subst e; exact hl
    · exact List.lt_trans (List.pairwise_iff_getElem.1 hr i (ss.length - 1) hi h (by omega)) hl

def SelInv (l ss : List Fl) : Prop := Rising ss ∧ ∃ rest, l.Perm (ss ++ rest) ∧ ∀ f ∈ rest, Beh ss f

theorem sel_start (l : List Fl) : SelInv l [] := ⟨List.Pairwise.nil, l, .refl _, fun f _ => beh_nil f⟩

theorem sel_more {l ss : List Fl} (h : SelInv l ss) (hl : ss.length < l.length) : ∃ f ∈ l, Beh ss f := by
  obtain ⟨_, rest, hp, hb⟩ := h
  have := hp.length_eq
  rw [List.length_append] at this
  cases rest with
  | nil => simp at this; omega
  | cons f r => exact ⟨f, hp.mem_iff.2 (by simp), hb f (by simp)⟩

theorem sel_end {l ss : List Fl} (h : SelInv l ss) (hl : ¬ ss.length < l.length) : ss.Perm l := by
  obtain ⟨_, rest, hp, _⟩ := h
  have := hp.length_eq
  rw [List.length_append] at this
  have e : rest = [] := List.length_eq_zero_iff.1 (by omega)
  subst e
  rw [List.append_nil] at hp
  exact hp.symm

theorem sel_le {l ss : List Fl} (h : SelInv l ss) : ss.length ≤ l.length := by
  obtain ⟨_, rest, hp, _⟩ := h
  have := hp.length_eq
  rw [List.length_append] at this
  omega

theorem lt_of_ne {a b : Fl} (h : a.1 ≠ b.1) (hn : ¬ a.1.data.toList < b.1.data.toList) : b.1.data.toList < a.1.data.toList := by
  rcases Classical.em (b.1.data.toList < a.1.data.toList) with h' | h'
  · exact h'
  · exact absurd (eq_of_data (List.le_antisymm (List.not_lt.1 h') (List.not_lt.1 hn))) h

theorem sel_step {l ss : List Fl} (h : SelInv l ss) (ha : Apart Prod.fst l) {a : Fl} (hal : a ∈ l) (hb : Beh ss a) (hmin : ∀ f ∈ l, Beh ss f → ¬ f.1.data.toList < a.1.data.toList) : SelInv l (ss ++ [a]) := by
  obtain ⟨hr, rest, hp, hbr⟩ := h
  have har : a ∈ rest := by
    rcases List.mem_append.1 (hp.mem_iff.1 hal) with h | h
    · exact absurd (hb a h) (List.lt_irrefl _)
    · exact h
  obtain ⟨s, t, rfl⟩ := List.append_of_mem har
  have ha' : Apart Prod.fst (ss ++ (s ++ a :: t)) := hp.pairwise ha (fun {x y} hxy => hxy.symm)
  have hst : ∀ f ∈ s ++ t, f.1 ≠ a.1 := by
    have h2 := (List.pairwise_append.1 ha').2.1
    have h3 := List.pairwise_append.1 h2
    intro f hf
    rcases List.mem_append.1 hf with h | h
    · exact h3.2.2 f h a (by simp)
    · exact ((List.pairwise_cons.1 h3.2.1).1 f h).symm
  refine ⟨List.pairwise_append.2 ⟨hr, List.pairwise_singleton _ _, fun x hx y hy => by rw [List.mem_singleton.1 hy]; exact hb x hx⟩, s ++ t, ?_, ?_⟩
  · refine hp.trans ?_
    rw [List.append_assoc]
    exact List.Perm.append_left ss List.perm_middle
  · intro f hf x hx
    have hf' : f ∈ s ++ a :: t := by
      rcases List.mem_append.1 hf with h | h
      · exact List.mem_append_left _ h
      · exact List.mem_append_right _ (List.mem_cons_of_mem _ h)
    rcases List.mem_append.1 hx with h | h
    · exact hbr f hf' x h
    · rw [List.mem_singleton.1 h]
      exact lt_of_ne (hst f hf) (hmin f (hp.mem_iff.2 (List.mem_append_right _ hf')) (hbr f hf'))

/-- the best one of the first k -/
def Bst (l ss : List Fl) (k : Nat) (v : Value) : Prop :=
  (v = .int .i64 (-1) ∧ ∀ j (_ : j < k) (h' : j < l.length), ¬ Beh ss l[j]) ∨
  ∃ b : Nat, v = .int .i64 b ∧ b < k ∧ ∃ hb : b < l.length, Beh ss l[b] ∧ ∀ j (_ : j < k) (h' : j < l.length), Beh ss l[j] → ¬ l[j].1.data.toList < l[b].1.data.toList

theorem bst_start (l ss : List Fl) : Bst l ss 0 (.int .i64 (-1)) := .inl ⟨rfl, fun j h => by omega⟩

theorem bst_skip {l ss : List Fl} {k : Nat} {v : Value} (h : Bst l ss k v) (hk : k < l.length) (hn : ¬ Beh ss l[k]) : Bst l ss (k + 1) v := by
  rcases h with ⟨e, h⟩ | ⟨b, e, hbk, hb, h1, h2⟩
  · exact .inl ⟨e, fun j hj hj' => by
      by_cases x : j = k
      · subst x; exact hn
      · exact h j (by omega) hj'⟩
  · exact .inr ⟨b, e, by omega, hb, h1, fun j hj hj' hB => by
      by_cases x : j = k
      · subst x; exact absurd hB hn
      · exact h2 j (by omega) hj' hB⟩

theorem bst_first {l ss : List Fl} {k : Nat} (h : ∀ j (_ : j < k) (h' : j < l.length), ¬ Beh ss l[j]) (hk : k < l.length) (hb : Beh ss l[k]) : Bst l ss (k + 1) (.int .i64 k) :=
  .inr ⟨k, rfl, by omega, hk, hb, fun j hj hj' hB => by
    by_cases x : j = k
    · subst x; exact List.lt_irrefl _
    · exact absurd hB (h j (by omega) hj')⟩

theorem bst_less {l ss : List Fl} {k b : Nat} (hb : b < l.length) (h : ∀ j (_ : j < k) (h' : j < l.length), Beh ss l[j] → ¬ l[j].1.data.toList < l[b].1.data.toList) (hk : k < l.length) (hB : Beh ss l[k]) (hlt : l[k].1.data.toList < l[b].1.data.toList) : Bst l ss (k + 1) (.int .i64 k) :=
  .inr ⟨k, rfl, by omega, hk, hB, fun j hj hj' hBj => by
    by_cases x : j = k
    · subst x; exact List.lt_irrefl _
    · exact fun hl => h j (by omega) hj' hBj (List.lt_trans hl hlt)⟩

theorem bst_keep {l ss : List Fl} {k b : Nat} (hbk : b < k) (hb : b < l.length) (h1 : Beh ss l[b]) (h : ∀ j (_ : j < k) (h' : j < l.length), Beh ss l[j] → ¬ l[j].1.data.toList < l[b].1.data.toList) (hk : k < l.length) (hlt : ¬ l[k].1.data.toList < l[b].1.data.toList) : Bst l ss (k + 1) (.int .i64 b) :=
  .inr ⟨b, rfl, by omega, hb, h1, fun j hj hj' hBj => by
    by_cases x : j = k
    · subst x; exact hlt
    · exact h j (by omega) hj' hBj⟩

/-- behind the last round there is a best one, and with it the rule goes on -/
theorem bst_end {l ss : List Fl} {k : Nat} {v : Value} (h : Bst l ss k v) (hk : ¬ k < l.length) (hs : SelInv l ss) (hlt : ss.length < l.length) (ha : Apart Prod.fst l) :
    ∃ b : Nat, v = .int .i64 b ∧ ∃ hb : b < l.length, SelInv l (ss ++ [l[b]]) := by
  rcases h with ⟨_, h⟩ | ⟨b, e, hbk, hb, h1, h2⟩
  · obtain ⟨f, hf, hB⟩ := sel_more hs hlt
    obtain ⟨j, hj, rfl⟩ := List.mem_iff_getElem.1 hf
    exact absurd hB (h j (by omega) hj)
  · refine ⟨b, e, hb, sel_step hs ha (List.getElem_mem hb) h1 fun f hf hB => ?_⟩
    obtain ⟨j, hj, rfl⟩ := List.mem_iff_getElem.1 hf
    exact h2 j (by omega) hj hB
end Go.Proofs.Ytgamgomepdfgdaa
