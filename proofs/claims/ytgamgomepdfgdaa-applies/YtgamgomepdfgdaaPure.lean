import Derived.Lib.Bytealg
import Derived.Lib.Strings
namespace Go.Proofs.Ytgamgomepdfgdaa

/-- a file: its path, what stands in it -/
abbrev Fl := ByteArray × ByteArray
/-- an edit: its path, Old, New -/
abbrev Ed := ByteArray × ByteArray × ByteArray

theorem eq_of_toList {a b : ByteArray} (h : a.toList = b.toList) : a = b := by
  rw [Lib.toList_data, Lib.toList_data] at h
  rw [← Lib.mk_data a, ← Lib.mk_data b, h]
theorem eq_of_data {a b : ByteArray} (h : a.data.toList = b.data.toList) : a = b := eq_of_toList (by rw [Lib.toList_data, Lib.toList_data, h])
theorem beq_true_iff (a b : ByteArray) : (a.toList == b.toList) = true ↔ a = b := by
  rw [beq_iff_eq]; exact ⟨eq_of_toList, fun h => by rw [h]⟩
theorem beq_false_iff (a b : ByteArray) : (a.toList == b.toList) = false ↔ a ≠ b := by
  rw [← Bool.not_eq_true, beq_true_iff]
theorem empty_iff (s : ByteArray) : s.toList.isEmpty = true ↔ s = ⟨#[]⟩ := by
  rw [List.isEmpty_iff]
  constructor
  · intro h; exact eq_of_toList (by rw [h, Lib.toList_data])
  · intro h; rw [h, Lib.toList_data]

/-- what stands at a path -/
def standsL : List Fl → ByteArray → ByteArray
  | [], _ => ⟨#[]⟩
  | f :: l, q => if f.1.toList == q.toList then f.2 else standsL l q

theorem standsL_hit (f : Fl) (l : List Fl) (q : ByteArray) (h : (f.1.toList == q.toList) = true) : standsL (f :: l) q = f.2 := by simp [standsL, h]
theorem standsL_miss (f : Fl) (l : List Fl) (q : ByteArray) (h : (f.1.toList == q.toList) = false) : standsL (f :: l) q = standsL l q := by simp [standsL, h]

/-- no path twice -/
def Apart {α : Type} (key : α → ByteArray) (l : List α) : Prop := l.Pairwise fun a b => key a ≠ key b

theorem standsL_none {l : List Fl} {q : ByteArray} (h : ∀ f ∈ l, f.1 ≠ q) : standsL l q = ⟨#[]⟩ := by
  induction l with
  | nil => rfl
  | cons f l ih =>
    rw [standsL_miss _ _ _ ((beq_false_iff _ _).2 (h f (by simp)))]
    exact ih fun g hg => h g (by simp [hg])

theorem standsL_mem {l : List Fl} (ha : Apart Prod.fst l) {f : Fl} (hf : f ∈ l) : standsL l f.1 = f.2 := by
  induction l with
  | nil => cases hf
  | cons g l ih =>
    have hp := List.pairwise_cons.1 ha
    rcases List.mem_cons.1 hf with rfl | hf
    · exact standsL_hit _ _ _ ((beq_true_iff _ _).2 rfl)
    · rw [standsL_miss _ _ _ ((beq_false_iff _ _).2 (hp.1 f hf))]
      exact ih hp.2 hf

theorem standsL_found {l : List Fl} {q : ByteArray} (h : standsL l q ≠ ⟨#[]⟩) : (q, standsL l q) ∈ l := by
  induction l with
  | nil => exact absurd rfl h
  | cons f l ih =>
    by_cases e : f.1 = q
    · rw [standsL_hit _ _ _ ((beq_true_iff _ _).2 e)]
      rw [← e]; simp
    · rw [standsL_miss _ _ _ ((beq_false_iff _ _).2 e)] at h ⊢
      exact List.mem_cons_of_mem _ (ih h)

/-- of files with distinct paths, none of them empty: who is in -/
theorem mem_iff_stands {l : List Fl} (ha : Apart Prod.fst l) (hn : ∀ f ∈ l, f.2 ≠ ⟨#[]⟩) (f : Fl) : f ∈ l ↔ standsL l f.1 = f.2 ∧ f.2 ≠ ⟨#[]⟩ := by
  constructor
  · intro h; exact ⟨standsL_mem ha h, hn f h⟩
  · rintro ⟨h, hne⟩
    have := standsL_found (l := l) (q := f.1) (by rw [h]; exact hne)
    rw [h] at this; exact this

/-- by rising paths -/
def Rising (l : List Fl) : Prop := l.Pairwise fun a b => a.1.data.toList < b.1.data.toList

theorem Rising.apart {l : List Fl} (h : Rising l) : Apart Prod.fst l := h.imp fun {a b} hlt e => by rw [e] at hlt; exact List.lt_irrefl _ hlt

/-- the files told of which g says what stands where -/
def Told (l : List Fl) (g : ByteArray → ByteArray) : Prop := Rising l ∧ (∀ f ∈ l, f.2 ≠ ⟨#[]⟩) ∧ ∀ q, standsL l q = g q

theorem Told.mem {l : List Fl} {g : ByteArray → ByteArray} (h : Told l g) (f : Fl) : f ∈ l ↔ g f.1 = f.2 ∧ f.2 ≠ ⟨#[]⟩ := by
  rw [mem_iff_stands h.1.apart h.2.1, h.2.2]

theorem Apart.nodup {l : List Fl} (h : Apart Prod.fst l) : l.Nodup := List.Pairwise.imp (fun hne e => hne (by rw [e])) h

theorem Told.unique {l l' : List Fl} {g : ByteArray → ByteArray} (h : Told l g) (h' : Told l' g) : l = l' := by
  have hp : l.Perm l' := (List.perm_ext_iff_of_nodup h.1.apart.nodup h'.1.apart.nodup).2 fun f => by rw [h.mem, h'.mem]
  exact List.Perm.eq_of_pairwise (fun a b _ _ h1 h2 => absurd (List.lt_trans h1 h2) (List.lt_irrefl _)) h.1 h'.1 hp

/-- a list with apart paths, the same as a set -/
theorem told_of_mem {l : List Fl} {g : ByteArray → ByteArray} (hr : Rising l) (hm : ∀ f, f ∈ l ↔ g f.1 = f.2 ∧ f.2 ≠ ⟨#[]⟩) : Told l g := by
  refine ⟨hr, fun f hf => ((hm f).1 hf).2, fun q => ?_⟩
  by_cases h : g q = ⟨#[]⟩
  · rw [h]
    refine standsL_none fun f hf e => ?_
    have := (hm f).1 hf
    rw [e, h] at this
    exact this.2 this.1.symm
  · exact standsL_mem hr.apart ((hm (q, g q)).2 ⟨rfl, h⟩)

/-- what an edit makes of what stands -/
def upd (g : ByteArray → ByteArray) (q b : ByteArray) : ByteArray → ByteArray := fun x => if q.toList == x.toList then b else g x

theorem upd_same (g : ByteArray → ByteArray) (q b : ByteArray) : upd g q b q = b := by simp [upd]
theorem upd_other (g : ByteArray → ByteArray) {q x : ByteArray} (b : ByteArray) (h : q ≠ x) : upd g q b x = g x := by
  unfold upd; rw [(beq_false_iff q x).2 h]; rfl

/-- what edits make of what stands -/
def edited (g : ByteArray → ByteArray) (es : List Ed) : ByteArray → ByteArray := es.foldl (fun g e => upd g e.1 e.2.2) g

theorem edited_snoc (g : ByteArray → ByteArray) (es : List Ed) (e : Ed) : edited g (es ++ [e]) = upd (edited g es) e.1 e.2.2 := by simp [edited, List.foldl_append]

theorem edited_other {g : ByteArray → ByteArray} {es : List Ed} {q : ByteArray} (h : ∀ e ∈ es, e.1 ≠ q) : edited g es q = g q := by
  induction es generalizing g with
  | nil => rfl
  | cons e es ih =>
    show edited (upd g e.1 e.2.2) es q = g q
    rw [ih fun x hx => h x (by simp [hx])]
    exact upd_other _ _ (h e (by simp))

theorem edited_mem {g : ByteArray → ByteArray} {es : List Ed} (ha : Apart Prod.fst es) {e : Ed} (he : e ∈ es) : edited g es e.1 = e.2.2 := by
  induction es generalizing g with
  | nil => cases he
  | cons x es ih =>
    have hp := List.pairwise_cons.1 ha
    show edited (upd g x.1 x.2.2) es e.1 = e.2.2
    rcases List.mem_cons.1 he with rfl | he
    · rw [edited_other fun y hy => (hp.1 y hy).symm]; exact upd_same _ _ _
    · exact ih hp.2 he

/-- all may be, no path twice -/
def Good {α : Type} (ok : α → Bool) (key : α → ByteArray) (l : List α) : Prop := (∀ x ∈ l, ok x = true) ∧ Apart key l

theorem Good.nil {α : Type} (ok : α → Bool) (key : α → ByteArray) : Good ok key [] := ⟨by simp, List.Pairwise.nil⟩
theorem Good.take {α : Type} {ok : α → Bool} {key : α → ByteArray} {l : List α} (h : Good ok key l) (k : Nat) : Good ok key (l.take k) :=
  ⟨fun x hx => h.1 x (List.mem_of_mem_take hx), List.Pairwise.sublist (List.take_sublist k l) h.2⟩

theorem good_succ {α : Type} {ok : α → Bool} {key : α → ByteArray} {l : List α} {k : Nat} (hk : k < l.length) :
    Good ok key (l.take (k + 1)) ↔ Good ok key (l.take k) ∧ ok l[k] = true ∧ ∀ j (h : j < k), key (l[j]'(by omega)) ≠ key l[k] := by
  rw [List.take_succ_eq_append_getElem hk]
  unfold Good Apart
  rw [List.pairwise_append]
  constructor
  · rintro ⟨h1, h2, _, h3⟩
    refine ⟨⟨fun x hx => h1 x (List.mem_append_left _ hx), h2⟩, h1 _ (List.mem_append_right _ (List.mem_singleton.2 rfl)), fun j hj => h3 _ ?_ _ (by simp)⟩
    rw [List.mem_iff_getElem]
    exact ⟨j, by rw [List.length_take]; omega, by rw [List.getElem_take]⟩
  · rintro ⟨⟨h1, h2⟩, h3, h4⟩
    refine ⟨fun x hx => ?_, h2, by simp, fun a ha b hb => ?_⟩
    · rcases List.mem_append.1 hx with h | h
      · exact h1 x h
      · rw [List.mem_singleton.1 h]; exact h3
    · rw [List.mem_singleton.1 hb]
      obtain ⟨j, hj, rfl⟩ := List.mem_iff_getElem.1 ha
      rw [List.length_take] at hj
      rw [List.getElem_take]
      exact h4 j (by omega)

/-- a text that may be -/
def okText (s : ByteArray) : Bool := decide (s.size ≤ 8)
/-- a text that may be and is not empty -/
def okFill (s : ByteArray) : Bool := !s.toList.isEmpty && okText s
/-- a file, an edit that may be -/
def okFl (f : Fl) : Bool := okFill f.1 && okFill f.2
def okEdit (p o n : ByteArray) : Bool := okFill p && okText o && okText n && !(o.toList == n.toList)
def okEd (e : Ed) : Bool := okEdit e.1 e.2.1 e.2.2

theorem okText_iff (s : ByteArray) : okText s = true ↔ s.size ≤ 8 := by simp [okText]
theorem okFill_iff (s : ByteArray) : okFill s = true ↔ 1 ≤ s.size ∧ s.size ≤ 8 := by
  unfold okFill
  rw [Bool.and_eq_true, okText_iff, Bool.not_eq_true', ← Bool.not_eq_true, List.isEmpty_iff, Lib.toList_data, Lib.size_eq]
  have : ¬ s.data.toList = [] ↔ 1 ≤ s.data.toList.length := by
    rw [← ne_eq, ← List.length_pos_iff]; exact Iff.rfl
  rw [this]
theorem okFl_iff (f : Fl) : okFl f = true ↔ (1 ≤ f.1.size ∧ f.1.size ≤ 8) ∧ 1 ≤ f.2.size ∧ f.2.size ≤ 8 := by
  unfold okFl; rw [Bool.and_eq_true, okFill_iff, okFill_iff]
theorem okEd_iff (e : Ed) : okEd e = true ↔ (1 ≤ e.1.size ∧ e.1.size ≤ 8) ∧ e.2.1.size ≤ 8 ∧ e.2.2.size ≤ 8 ∧ e.2.1 ≠ e.2.2 := by
  unfold okEd okEdit; rw [Bool.and_eq_true, Bool.and_eq_true, Bool.and_eq_true, okFill_iff, okText_iff, okText_iff, Bool.not_eq_true', beq_false_iff, and_assoc, and_assoc]

end Go.Proofs.Ytgamgomepdfgdaa
