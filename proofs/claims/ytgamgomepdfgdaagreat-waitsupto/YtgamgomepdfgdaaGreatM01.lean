import Derived.Lib.Bytealg
import Derived.Lib.Strings
import Derived.WalkKit
import Derived.WalkSpells
import Derived.Deep.Draws
import Derived.Test.YtgamgomepdfgdaaGreatProg
import Derived.WalkLawsBesides
import Derived.Laws.IdiomStrings
import Derived.Laws.Tables
import Derived.Deep.RegionHeldLaw
import Derived.Deep.DeepFit
namespace Go.Proofs.YtgamgomepdfgdaaGreat

/-- a file: its path, what stands in it -/
abbrev Fl := ByteArray × ByteArray
/-- an edit: its path, Old, New -/
abbrev Ed := ByteArray × ByteArray × ByteArray

theorem eq_of_toList {a b : ByteArray} (h : a.toList = b.toList) : a = b := by
  rw [Lib.toList_data, Lib.toList_data] at h
  rw [← Lib.mk_data a, ← Lib.mk_data b, h]
theorem eq_of_data {a b : ByteArray} (h : a.data.toList = b.data.toList) : a = b := eq_of_toList (by rw [Lib.toList_data, Lib.toList_data, h])
theorem beq_true_iff (a b : ByteArray) : (a.toList == b.toList) = true ↔ a = b := by
  rw [beq_iff_eq]; exact ⟨eq_of_toList, fun h => by rw [h]⟩
theorem beq_false_iff (a b : ByteArray) : (a.toList == b.toList) = false ↔ a ≠ b := by
  rw [← Bool.not_eq_true, beq_true_iff]
theorem empty_iff (s : ByteArray) : s.toList.isEmpty = true ↔ s = ⟨#[]⟩ := by
  rw [List.isEmpty_iff]
  constructor
  · intro h; exact eq_of_toList (by rw [h, Lib.toList_data])
  · intro h; rw [h, Lib.toList_data]

/-- what stands at a path -/
def standsL : List Fl → ByteArray → ByteArray
  | [], _ => ⟨#[]⟩
  | f :: l, q => if f.1.toList == q.toList then f.2 else standsL l q

theorem standsL_hit (f : Fl) (l : List Fl) (q : ByteArray) (h : (f.1.toList == q.toList) = true) : standsL (f :: l) q = f.2 := by simp [standsL, h]
theorem standsL_miss (f : Fl) (l : List Fl) (q : ByteArray) (h : (f.1.toList == q.toList) = false) : standsL (f :: l) q = standsL l q := by simp [standsL, h]

/-- no path twice -/
def Apart {α : Type} (key : α → ByteArray) (l : List α) : Prop := l.Pairwise fun a b => key a ≠ key b

theorem standsL_none {l : List Fl} {q : ByteArray} (h : ∀ f ∈ l, f.1 ≠ q) : standsL l q = ⟨#[]⟩ := by
  induction l with
  | nil => rfl
  | cons f l ih =>
    rw [standsL_miss _ _ _ ((beq_false_iff _ _).2 (h f (by simp)))]
    exact ih fun g hg => h g (by simp [hg])

theorem standsL_mem {l : List Fl} (ha : Apart Prod.fst l) {f : Fl} (hf : f ∈ l) : standsL l f.1 = f.2 := by
  induction l with
  | nil => cases hf
  | cons g l ih =>
    have hp := List.pairwise_cons.1 ha
    rcases List.mem_cons.1 hf with rfl | hf
    · exact standsL_hit _ _ _ ((beq_true_iff _ _).2 rfl)
    · rw [standsL_miss _ _ _ ((beq_false_iff _ _).2 (hp.1 f hf))]
      exact ih hp.2 hf

theorem standsL_found {l : List Fl} {q : ByteArray} (h : standsL l q ≠ ⟨#[]⟩) : (q, standsL l q) ∈ l := by
  induction l with
  | nil => exact absurd rfl h
  | cons f l ih =>
    by_cases e : f.1 = q
    · rw [standsL_hit _ _ _ ((beq_true_iff _ _).2 e)]
      rw [← e]; simp
    · rw [standsL_miss _ _ _ ((beq_false_iff _ _).2 e)] at h ⊢
      exact List.mem_cons_of_mem _ (ih h)

/-- of files with distinct paths, none of them empty: who is in -/
theorem mem_iff_stands {l : List Fl} (ha : Apart Prod.fst l) (hn : ∀ f ∈ l, f.2 ≠ ⟨#[]⟩) (f : Fl) : f ∈ l ↔ standsL l f.1 = f.2 ∧ f.2 ≠ ⟨#[]⟩ := by
  constructor
  · intro h; exact ⟨standsL_mem ha h, hn f h⟩
  · rintro ⟨h, hne⟩
    have := standsL_found (l := l) (q := f.1) (by rw [h]; exact hne)
    rw [h] at this; exact this

/-- by rising paths -/
def Rising (l : List Fl) : Prop := l.Pairwise fun a b => a.1.data.toList < b.1.data.toList

theorem Rising.apart {l : List Fl} (h : Rising l) : Apart Prod.fst l := h.imp fun {a b} hlt e => by rw [e] at hlt; exact List.lt_irrefl _ hlt

/-- the files told of which g says what stands where -/
def Told (l : List Fl) (g : ByteArray → ByteArray) : Prop := Rising l ∧ (∀ f ∈ l, f.2 ≠ ⟨#[]⟩) ∧ ∀ q, standsL l q = g q

theorem Told.mem {l : List Fl} {g : ByteArray → ByteArray} (h : Told l g) (f : Fl) : f ∈ l ↔ g f.1 = f.2 ∧ f.2 ≠ ⟨#[]⟩ := by
  rw [mem_iff_stands h.1.apart h.2.1, h.2.2]

theorem Apart.nodup {l : List Fl} (h : Apart Prod.fst l) : l.Nodup := List.Pairwise.imp (fun hne e => hne (by rw [e])) h

theorem Told.unique {l l' : List Fl} {g : ByteArray → ByteArray} (h : Told l g) (h' : Told l' g) : l = l' := by
  have hp : l.Perm l' := (List.perm_ext_iff_of_nodup h.1.apart.nodup h'.1.apart.nodup).2 fun f => by rw [h.mem, h'.mem]
  exact List.Perm.eq_of_pairwise (fun a b _ _ h1 h2 => absurd (List.lt_trans h1 h2) (List.lt_irrefl _)) h.1 h'.1 hp

/-- a list with apart paths, the same as a set -/
theorem told_of_mem {l : List Fl} {g : ByteArray → ByteArray} (hr : Rising l) (hm : ∀ f, f ∈ l ↔ g f.1 = f.2 ∧ f.2 ≠ ⟨#[]⟩) : Told l g := by
  refine ⟨hr, fun f hf => ((hm f).1 hf).2, fun q => ?_⟩
  by_cases h : g q = ⟨#[]⟩
  · rw [h]
    refine standsL_none fun f hf e => ?_
    have := (hm f).1 hf
    rw [e, h] at this
    exact this.2 this.1.symm
  · exact standsL_mem hr.apart ((hm (q, g q)).2 ⟨rfl, h⟩)

/-- what an edit makes of what stands -/
def upd (g : ByteArray → ByteArray) (q b : ByteArray) : ByteArray → ByteArray := fun x => if q.toList == x.toList then b else g x

theorem upd_same (g : ByteArray → ByteArray) (q b : ByteArray) : upd g q b q = b := by simp [upd]
theorem upd_other (g : ByteArray → ByteArray) {q x : ByteArray} (b : ByteArray) (h : q ≠ x) : upd g q b x = g x := by
  unfold upd; rw [(beq_false_iff q x).2 h]; rfl

/-- what edits make of what stands -/
def edited (g : ByteArray → ByteArray) (es : List Ed) : ByteArray → ByteArray := es.foldl (fun g e => upd g e.1 e.2.2) g

theorem edited_snoc (g : ByteArray → ByteArray) (es : List Ed) (e : Ed) : edited g (es ++ [e]) = upd (edited g es) e.1 e.2.2 := by simp [edited, List.foldl_append]

theorem edited_other {g : ByteArray → ByteArray} {es : List Ed} {q : ByteArray} (h : ∀ e ∈ es, e.1 ≠ q) : edited g es q = g q := by
  induction es generalizing g with
  | nil => rfl
  | cons e es ih =>
    show edited (upd g e.1 e.2.2) es q = g q
    rw [ih fun x hx => h x (by simp [hx])]
    exact upd_other _ _ (h e (by simp))

theorem edited_mem {g : ByteArray → ByteArray} {es : List Ed} (ha : Apart Prod.fst es) {e : Ed} (he : e ∈ es) : edited g es e.1 = e.2.2 := by
  induction es generalizing g with
  | nil => cases he
  | cons x es ih =>
    have hp := List.pairwise_cons.1 ha
    show edited (upd g x.1 x.2.2) es e.1 = e.2.2
    rcases List.mem_cons.1 he with rfl | he
    · rw [edited_other fun y hy => (hp.1 y hy).symm]; exact upd_same _ _ _
    · exact ih hp.2 he

/-- all may be, no path twice -/
def Good {α : Type} (ok : α → Bool) (key : α → ByteArray) (l : List α) : Prop := (∀ x ∈ l, ok x = true) ∧ Apart key l

theorem Good.nil {α : Type} (ok : α → Bool) (key : α → ByteArray) : Good ok key [] := ⟨by simp, List.Pairwise.nil⟩
theorem Good.take {α : Type} {ok : α → Bool} {key : α → ByteArray} {l : List α} (h : Good ok key l) (k : Nat) : Good ok key (l.take k) :=
  ⟨fun x hx => h.1 x (List.mem_of_mem_take hx), List.Pairwise.sublist (List.take_sublist k l) h.2⟩

theorem good_succ {α : Type} {ok : α → Bool} {key : α → ByteArray} {l : List α} {k : Nat} (hk : k < l.length) :
    Good ok key (l.take (k + 1)) ↔ Good ok key (l.take k) ∧ ok l[k] = true ∧ ∀ j (h : j < k), key (l[j]'(by omega)) ≠ key l[k] := by
  rw [List.take_succ_eq_append_getElem hk]
  unfold Good Apart
  rw [List.pairwise_append]
  constructor
  · rintro ⟨h1, h2, _, h3⟩
    refine ⟨⟨fun x hx => h1 x (List.mem_append_left _ hx), h2⟩, h1 _ (List.mem_append_right _ (List.mem_singleton.2 rfl)), fun j hj => h3 _ ?_ _ (by simp)⟩
    rw [List.mem_iff_getElem]
    exact ⟨j, by rw [List.length_take]; omega, by rw [List.getElem_take]⟩
  · rintro ⟨⟨h1, h2⟩, h3, h4⟩
    refine ⟨fun x hx => ?_, h2, by simp, fun a ha b hb => ?_⟩
    · rcases List.mem_append.1 hx with h | h
      · exact h1 x h
      · rw [List.mem_singleton.1 h]; exact h3
    · rw [List.mem_singleton.1 hb]
      obtain ⟨j, hj, rfl⟩ := List.mem_iff_getElem.1 ha
      rw [List.length_take] at hj
      rw [List.getElem_take]
      exact h4 j (by omega)

/-- a text that may be -/
def okText (s : ByteArray) : Bool := decide (s.size ≤ 8)
/-- a text that may be and is not empty -/
def okFill (s : ByteArray) : Bool := !s.toList.isEmpty && okText s
/-- a file, an edit that may be -/
def okFl (f : Fl) : Bool := okFill f.1 && okFill f.2
def okEdit (p o n : ByteArray) : Bool := okFill p && okText o && okText n && !(o.toList == n.toList)
def okEd (e : Ed) : Bool := okEdit e.1 e.2.1 e.2.2

theorem okText_iff (s : ByteArray) : okText s = true ↔ s.size ≤ 8 := by simp [okText]
theorem okFill_iff (s : ByteArray) : okFill s = true ↔ 1 ≤ s.size ∧ s.size ≤ 8 := by
  unfold okFill
  rw [Bool.and_eq_true, okText_iff, Bool.not_eq_true', ← Bool.not_eq_true, List.isEmpty_iff, Lib.toList_data, Lib.size_eq]
  have : ¬ s.data.toList = [] ↔ 1 ≤ s.data.toList.length := by
    rw [← ne_eq, ← List.length_pos_iff]; exact Iff.rfl
  rw [this]
theorem okFl_iff (f : Fl) : okFl f = true ↔ (1 ≤ f.1.size ∧ f.1.size ≤ 8) ∧ 1 ≤ f.2.size ∧ f.2.size ≤ 8 := by
  unfold okFl; rw [Bool.and_eq_true, okFill_iff, okFill_iff]
theorem okEd_iff (e : Ed) : okEd e = true ↔ (1 ≤ e.1.size ∧ e.1.size ≤ 8) ∧ e.2.1.size ≤ 8 ∧ e.2.2.size ≤ 8 ∧ e.2.1 ≠ e.2.2 := by
  unfold okEd okEdit; rw [Bool.and_eq_true, Bool.and_eq_true, Bool.and_eq_true, okFill_iff, okText_iff, okText_iff, Bool.not_eq_true', beq_false_iff, and_assoc, and_assoc]

end Go.Proofs.YtgamgomepdfgdaaGreat

namespace Go.Proofs.YtgamgomepdfgdaaGreat
open Go.RowKit

/-- a bool is returned that says whether p holds -/
def RetIff (e : Ending) (p : Prop) : Prop := ∃ r : Bool, e = .returned (.bool r) ∧ (r = true ↔ p)
theorem RetIff.yes {p : Prop} (h : p) : RetIff (.returned (.bool true)) p := ⟨true, rfl, ⟨fun _ => h, fun _ => rfl⟩⟩
theorem RetIff.no {p : Prop} (h : ¬ p) : RetIff (.returned (.bool false)) p := ⟨false, rfl, ⟨fun x => Bool.noConfusion x, fun x => absurd x h⟩⟩
/-- nothing but draws -/
def Drew (w w' : World) : Prop := ∃ n, w' = w.drewN n
theorem Drew.refl (w : World) : Drew w w := ⟨0, rfl⟩
theorem Drew.one (w : World) (n : Nat) : Drew w (w.drewN n) := ⟨n, rfl⟩
theorem Drew.two (w : World) (n m : Nat) : Drew w ((w.drewN n).drewN m) := ⟨n + m, by simp⟩
theorem Drew.three (w : World) (n m o : Nat) : Drew w (((w.drewN n).drewN m).drewN o) := ⟨n + m + o, by simp⟩
theorem Drew.below {w w' : World} (h : Drew w w') : Below w.heap.size w w' := by
  obtain ⟨n, rfl⟩ := h
  exact ⟨rfl, rfl, rfl, Nat.le_refl _, fun _ _ => rfl⟩

/-- the cells of a file, of an edit -/
def cF (f : Fl) : List Value := [.string f.1, .string f.2]
def cE (e : Ed) : List Value := [.string e.1, .string e.2.1, .string e.2.2]

/-- a slice value that reads as a list of files -/
def FilesAt (w : World) (v : Value) (l : List Fl) : Prop :=
  (l = [] ∧ ∃ a cap, v = .slice a 0 cap) ∨
  ∃ b off cap, v = .slice (some ⟨b, off, none⟩) l.length cap ∧ b < w.heap.size ∧
    (∀ i (h : i < l.length), w.cell? ⟨b, off + i * 2, none⟩ = some (.string l[i].1)) ∧
    (∀ i (h : i < l.length), w.cell? ⟨b, off + i * 2 + 1, none⟩ = some (.string l[i].2))

/-- .. of edits -/
def EditsAt (w : World) (v : Value) (l : List Ed) : Prop :=
  (l = [] ∧ ∃ a cap, v = .slice a 0 cap) ∨
  ∃ b off cap, v = .slice (some ⟨b, off, none⟩) l.length cap ∧ b < w.heap.size ∧
    (∀ i (h : i < l.length), w.cell? ⟨b, off + i * 3, none⟩ = some (.string l[i].1)) ∧
    (∀ i (h : i < l.length), w.cell? ⟨b, off + i * 3 + 1, none⟩ = some (.string l[i].2.1)) ∧
    (∀ i (h : i < l.length), w.cell? ⟨b, off + i * 3 + 2, none⟩ = some (.string l[i].2.2))

theorem FilesAt.kept {w w' : World} {v : Value} {l : List Fl} (h : FilesAt w v l) (hs : w.heap.size ≤ w'.heap.size) (hb : ∀ k, v.ownBlock = some k → k < w.heap.size → w'.heap[k]? = w.heap[k]?) : FilesAt w' v l := by
  rcases h with h | ⟨b, off, cap, rfl, hlt, h0, h1⟩
  · exact .inl h
  · have e := hb b rfl hlt
    exact .inr ⟨b, off, cap, rfl, Nat.lt_of_lt_of_le hlt hs, fun i h => (World.cell?_of_block (w := w) e).trans (h0 i h), fun i h => (World.cell?_of_block (w := w) e).trans (h1 i h)⟩

theorem EditsAt.kept {w w' : World} {v : Value} {l : List Ed} (h : EditsAt w v l) (hs : w.heap.size ≤ w'.heap.size) (hb : ∀ k, v.ownBlock = some k → k < w.heap.size → w'.heap[k]? = w.heap[k]?) : EditsAt w' v l := by
  rcases h with h | ⟨b, off, cap, rfl, hlt, h0, h1, h2⟩
  · exact .inl h
  · have e := hb b rfl hlt
    exact .inr ⟨b, off, cap, rfl, Nat.lt_of_lt_of_le hlt hs, fun i h => (World.cell?_of_block (w := w) e).trans (h0 i h), fun i h => (World.cell?_of_block (w := w) e).trans (h1 i h), fun i h => (World.cell?_of_block (w := w) e).trans (h2 i h)⟩

theorem FilesAt.later {w w' : World} {v : Value} {l : List Fl} (h : FilesAt w v l) (hb : Below w.heap.size w w') : FilesAt w' v l := h.kept hb.size fun k _ hk => hb.block k hk
theorem EditsAt.later {w w' : World} {v : Value} {l : List Ed} (h : EditsAt w v l) (hb : Below w.heap.size w w') : EditsAt w' v l := h.kept hb.size fun k _ hk => hb.block k hk
theorem FilesAt.grown {w w' : World} {v : Value} {l : List Fl} {row : Option Nat} (h : FilesAt w v l) (hg : w.grownBy w' row) (hne : v.ownBlock = none ∨ v.ownBlock ≠ row) : FilesAt w' v l :=
  h.kept hg.size fun k hk hlt => hg.block k hlt (by rcases hne with h | h <;> simp_all)
theorem EditsAt.grown {w w' : World} {v : Value} {l : List Ed} {row : Option Nat} (h : EditsAt w v l) (hg : w.grownBy w' row) (hne : v.ownBlock = none ∨ v.ownBlock ≠ row) : EditsAt w' v l :=
  h.kept hg.size fun k hk hlt => hg.block k hlt (by rcases hne with h | h <;> simp_all)

theorem flat_get {α : Type} (enc : α → List Value) (k : Nat) (hk : ∀ x, (enc x).length = k) : ∀ (l : List α) (i j : Nat) (h : i < l.length), j < k → (l.flatMap enc)[i * k + j]? = (enc l[i])[j]?
  | [], _, _, h, _ => by simp at h
  | x :: l, 0, j, _, hj => by simp [List.getElem?_append_left (show j < (enc x).length by rw [hk]; exact hj)]
  | x :: l, i + 1, j, h, hj => by
    have e : (i + 1) * k + j = (enc x).length + (i * k + j) := by rw [hk]; rw [Nat.add_mul]; omega
    rw [List.flatMap_cons, e, List.getElem?_append_right (by omega), Nat.add_sub_cancel_left]
    exact flat_get enc k hk l i j (by simpa using h) hj

theorem flat_len {α : Type} (enc : α → List Value) (k : Nat) (hk : ∀ x, (enc x).length = k) : ∀ l : List α, (l.flatMap enc).length = l.length * k
  | [] => by simp
  | x :: l => by rw [List.flatMap_cons, List.length_append, hk, flat_len enc k hk l, List.length_cons, Nat.add_mul]; omega

theorem addr_add (g n : Nat) : (⟨g, 0, none⟩ : Addr).add n = ⟨g, 0 + n, none⟩ := by
  unfold Addr.add
  by_cases h : n = 0
  · subst h; simp
  · simp [h]

/-- a row of the call's own, read as files -/
theorem FilesAt.of_row {w : World} {base : Nat} {e : TypeId} {v : Value} {l : List Fl} (h : w.ownsRow base e 2 v l.length (l.flatMap cF)) : FilesAt w v l := by
  rcases h.2 with ⟨rfl, h0⟩ | ⟨g, cap, cur, rfl, hb, hg, _⟩
  · exact .inl ⟨List.length_eq_zero_iff.1 h0, _, _, rfl⟩
  · have hc := h.cells (g := g) rfl
    refine .inr ⟨g, 0, cap, rfl, (Array.getElem?_eq_some_iff.1 hg).1, fun i hi => ?_, fun i hi => ?_⟩
    · have := hc (i * 2 + 0) (.string l[i].1) (by rw [flat_get cF 2 (fun _ => rfl) l i 0 hi (by omega)]; rfl)
      simpa [addr_add] using this
    · have := hc (i * 2 + 1) (.string l[i].2) (by rw [flat_get cF 2 (fun _ => rfl) l i 1 hi (by omega)]; rfl)
      simpa [addr_add] using this

theorem EditsAt.of_row {w : World} {base : Nat} {e : TypeId} {v : Value} {l : List Ed} (h : w.ownsRow base e 3 v l.length (l.flatMap cE)) : EditsAt w v l := by
  rcases h.2 with ⟨rfl, h0⟩ | ⟨g, cap, cur, rfl, hb, hg, _⟩
  · exact .inl ⟨List.length_eq_zero_iff.1 h0, _, _, rfl⟩
  · have hc := h.cells (g := g) rfl
    refine .inr ⟨g, 0, cap, rfl, (Array.getElem?_eq_some_iff.1 hg).1, fun i hi => ?_, fun i hi => ?_, fun i hi => ?_⟩
    · have := hc (i * 3 + 0) (.string l[i].1) (by rw [flat_get cE 3 (fun _ => rfl) l i 0 hi (by omega)]; rfl)
      simpa [addr_add] using this
    · have := hc (i * 3 + 1) (.string l[i].2.1) (by rw [flat_get cE 3 (fun _ => rfl) l i 1 hi (by omega)]; rfl)
      simpa [addr_add] using this
    · have := hc (i * 3 + 2) (.string l[i].2.2) (by rw [flat_get cE 3 (fun _ => rfl) l i 2 hi (by omega)]; rfl)
      simpa [addr_add] using this

/-- x[:n] of a slice that reads as l ++ more -/
theorem FilesAt.cut {w : World} {a : Option Addr} {n cap : Nat} {l m : List Fl} (h : FilesAt w (.slice a n cap) (l ++ m)) : FilesAt w (.slice a l.length cap) l := by
  rcases h with ⟨h, _⟩ | ⟨b, off, cap', hv, hlt, h0, h1⟩
  · have : l = [] := by simp at h; exact h.1
    subst this; exact .inl ⟨rfl, _, _, rfl⟩
  · cases hv
    refine .inr ⟨b, off, cap, rfl, hlt, fun i hi => ?_, fun i hi => ?_⟩
    · rw [h0 i (by simp; omega), List.getElem_append_left hi]
    · rw [h1 i (by simp; omega), List.getElem_append_left hi]
theorem EditsAt.cut {w : World} {a : Option Addr} {n cap : Nat} {l m : List Ed} (h : EditsAt w (.slice a n cap) (l ++ m)) : EditsAt w (.slice a l.length cap) l := by
  rcases h with ⟨h, _⟩ | ⟨b, off, cap', hv, hlt, h0, h1, h2⟩
  · have : l = [] := by simp at h; exact h.1
    subst this; exact .inl ⟨rfl, _, _, rfl⟩
  · cases hv
    refine .inr ⟨b, off, cap, rfl, hlt, fun i hi => ?_, fun i hi => ?_, fun i hi => ?_⟩
    · rw [h0 i (by simp; omega), List.getElem_append_left hi]
    · rw [h1 i (by simp; omega), List.getElem_append_left hi]
    · rw [h2 i (by simp; omega), List.getElem_append_left hi]

end Go.Proofs.YtgamgomepdfgdaaGreat

namespace Go.Proofs.YtgamgomepdfgdaaGreat
open Go.RowKit

/-- a number as so many bytes, the highest first -/
def be : Nat → Nat → List UInt8
  | 0, _ => []
  | k + 1, n => be k (n / 256) ++ [UInt8.ofNat (n % 256)]
theorem be_len : ∀ k n, (be k n).length = k
  | 0, _ => rfl
  | k + 1, n => by rw [be, List.length_append, be_len k]; rfl
theorem be_succ (k n : Nat) : be (k + 1) n = be k (n / 256) ++ [UInt8.ofNat (n % 256)] := rfl
/-- .. from the other end -/
theorem be_head : ∀ k n, be (k + 1) n = UInt8.ofNat (n / 256 ^ k % 256) :: be k n
  | 0, n => by simp [be]
  | k + 1, n => by
    rw [be_succ, be_head k (n / 256), be_succ k n, Nat.div_div_eq_div_mul, List.cons_append, Nat.pow_succ, Nat.mul_comm (256 ^ k) 256]
/-- only the low bytes count -/
theorem be_mod : ∀ k n m, n % 256 ^ k = m % 256 ^ k → be k n = be k m
  | 0, _, _, _ => rfl
  | k + 1, n, m, h => by
    have h1 : n % 256 = m % 256 := by
      have : n % 256 ^ (k + 1) % 256 = m % 256 ^ (k + 1) % 256 := congrArg (· % 256) h
      rwa [Nat.mod_mod_of_dvd _ ⟨256 ^ k, by rw [Nat.pow_succ, Nat.mul_comm]⟩, Nat.mod_mod_of_dvd _ ⟨256 ^ k, by rw [Nat.pow_succ, Nat.mul_comm]⟩] at this
    have h2 : n / 256 % 256 ^ k = m / 256 % 256 ^ k := by
      have : n % 256 ^ (k + 1) / 256 = m % 256 ^ (k + 1) / 256 := congrArg (· / 256) h
      simp only [Nat.pow_succ, Nat.mul_comm (256 ^ k) 256] at this
      rwa [Nat.mod_mul_right_div_self, Nat.mod_mul_right_div_self] at this
    rw [be_succ, be_succ, h1, be_mod k _ _ h2]

/-- a text of these bytes -/
def bs (l : List UInt8) : ByteArray := ⟨l.toArray⟩
theorem bs_size (l : List UInt8) : (bs l).size = l.length := rfl
theorem bs_append (l m : List UInt8) : bs l ++ bs m = bs (l ++ m) := by
  apply ByteArray.ext
  rw [ByteArray.data_append]
  simp [bs]
theorem bs_data (s : ByteArray) : bs s.data.toList = s := rfl
theorem bs_list (l : List UInt8) : (bs l).data.toList = l := by simp [bs]

/-- a text with its length ahead -/
def txt (s : ByteArray) : List UInt8 := be 1 s.size ++ s.data.toList
/-- an edit -/
def edB (e : Ed) : List UInt8 := txt e.1 ++ txt e.2.1 ++ txt e.2.2

/-- the two numbers of the check sum -/
def adl (ab : Nat × Nat) (x : UInt8) : Nat × Nat := ((ab.1 + x.toNat) % 65521, (ab.2 + (ab.1 + x.toNat) % 65521) % 65521)
def adlS (l : List UInt8) : Nat × Nat := l.foldl adl (1, 0)
def adler (l : List UInt8) : Nat := (adlS l).2 * 65536 + (adlS l).1
theorem adlS_snoc (l : List UInt8) (x : UInt8) : adlS (l ++ [x]) = adl (adlS l) x := by simp [adlS]
theorem adl_lt {ab : Nat × Nat} (x : UInt8) : (adl ab x).1 < 65521 ∧ (adl ab x).2 < 65521 := ⟨Nat.mod_lt _ (by decide), Nat.mod_lt _ (by decide)⟩
theorem adlS_lt (l : List UInt8) : (adlS l).1 < 65521 ∧ (adlS l).2 < 65521 := by
  rcases List.eq_nil_or_concat l with rfl | ⟨m, x, rfl⟩
  · exact ⟨by decide, by decide⟩
  · rw [List.concat_eq_append, adlS_snoc]; exact adl_lt x
theorem adler_lt (l : List UInt8) : adler l < 2 ^ 32 := by
  have := adlS_lt l
  unfold adler; omega

/-- a record: what one call has done -/
structure Rc where
  kind : Nat
  lane : Nat
  num : Nat
  pass : Bool
  edits : List Ed

/-- what follows the length -/
def Rc.body (r : Rc) : List UInt8 :=
  (if r.kind = 1 then be 1 r.lane ++ be 1 r.edits.length ++ r.edits.flatMap edB else []) ++
  (if r.kind = 4 then be 1 (if r.pass then 1 else 0) else []) ++
  (if r.kind ≠ 3 ∧ r.kind ≠ 7 then be 8 r.num else [])
def Rc.head (r : Rc) : List UInt8 := be 1 r.kind ++ be 4 r.body.length ++ r.body
def Rc.bytes (r : Rc) : List UInt8 := r.head ++ be 4 (adler r.head)
end Go.Proofs.YtgamgomepdfgdaaGreat

namespace Go.Proofs.YtgamgomepdfgdaaGreat
open Go.RowKit

theorem jcell_lt {w : World} {b o : Nat} {v : Value} (h : w.cell? ⟨b, o, none⟩ = some v) : b < w.heap.size := by
  by_cases hb : b < w.heap.size
  · exact hb
  · have : w.heap[b]? = none := Array.getElem?_eq_none (by omega)
    simp [World.cell?, this] at h
theorem jcell_after {w w' : World} {b o : Nat} {v : Value} (hb : Below w.heap.size w w') (h : w.cell? ⟨b, o, none⟩ = some v) : w'.cell? ⟨b, o, none⟩ = some v :=
  (World.cell?_of_block (w := w) (hb.block b (jcell_lt h))).trans h

theorem cell_one_new (w : World) (v : Value) (t : TypeId) : (w.alloc (.cells #[v] t)).cell? ⟨w.heap.size, 0, none⟩ = some v := by simp

theorem below_drew {w w1 : World} (hb : Below w.drew.heap.size w.drew w1) : Below w.heap.size w w1 := ⟨hb.os, hb.tape, hb.output, hb.size, hb.block⟩
theorem below_mk {w w1 : World} {o : Obj} (hb : Below (w.alloc o).heap.size (w.alloc o) w1) : Below w.heap.size w w1 := ((Below.refl _ _).alloc (Nat.le_refl _) o).trans (hb.mono (by simp))
theorem below_mk_draw {w w1 : World} {o : Obj} (hb : Below (w.alloc o).drew.heap.size (w.alloc o).drew w1) : Below w.heap.size w w1 := below_mk (below_drew hb)
theorem below_draw_mk {w w1 : World} (hb : Below w.drew.heap.size w.drew w1) (o : Obj) : Below w.heap.size w (w1.alloc o) := (below_drew hb).alloc hb.size o

theorem conv_byte (w : World) (g : Nat) (b : UInt8) (h : w.cell? ⟨g, 0, none⟩ = some (.int .u8 b.toNat)) : (convert 114 9 (.slice (some ⟨g, 0, none⟩) 1 1)).run Tryz.prog w = .ok (.string (bs [b])) w := by
  refine run_convert_bytes_back (P := Tryz.prog) _ _ _ 5 ⟨g, 0, none⟩ 1 [b] Tryz.underlying114 (by kernel_rfl) (by kernel_rfl) fun j hj => ?_
  have : j = 0 := by simpa using hj
  subst this
  rw [addr_add]
  simpa using h

theorem wrap_i64 {n : Int} (h : -9223372036854775808 ≤ n) (h' : n < 9223372036854775808) : IntKind.i64.wrap n = n := by
  simp [IntKind.wrap, IntKind.bits, IntKind.signed]; omega
theorem wrap_u8 {n : Int} (h : 0 ≤ n) (h' : n < 256) : IntKind.u8.wrap n = n := by
  simp [IntKind.wrap, IntKind.bits, IntKind.signed]; omega
theorem wrap_u32 {n : Int} (h : 0 ≤ n) (h' : n < 4294967296) : IntKind.u32.wrap n = n := by
  simp [IntKind.wrap, IntKind.bits, IntKind.signed]; omega
theorem wrap_u64 {n : Int} (h : 0 ≤ n) (h' : n < 18446744073709551616) : IntKind.u64.wrap n = n := by
  simp [IntKind.wrap, IntKind.bits, IntKind.signed]; omega
theorem byte_nat {n : Nat} (h : n < 256) : ((UInt8.ofNat n).toNat : Int) = n := by
  rw [UInt8.toNat_ofNat']; omega

set_option maxRecDepth 100000 in
set_option maxHeartbeats 400000 in
theorem written_any : ∀ (k n : Nat) (w : World), n < 9223372036854775808 → k < 64 →
    Calls Tryz.prog 180 #[.int .i64 n, .int .i64 k] w fun e w' => e = .returned (.string (bs (be k n))) ∧ Below w.heap.size w w'
  | 0, n, w, _, _ => by
    go_enter Tryz.func180, Tryz.ntmps180
    go_wp2
    go_ret
    exact ⟨rfl, Below.refl _ _⟩
  | k + 1, n, w, hn, hk => by
    have e1 : ((n / 256 : Nat) : Int) = (n : Int) / 256 := by omega
    have e2 : ((n % 256 : Nat) : Int) = (n : Int) % 256 := by omega
    have hw1 : IntKind.i64.wrap ((n : Int) / 256) = (n : Int) / 256 := wrap_i64 (by omega) (by omega)
    have hw2 : IntKind.i64.wrap (k : Int) = k := wrap_i64 (by omega) (by omega)
    have hr : (n : Int).tmod 256 = (n : Int) % 256 := Int.tmod_eq_emod_of_nonneg (by omega)
    have hw3 : IntKind.u8.wrap ((n : Int) % 256) = (n : Int) % 256 := wrap_u8 (by omega) (by omega)
    have ih : ∀ w', Calls Tryz.prog 180 #[.int .i64 ((n : Int) / 256), .int .i64 k] w' fun e w'' => e = .returned (.string (bs (be k (n / 256)))) ∧ Below w'.heap.size w' w'' := fun w' => by
      rw [← e1]; exact written_any k (n / 256) w' (by omega) (by omega)
    have hc : ∀ (w : World) (g : Nat), w.cell? ⟨g, 0, none⟩ = some (.int .u8 ((n : Int) % 256)) → (convert 114 9 (.slice (some ⟨g, 0, none⟩) 1 1)).run Tryz.prog w = .ok (.string (bs [UInt8.ofNat (n % 256)])) w := fun w g h => conv_byte w g _ (by
      rw [h, byte_nat (by omega), e2])
    have hs1 : (bs (be k (n / 256))).size = k := by rw [bs_size, be_len]
    have hs2 : (bs [UInt8.ofNat (n % 256)]).size = 1 := rfl
    clear e1 e2
    go_enter Tryz.func180, Tryz.ntmps180
    go_wp2
    go_region_held_law (fun _ => True) (go_keep) ((go_at_call 180; go_fit (ih _); rintro e w1 ⟨rfl, hb⟩; try (have cc : w1.cell? ⟨w.heap.size, 0, none⟩ = some (.int .u8 ((n : Int) % 256)) := jcell_after hb (cell_one_new w.drew _ _))))
    all_goals
      go_wp2
      go_ret
      refine ⟨by rw [be_succ, ← bs_append]; rfl, ?_⟩
      first
        | exact below_mk_draw hb
        | exact below_draw_mk hb _

set_option maxHeartbeats 400000 in
theorem text_any (s : ByteArray) (w : World) (hs : s.size < 9223372036854775000) :
    Calls Tryz.prog 181 #[.string s] w fun e w' => e = .returned (.string (bs (txt s))) ∧ Below w.heap.size w w' := by
  have hW := written_any 1 s.size w (by omega) (by omega)
  have hs1 : (bs (be 1 s.size)).size = 1 := by rw [bs_size, be_len]
  go_enter Tryz.func181, Tryz.ntmps181
  go_wp2_with (go_at_call 180; go_fit hW; rintro e w1 ⟨rfl, hb⟩)
  go_ret
  exact ⟨by rw [txt, ← bs_append, bs_data]; rfl, hb⟩

theorem wrap64_in {n : Int} (h : -9223372036854775808 ≤ n) (h' : n < 9223372036854775808) : wrap64 n = n := by unfold wrap64; omega
theorem adl_one {A : Nat} (x : UInt8) (hA : A < 65521) : (wrap64 ((A : Int) + wrap64 (x.toNat : Int))).tmod 65521 = (((A + x.toNat) % 65521 : Nat) : Int) := by
  have hx := x.toNat_lt
  rw [wrap64_in (n := (x.toNat : Int)) (by omega) (by omega), wrap64_in (by omega) (by omega), Int.tmod_eq_emod_of_nonneg (by omega)]
  omega
theorem adl_two {B C : Nat} (hB : B < 65521) (hC : C < 65521) : (wrap64 ((B : Int) + (C : Int))).tmod 65521 = (((B + C) % 65521 : Nat) : Int) := by
  rw [wrap64_in (by omega) (by omega), Int.tmod_eq_emod_of_nonneg (by omega)]
  omega
theorem adl_take {s : ByteArray} {i : Nat} (h : i < s.size) : adlS (s.data.toList.take (i + 1)) = adl (adlS (s.data.toList.take i)) s[i] := by
  have h' : i < s.data.toList.length := by simpa using h
  rw [List.take_succ_eq_append_getElem h', adlS_snoc]
  rfl

set_option maxRecDepth 100000 in
set_option maxHeartbeats 400000 in
theorem refsum_any (s : ByteArray) (w : World) (hs : s.size < 9223372036854775000) :
    Calls Tryz.prog 182 #[.string s] w fun e w' => e = .returned (.int .i64 (adler s.data.toList)) ∧ w' = w := by
  go_enter Tryz.func182, Tryz.ntmps182
  go_wp2
  go_loop [3, 4, 5] (fun a b i => ∃ k : Nat, k ≤ s.size ∧ i = .int .i64 k ∧ a = .int .i64 (adlS (s.data.toList.take k)).1 ∧ b = .int .i64 (adlS (s.data.toList.take k)).2) (fun _ _ i => s.size - (intOf i).toNat)
  case atStart => exact ⟨0, Nat.zero_le _, rfl, rfl, rfl⟩
  case round =>
    obtain ⟨k, hk, rfl, rfl, rfl⟩ := hrel
    have hlt := adlS_lt (s.data.toList.take k)
    by_cases hlk : k < s.size
    · have he := adl_take hlk
      have h1 := adl_one s[k] hlt.1
      have h2 := adl_two hlt.2 (Nat.mod_lt ((adlS (s.data.toList.take k)).1 + s[k].toNat) (by decide : 65521 > 0))
      go_wp2
      refine ⟨⟨k + 1, hlk, by go_num, ?_, ?_⟩, by simp [intOf]; omega⟩
      · rw [he]; simp [adl]
      · rw [he]; simp [adl]
    · obtain rfl : k = s.size := by omega
      have e : s.data.toList.take s.size = s.data.toList := List.take_of_length_le (by simp)
      rw [e] at hlt ⊢
      have h3 : wrap64 (wrap64 (((adlS s.data.toList).2 : Int) * 65536) + ((adlS s.data.toList).1 : Int)) = (adler s.data.toList : Int) := by
        unfold adler
        rw [wrap64_in (n := ((adlS s.data.toList).2 : Int) * 65536) (by omega) (by omega), wrap64_in (by omega) (by omega)]
        omega
      go_wp2
      go_ret
      exact ⟨by rw [show (adler s.data.toList : Int) = ((adlS s.data.toList).2 : Int) * 65536 + ((adlS s.data.toList).1 : Int) by simp [adler]]; rfl, rfl⟩
end Go.Proofs.YtgamgomepdfgdaaGreat
