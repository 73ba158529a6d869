import Derived.Test.YtgamgomepdfgdaaPure
import Derived.WalkKit
import Derived.WalkSpells
import Derived.Deep.Draws
namespace Go.Proofs.Ytgamgomepdfgdaa
open Go.RowKit

/-- a bool is returned that says whether p holds -/
def RetIff (e : Ending) (p : Prop) : Prop := ∃ r : Bool, e = .returned (.bool r) ∧ (r = true ↔ p)
theorem RetIff.yes {p : Prop} (h : p) : RetIff (.returned (.bool true)) p := ⟨true, rfl, ⟨fun _ => h, fun _ => rfl⟩⟩
theorem RetIff.no {p : Prop} (h : ¬ p) : RetIff (.returned (.bool false)) p := ⟨false, rfl, ⟨fun x => Bool.noConfusion x, fun x => absurd x h⟩⟩
/-- nothing but draws -/
def Drew (w w' : World) : Prop := ∃ n, w' = w.drewN n
theorem Drew.refl (w : World) : Drew w w := ⟨0, rfl⟩
theorem Drew.one (w : World) (n : Nat) : Drew w (w.drewN n) := ⟨n, rfl⟩
theorem Drew.two (w : World) (n m : Nat) : Drew w ((w.drewN n).drewN m) := ⟨n + m, by simp⟩
theorem Drew.three (w : World) (n m o : Nat) : Drew w (((w.drewN n).drewN m).drewN o) := ⟨n + m + o, by simp⟩
theorem Drew.below {w w' : World} (h : Drew w w') : Below w.heap.size w w' := by
  obtain ⟨n, rfl⟩ := h
  exact ⟨rfl, rfl, rfl, Nat.le_refl _, fun _ _ => rfl⟩

/-- the cells of a file, of an edit -/
def cF (f : Fl) : List Value := [.string f.1, .string f.2]
def cE (e : Ed) : List Value := [.string e.1, .string e.2.1, .string e.2.2]

/-- a slice value that reads as a list of files -/
def FilesAt (w : World) (v : Value) (l : List Fl) : Prop :=
  (l = [] ∧ ∃ a cap, v = .slice a 0 cap) ∨
  ∃ b off cap, v = .slice (some ⟨b, off, none⟩) l.length cap ∧ b < w.heap.size ∧
    (∀ i (h : i < l.length), w.cell? ⟨b, off + i * 2, none⟩ = some (.string l[i].1)) ∧
    (∀ i (h : i < l.length), w.cell? ⟨b, off + i * 2 + 1, none⟩ = some (.string l[i].2))

/-- .. of edits -/
def EditsAt (w : World) (v : Value) (l : List Ed) : Prop :=
  (l = [] ∧ ∃ a cap, v = .slice a 0 cap) ∨
  ∃ b off cap, v = .slice (some ⟨b, off, none⟩) l.length cap ∧ b < w.heap.size ∧
    (∀ i (h : i < l.length), w.cell? ⟨b, off + i * 3, none⟩ = some (.string l[i].1)) ∧
    (∀ i (h : i < l.length), w.cell? ⟨b, off + i * 3 + 1, none⟩ = some (.string l[i].2.1)) ∧
    (∀ i (h : i < l.length), w.cell? ⟨b, off + i * 3 + 2, none⟩ = some (.string l[i].2.2))

theorem FilesAt.kept {w w' : World} {v : Value} {l : List Fl} (h : FilesAt w v l) (hs : w.heap.size ≤ w'.heap.size) (hb : ∀ k, v.ownBlock = some k → k < w.heap.size → w'.heap[k]? = w.heap[k]?) : FilesAt w' v l := by
  rcases h with h | ⟨b, off, cap, rfl, hlt, h0, h1⟩
  · exact .inl h
  · have e := hb b rfl hlt
    exact .inr ⟨b, off, cap, rfl, Nat.lt_of_lt_of_le hlt hs, fun i h => (World.cell?_of_block (w := w) e).trans (h0 i h), fun i h => (World.cell?_of_block (w := w) e).trans (h1 i h)⟩

theorem EditsAt.kept {w w' : World} {v : Value} {l : List Ed} (h : EditsAt w v l) (hs : w.heap.size ≤ w'.heap.size) (hb : ∀ k, v.ownBlock = some k → k < w.heap.size → w'.heap[k]? = w.heap[k]?) : EditsAt w' v l := by
  rcases h with h | ⟨b, off, cap, rfl, hlt, h0, h1, h2⟩
  · exact .inl h
  · have e := hb b rfl hlt
    exact .inr ⟨b, off, cap, rfl, Nat.lt_of_lt_of_le hlt hs, fun i h => (World.cell?_of_block (w := w) e).trans (h0 i h), fun i h => (World.cell?_of_block (w := w) e).trans (h1 i h), fun i h => (World.cell?_of_block (w := w) e).trans (h2 i h)⟩

theorem FilesAt.later {w w' : World} {v : Value} {l : List Fl} (h : FilesAt w v l) (hb : Below w.heap.size w w') : FilesAt w' v l := h.kept hb.size fun k _ hk => hb.block k hk
theorem EditsAt.later {w w' : World} {v : Value} {l : List Ed} (h : EditsAt w v l) (hb : Below w.heap.size w w') : EditsAt w' v l := h.kept hb.size fun k _ hk => hb.block k hk
theorem FilesAt.grown {w w' : World} {v : Value} {l : List Fl} {row : Option Nat} (h : FilesAt w v l) (hg : w.grownBy w' row) (hne : v.ownBlock = none ∨ v.ownBlock ≠ row) : FilesAt w' v l :=
  h.kept hg.size fun k hk hlt => hg.block k hlt (by rcases hne with h | h <;> simp_all)
theorem EditsAt.grown {w w' : World} {v : Value} {l : List Ed} {row : Option Nat} (h : EditsAt w v l) (hg : w.grownBy w' row) (hne : v.ownBlock = none ∨ v.ownBlock ≠ row) : EditsAt w' v l :=
  h.kept hg.size fun k hk hlt => hg.block k hlt (by rcases hne with h | h <;> simp_all)

theorem flat_get {α : Type} (enc : α → List Value) (k : Nat) (hk : ∀ x, (enc x).length = k) : ∀ (l : List α) (i j : Nat) (h : i < l.length), j < k → (l.flatMap enc)[i * k + j]? = (enc l[i])[j]?
  | [], _, _, h, _ => by simp at h
  | x :: l, 0, j, _, hj => by simp [List.getElem?_append_left (show j < (enc x).length by rw [hk]; exact hj)]
  | x :: l, i + 1, j, h, hj => by
    have e : (i + 1) * k + j = (enc x).length + (i * k + j) := by rw [hk]; rw [Nat.add_mul]; omega
    rw [List.flatMap_cons, e, List.getElem?_append_right (by omega), Nat.add_sub_cancel_left]
    exact flat_get enc k hk l i j (by simpa using h) hj

theorem flat_len {α : Type} (enc : α → List Value) (k : Nat) (hk : ∀ x, (enc x).length = k) : ∀ l : List α, (l.flatMap enc).length = l.length * k
  | [] => by simp
  | x :: l => by rw [List.flatMap_cons, List.length_append, hk, flat_len enc k hk l, List.length_cons, Nat.add_mul]; omega

theorem addr_add (g n : Nat) : (⟨g, 0, none⟩ : Addr).add n = ⟨g, 0 + n, none⟩ := by
  unfold Addr.add
  by_cases h : n = 0
  · subst h; simp
  · simp [h]

/-- a row of the call's own, read as files -/
theorem FilesAt.of_row {w : World} {base : Nat} {e : TypeId} {v : Value} {l : List Fl} (h : w.ownsRow base e 2 v l.length (l.flatMap cF)) : FilesAt w v l := by
  rcases h.2 with ⟨rfl, h0⟩ | ⟨g, cap, cur, rfl, hb, hg, _⟩
  · exact .inl ⟨List.length_eq_zero_iff.1 h0, _, _, rfl⟩
  · have hc := h.cells (g := g) rfl
    refine .inr ⟨g, 0, cap, rfl, (Array.getElem?_eq_some_iff.1 hg).1, fun i hi => ?_, fun i hi => ?_⟩
    · have := hc (i * 2 + 0) (.string l[i].1) (by rw [flat_get cF 2 (fun _ => rfl) l i 0 hi (by omega)]; rfl)
      simpa [addr_add] using this
    · have := hc (i * 2 + 1) (.string l[i].2) (by rw [flat_get cF 2 (fun _ => rfl) l i 1 hi (by omega)]; rfl)
      simpa [addr_add] using this

theorem EditsAt.of_row {w : World} {base : Nat} {e : TypeId} {v : Value} {l : List Ed} (h : w.ownsRow base e 3 v l.length (l.flatMap cE)) : EditsAt w v l := by
  rcases h.2 with ⟨rfl, h0⟩ | ⟨g, cap, cur, rfl, hb, hg, _⟩
  · exact .inl ⟨List.length_eq_zero_iff.1 h0, _, _, rfl⟩
  · have hc := h.cells (g := g) rfl
    refine .inr ⟨g, 0, cap, rfl, (Array.getElem?_eq_some_iff.1 hg).1, fun i hi => ?_, fun i hi => ?_, fun i hi => ?_⟩
    · have := hc (i * 3 + 0) (.string l[i].1) (by rw [flat_get cE 3 (fun _ => rfl) l i 0 hi (by omega)]; rfl)
      simpa [addr_add] using this
    · have := hc (i * 3 + 1) (.string l[i].2.1) (by rw [flat_get cE 3 (fun _ => rfl) l i 1 hi (by omega)]; rfl)
      simpa [addr_add] using this
    · have := hc (i * 3 + 2) (.string l[i].2.2) (by rw [flat_get cE 3 (fun _ => rfl) l i 2 hi (by omega)]; rfl)
      simpa [addr_add] using this

/-- x[:n] of a slice that reads as l ++ more -/
theorem FilesAt.cut {w : World} {a : Option Addr} {n cap : Nat} {l m : List Fl} (h : FilesAt w (.slice a n cap) (l ++ m)) : FilesAt w (.slice a l.length cap) l := by
  rcases h with ⟨h, _⟩ | ⟨b, off, cap', hv, hlt, h0, h1⟩
  · have : l = [] := by simp at h; exact h.1
    subst this; exact .inl ⟨rfl, _, _, rfl⟩
  · cases hv
    refine .inr ⟨b, off, cap, rfl, hlt, fun i hi => ?_, fun i hi => ?_⟩
    · rw [h0 i (by simp; omega), List.getElem_append_left hi]
    · rw [h1 i (by simp; omega), List.getElem_append_left hi]
theorem EditsAt.cut {w : World} {a : Option Addr} {n cap : Nat} {l m : List Ed} (h : EditsAt w (.slice a n cap) (l ++ m)) : EditsAt w (.slice a l.length cap) l := by
  rcases h with ⟨h, _⟩ | ⟨b, off, cap', hv, hlt, h0, h1, h2⟩
  · have : l = [] := by simp at h; exact h.1
    subst this; exact .inl ⟨rfl, _, _, rfl⟩
  · cases hv
    refine .inr ⟨b, off, cap, rfl, hlt, fun i hi => ?_, fun i hi => ?_, fun i hi => ?_⟩
    · rw [h0 i (by simp; omega), List.getElem_append_left hi]
    · rw [h1 i (by simp; omega), List.getElem_append_left hi]
    · rw [h2 i (by simp; omega), List.getElem_append_left hi]

end Go.Proofs.Ytgamgomepdfgdaa
