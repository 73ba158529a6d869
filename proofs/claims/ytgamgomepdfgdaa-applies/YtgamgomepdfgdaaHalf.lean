import Derived.Test.YtgamgomepdfgdaaProg
import Derived.Test.YtgamgomepdfgdaaMem
import Derived.WalkLawsBesides
namespace Go.Proofs.Ytgamgomepdfgdaa
open Go.RowKit

theorem cell_lt {w : World} {b o : Nat} {v : Value} (h : w.cell? ⟨b, o, none⟩ = some v) : b < w.heap.size := by
  by_cases hb : b < w.heap.size
  · exact hb
  · have : w.heap[b]? = none := Array.getElem?_eq_none (by omega)
    simp [World.cell?, this] at h
theorem cell_after {w w' : World} {b o : Nat} {v : Value} (hb : Below w.heap.size w w') (h : w.cell? ⟨b, o, none⟩ = some v) : w'.cell? ⟨b, o, none⟩ = some v :=
  (World.cell?_of_block (w := w) (hb.block b (cell_lt h))).trans h
theorem frozen_after {w w' : World} {b o : Nat} (hb : Below w.heap.size w w') (hl : b < w.heap.size) (h : w.frozen? ⟨b, o, none⟩ = false) : w'.frozen? ⟨b, o, none⟩ = false := by
  rw [← h]
  have := hb.block b hl
  simp [World.frozen?, this]

/-- the list in hand: so many edits stand in it already -/
def Half (w : World) (g n k : Nat) (es : List Ed) : Prop :=
  g < w.heap.size ∧ (∀ j, j < n * 3 → (∃ v, w.cell? ⟨g, j, none⟩ = some v) ∧ w.frozen? ⟨g, j, none⟩ = false) ∧
  ∀ i (h : i < es.length), i < k → w.cell? ⟨g, i * 3, none⟩ = some (.string es[i].1) ∧ w.cell? ⟨g, i * 3 + 1, none⟩ = some (.string es[i].2.1) ∧ w.cell? ⟨g, i * 3 + 2, none⟩ = some (.string es[i].2.2)

theorem Half.later {w w' : World} {g n k : Nat} {es : List Ed} (h : Half w g n k es) (hb : Below w.heap.size w w') : Half w' g n k es := by
  refine ⟨Nat.lt_of_lt_of_le h.1 hb.size, fun j hj => ⟨?_, frozen_after hb h.1 (h.2.1 j hj).2⟩, fun i hi hk => ?_⟩
  · obtain ⟨v, hv⟩ := (h.2.1 j hj).1
    exact ⟨v, cell_after hb hv⟩
  · obtain ⟨h0, h1, h2⟩ := h.2.2 i hi hk
    exact ⟨cell_after hb h0, cell_after hb h1, cell_after hb h2⟩

theorem Half.set {w : World} {g n k : Nat} {es : List Ed} (h : Half w g n k es) (hk : k < es.length) (hn : es.length = n) :
    Half (((w.setCell ⟨g, k * 3, none⟩ (.string es[k].1)).setCell ⟨g, k * 3 + 1, none⟩ (.string es[k].2.1)).setCell ⟨g, k * 3 + 2, none⟩ (.string es[k].2.2)) g n (k + 1) es := by
  obtain ⟨hg, ha, hd⟩ := h
  have ne : ∀ {i j : Nat}, i ≠ j → (⟨g, i, none⟩ : Addr) ≠ ⟨g, j, none⟩ := fun h e => h (by injection e)
  refine ⟨by simpa [World.setCell] using hg, fun j hj => ⟨?_, ?_⟩, fun i hi hik => ?_⟩
  · obtain ⟨v, hv⟩ := (ha j hj).1
    obtain ⟨v1, h1⟩ := cell?_setCell_some (p := ⟨g, k * 3, none⟩) (x := .string es[k].1) hv
    obtain ⟨v2, h2⟩ := cell?_setCell_some (p := ⟨g, k * 3 + 1, none⟩) (x := .string es[k].2.1) h1
    exact cell?_setCell_some h2
  · rw [World.frozen?_setCell, World.frozen?_setCell, World.frozen?_setCell]; exact (ha j hj).2
  · by_cases e : i = k
    · subst e
      obtain ⟨v0, h0⟩ := (ha (i * 3) (by omega)).1
      obtain ⟨v1, h1⟩ := (ha (i * 3 + 1) (by omega)).1
      obtain ⟨v2, h2⟩ := (ha (i * 3 + 2) (by omega)).1
      refine ⟨?_, ?_, ?_⟩
      · rw [World.cell?_setCell_other _ _ _ _ (ne (by omega)), World.cell?_setCell_other _ _ _ _ (ne (by omega))]
        exact World.cell?_setCell_same _ _ _ h0
      · rw [World.cell?_setCell_other _ _ _ _ (ne (by omega))]
        exact World.cell?_setCell_same _ _ _ ((World.cell?_setCell_other _ _ _ _ (ne (by omega))).trans h1)
      · exact World.cell?_setCell_same _ _ _ ((World.cell?_setCell_other _ _ _ _ (ne (by omega))).trans ((World.cell?_setCell_other _ _ _ _ (ne (by omega))).trans h2))
    · obtain ⟨h0, h1, h2⟩ := hd i hi (by omega)
      refine ⟨?_, ?_, ?_⟩
      all_goals
        rw [World.cell?_setCell_other _ _ _ _ (ne (by omega)), World.cell?_setCell_other _ _ _ _ (ne (by omega)), World.cell?_setCell_other _ _ _ _ (ne (by omega))]
        assumption

theorem Half.made {w : World} {base n : Nat} {e : TypeId} {g : Nat} {xs : List Value} {es : List Ed} (h : w.ownsRow base e 3 (.slice (some ⟨g, 0, none⟩) n n) n xs) : Half w g n 0 es := by
  rcases h.2 with ⟨hnil, _⟩ | ⟨g', cap', cur, hv, hb, hg, hnc, hcm, hcs, htk⟩
  · cases hnil
  cases hv
  have hl : g < w.heap.size := (Array.getElem?_eq_some_iff.1 hg).1
  refine ⟨hl, fun j hj => ⟨⟨cur[j]'(by omega), ?_⟩, ?_⟩, fun i _ h => by omega⟩
  · simp [World.cell?, hg]
  · simp [World.frozen?, hg]
end Go.Proofs.Ytgamgomepdfgdaa
