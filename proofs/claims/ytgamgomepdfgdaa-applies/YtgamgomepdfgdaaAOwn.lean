import Derived.Test.YtgamgomepdfgdaaAppC
import Derived.Test.YtgamgomepdfgdaaOwnW
import Derived.Test.YtgamgomepdfgdaaLooks
import Derived.Test.YtgamgomepdfgdaaReads
namespace Go.Proofs.Ytgamgomepdfgdaa
open Go.RowKit

theorem row_same {w w' : World} {base : Nat} {e : TypeId} {size : Nat} {v : Value} {n : Nat} {xs : List Value} (h : w.ownsRow base e size v n xs) (hb : ∀ g, v.ownBlock = some g → w'.heap[g]? = w.heap[g]?) : w'.ownsRow base e size v n xs := by
  refine ⟨h.1, ?_⟩
  rcases h.2 with h | ⟨g, cap, cur, h1, h2, h3, h4⟩
  · exact .inl h
  · exact .inr ⟨g, cap, cur, h1, h2, by rw [hb g (by rw [h1]; rfl), h3], h4⟩
theorem row_lo {w : World} {base : Nat} {e : TypeId} {size : Nat} {v : Value} {n : Nat} {xs : List Value} (h : w.ownsRow base e size v n xs) {g : Nat} (hg : v.ownBlock = some g) : base ≤ g ∧ g < w.heap.size := by
  rcases h.2 with ⟨rfl, _⟩ | ⟨g', cap, cur, rfl, h2, h3, _⟩
  · cases hg
  · cases hg; exact ⟨h2, (Array.getElem?_eq_some_iff.1 h3).1⟩

/-- the book with these lists, all of which read as their marks -/
structure Booked (W w' : World) (B bb : Nat) (rs : List En) : Prop where
  below : Below B W w'
  size : W.heap.size ≤ w'.heap.size
  ents : ∀ r ∈ rs, Ent w' r
  book : ∃ va vcap, w'.heap[bb]? = some (.cells (boxOf (.slice va rs.length vcap)) 38 (0, 0)) ∧ w'.ownsRow B 64 2 (.slice va rs.length vcap) rs.length (rs.flatMap cN)

/-- the first list goes into the book -/
theorem own_first (xs : List Value) (a : Option Addr) (n cap bb B : Nat) (w : World) (hbox : w.heap[bb]? = some (.cells (boxOf nilS) 38 (0, 0))) (hBb : B ≤ bb)
    (hown : w.ownsRow B 47 2 (.slice a n cap) n xs) (hn : Hid ((n + 100) * 32 ≤ 140737488355328)) (hln : n < 8796093022208) :
    Calls Try.prog 10 #[.pointer (some ⟨bb, 0, none⟩), .slice a n cap] w fun e w' => e = .returned (.tuple #[]) ∧
      ∃ rs : List En, rs.length = 4 ∧ Fit 0 (n + 3) rs ∧ Booked w w' B bb rs ∧ (∀ k, k < w.heap.size → k ≠ bb → (Value.slice a n cap).ownBlock ≠ some k → w'.heap[k]? = w.heap[k]?) ∧
        (∀ r ∈ rs, ∀ q, r.1.ownBlock = some q → q = bb ∨ (Value.slice a n cap).ownBlock = some q ∨ w.heap.size ≤ q) := by
  have hbl : bb < w.heap.size := lt_of_heap hbox
  have hSB : ∀ q, (q = bb ∨ (Value.slice a n cap).ownBlock = some q) → B ≤ q := fun q h => by
    rcases h with rfl | h
    · exact hBb
    · exact (row_lo hown h).1
  refine (own_walk xs a n cap bb B none 0 [] (fun q => q = bb ∨ (Value.slice a n cap).ownBlock = some q) w (.inl rfl) ⟨hbox, World.ownsRow_nil _ _ _ _, fun q h => (by cases h), .inl rfl⟩ hown (fun q h => .inr h) (fun r h => by cases h) (fun r h => by cases h) (by omega) hn hln).mono ?_
  rintro e w' ⟨rfl, lv, V, rs, hl, hf, hst, hbk⟩
  simp only [List.nil_append, List.length_nil] at hst hbk hf
  refine ⟨rfl, rs, hl, hf, ⟨hst.kept.below (by omega) hSB, hst.kept.size, fun r hr => (hst.ents r hr).1, ?_⟩, fun k hk h1 h2 => hst.kept.block k hk (fun h => by
    rcases h with h | h
    · exact h1 h
    · exact h2 h), fun r hr q hq => ?_⟩
  · obtain ⟨va, vcap, rfl⟩ := row_shape hbk.row
    exact ⟨va, vcap, hbk.box, hbk.row⟩
  · rcases hst.eb r hr q hq with (h | h) | h
    · exact .inl h
    · exact .inr (.inl h)
    · exact .inr (.inr h)

/-- the second one -/
theorem own_second (xs : List Value) (a : Option Addr) (n cap bb B : Nat) (rs : List En) (w0 w : World) (hk : Booked w0 w B bb rs) (hl4 : rs.length = 4) (hBb : B ≤ bb) (hBw : B ≤ w.heap.size)
    (hel : ∀ r ∈ rs, Elsewhere (.slice a n cap) r) (heB : ∀ r ∈ rs, ∀ q, r.1.ownBlock = some q → B ≤ q)
    (hown : w.ownsRow B 47 2 (.slice a n cap) n xs) (hn : Hid ((n + 100) * 32 ≤ 140737488355328)) (hln : n < 8796093022208) :
    Calls Try.prog 10 #[.pointer (some ⟨bb, 0, none⟩), .slice a n cap] w fun e w' => e = .returned (.tuple #[]) ∧
      ∃ new : List En, new.length = 4 ∧ Fit 4 (n + 3) new ∧ Booked w w' B bb (rs ++ new) := by
  obtain ⟨va, vcap, hbox, hrow⟩ := hk.book
  refine (own_walk xs a n cap bb B va vcap rs (fun q => B ≤ q) w (.inr hl4) ⟨hbox, hrow, fun q h => .inl (row_lo hrow h).1, hBb⟩ hown (fun q h => (row_lo hown h).1) (fun r hr => ⟨hk.ents r hr, hel r hr⟩) (fun r hr q hq => .inl (heB r hr q hq)) hBw hn hln).mono ?_
  rintro e w' ⟨rfl, lv, V, new, hl, hf, hst, hbk⟩
  rw [hl4] at hf
  refine ⟨rfl, new, hl, hf, ⟨hst.kept.below hBw (fun _ h => h), hst.kept.size, fun r hr => (hst.ents r hr).1, ?_⟩⟩
  obtain ⟨va, vcap, rfl⟩ := row_shape hbk.row
  exact ⟨va, vcap, hbk.box, hbk.row⟩

/-- a look at the book -/
theorem looks_booked (n bb B : Nat) (rs new : List En) (w0 w : World) (hk : Booked w0 w B bb (rs ++ new)) (h1 : rs.length = 4) (h2 : new.length = 4) (f1 : Fit 0 (n + 3) rs) (f2 : Fit 4 (n + 3) new) (hln : n < 8796093022208) :
    Calls Try.prog 11 #[.pointer (some ⟨bb, 0, none⟩)] w fun e w' => e = .returned (.bool true) ∧ Below w.heap.size w w' := by
  obtain ⟨va, vcap, hbox, hrow⟩ := hk.book
  refine looks_any bb B (rs ++ new) va vcap w hbox hrow (fun r hr => ⟨hk.ents r hr, ?_⟩) (by rw [List.length_append, h1, h2]; exact Nat.le_refl _)
  rcases List.mem_append.1 hr with h | h
  · have := f1 r h
    exact ⟨.inl this.1, by omega⟩
  · have := f2 r h
    exact ⟨.inr this.1, by omega⟩

theorem same_yes (l : List Fl) (va vb : Value) (w : World) (ha : FilesAt w va l) (hb : FilesAt w vb l) (hn : l.length < 8796093022208) :
    Calls Try.prog 9 #[va, vb] w fun e w' => e = .returned (.bool true) ∧ Below w.heap.size w w' := by
  refine (sameFiles_any l l va vb w ha hb hn).mono ?_
  rintro e w' ⟨⟨r, rfl, hr⟩, hd⟩
  rw [hr.2 rfl]
  exact ⟨rfl, hd.below⟩
theorem sameE_yes (l : List Ed) (va vb : Value) (w : World) (ha : EditsAt w va l) (hb : EditsAt w vb l) (hn : l.length < 8796093022208) :
    Calls Try.prog 12 #[va, vb] w fun e w' => e = .returned (.bool true) ∧ Below w.heap.size w w' := by
  refine (sameEdits_any l l va vb w ha hb hn).mono ?_
  rintro e w' ⟨⟨r, rfl, hr⟩, hd⟩
  rw [hr.2 rfl]
  exact ⟨rfl, hd.below⟩
end Go.Proofs.Ytgamgomepdfgdaa
