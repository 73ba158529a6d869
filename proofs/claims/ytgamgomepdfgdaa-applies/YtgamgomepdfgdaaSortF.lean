import Derived.Test.YtgamgomepdfgdaaCmp
import Derived.Test.YtgamgomepdfgdaaMem
import Derived.Test.YtgamgomepdfgdaaShelf
import Derived.Sort.Grow
namespace Go.Proofs.Ytgamgomepdfgdaa
open Go.RowKit Go.Sort Go.Shelf

theorem flat_eq (l : List Fl) : (flatK cF 2 l.toArray).toList = l.flatMap cF := by
  apply List.ext_getElem?
  intro t
  by_cases ht : t < l.length * 2
  · have h1 : t / 2 < l.length := by omega
    have e : t = t / 2 * 2 + t % 2 := by omega
    have hr : (l.flatMap cF)[t]? = (cF l[t / 2])[t % 2]? := by
      conv => lhs; rw [e]
      exact flat_get cF 2 (fun _ => rfl) l (t / 2) (t % 2) h1 (by omega)
    have hs : t < (flatK cF 2 l.toArray).size := by rw [size_flatK]; simpa using ht
    rw [hr, Array.getElem?_toList, Array.getElem?_eq_getElem hs, ← getElem!_pos _ t hs, get_flatK _ _ _ t (by simpa using ht)]
    have e2 : (l.toArray)[t / 2]! = l[t / 2] := by rw [getElem!_pos l.toArray (t / 2) (by simpa using h1)]; simp
    rw [e2]
    have h2 : t % 2 < (cF l[t / 2]).length := by show t % 2 < 2; omega
    rw [getElem!_pos (cF l[t / 2]) (t % 2) h2, List.getElem?_eq_getElem h2]
  · rw [List.getElem?_eq_none (by rw [Array.length_toList, size_flatK]; simp; omega), List.getElem?_eq_none (by rw [flat_len cF 2 (fun _ => rfl)]; omega)]

theorem flat_size (l : List Fl) : (flatK cF 2 l.toArray).size = l.length * 2 := by rw [size_flatK]; simp

theorem holdsK_row {w : World} {g : Nat} {cur : Array Value} {e : TypeId} {l : List Fl} (hb : w.heap[g]? = some (.cells cur e (0, 0))) (ht : cur.toList.take (l.length * 2) = l.flatMap cF) : HoldsK cF 2 w g 0 l.toArray := by
  intro j hj
  have hj' : j < l.length * 2 := by rw [flat_size] at hj; exact hj
  refine ⟨?_, by simp [World.frozen?, hb]⟩
  have h1 : (cur.toList.take (l.length * 2))[j]? = (flatK cF 2 l.toArray).toList[j]? := by rw [ht, flat_eq]
  rw [List.getElem?_take_of_lt hj', Array.getElem?_toList, Array.getElem?_toList, Array.getElem?_eq_getElem hj] at h1
  simp only [World.cell?, hb, Nat.zero_add]
  simp only [Option.isSome_none, Bool.false_eq_true, if_false]
  rw [h1, getElem!_pos (flatK cF 2 l.toArray) j hj]
  rfl

theorem heap_sortedK {w : World} {g n : Nat} {os : Array Obj} {cur : Array Value} {e : TypeId} {fr : Nat × Nat} (d : Array Fl) (hb : w.heap[g]? = some (.cells cur e fr)) :
    (sortWorldK cF 2 w g 0 n d os).heap[g]? = some (.cells (putCells id 0 (flatK cF 2 d) cur) e fr) := by
  have hg : g < w.heap.size := (Array.getElem?_eq_some_iff.1 hb).1
  unfold sortWorldK putRowK
  rw [heap_grow_old _ _ (by simpa [putRow, mapBlock, Sort.ahead] using hg)]
  simp [putRow, mapBlock, Sort.ahead, Array.getElem?_modify, hb, onCells]

theorem grownBy_sortedK {w : World} {g n : Nat} {os : Array Obj} (d : Array Fl) : w.grownBy (sortWorldK cF 2 w g 0 n d os) (some g) := by
  unfold sortWorldK putRowK
  refine ⟨rfl, rfl, rfl, by simp [putRow, mapBlock, Sort.ahead, grow], fun k hk hne => ?_⟩
  rw [heap_grow_old _ _ (by simpa [putRow, mapBlock, Sort.ahead] using hk)]
  have : g ≠ k := fun e => hne (by rw [e])
  simp [putRow, mapBlock, Sort.ahead, Array.getElem?_modify, this]

theorem take_putCellsK (cur F : Array Value) (h : F.size ≤ cur.size) : (putCells id 0 F cur).toList.take F.size = F.toList := by
  apply List.ext_getElem?
  intro j
  by_cases hj : j < F.size
  · rw [List.getElem?_take_of_lt hj, Array.getElem?_toList, Array.getElem?_toList]
    simp [putCells, hj, show j < cur.size by omega]
  · rw [List.getElem?_take_eq_none (by omega), List.getElem?_eq_none (by simp; omega)]

theorem ownsRow_sortedK {w : World} {base g cap n : Nat} {e : TypeId} {os : Array Obj} {cur : Array Value} {ss ts : List Fl} (hl : ts.length = ss.length) (hbase : base ≤ g) (hb : w.heap[g]? = some (.cells cur e (0, 0)))
    (h1 : ss.length ≤ cap) (h2 : cap ≤ maxLen) (h3 : cur.size = cap * 2) :
    (sortWorldK cF 2 w g 0 n ts.toArray os).ownsRow base e 2 (.slice (some ⟨g, 0, none⟩) ss.length cap) ss.length (ts.flatMap cF) := by
  refine ⟨by rw [flat_len cF 2 (fun _ => rfl), hl], .inr ⟨g, cap, _, rfl, hbase, heap_sortedK _ hb, h1, h2, by simp [putCells, h3], ?_⟩⟩
  rw [← hl, ← flat_size ts, ← flat_eq ts]
  exact take_putCellsK cur _ (by rw [flat_size]; omega)

/-- the order of the sort -/
def cmpF (x y : Fl) : Int := Lib.compareBytes x.1.data.toList y.1.data.toList

theorem compareBytes_neg : ∀ (a b : List UInt8), Lib.compareBytes a b < 0 ↔ a < b
  | [], [] => by simp [Lib.compareBytes]
  | [], _ :: _ => by simp [Lib.compareBytes]
  | _ :: _, [] => by simp [Lib.compareBytes]
  | a :: x, b :: y => by
    unfold Lib.compareBytes
    rw [List.cons_lt_cons_iff]
    by_cases h1 : a < b
    · simp [h1]
    · by_cases h2 : b < a
      · have : a ≠ b := fun e => by subst e; exact absurd h2 h1
        simp [h1, h2, this]
      · have : a = b := UInt8.le_antisymm (UInt8.not_lt.1 h2) (UInt8.not_lt.1 h1)
        simp [this, compareBytes_neg x y]

theorem ltF (x y : Fl) : ltOf cmpF x y = decide (x.1.data.toList < y.1.data.toList) := by
  unfold ltOf cmpF; rw [decide_eq_decide]; exact compareBytes_neg _ _

theorem swoF : SWO (ltOf cmpF) where
  irrefl x := by rw [ltF]; simp
  trans x y z h1 h2 := by rw [ltF] at *; simp at *; exact List.lt_trans h1 h2
  ntrans x y z h1 h2 := by
    rw [ltF] at *
    simp only [decide_eq_false_iff_not, List.not_lt] at *
    exact List.le_trans h2 h1

theorem cmpLaysF (blk off size : Nat) (w : World) : CmpLays Try.prog 37 #[] cF 2 cmpF blk off size w := by
  intro m os dk _ x y
  refine (closure_cmp x.1 x.2 y.1 y.2 _).mono ?_
  rintro e w' ⟨rfl, rfl⟩
  exact ⟨rfl, 0, _, by rw [alloc_eq_grow, alloc_eq_grow, grow_grow]; rfl⟩

set_option maxHeartbeats 1000000 in
/-- slices.SortFunc at files of the call's own -/
theorem sort_any (l : List Fl) (g cap base : Nat) (w : World) (hrow : w.ownsRow base 47 2 (.slice (some ⟨g, 0, none⟩) l.length cap) l.length (l.flatMap cF)) (hn : l.length < 8796093022208) :
    Calls Try.prog 36 #[.slice (some ⟨g, 0, none⟩) l.length cap, .func (.func 37) #[] #[]] w fun e w' =>
      e = .returned (.tuple #[]) ∧ (∃ l' : List Fl, l'.Perm l ∧ l'.Pairwise (fun a b => ¬ b.1.data.toList < a.1.data.toList) ∧ w'.ownsRow base 47 2 (.slice (some ⟨g, 0, none⟩) l'.length cap) l'.length (l'.flatMap cF)) ∧ w.grownBy w' (some g) := by
  rcases hrow.2 with ⟨hnil, _⟩ | ⟨g', cap', cur, hv, hbase, hb, h1, h2, h3, h4⟩
  · cases hnil
  cases hv
  have eg : ∀ args w, (callFunc 37 args).run Try.prog w = .ok (.enter 37 args) w := enters_of Try.func37 (by kernel_rfl) rfl
  have hcon := AnyQ.slices_SortFunc Try.sortF 2 Try.isAgg47 Try.sizeOf47 cF (fun _ => rfl) (fun x v hv => by simp [cF] at hv; rcases hv with rfl | rfl <;> rfl) cmpF swoF 37 #[] g 0 cap l.toArray w eg (cmpLaysF g 0 _ w) (holdsK_row hb h4) (Array.getElem?_eq_some_iff.1 hb).1 (by simp; omega)
  have hcon' : Calls Try.prog 36 #[.slice (some ⟨g, 0, none⟩) l.length cap, .func (.func 37) #[] #[]] w _ := hcon
  refine hcon'.mono ?_
  rintro e w' ⟨rfl, d', n, os, hp, hs, rfl⟩
  have hsz : d'.size = l.length := by simpa using hp.1
  have e1 : d' = d'.toList.toArray := by simp
  have hperm : d'.toList.Perm l := by
    have h := hp.2.2
    have e2 : d'.extract 0 l.toArray.size = d' := by rw [List.size_toArray, ← hsz]; exact Array.extract_size
    have e3 : l.toArray.extract 0 l.toArray.size = l.toArray := Array.extract_size
    rw [e2, e3] at h
    exact h
  refine ⟨rfl, ⟨d'.toList, hperm, ?_, ?_⟩, grownBy_sortedK _⟩
  · rw [List.pairwise_iff_getElem]
    intro i j hi hj hij
    have := hs i j (Nat.zero_le _) hij (by simp only [List.size_toArray]; rw [Array.length_toList] at hj; omega)
    rw [ltF, decide_eq_false_iff_not] at this
    rw [Array.length_toList] at hi hj
    rw [getElem!_pos d' i hi, getElem!_pos d' j hj] at this
    simpa using this
  · rw [e1]
    have hl : d'.toList.length = l.length := by rw [Array.length_toList]; exact hsz
    have := ownsRow_sortedK (w := w) (base := base) (g := g) (cap := cap) (n := n) (e := 47) (os := os) (cur := cur) (ss := l) (ts := d'.toList) hl hbase hb h1 h2 h3
    simpa [hl, hsz] using this
end Go.Proofs.Ytgamgomepdfgdaa
