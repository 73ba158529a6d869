import Derived.Test.YtgamgomepdfgdaaListF
import Derived.Test.YtgamgomepdfgdaaMayBe
import Derived.Test.YtgamgomepdfgdaaCopyE
namespace Go.Proofs.Ytgamgomepdfgdaa
open Go.RowKit Go.Maps

theorem ownsRow_base {w : World} {base base' : Nat} {e : TypeId} {size : Nat} {v : Value} {n : Nat} {xs : List Value} (h : w.ownsRow base e size v n xs) (hb : base' ≤ base) : w.ownsRow base' e size v n xs := by
  refine ⟨h.1, ?_⟩
  rcases h.2 with h | ⟨g, cap, cur, h1, h2, h3⟩
  · exact .inl h
  · exact .inr ⟨g, cap, cur, h1, Nat.le_trans hb h2, h3⟩

theorem Half.edits {w : World} {g : Nat} {es : List Ed} (h : Half w g es.length es.length es) : EditsAt w (.slice (some ⟨g, 0, none⟩) es.length es.length) es :=
  .inr ⟨g, 0, es.length, rfl, h.1, fun i hi => by rw [Nat.zero_add]; exact (h.2.2 i hi hi).1, fun i hi => by rw [Nat.zero_add]; exact (h.2.2 i hi hi).2.1, fun i hi => by rw [Nat.zero_add]; exact (h.2.2 i hi hi).2.2⟩

theorem copyEdits_any (es : List Ed) (v : Value) (w : World) (hl : EditsAt w v es) (hok : EditsOK es) :
    Calls Try.prog 25 #[v] w fun e w' => (∃ u, e = .returned u ∧ EditsAt w' u es) ∧ Below w.heap.size w w' := by
  rcases hl with ⟨rfl, _⟩ | ⟨b, off, cap, rfl, hlt, h0, h1, h2⟩
  · have := hok.1; simp at this
  · refine (copyEdits_row es b off cap w hlt h0 h1 h2 hok.2.1 (fun x hx => ?_)).mono ?_
    · have h := (okEd_iff x).1 (hok.2.2.1 x hx)
      exact ⟨by omega, by omega, by omega⟩
    · rintro e w' ⟨⟨g, rfl, hH⟩, hb⟩
      exact ⟨⟨_, rfl, hH.edits⟩, hb⟩

/-- Apply's answer: the list, or the error -/
def TRes (e : Ending) (w w' : World) (l : List Fl) (es : List Ed) : Prop :=
  ((Good okFl Prod.fst l ∧ EditsOK es ∧ ∀ x ∈ es, standsL l x.1 = x.2.1) ∧
    ∃ (l' : List Fl) (b cap : Nat), e = .returned (.tuple #[.slice (some ⟨b, 0, none⟩) l'.length cap, .int .i64 0]) ∧ Told l' (edited (standsL l) es) ∧ l'.length ≤ l.length + 4 ∧ w'.ownsRow w.heap.size 47 2 (.slice (some ⟨b, 0, none⟩) l'.length cap) l'.length (l'.flatMap cF)) ∨
  (¬ (Good okFl Prod.fst l ∧ EditsOK es) ∧ e = .returned (.tuple #[.slice none 0 0, .int .i64 2])) ∨
  ((Good okFl Prod.fst l ∧ EditsOK es ∧ ¬ ∀ x ∈ es, standsL l x.1 = x.2.1) ∧ e = .returned (.tuple #[.slice none 0 0, .int .i64 5]))

set_option maxRecDepth 100000 in
set_option maxHeartbeats 2000000 in
theorem tree_any (l : List Fl) (es : List Ed) (v v' : Value) (w : World) (hl : FilesAt w v l) (he : EditsAt w v' es) (hc : CapOK v') (hn : (l.length + 4) * 32 ≤ 140737488355328) (hm : es.length < 8796093022208) (hsz : ∀ f ∈ l, f.1.size ≤ maxLen) :
    Calls Try.prog 8 #[v, v'] w fun e w' => TRes e w w' l es ∧ Below w.heap.size w w' := by
  have hF := from_any l v w hl (by omega) hsz
  clear hl
  go_enter Try.func8, Try.ntmps8
  go_wp2_with fail
  refine hF.mono ?_
  rintro e w1 ⟨hR, hb1⟩
  rcases hR with ⟨rfl, hgood, D, hown, hM⟩ | ⟨rfl, hbad⟩
  · have hE := editsMayBe_any es v' w1 (he.later hb1) hc hm
    have he2 := fun w2 (h : Below w1.heap.size w1 w2) => (he.later hb1).later h
    have Hgood : Hid (Good okFl Prod.fst l) := hgood
    clear hgood he
    go_wp2_with fail
    refine hE.mono ?_
    rintro e w2 ⟨⟨r, rfl, hr⟩, hb2⟩
    have hB2 : Below w.heap.size w w2 := hb1.trans (hb2.mono hb1.size)
    cases r
    · have Hno : Hid (¬ EditsOK es) := fun h => Bool.noConfusion (hr.2 h)
      clear hr hM hown he2 hE
      go_wp2
      go_ret2
      exact ⟨.inr (.inl ⟨fun h => Hno.out h.2, rfl⟩), hB2⟩
    · have Hok : Hid (EditsOK es) := hr.1 rfl
      have hC := copyEdits_any es v' w2 (he2 w2 hb2) Hok.out
      have hown2 := ownsMap_below hown hb2
      clear hr hown he2 hE
      go_wp2_with (go_at_call 25; refine hC.mono ?_; rintro e w2c ⟨⟨u, rfl, hu⟩, hb2c⟩; clear hC)
      have hA := setApply_any es u w.heap.size l.length D _ w2c hu Hok.out.1 Hok.out.2.1 (ownsMap_below hown2 hb2c) hM (by omega) (fun x hx => by
        have := ((okEd_iff x).1 (Hok.out.2.2.1 x hx)).1.2; unfold maxLen; omega)
      have hB2c : Below w.heap.size w w2c := hB2.trans (hb2c.mono hB2.size)
      clear hM hown2 hu hb2c
      go_wp2_with fail
      refine hA.mono ?_
      rintro e w3 ⟨hS, hg3⟩
      have hB3 : Below w.heap.size w w3 := hB2c.grown hg3 hB2c.size (fun j hj => by cases hj; exact Nat.le_refl _)
      rcases hS with ⟨rfl, hall, D', hown', hM'⟩ | ⟨rfl, hnall⟩
      · have Hall : Hid (∀ x ∈ es, standsL l x.1 = x.2.1) := hall
        have hlen := Hok.out.2.1
        have hL := list_any w.heap.size _ D' _ w3 hown' hM' (by omega)
        clear hall hA hM' hown'
        go_wp2_with fail
        refine hL.mono ?_
        rintro e w4 ⟨⟨l', b, cap, rfl, htold, hle, hrow⟩, hb4⟩
        clear hL
        go_wp2
        go_ret2
        exact ⟨.inl ⟨⟨Hgood.out, Hok.out, Hall.out⟩, l', b, cap, rfl, htold, by omega, ownsRow_base hrow hB3.size⟩, hB3.trans (hb4.mono hB3.size)⟩
      · have Hn : Hid (¬ ∀ x ∈ es, standsL l x.1 = x.2.1) := hnall
        clear hnall hA
        go_wp2
        go_ret2
        exact ⟨.inr (.inr ⟨⟨Hgood.out, Hok.out, Hn.out⟩, rfl⟩), hB3⟩
  · have Hbad : Hid (¬ Good okFl Prod.fst l) := hbad
    clear hbad he
    go_wp2
    go_ret2
    exact ⟨.inr (.inl ⟨fun h => Hbad.out h.1, rfl⟩), hb1⟩
end Go.Proofs.Ytgamgomepdfgdaa
