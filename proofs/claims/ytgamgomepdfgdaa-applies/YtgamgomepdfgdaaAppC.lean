import Derived.Test.YtgamgomepdfgdaaTreeA
import Derived.Test.YtgamgomepdfgdaaRefA
namespace Go.Proofs.Ytgamgomepdfgdaa
open Go.RowKit

/-- what Apply gives: the list and the error -/
noncomputable def outL (l : List Fl) (es : List Ed) : List Fl :=
  @ite _ (Good okFl Prod.fst l ∧ EditsOK es ∧ ∀ x ∈ es, standsL l x.1 = x.2.1) (Classical.propDecidable _) (@Classical.epsilon _ ⟨[]⟩ fun l' => Told l' (edited (standsL l) es)) []
noncomputable def outC (l : List Fl) (es : List Ed) : Nat :=
  @ite _ (Good okFl Prod.fst l ∧ EditsOK es ∧ ∀ x ∈ es, standsL l x.1 = x.2.1) (Classical.propDecidable _) 0 (@ite _ (Good okFl Prod.fst l ∧ EditsOK es) (Classical.propDecidable _) 5 2)

theorem out_ok {l : List Fl} {es : List Ed} (h : Good okFl Prod.fst l ∧ EditsOK es ∧ ∀ x ∈ es, standsL l x.1 = x.2.1) {l' : List Fl} (ht : Told l' (edited (standsL l) es)) : outL l es = l' ∧ outC l es = 0 := by
  unfold outL outC
  rw [if_pos h, if_pos h]
  exact ⟨Told.unique (Classical.epsilon_spec (p := fun l' => Told l' (edited (standsL l) es)) ⟨l', ht⟩) ht, rfl⟩
theorem out_bad {l : List Fl} {es : List Ed} (h : ¬ (Good okFl Prod.fst l ∧ EditsOK es)) : outL l es = [] ∧ outC l es = 2 := by
  have h' : ¬ (Good okFl Prod.fst l ∧ EditsOK es ∧ ∀ x ∈ es, standsL l x.1 = x.2.1) := fun k => h ⟨k.1, k.2.1⟩
  unfold outL outC
  rw [if_neg h', if_neg h', if_neg h]
  exact ⟨rfl, rfl⟩
theorem out_none {l : List Fl} {es : List Ed} (h : Good okFl Prod.fst l ∧ EditsOK es ∧ ¬ ∀ x ∈ es, standsL l x.1 = x.2.1) : outL l es = [] ∧ outC l es = 5 := by
  have h' : ¬ (Good okFl Prod.fst l ∧ EditsOK es ∧ ∀ x ∈ es, standsL l x.1 = x.2.1) := fun k => h.2.2 k.2.2
  unfold outL outC
  rw [if_neg h', if_neg h', if_pos ⟨h.1, h.2.1⟩]
  exact ⟨rfl, rfl⟩

/-- the program's answer, the same at every world -/
theorem tree_out (l : List Fl) (es : List Ed) (v v' : Value) (w : World) (hl : FilesAt w v l) (he : EditsAt w v' es) (hc : CapOK v') (hn : (l.length + 4) * 32 ≤ 140737488355328) (hm : es.length < 8796093022208) (hsz : ∀ f ∈ l, f.1.size ≤ maxLen) :
    Calls Try.prog 8 #[v, v'] w fun e w' => (∃ fa fcap, e = .returned (.tuple #[.slice fa (outL l es).length fcap, .int .i64 (outC l es)]) ∧ (outC l es ≠ 0 → fa = none ∧ fcap = 0 ∧ outL l es = []) ∧ (outL l es).length ≤ l.length + 4 ∧
      w'.ownsRow w.heap.size 47 2 (.slice fa (outL l es).length fcap) (outL l es).length ((outL l es).flatMap cF)) ∧ Below w.heap.size w w' := by
  refine (tree_any l es v v' w hl he hc hn hm hsz).mono ?_
  rintro e w' ⟨h, hb⟩
  refine ⟨?_, hb⟩
  rcases h with ⟨hok, l', b, cap, rfl, ht, hle, hrow⟩ | ⟨hbad, rfl⟩ | ⟨hno, rfl⟩
  · obtain ⟨e1, e2⟩ := out_ok hok ht
    rw [e1, e2]
    exact ⟨_, _, rfl, fun h => absurd rfl h, hle, hrow⟩
  · obtain ⟨e1, e2⟩ := out_bad hbad
    rw [e1, e2]
    exact ⟨none, 0, rfl, fun _ => ⟨rfl, rfl, rfl⟩, Nat.zero_le _, World.ownsRow_nil _ _ _ _⟩
  · obtain ⟨e1, e2⟩ := out_none hno
    rw [e1, e2]
    exact ⟨none, 0, rfl, fun _ => ⟨rfl, rfl, rfl⟩, Nat.zero_le _, World.ownsRow_nil _ _ _ _⟩

/-- the reference's answer, the same at every world -/
theorem ref_out (l : List Fl) (es : List Ed) (v v' : Value) (w : World) (hl : FilesAt w v l) (he : EditsAt w v' es) (hn : (l.length + 100) * 32 ≤ 140737488355328) (hm : es.length < 8796093022208) :
    Calls Try.prog 7 #[v, v'] w fun e w' => (∃ u, e = .returned (.tuple #[u, .int .i64 (outC l es)]) ∧ FilesAt w' u (outL l es)) ∧ Below w.heap.size w w' := by
  refine (ref_any l es v v' w hl he hn hm).mono ?_
  rintro e w' ⟨h, hb⟩
  refine ⟨?_, hb⟩
  rcases h with ⟨hok, l', u, rfl, ht, hf⟩ | ⟨hbad, rfl⟩ | ⟨hno, rfl⟩
  · obtain ⟨e1, e2⟩ := out_ok hok ht
    rw [e1, e2]
    exact ⟨_, rfl, hf⟩
  · obtain ⟨e1, e2⟩ := out_bad hbad
    rw [e1, e2]
    exact ⟨_, rfl, .inl ⟨rfl, _, _, rfl⟩⟩
  · obtain ⟨e1, e2⟩ := out_none hno
    rw [e1, e2]
    exact ⟨_, rfl, .inl ⟨rfl, _, _, rfl⟩⟩
end Go.Proofs.Ytgamgomepdfgdaa
