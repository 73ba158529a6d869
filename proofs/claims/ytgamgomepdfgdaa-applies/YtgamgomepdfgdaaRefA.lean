import Derived.Test.YtgamgomepdfgdaaAppW
import Derived.Test.YtgamgomepdfgdaaMayBe
namespace Go.Proofs.Ytgamgomepdfgdaa
open Go.RowKit

/-- the reference's answer -/
def RRes (e : Ending) (w' : World) (l : List Fl) (es : List Ed) : Prop :=
  ((Good okFl Prod.fst l ∧ EditsOK es ∧ ∀ x ∈ es, standsL l x.1 = x.2.1) ∧ ∃ (l' : List Fl) (v : Value), e = .returned (.tuple #[v, .int .i64 0]) ∧ Told l' (edited (standsL l) es) ∧ FilesAt w' v l') ∨
  (¬ (Good okFl Prod.fst l ∧ EditsOK es) ∧ e = .returned (.tuple #[.slice none 0 0, .int .i64 2])) ∨
  ((Good okFl Prod.fst l ∧ EditsOK es ∧ ¬ ∀ x ∈ es, standsL l x.1 = x.2.1) ∧ e = .returned (.tuple #[.slice none 0 0, .int .i64 5]))

theorem applied_any (l : List Fl) (es : List Ed) (v v' : Value) (w : World) (hl : FilesAt w v l) (he : EditsAt w v' es) (hn : (l.length + 100) * 32 ≤ 140737488355328) (hg : Good okFl Prod.fst l) (hok : EditsOK es) :
    Calls Try.prog 21 #[v, v'] w fun e w' => ARes e w' l es ∧ Below w.heap.size w w' := by
  rcases he with ⟨rfl, _⟩ | ⟨be, oe, ce, rfl, hbe, e0, e1, e2⟩
  · exact absurd hok.1 (by decide)
  have hl' := hl
  have hln : l.length < 8796093022208 := by omega
  rcases hl with ⟨rfl, a, cap, rfl⟩ | ⟨b, off, cap, rfl, hlt, h0, h1⟩
  · exact applied_walk [] es a 0 0 cap be oe ce w (fun h => by simp at h) hl' hbe (fun i h => by simp at h) (fun i h => by simp at h) e0 e1 e2 hn hln hok.2.1 hg hok.2.2
  · exact applied_walk l es _ b off cap be oe ce w (fun _ => ⟨rfl, hlt⟩) hl' hbe h0 h1 e0 e1 e2 hn hln hok.2.1 hg hok.2.2

set_option maxRecDepth 100000 in
set_option maxHeartbeats 1000000 in
theorem ref_any (l : List Fl) (es : List Ed) (v v' : Value) (w : World) (hl : FilesAt w v l) (he : EditsAt w v' es) (hn : (l.length + 100) * 32 ≤ 140737488355328) (hm : es.length < 8796093022208) :
    Calls Try.prog 7 #[v, v'] w fun e w' => RRes e w' l es ∧ Below w.heap.size w w' := by
  have HN : Hid ((l.length + 100) * 32 ≤ 140737488355328) := hn
  have hF := filesMay_any l v w hl (by omega)
  clear hn
  go_enter Try.func7, Try.ntmps7
  go_wp2_with fail
  refine hF.mono ?_
  rintro e w1 ⟨⟨r1, rfl, hr1⟩, hd1⟩
  have hb1 := hd1.below
  have hE := editsMay_any es v' w1 (he.later hb1) hm
  have Hr1 : Hid (r1 = true ↔ Good okFl Prod.fst l) := hr1
  clear hr1 hF
  go_wp2_with fail
  refine hE.mono ?_
  rintro e w2 ⟨⟨r2, rfl, hr2⟩, hb2⟩
  have hB2 : Below w.heap.size w w2 := hb1.trans (hb2.mono hb1.size)
  have Hr2 : Hid (r2 = true ↔ EditsOK es) := hr2
  clear hr2 hE
  cases r1
  · have Hno : Hid (¬ Good okFl Prod.fst l) := fun h => Bool.noConfusion (Hr1.out.2 h)
    go_wp2
    go_ret2
    exact ⟨.inr (.inl ⟨fun h => Hno.out h.1, rfl⟩), hB2⟩
  · cases r2
    · have Hno : Hid (¬ EditsOK es) := fun h => Bool.noConfusion (Hr2.out.2 h)
      go_wp2
      go_ret2
      exact ⟨.inr (.inl ⟨fun h => Hno.out h.2, rfl⟩), hB2⟩
    · have HG : Hid (Good okFl Prod.fst l ∧ EditsOK es) := ⟨Hr1.out.1 rfl, Hr2.out.1 rfl⟩
      have hA := applied_any l es v v' w2 (hl.later hB2) (he.later hB2) HN.out HG.out.1 HG.out.2
      clear Hr1 Hr2
      go_wp2_with fail
      refine hA.mono ?_
      rintro e w3 ⟨hR, hb3⟩
      have hB3 : Below w.heap.size w w3 := hB2.trans (hb3.mono hB2.size)
      rcases hR with ⟨hall, l', v3, rfl, htold, hf3⟩ | ⟨hnall, rfl⟩
      · have Hall : Hid (∀ x ∈ es, standsL l x.1 = x.2.1) := hall
        clear hall hA
        go_wp2
        go_ret2
        exact ⟨.inl ⟨⟨HG.out.1, HG.out.2, Hall.out⟩, l', v3, rfl, htold, hf3⟩, hB3⟩
      · have Hn : Hid (¬ ∀ x ∈ es, standsL l x.1 = x.2.1) := hnall
        clear hnall hA
        go_wp2
        go_ret2
        exact ⟨.inr (.inr ⟨⟨HG.out.1, HG.out.2, Hn.out⟩, rfl⟩), hB3⟩
end Go.Proofs.Ytgamgomepdfgdaa
