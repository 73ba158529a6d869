import Derived.Test.YtgamgomepdfgdaaProg
import Derived.Test.YtgamgomepdfgdaaMem
import Derived.WalkLawsBesides
namespace Go.Proofs.Ytgamgomepdfgdaa
open Go.RowKit

set_option maxHeartbeats 400000 in
theorem isText_any (s : ByteArray) (w : World) :
    Calls Try.prog 42 #[.string s] w fun e w' => e = .returned (.bool (okText s)) ∧ w' = w := by
  go_enter Try.func42, Try.ntmps42
  go_wp2
  go_ret
  refine ⟨?_, rfl⟩
  have e : decide ((s.size : Int) ≤ 8) = okText s := by unfold okText; rw [decide_eq_decide]; omega
  rw [← e]; rfl

set_option maxHeartbeats 400000 in
theorem isFilled_any (s : ByteArray) (w : World) :
    Calls Try.prog 40 #[.string s] w fun e w' => e = .returned (.bool (okFill s)) ∧ w' = w := by
  go_enter Try.func40, Try.ntmps40
  go_wp2_with (go_at_call 42; refine (isText_any _ _).mono ?_; rintro e w' ⟨rfl, rfl⟩)
  all_goals
    go_ret
    refine ⟨?_, rfl⟩
    have e : okFill s = (!s.toList.isEmpty && okText s) := rfl
    rw [e]
  · simp [*]
  · rfl

set_option maxHeartbeats 400000 in
theorem fileMayBe_any (p b : ByteArray) (w : World) :
    Calls Try.prog 31 #[.agg #[.string p, .string b]] w fun e w' => e = .returned (.bool (okFill p && okFill b)) ∧ Below w.heap.size w w' := by
  go_enter Try.func31, Try.ntmps31
  go_wp2_with (go_at_call 40; refine (isFilled_any _ _).mono ?_; rintro e w' ⟨rfl, rfl⟩)
  · have h : okFill p = true := by assumption
    go_ret
    exact ⟨by rw [h]; rfl, (Below.refl _ _).alloc (Nat.le_refl _) _⟩
  · have h : okFill p = false := by simpa using ‹¬ okFill p = true›
    go_ret
    exact ⟨by rw [h]; rfl, (Below.refl _ _).alloc (Nat.le_refl _) _⟩

set_option maxHeartbeats 400000 in
theorem editMayBe_any (p o n : ByteArray) (w : World) :
    Calls Try.prog 34 #[.agg #[.string p, .string o, .string n]] w fun e w' => e = .returned (.bool (okEdit p o n)) ∧ Below w.heap.size w w' := by
  go_enter Try.func34, Try.ntmps34
  go_wp2_with (first | (go_at_call 40; refine (isFilled_any _ _).mono ?_; rintro e w' ⟨rfl, rfl⟩) | (go_at_call 42; refine (isText_any _ _).mono ?_; rintro e w' ⟨rfl, rfl⟩))
  all_goals
    go_ret
    refine ⟨?_, (Below.refl _ _).alloc (Nat.le_refl _) _⟩
    have e : okEdit p o n = (okFill p && okText o && okText n && !(o.toList == n.toList)) := rfl
    rw [e]
    simp [*]

set_option maxHeartbeats 400000 in
theorem closure_names (p o n q : ByteArray) (bk : Nat) (w : World) (hq : w.cell? ⟨bk, 0, none⟩ = some (.string q)) (hb : bk < w.heap.size) :
    Calls Try.prog 44 #[.agg #[.string p, .string o, .string n], .pointer (some ⟨bk, 0, none⟩)] w fun e w' => e = .returned (.bool (p.toList == q.toList)) ∧ w' = w.alloc (.cells #[.string p, .string o, .string n] 49) := by
  go_enter Try.func44, Try.ntmps44
  go_wp2
  go_ret
  exact ⟨rfl, rfl⟩

set_option maxHeartbeats 400000 in
theorem beyond_any (w : World) :
    Calls Try.prog 18 #[] w fun e w' => e = .returned (.agg #[.string ⟨#[98, 101, 121, 111, 110, 100]⟩, .string ⟨#[]⟩, .string ⟨#[]⟩]) ∧ w' = w.alloc (.cells #[.string ⟨#[98, 101, 121, 111, 110, 100]⟩, .string ⟨#[]⟩, .string ⟨#[]⟩] 49) := by
  go_enter Try.func18, Try.ntmps18
  go_wp2
  exact bodyPost_ret (v := .agg #[.string ⟨#[98, 101, 121, 111, 110, 100]⟩, .string ⟨#[]⟩, .string ⟨#[]⟩]) (by simp [results, Try.results18, go_sem]) rfl ⟨rfl, rfl⟩

end Go.Proofs.Ytgamgomepdfgdaa
