import Derived.Test.YtgamgomepdfgdaaReads
namespace Go.Proofs.Ytgamgomepdfgdaa
open Go.RowKit

/-- a path for the k-th change -/
def pathB (k : Nat) : ByteArray := strOfNums [97 + (k : Int) % 26, 97 + (k : Int) / 26 % 26, 97 + (k : Int) / 676]

set_option maxRecDepth 100000 in
set_option maxHeartbeats 1000000 in
theorem path_any (k : Nat) (hk : k < 26) (w : World) :
    Calls Try.prog 13 #[.int .i64 k] w fun e w' => e = .returned (.string (pathB k)) ∧ w' = w.alloc (.cells #[.int .u8 (97 + (k : Int) % 26), .int .u8 (97 + (k : Int) / 26 % 26), .int .u8 (97 + (k : Int) / 676)] 5) := by
  have hcv := run_convert_bytes_arg (P := Try.prog) (w := w.alloc (.cells #[.int .u8 (97 + (k : Int) % 26), .int .u8 (97 + (k : Int) / 26 % 26), .int .u8 (97 + (k : Int) / 676)] 5)) 73 5 Try.underlying73 Try.underlying5 w.heap.size 0 3 3 [97 + (k : Int) % 26, 97 + (k : Int) / 26 % 26, 97 + (k : Int) / 676] rfl (by
    intro j hj
    match j, hj with
    | 0, _ => simp
    | 1, _ => simp
    | 2, _ => simp) 9 Try.underlying9
  rw [show strOfNums [97 + (k : Int) % 26, 97 + (k : Int) / 26 % 26, 97 + (k : Int) / 676] = pathB k from rfl] at hcv
  go_enter Try.func13, Try.ntmps13
  go_wp2
  go_ret
  exact ⟨rfl, rfl⟩

/-- no more than eight bytes -/
def shortB (s : ByteArray) : ByteArray := if 8 < s.size then s.extract 0 8 else s

set_option maxHeartbeats 1000000 in
theorem short_any (s : ByteArray) (w : World) :
    Calls Try.prog 14 #[.string s, .int .i64 8] w fun e w' => e = .returned (.string (shortB s)) ∧ w' = w := by
  by_cases h : 8 < s.size
  · have e : Hid (s.extract 0 8 = shortB s) := by show _ = shortB s; unfold shortB; rw [if_pos h]
    go_enter Try.func14, Try.ntmps14
    go_wp2
    go_ret
    exact ⟨ret_str e.out, rfl⟩
  · have e : Hid (s = shortB s) := by show _ = shortB s; unfold shortB; rw [if_neg h]
    go_enter Try.func14, Try.ntmps14
    go_wp2
    go_ret
    exact ⟨ret_str e.out, rfl⟩

set_option maxHeartbeats 1000000 in
theorem alike_row (l m : List Fl) (b off cap cap' : Nat) (a' : Option Addr) (w : World) (hm : FilesAt w (.slice a' l.length cap') m) (he : m.length = l.length) (hn : l.length < 8796093022208)
    (h0 : ∀ i (h : i < l.length), w.cell? ⟨b, off + i * 2, none⟩ = some (.string l[i].1)) (h1 : ∀ i (h : i < l.length), w.cell? ⟨b, off + i * 2 + 1, none⟩ = some (.string l[i].2)) (hall : ∀ i (h : i < l.length), standsL m l[i].1 = l[i].2) :
    Calls Try.prog 17 #[.slice (some ⟨b, off, none⟩) l.length cap, .slice a' l.length cap'] w fun e w' => e = .returned (.bool true) ∧ Drew w w' := by
  have Hall : Hid (∀ i (h : i < l.length), standsL m l[i].1 = l[i].2) := hall
  have hst := fun (q : ByteArray) n => law_stands m q (.slice a' l.length cap') (w.drewN n) hm (by omega)
  clear hall he
  go_enter Try.func17, Try.ntmps17
  go_wp2
  go_loopw [5] (fun i wr => ∃ k n : Nat, k ≤ l.length ∧ i = .int .i64 k ∧ wr = w.drewN n) (fun i _ => l.length - (intOf i).toNat)
  case atStart => exact ⟨0, 0, Nat.zero_le _, rfl, rfl⟩
  case round =>
    obtain ⟨k, n, hk, rfl, rfl⟩ := hrel
    by_cases hlt : k < l.length
    · have hs2 := Hall.out k hlt
      have hst' : ∀ j, Calls Try.prog 15 #[.slice a' l.length cap', .string l[k].1] (w.drewN (n + j)) fun e w'' => e = .returned (.string l[k].2) ∧ ∃ m, w'' = w.drewN (n + m) := fun j => by
        have := hst l[k].1 (n + j)
        rw [hs2] at this
        refine this.mono ?_
        rintro e w' ⟨rfl, rfl⟩
        exact ⟨rfl, j, rfl⟩
      clear hs2 hst hm
      go_wp2
      go_quiet ((go_at_call 15; exact hst' _))
      go_wp2
      go_roundw
      case rel => exact ⟨k + 1, _, hlt, by go_num, rfl⟩
      case measure => simp [intOf]; omega
    · go_wp2
      go_ret
      exact ⟨rfl, .one _ _⟩

set_option maxHeartbeats 400000 in
theorem alike_none (a a' : Option Addr) (cap cap' : Nat) (w : World) :
    Calls Try.prog 17 #[.slice a 0 cap, .slice a' 0 cap'] w fun e w' => e = .returned (.bool true) ∧ Drew w w' := by
  go_enter Try.func17, Try.ntmps17
  go_wp2
  go_loop [5] (fun i => i = .int .i64 0) (fun _ => 0)
  case atStart => rfl
  case round =>
    subst hrel
    go_wp2
    go_ret
    exact ⟨rfl, .refl _⟩
end Go.Proofs.Ytgamgomepdfgdaa
