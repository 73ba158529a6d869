import Derived.Test.YtgamgomepdfgdaaReads
namespace Go.Proofs.Ytgamgomepdfgdaa
open Go.RowKit

/-- less, on strings, as Go has it -/
def ltB (a b : ByteArray) : Bool := decide (a.data.toList < b.data.toList)

theorem ltB_drop {a b : ByteArray} {k : Nat} (h : a.data.toList.take k = b.data.toList.take k) : ltB a b = decide (a.data.toList.drop k < b.data.toList.drop k) := by
  unfold ltB
  rw [decide_eq_decide]
  conv => lhs; rw [← List.take_append_drop k a.data.toList, ← List.take_append_drop k b.data.toList, h]
  generalize b.data.toList.take k = c
  induction c with
  | nil => rfl
  | cons x c ih => simpa [List.cons_lt_cons_iff] using ih

theorem drop_at (a : ByteArray) (k : Nat) (h : k < a.size) : a.data.toList.drop k = a[k] :: a.data.toList.drop (k + 1) := by
  rw [List.drop_eq_getElem_cons (by simpa using h)]; rfl
theorem take_at (a : ByteArray) (k : Nat) (h : k < a.size) : a.data.toList.take (k + 1) = a.data.toList.take k ++ [a[k]] := by
  rw [List.take_succ_eq_append_getElem (by simpa using h)]; rfl

theorem ord_ne {a b : ByteArray} {k : Nat} (h1 : k < a.size) (h2 : k < b.size) (hs : a.data.toList.take k = b.data.toList.take k) (h : ((a[k].toNat : Int) != (b[k].toNat : Int)) = true) :
    decide (a[k].toNat < b[k].toNat) = ltB a b := by
  rw [ltB_drop hs, drop_at a k h1, drop_at b k h2, decide_eq_decide, List.cons_lt_cons_iff, UInt8.lt_iff_toNat_lt]
  have hne : a[k] ≠ b[k] := fun e => by rw [e] at h; simp at h
  simp [hne]
theorem ord_eq {a b : ByteArray} {k : Nat} (h1 : k < a.size) (h2 : k < b.size) (hs : a.data.toList.take k = b.data.toList.take k) (h : ((a[k].toNat : Int) != (b[k].toNat : Int)) = false) :
    a.data.toList.take (k + 1) = b.data.toList.take (k + 1) := by
  have h' : (a[k].toNat : Int) = b[k].toNat := by simpa using h
  have e : a[k] = b[k] := UInt8.toNat_inj.1 (by omega)
  rw [take_at a k h1, take_at b k h2, hs, e]
theorem ord_end {a b : ByteArray} {k : Nat} (h1 : k ≤ a.size) (h2 : k ≤ b.size) (h : k = a.size ∨ k = b.size) (hs : a.data.toList.take k = b.data.toList.take k) : decide (a.size < b.size) = ltB a b := by
  rw [ltB_drop hs]
  have ea := Lib.size_eq a
  have eb := Lib.size_eq b
  rcases h with h | h
  · rw [List.drop_of_length_le (l := a.data.toList) (by omega)]
    by_cases hb : k < b.size
    · rw [drop_at b k hb]; simp; omega
    · rw [List.drop_of_length_le (l := b.data.toList) (by omega)]; simp; omega
  · rw [List.drop_of_length_le (l := b.data.toList) (by omega)]
    have : ¬ a.size < b.size := by omega
    simp [this]
theorem ret_bool {a b : Bool} (h : a = b) : Ending.returned (.bool a) = .returned (.bool b) := by rw [h]

set_option maxHeartbeats 1000000 in
theorem order_any (a b : ByteArray) (w : World) (ha : a.size ≤ maxLen) :
    Calls Try.prog 39 #[.string a, .string b] w fun e w' => e = .returned (.bool (ltB a b)) ∧ Drew w w' := by
  unfold maxLen at ha
  go_enter Try.func39, Try.ntmps39
  go_wp2
  go_loopw [5] (fun i wr => ∃ k n : Nat, k ≤ a.size ∧ k ≤ b.size ∧ i = .int .i64 k ∧ wr = w.drewN n ∧ Hid (a.data.toList.take k = b.data.toList.take k)) (fun i _ => a.size - (intOf i).toNat)
  case atStart => exact ⟨0, 0, Nat.zero_le _, Nat.zero_le _, rfl, rfl, rfl⟩
  case round =>
    obtain ⟨k, n, hka, hkb, rfl, rfl, hs⟩ := hrel
    by_cases h1 : k < a.size
    · by_cases h2 : k < b.size
      · go_wp2
        go_quiet (fail)
        go_wp2
        · go_quiet (fail)
          go_wp2
          go_ret
          exact ⟨ret_bool (ord_ne h1 h2 hs.out ‹_›), .three _ _ _ _⟩
        · exact ⟨⟨k + 1, _, h1, h2, by go_num, rfl, ord_eq h1 h2 hs.out ‹_›⟩, by simp [intOf]; omega⟩
      · go_wp2
        go_ret
        exact ⟨ret_bool (ord_end hka hkb (by omega) hs.out), .one _ _⟩
    · go_wp2
      go_ret
      exact ⟨ret_bool (ord_end hka hkb (by omega) hs.out), .one _ _⟩
end Go.Proofs.Ytgamgomepdfgdaa
