import Derived.Test.YtgamgomepdfgdaaReads
import Derived.Test.YtgamgomepdfgdaaOrder
namespace Go.Proofs.Ytgamgomepdfgdaa
open Go.RowKit

theorem good_stop {α : Type} {ok : α → Bool} {key : α → ByteArray} {l : List α} {k : Nat} (hk : k < l.length) (h : ¬ ok l[k] = true) : ¬ Good ok key l := fun hg => h (hg.1 _ (List.getElem_mem hk))
theorem good_twice {α : Type} {ok : α → Bool} {key : α → ByteArray} {l : List α} {j k : Nat} (hk : k < l.length) (hj : j < k) (h : key (l[j]'(by omega)) = key l[k]) : ¬ Good ok key l := fun hg =>
  List.pairwise_iff_getElem.1 hg.2 j k (by omega) hk hj h

set_option maxHeartbeats 1000000 in
theorem filesMay_any (l : List Fl) (v : Value) (w : World) (hl : FilesAt w v l) (hn : l.length < 8796093022208) :
    Calls Try.prog 19 #[v] w fun e w' => RetIff e (Good okFl Prod.fst l) ∧ Drew w w' := by
  rcases hl with ⟨rfl, a, cap, rfl⟩ | ⟨b, off, cap, rfl, hlt, h0, h1⟩
  · go_enter Try.func19, Try.ntmps19
    go_wp2
    go_loop [3] (fun i => i = .int .i64 0) (fun _ => 0)
    case atStart => rfl
    case round =>
      subst hrel
      go_wp2
      go_ret
      exact ⟨.yes (Good.nil _ _), .refl _⟩
  · go_enter Try.func19, Try.ntmps19
    go_wp2
    go_loopw [3] (fun i wr => ∃ k n : Nat, k ≤ l.length ∧ i = .int .i64 k ∧ wr = w.drewN n ∧ Hid (Good okFl Prod.fst (l.take k))) (fun i _ => l.length - (intOf i).toNat)
    case atStart => exact ⟨0, 0, Nat.zero_le _, rfl, rfl, Good.nil _ _⟩
    case round =>
      obtain ⟨k, n, hk, rfl, rfl, hs⟩ := hrel
      by_cases hlt : k < l.length
      · by_cases hok : okFl l[k] = true
        · have H := good_succ (ok := okFl) (key := Prod.fst) hlt
          have HS : Hid ((∀ j (h : j < k), (l[j]'(by omega)).1 ≠ l[k].1) → Good okFl Prod.fst (l.take (k + 1))) := fun h => H.2 ⟨hs.out, hok, h⟩
          obtain ⟨⟨q1, q2⟩, q3, q4⟩ := (okFl_iff _).1 hok
          clear H hok
          go_wp2
          go_loopw [4] (fun i wr => ∃ j m : Nat, j ≤ k ∧ i = .int .i64 j ∧ wr = w.drewN m ∧ Hid (∀ x (h : x < j) (h' : x < l.length), l[x].1 ≠ l[k].1)) (fun i _ => k - (intOf i).toNat)
          case atStart => exact ⟨0, n, Nat.zero_le _, rfl, rfl, fun x h => by omega⟩
          case round =>
            obtain ⟨j, m, hj, rfl, rfl, hi⟩ := hrel
            by_cases hjk : j < k
            · have hjl : j < l.length := by omega
              go_wp2
              go_quiet (fail)
              go_wp2
              · go_ret
                exact ⟨.no (good_twice hlt hjk ((beq_true_iff _ _).1 ‹_›)), .two _ _ _⟩
              · go_roundw
                case rel => exact ⟨j + 1, _, hjk, by go_num, rfl, fun x hx hx' => by
                  by_cases e : x = j
                  · subst e; exact (beq_false_iff _ _).1 ‹_›
                  · exact hi.out x (by omega) hx'⟩
                case measure => simp [intOf]; omega
            · go_wp2
              go_roundw
              case rel => exact ⟨k + 1, _, hlt, by go_num, rfl, HS.out fun x hx => hi.out x (by omega) (by omega)⟩
              case measure => simp [intOf]; omega
        · have hb : ¬ Good okFl Prod.fst l := good_stop hlt hok
          have hB : Hid (¬ Good okFl Prod.fst l) := hb
          have hok' : ¬ ((1 ≤ l[k].1.size ∧ l[k].1.size ≤ 8) ∧ 1 ≤ l[k].2.size ∧ l[k].2.size ≤ 8) := fun h => hok ((okFl_iff _).2 h)
          clear hb hok
          have hc : l[k].1.size < 1 ∨ (1 ≤ l[k].1.size ∧ 8 < l[k].1.size) ∨ (1 ≤ l[k].1.size ∧ l[k].1.size ≤ 8 ∧ l[k].2.size < 1) ∨ (1 ≤ l[k].1.size ∧ l[k].1.size ≤ 8 ∧ 1 ≤ l[k].2.size ∧ 8 < l[k].2.size) := by omega
          clear hok'
          rcases hc with c | ⟨c, d⟩ | ⟨c, d, e⟩ | ⟨c, d, e, f⟩
          all_goals
            go_wp2
            go_ret
            exact ⟨.no hB.out, .one _ _⟩
      · go_wp2
        go_ret
        refine ⟨.yes ?_, .one _ _⟩
        have := hs.out
        rwa [List.take_of_length_le (by omega)] at this

set_option maxHeartbeats 400000 in
theorem editsMay_len (n cap : Nat) (a : Option Addr) (w : World) (h : n < 1 ∨ 4 < n) (hn : n < 8796093022208) :
    Calls Try.prog 20 #[.slice a n cap] w fun e w' => e = .returned (.bool false) ∧ w' = w := by
  rcases h with h | h
  · go_enter Try.func20, Try.ntmps20
    go_wp2
    go_ret
    exact ⟨rfl, rfl⟩
  · have h1 : ¬ n < 1 := by omega
    go_enter Try.func20, Try.ntmps20
    go_wp2
    go_ret
    exact ⟨rfl, rfl⟩

/-- edits that may be -/
def EditsOK (l : List Ed) : Prop := 1 ≤ l.length ∧ l.length ≤ 4 ∧ Good okEd Prod.fst l
end Go.Proofs.Ytgamgomepdfgdaa
