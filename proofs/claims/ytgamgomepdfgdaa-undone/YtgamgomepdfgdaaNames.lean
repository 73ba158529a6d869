import Derived.Test.YtgamgomepdfgdaaLeaf
import Derived.Test.YtgamgomepdfgdaaMayE
namespace Go.Proofs.Ytgamgomepdfgdaa
open Go.RowKit

/-- an index that says whether p holds -/
def RetAt (e : Ending) (p : Prop) : Prop := ∃ r : Int, e = .returned (.int .i64 r) ∧ (0 ≤ r ↔ p)

set_option maxHeartbeats 1000000 in
theorem indexFunc_row (l : List Ed) (q : ByteArray) (b off cap bk : Nat) (w : World) (hlt : b < w.heap.size) (hbk : bk < w.heap.size) (hq : w.cell? ⟨bk, 0, none⟩ = some (.string q))
    (h0 : ∀ i (h : i < l.length), w.cell? ⟨b, off + i * 3, none⟩ = some (.string l[i].1)) (h1 : ∀ i (h : i < l.length), w.cell? ⟨b, off + i * 3 + 1, none⟩ = some (.string l[i].2.1)) (h2 : ∀ i (h : i < l.length), w.cell? ⟨b, off + i * 3 + 2, none⟩ = some (.string l[i].2.2))
    (hn4 : l.length ≤ 4) :
    Calls Try.prog 48 #[.slice (some ⟨b, off, none⟩) l.length cap, .func (.func 44) #[] #[.pointer (some ⟨bk, 0, none⟩)]] w fun e w' => RetAt e (∃ x ∈ l, x.1 = q) ∧ Below w.heap.size w w' := by
  go_enter Try.func48, Try.ntmps48
  go_wp2
  go_loopw [8] (fun i wr => ∃ k : Nat, k ≤ l.length ∧ i = .int .i64 k ∧ Below w.heap.size w wr ∧ Hid (∀ j (h : j < k) (h' : j < l.length), l[j].1 ≠ q)) (fun i _ => l.length - (intOf i).toNat)
  case atStart => exact ⟨0, Nat.zero_le _, rfl, Below.refl _ _, fun j h => by omega⟩
  case round =>
    obtain ⟨k, hk, rfl, hb, hs⟩ := hrel
    obtain ⟨g0, g1, g2, gb⟩ := edits_cells hb hlt h0 h1 h2
    have gq : wr.cell? ⟨bk, 0, none⟩ = some (.string q) := (hb.cell (by exact hbk)).trans hq
    have gk : bk < wr.heap.size := Nat.lt_of_lt_of_le hbk hb.size
    clear h0 h1 h2 hq
    by_cases hlk : k < l.length
    · have hc := closure_names l[k].1 l[k].2.1 l[k].2.2 q bk wr gq gk
      go_wp2_with (go_at_call 44; refine hc.mono ?_; rintro e w' ⟨rfl, rfl⟩)
      · go_ret
        exact ⟨⟨k, rfl, ⟨fun _ => ⟨l[k], List.getElem_mem hlk, (beq_true_iff _ _).1 ‹_›⟩, fun _ => by omega⟩⟩, hb.alloc hb.size _⟩
      · go_roundw
        case rel => exact ⟨k + 1, hlk, by go_num, hb.alloc hb.size _, fun x hx hx' => by
                  by_cases e : x = k
                  · subst e; exact (beq_false_iff _ _).1 ‹_›
                  · exact hs.out x (by omega) hx'⟩
        case measure => simp [intOf]; omega
    · go_wp2
      go_ret
      refine ⟨⟨-1, rfl, ⟨fun h => by omega, ?_⟩⟩, hb⟩
      rintro ⟨x, hx, hxq⟩
      obtain ⟨j, hj, rfl⟩ := List.mem_iff_getElem.1 hx
      exact absurd hxq (hs.out j (by omega) hj)

set_option maxHeartbeats 1000000 in
theorem indexFunc_none (q : Value) (a : Option Addr) (cap : Nat) (w : World) :
    Calls Try.prog 48 #[.slice a 0 cap, q] w fun e w' => e = .returned (.int .i64 (-1)) ∧ w' = w := by
  go_enter Try.func48, Try.ntmps48
  go_wp2
  go_loop [8] (fun i => i = .int .i64 0) (fun _ => 0)
  case atStart => rfl
  case round =>
    subst hrel
    go_wp2
    go_ret
    exact ⟨rfl, rfl⟩

theorem indexFunc_any (l : List Ed) (q : ByteArray) (v : Value) (bk : Nat) (w : World) (hl : EditsAt w v l) (hbk : bk < w.heap.size) (hq : w.cell? ⟨bk, 0, none⟩ = some (.string q)) (hn4 : l.length ≤ 4) :
    Calls Try.prog 48 #[v, .func (.func 44) #[] #[.pointer (some ⟨bk, 0, none⟩)]] w fun e w' => RetAt e (∃ x ∈ l, x.1 = q) ∧ Below w.heap.size w w' := by
  rcases hl with ⟨rfl, a, cap, rfl⟩ | ⟨b, off, cap, rfl, hlt, h0, h1, h2⟩
  · refine (indexFunc_none _ a cap w).mono ?_
    rintro e w' ⟨rfl, rfl⟩
    exact ⟨⟨-1, rfl, ⟨fun h => by omega, fun h => by obtain ⟨_, h, _⟩ := h; simp at h⟩⟩, Below.refl _ _⟩
  · exact indexFunc_row l q b off cap bk w hlt hbk hq h0 h1 h2 hn4

set_option maxHeartbeats 1000000 in
theorem containsFunc_any (l : List Ed) (q : ByteArray) (v : Value) (bk : Nat) (w : World) (hl : EditsAt w v l) (hbk : bk < w.heap.size) (hq : w.cell? ⟨bk, 0, none⟩ = some (.string q)) (hn4 : l.length ≤ 4) :
    Calls Try.prog 43 #[v, .func (.func 44) #[] #[.pointer (some ⟨bk, 0, none⟩)]] w fun e w' => RetIff e (∃ x ∈ l, x.1 = q) ∧ Below w.heap.size w w' := by
  have hc := indexFunc_any l q v bk w hl hbk hq hn4
  clear hl hq
  generalize (∃ x ∈ l, x.1 = q) = p at hc ⊢
  go_enter Try.func43, Try.ntmps43
  go_wp2_with (go_at_call 48; refine hc.mono ?_; rintro e w' ⟨⟨r, rfl, hr⟩, hb⟩)
  go_ret
  exact ⟨⟨decide (0 ≤ r), rfl, by rw [decide_eq_true_eq]; exact hr⟩, hb⟩

set_option maxHeartbeats 1000000 in
theorem namesPath_any (l : List Ed) (q : ByteArray) (v : Value) (w : World) (hl : EditsAt w v l) (hn4 : l.length ≤ 4) :
    Calls Try.prog 35 #[v, .string q] w fun e w' => RetIff e (∃ x ∈ l, x.1 = q) ∧ Below w.heap.size w w' := by
  have hb0 : Below w.heap.size w (w.alloc (.cells #[.string q] 9)) := (Below.refl _ _).alloc (Nat.le_refl _) _
  have hc := containsFunc_any l q v w.heap.size (w.alloc (.cells #[.string q] 9)) (hl.later hb0) (by simp) (by simp) hn4
  clear hl
  generalize (∃ x ∈ l, x.1 = q) = p at hc ⊢
  go_enter Try.func35, Try.ntmps35
  go_wp2_with (go_at_call 43; refine hc.mono ?_; rintro e w' ⟨⟨r, rfl, hr⟩, hb⟩)
  go_ret
  exact ⟨⟨r, rfl, hr⟩, hb0.trans (hb.mono (by simp))⟩
end Go.Proofs.Ytgamgomepdfgdaa
