import Derived.Test.YtgamgomepdfgdaaGreatProg
import Derived.Test.YtgamgomepdfgdaaGreatM01
import Derived.WalkLawsBesides
import Derived.Test.YtgamgomepdfgdaaGreatM13
import Derived.Lib.QuietBelow
import Derived.Test.YtgamgomepdfgdaaGreatM14
namespace Go.Proofs.YtgamgomepdfgdaaGreat
open Go.RowKit

set_option maxHeartbeats 400000 in
theorem isText_any (s : ByteArray) (w : World) :
    Calls Tryz.prog 215 #[.string s] w fun e w' => e = .returned (.bool (okText s)) ∧ w' = w := by
  go_enter Tryz.func215, Tryz.ntmps215
  go_wp2
  go_ret
  refine ⟨?_, rfl⟩
  have e : decide ((s.size : Int) ≤ 8) = okText s := by unfold okText; rw [decide_eq_decide]; omega
  rw [← e]; rfl

set_option maxHeartbeats 400000 in
theorem isFilled_any (s : ByteArray) (w : World) :
    Calls Tryz.prog 174 #[.string s] w fun e w' => e = .returned (.bool (okFill s)) ∧ w' = w := by
  go_enter Tryz.func174, Tryz.ntmps174
  go_wp2_with (go_at_call 215; refine (isText_any _ _).mono ?_; rintro e w' ⟨rfl, rfl⟩)
  all_goals
    go_ret
    refine ⟨?_, rfl⟩
    have e : okFill s = (!s.toList.isEmpty && okText s) := rfl
    rw [e]
  · simp [*]
  · rfl

set_option maxHeartbeats 400000 in
theorem fileMayBe_any (p b : ByteArray) (w : World) :
    Calls Tryz.prog 127 #[.agg #[.string p, .string b]] w fun e w' => e = .returned (.bool (okFill p && okFill b)) ∧ Below w.heap.size w w' := by
  go_enter Tryz.func127, Tryz.ntmps127
  go_wp2_with (go_at_call 174; refine (isFilled_any _ _).mono ?_; rintro e w' ⟨rfl, rfl⟩)
  · have h : okFill p = true := by assumption
    go_ret
    exact ⟨by rw [h]; rfl, (Below.refl _ _).alloc (Nat.le_refl _) _⟩
  · have h : okFill p = false := by simpa using ‹¬ okFill p = true›
    go_ret
    exact ⟨by rw [h]; rfl, (Below.refl _ _).alloc (Nat.le_refl _) _⟩

set_option maxHeartbeats 400000 in
theorem editMayBe_any (p o n : ByteArray) (w : World) :
    Calls Tryz.prog 263 #[.agg #[.string p, .string o, .string n]] w fun e w' => e = .returned (.bool (okEdit p o n)) ∧ Below w.heap.size w w' := by
  go_enter Tryz.func263, Tryz.ntmps263
  go_wp2_with (first | (go_at_call 174; refine (isFilled_any _ _).mono ?_; rintro e w' ⟨rfl, rfl⟩) | (go_at_call 215; refine (isText_any _ _).mono ?_; rintro e w' ⟨rfl, rfl⟩))
  all_goals
    go_ret
    refine ⟨?_, (Below.refl _ _).alloc (Nat.le_refl _) _⟩
    have e : okEdit p o n = (okFill p && okText o && okText n && !(o.toList == n.toList)) := rfl
    rw [e]
    simp [*]

set_option maxHeartbeats 400000 in
theorem closure_names (p o n q : ByteArray) (bk : Nat) (w : World) (hq : w.cell? ⟨bk, 0, none⟩ = some (.string q)) (hb : bk < w.heap.size) :
    Calls Tryz.prog 274 #[.agg #[.string p, .string o, .string n], .pointer (some ⟨bk, 0, none⟩)] w fun e w' => e = .returned (.bool (p.toList == q.toList)) ∧ w' = w.alloc (.cells #[.string p, .string o, .string n] 49) := by
  go_enter Tryz.func274, Tryz.ntmps274
  go_wp2
  go_ret
  exact ⟨rfl, rfl⟩

set_option maxHeartbeats 400000 in
theorem beyond_any (w : World) :
    Calls Tryz.prog 89 #[] w fun e w' => e = .returned (.agg #[.string ⟨#[98, 101, 121, 111, 110, 100]⟩, .string ⟨#[]⟩, .string ⟨#[]⟩]) ∧ w' = w.alloc (.cells #[.string ⟨#[98, 101, 121, 111, 110, 100]⟩, .string ⟨#[]⟩, .string ⟨#[]⟩] 49) := by
  go_enter Tryz.func89, Tryz.ntmps89
  go_wp2
  exact bodyPost_ret (v := .agg #[.string ⟨#[98, 101, 121, 111, 110, 100]⟩, .string ⟨#[]⟩, .string ⟨#[]⟩]) (by simp [results, Tryz.results89, go_sem]) rfl ⟨rfl, rfl⟩

end Go.Proofs.YtgamgomepdfgdaaGreat

namespace Go.Proofs.YtgamgomepdfgdaaGreat
open Go.RowKit

/-- an index that says whether p holds -/
def RetAt (e : Ending) (p : Prop) : Prop := ∃ r : Int, e = .returned (.int .i64 r) ∧ (0 ≤ r ↔ p)

set_option maxHeartbeats 1000000 in
theorem indexFunc_row (l : List Ed) (q : ByteArray) (b off cap bk : Nat) (w : World) (hlt : b < w.heap.size) (hbk : bk < w.heap.size) (hq : w.cell? ⟨bk, 0, none⟩ = some (.string q))
    (h0 : ∀ i (h : i < l.length), w.cell? ⟨b, off + i * 3, none⟩ = some (.string l[i].1)) (h1 : ∀ i (h : i < l.length), w.cell? ⟨b, off + i * 3 + 1, none⟩ = some (.string l[i].2.1)) (h2 : ∀ i (h : i < l.length), w.cell? ⟨b, off + i * 3 + 2, none⟩ = some (.string l[i].2.2))
    (hn4 : l.length ≤ 4) :
    Calls Tryz.prog 278 #[.slice (some ⟨b, off, none⟩) l.length cap, .func (.func 274) #[] #[.pointer (some ⟨bk, 0, none⟩)]] w fun e w' => RetAt e (∃ x ∈ l, x.1 = q) ∧ Below w.heap.size w w' := by
  go_enter Tryz.func278, Tryz.ntmps278
  go_wp2
  go_loopw [8] (fun i wr => ∃ k : Nat, k ≤ l.length ∧ i = .int .i64 k ∧ Below w.heap.size w wr ∧ Hid (∀ j (h : j < k) (h' : j < l.length), l[j].1 ≠ q)) (fun i _ => l.length - (intOf i).toNat)
  case atStart => exact ⟨0, Nat.zero_le _, rfl, Below.refl _ _, fun j h => by omega⟩
  case round =>
    obtain ⟨k, hk, rfl, hb, hs⟩ := hrel
    obtain ⟨g0, g1, g2, gb⟩ := edits_cells hb hlt h0 h1 h2
    have gq : wr.cell? ⟨bk, 0, none⟩ = some (.string q) := (hb.cell (by exact hbk)).trans hq
    have gk : bk < wr.heap.size := Nat.lt_of_lt_of_le hbk hb.size
    clear h0 h1 h2 hq
    by_cases hlk : k < l.length
    · have hc := closure_names l[k].1 l[k].2.1 l[k].2.2 q bk wr gq gk
      go_wp2_with (go_at_call 274; refine hc.mono ?_; rintro e w' ⟨rfl, rfl⟩)
      · go_ret
        exact ⟨⟨k, rfl, ⟨fun _ => ⟨l[k], List.getElem_mem hlk, (beq_true_iff _ _).1 ‹_›⟩, fun _ => by omega⟩⟩, hb.alloc hb.size _⟩
      · go_roundw
        case rel => exact ⟨k + 1, hlk, by go_num, hb.alloc hb.size _, fun x hx hx' => by
                  by_cases e : x = k
                  · subst e; exact (beq_false_iff _ _).1 ‹_›
                  · exact hs.out x (by omega) hx'⟩
        case measure => simp [intOf]; omega
    · go_wp2
      go_ret
      refine ⟨⟨-1, rfl, ⟨fun h => by omega, ?_⟩⟩, hb⟩
      rintro ⟨x, hx, hxq⟩
      obtain ⟨j, hj, rfl⟩ := List.mem_iff_getElem.1 hx
      exact absurd hxq (hs.out j (by omega) hj)

set_option maxHeartbeats 1000000 in
theorem indexFunc_none (q : Value) (a : Option Addr) (cap : Nat) (w : World) :
    Calls Tryz.prog 278 #[.slice a 0 cap, q] w fun e w' => e = .returned (.int .i64 (-1)) ∧ w' = w := by
  go_enter Tryz.func278, Tryz.ntmps278
  go_wp2
  go_loop [8] (fun i => i = .int .i64 0) (fun _ => 0)
  case atStart => rfl
  case round =>
    subst hrel
    go_wp2
    go_ret
    exact ⟨rfl, rfl⟩

theorem indexFunc_any (l : List Ed) (q : ByteArray) (v : Value) (bk : Nat) (w : World) (hl : EditsAt w v l) (hbk : bk < w.heap.size) (hq : w.cell? ⟨bk, 0, none⟩ = some (.string q)) (hn4 : l.length ≤ 4) :
    Calls Tryz.prog 278 #[v, .func (.func 274) #[] #[.pointer (some ⟨bk, 0, none⟩)]] w fun e w' => RetAt e (∃ x ∈ l, x.1 = q) ∧ Below w.heap.size w w' := by
  rcases hl with ⟨rfl, a, cap, rfl⟩ | ⟨b, off, cap, rfl, hlt, h0, h1, h2⟩
  · refine (indexFunc_none _ a cap w).mono ?_
    rintro e w' ⟨rfl, rfl⟩
    exact ⟨⟨-1, rfl, ⟨fun h => by omega, fun h => by obtain ⟨_, h, _⟩ := h; simp at h⟩⟩, Below.refl _ _⟩
  · exact indexFunc_row l q b off cap bk w hlt hbk hq h0 h1 h2 hn4

set_option maxHeartbeats 1000000 in
theorem containsFunc_any (l : List Ed) (q : ByteArray) (v : Value) (bk : Nat) (w : World) (hl : EditsAt w v l) (hbk : bk < w.heap.size) (hq : w.cell? ⟨bk, 0, none⟩ = some (.string q)) (hn4 : l.length ≤ 4) :
    Calls Tryz.prog 273 #[v, .func (.func 274) #[] #[.pointer (some ⟨bk, 0, none⟩)]] w fun e w' => RetIff e (∃ x ∈ l, x.1 = q) ∧ Below w.heap.size w w' := by
  have hc := indexFunc_any l q v bk w hl hbk hq hn4
  clear hl hq
  generalize (∃ x ∈ l, x.1 = q) = p at hc ⊢
  go_enter Tryz.func273, Tryz.ntmps273
  go_wp2_with (go_at_call 278; refine hc.mono ?_; rintro e w' ⟨⟨r, rfl, hr⟩, hb⟩)
  go_ret
  exact ⟨⟨decide (0 ≤ r), rfl, by rw [decide_eq_true_eq]; exact hr⟩, hb⟩

set_option maxHeartbeats 1000000 in
theorem namesPath_any (l : List Ed) (q : ByteArray) (v : Value) (w : World) (hl : EditsAt w v l) (hn4 : l.length ≤ 4) :
    Calls Tryz.prog 264 #[v, .string q] w fun e w' => RetIff e (∃ x ∈ l, x.1 = q) ∧ Below w.heap.size w w' := by
  have hb0 : Below w.heap.size w (w.alloc (.cells #[.string q] 9)) := (Below.refl _ _).alloc (Nat.le_refl _) _
  have hc := containsFunc_any l q v w.heap.size (w.alloc (.cells #[.string q] 9)) (hl.later hb0) (by simp) (by simp) hn4
  clear hl
  generalize (∃ x ∈ l, x.1 = q) = p at hc ⊢
  go_enter Tryz.func264, Tryz.ntmps264
  go_wp2_with (go_at_call 273; refine hc.mono ?_; rintro e w' ⟨⟨r, rfl, hr⟩, hb⟩)
  go_ret
  exact ⟨⟨r, rfl, hr⟩, hb0.trans (hb.mono (by simp))⟩
end Go.Proofs.YtgamgomepdfgdaaGreat

namespace Go.Proofs.YtgamgomepdfgdaaGreat
open Go.RowKit Go.Sort

theorem names_val (l : List Ed) (q : ByteArray) (v : Value) (w : World) (hl : EditsAt w v l) (hn4 : l.length ≤ 4) (r : Bool) (hr : r = true ↔ ∃ x ∈ l, x.1 = q) :
    Calls Tryz.prog 264 #[v, .string q] w fun e w' => e = .returned (.bool r) ∧ Below w.heap.size w w' := by
  refine (namesPath_any l q v w hl hn4).mono ?_
  rintro e w' ⟨⟨r', rfl, hr'⟩, hb⟩
  have : r' = r := by
    have := hr'.trans hr.symm
    cases r' <;> cases r <;> simp_all
  exact ⟨by rw [this], hb⟩

theorem mem_take_iff (l : List Ed) (k : Nat) (hk : k < l.length) : (∃ x ∈ l.take k, x.1 = l[k].1) ↔ ∃ j, ∃ h : j < k, (l[j]'(by omega)).1 = l[k].1 := by
  constructor
  · rintro ⟨x, hx, he⟩
    obtain ⟨j, hj, rfl⟩ := List.mem_iff_getElem.1 hx
    rw [List.length_take] at hj
    rw [List.getElem_take] at he
    exact ⟨j, by omega, he⟩
  · rintro ⟨j, hj, he⟩
    exact ⟨_, List.mem_iff_getElem.2 ⟨j, by rw [List.length_take]; omega, by rw [List.getElem_take]⟩, he⟩

theorem edits_take {w : World} {b off cap : Nat} {l : List Ed} (k : Nat) (hk : k ≤ l.length) (hlt : b < w.heap.size)
    (h0 : ∀ i (h : i < l.length), w.cell? ⟨b, off + i * 3, none⟩ = some (.string l[i].1)) (h1 : ∀ i (h : i < l.length), w.cell? ⟨b, off + i * 3 + 1, none⟩ = some (.string l[i].2.1)) (h2 : ∀ i (h : i < l.length), w.cell? ⟨b, off + i * 3 + 2, none⟩ = some (.string l[i].2.2)) :
    EditsAt w (.slice (some ⟨b, off, none⟩) k cap) (l.take k) := by
  have e : (l.take k).length = k := by rw [List.length_take]; omega
  refine .inr ⟨b, off, cap, by rw [e], hlt, fun i h => ?_, fun i h => ?_, fun i h => ?_⟩
  · rw [List.getElem_take]; exact h0 i _
  · rw [List.getElem_take]; exact h1 i _
  · rw [List.getElem_take]; exact h2 i _

theorem below_rg {w wr : World} (hb : Below w.heap.size w wr) (o : Obj) (d : Nat) (os : Array Obj) : Below w.heap.size w (grow (redrawn (wr.alloc o) d) os) :=
  (hb.alloc hb.size o).trans ((below_regrown _ d os).mono (hb.alloc hb.size o).size)

set_option maxHeartbeats 2000000 in
theorem editsMayBe_row (l : List Ed) (b off cap : Nat) (w : World) (hlt : b < w.heap.size)
    (h0 : ∀ i (h : i < l.length), w.cell? ⟨b, off + i * 3, none⟩ = some (.string l[i].1)) (h1 : ∀ i (h : i < l.length), w.cell? ⟨b, off + i * 3 + 1, none⟩ = some (.string l[i].2.1)) (h2 : ∀ i (h : i < l.length), w.cell? ⟨b, off + i * 3 + 2, none⟩ = some (.string l[i].2.2))
    (hn1 : 1 ≤ l.length) (hn4 : l.length ≤ 4) (hcap : l.length ≤ cap) :
    Calls Tryz.prog 236 #[.slice (some ⟨b, off, none⟩) l.length cap] w fun e w' => RetIff e (Good okEd Prod.fst l) ∧ Below w.heap.size w w' := by
  go_enter Tryz.func236, Tryz.ntmps236
  go_wp2
  go_loopw [15] (fun i wr => ∃ k : Nat, k ≤ l.length ∧ i = .int .i64 k ∧ Below w.heap.size w wr ∧ Hid (Good okEd Prod.fst (l.take k))) (fun i _ => l.length - (intOf i).toNat)
  case atStart => exact ⟨0, Nat.zero_le _, rfl, Below.refl _ _, Good.nil _ _⟩
  case round =>
    obtain ⟨k, hk, rfl, hb, hs⟩ := hrel
    obtain ⟨g0, g1, g2, gb⟩ := edits_cells hb hlt h0 h1 h2
    clear h0 h1 h2
    by_cases hlk : k < l.length
    · have hb1 : Below wr.heap.size wr (wr.alloc (.cells #[.string l[k].1, .string l[k].2.1, .string l[k].2.2] 49)) := (Below.refl _ _).alloc (Nat.le_refl _) _
      have cM := fun d os => Calls.regrown_of (d := d) (os := os) (w := wr.alloc (.cells #[.string l[k].1, .string l[k].2.1, .string l[k].2.2] 49)) (editMayBe_any l[k].1 l[k].2.1 l[k].2.2 _)
      have e0 := cell_regrown (w := wr.alloc (.cells #[.string l[k].1, .string l[k].2.1, .string l[k].2.2] 49)) (a := ⟨wr.heap.size, 0, none⟩) (v := .string l[k].1) (by simp)
      have e1 := cell_regrown (w := wr.alloc (.cells #[.string l[k].1, .string l[k].2.1, .string l[k].2.2] 49)) (a := ⟨wr.heap.size, 1, none⟩) (v := .string l[k].2.1) (by simp)
      have e2 := cell_regrown (w := wr.alloc (.cells #[.string l[k].1, .string l[k].2.1, .string l[k].2.2] 49)) (a := ⟨wr.heap.size, 2, none⟩) (v := .string l[k].2.2) (by simp)
      by_cases hok : okEd l[k] = true
      · have hok' : okEdit l[k].1 l[k].2.1 l[k].2.2 = true := hok
        have hvt := edits_take (w := wr) (cap := cap) k hk gb g0 g1 g2
        have hmt := mem_take_iff l k hlk
        by_cases hnm : ∃ x ∈ l.take k, x.1 = l[k].1
        · have cN := fun d os => Calls.regrown_of (d := d) (os := os) (w := wr.alloc (.cells #[.string l[k].1, .string l[k].2.1, .string l[k].2.2] 49)) (names_val (l.take k) l[k].1 _ _ ((hvt.later hb1).later (below_regrown _ d os)) (by rw [List.length_take]; omega) true ⟨fun _ => hnm, fun _ => rfl⟩)
          have hB : Hid (¬ Good okEd Prod.fst l) := by
            obtain ⟨j, hj, he⟩ := hmt.1 hnm
            exact good_twice hlk hj he
          clear hmt hnm hvt hok
          go_wp2
          refine wp_region_quiet_below (by kernel_rfl) (by kernel_rfl) ?_
          repeat (first | go_big_quiet_step (first | exact cM _ _ | exact cN _ _) | quiet_step (first | exact cM _ _ | exact cN _ _))
          refine wpQuiet_nil ?_
          rintro _ ⟨p, rfl⟩
          have hq := below_rg hb (.cells #[.string l[k].1, .string l[k].2.1, .string l[k].2.2] 49) p.d p.os
          generalize grow (redrawn _ p.d) p.os = wq at hq ⊢
          clear cM cN e0 e1 e2
          go_wp2
          go_ret
          exact ⟨.no hB.out, hq⟩
        · have cN := fun d os => Calls.regrown_of (d := d) (os := os) (w := wr.alloc (.cells #[.string l[k].1, .string l[k].2.1, .string l[k].2.2] 49)) (names_val (l.take k) l[k].1 _ _ ((hvt.later hb1).later (below_regrown _ d os)) (by rw [List.length_take]; omega) false ⟨fun h => Bool.noConfusion h, fun h => absurd h hnm⟩)
          have hG : Hid (Good okEd Prod.fst (l.take (k + 1))) := (good_succ hlk).2 ⟨hs.out, hok, fun j hj he => hnm (hmt.2 ⟨j, hj, he⟩)⟩
          clear hmt hnm hvt hok
          go_wp2
          refine wp_region_quiet_below (by kernel_rfl) (by kernel_rfl) ?_
          repeat (first | go_big_quiet_step (first | exact cM _ _ | exact cN _ _) | quiet_step (first | exact cM _ _ | exact cN _ _))
          refine wpQuiet_nil ?_
          rintro _ ⟨p, rfl⟩
          have hq := below_rg hb (.cells #[.string l[k].1, .string l[k].2.1, .string l[k].2.2] 49) p.d p.os
          generalize grow (redrawn _ p.d) p.os = wq at hq ⊢
          clear cM cN e0 e1 e2
          go_wp2
          go_roundw
          case rel => exact ⟨k + 1, hlk, by go_num, hq, hG⟩
          case measure => simp [intOf]; omega
      · have hB : Hid (¬ Good okEd Prod.fst l) := good_stop hlk hok
        have hok' : okEdit l[k].1 l[k].2.1 l[k].2.2 = false := by simpa [okEd] using hok
        clear hok
        go_wp2
        refine wp_region_quiet_below (by kernel_rfl) (by kernel_rfl) ?_
        repeat (first | go_big_quiet_step (exact cM _ _) | quiet_step (exact cM _ _))
        refine wpQuiet_nil ?_
        rintro _ ⟨p, rfl⟩
        have hq := below_rg hb (.cells #[.string l[k].1, .string l[k].2.1, .string l[k].2.2] 49) p.d p.os
        generalize grow (redrawn _ p.d) p.os = wq at hq ⊢
        clear cM e0 e1 e2
        go_wp2
        go_ret
        exact ⟨.no hB.out, hq⟩
    · go_wp2
      go_ret
      refine ⟨.yes ?_, hb⟩
      have := hs.out
      rwa [List.take_of_length_le (by omega)] at this

set_option maxHeartbeats 400000 in
theorem editsMayBe_len (n cap : Nat) (a : Option Addr) (w : World) (h : n < 1 ∨ 4 < n) (hn : n < 8796093022208) :
    Calls Tryz.prog 236 #[.slice a n cap] w fun e w' => e = .returned (.bool false) ∧ w' = w := by
  rcases h with h | h
  · go_enter Tryz.func236, Tryz.ntmps236
    go_wp2
    go_ret
    exact ⟨rfl, rfl⟩
  · have h1 : ¬ n < 1 := by omega
    go_enter Tryz.func236, Tryz.ntmps236
    go_wp2
    go_ret
    exact ⟨rfl, rfl⟩

/-- a slice whose capacity is not below its length -/
def CapOK : Value → Prop
  | .slice _ n cap => n ≤ cap
  | _ => True

theorem editsMayBe_any (l : List Ed) (v : Value) (w : World) (hl : EditsAt w v l) (hc : CapOK v) (hn : l.length < 8796093022208) :
    Calls Tryz.prog 236 #[v] w fun e w' => RetIff e (EditsOK l) ∧ Below w.heap.size w w' := by
  by_cases h : l.length < 1 ∨ 4 < l.length
  · have hv : ∃ a cap, v = .slice a l.length cap := by
      rcases hl with ⟨rfl, a, cap, rfl⟩ | ⟨b, off, cap, rfl, _⟩
      · exact ⟨_, _, rfl⟩
      · exact ⟨_, _, rfl⟩
    obtain ⟨a, cap, rfl⟩ := hv
    refine (editsMayBe_len l.length cap a w h hn).mono ?_
    rintro e w' ⟨rfl, rfl⟩
    exact ⟨.no fun hg => by unfold EditsOK at hg; omega, Below.refl _ _⟩
  · rcases hl with ⟨rfl, _⟩ | ⟨b, off, cap, rfl, hlt, h0, h1, h2⟩
    · simp at h
    · refine (editsMayBe_row l b off cap w hlt h0 h1 h2 (by omega) (by omega) hc).mono ?_
      rintro e w' ⟨⟨r, rfl, hr⟩, hb⟩
      exact ⟨⟨r, rfl, hr.trans ⟨fun hg => ⟨by omega, by omega, hg⟩, fun hg => hg.2.2⟩⟩, hb⟩
end Go.Proofs.YtgamgomepdfgdaaGreat

namespace Go.Proofs.YtgamgomepdfgdaaGreat
open Go.RowKit Go.Sort

/-- may a change be (P6)? -/
def ChOK (c : Cfg) (id lane : Int) (es : List Ed) : Prop := 1 ≤ id ∧ id ≤ 1000000 ∧ 0 ≤ lane ∧ lane < c.lanes ∧ EditsOK es

theorem editsMayBe_val (l : List Ed) (v : Value) (w : World) (hl : EditsAt w v l) (hc : CapOK v) (hn : l.length < 8796093022208) (r : Bool) (hr : r = true ↔ EditsOK l) :
    Calls Tryz.prog 236 #[v] w fun e w' => e = .returned (.bool r) ∧ Below w.heap.size w w' := by
  refine (editsMayBe_any l v w hl hc hn).mono ?_
  rintro e w' ⟨⟨r', rfl, hr'⟩, hb⟩
  have : r' = r := by
    have := hr'.trans hr.symm
    cases r' <;> cases r <;> simp_all
  exact ⟨by rw [this], hb⟩

set_option maxRecDepth 100000 in
set_option maxHeartbeats 4000000 in
theorem yChange (yb : Nat) (c : Cfg) (cs : Array Value) (kind id lane num : Int) (pass : Bool) (es : List Ed) (ea : Option Addr) (en ec : Nat) (w : World) (hB : Bx w yb 201 cs) (h0 : cs[0]? = some (.int .i64 c.lanes)) (hE : EditsAt w (.slice ea en ec) es) (hc : CapOK (.slice ea en ec)) (hn : es.length < 8796093022208) :
    Calls Tryz.prog 194 #[.pointer (some ⟨yb, 0, none⟩), .agg #[.int .i64 kind, .int .i64 lane, .slice ea en ec, .int .i64 id, .bool pass, .int .i64 num]] w fun e w' => RetIff e (ChOK c id lane es) ∧ Below w.heap.size w w' := by
  have hB0 : Below w.heap.size w (w.alloc (.cells #[.int .i64 kind, .int .i64 lane, .slice ea en ec, .int .i64 id, .bool pass, .int .i64 num] 140)) := below_new _ _
  have X0 : Bx (w.alloc (.cells #[.int .i64 kind, .int .i64 lane, .slice ea en ec, .int .i64 id, .bool pass, .int .i64 num] 140)) w.heap.size 140 #[.int .i64 kind, .int .i64 lane, .slice ea en ec, .int .i64 id, .bool pass, .int .i64 num] := Bx.new _ _ _
  have x1 : (w.alloc (.cells #[.int .i64 kind, .int .i64 lane, .slice ea en ec, .int .i64 id, .bool pass, .int .i64 num] 140)).cell? ⟨w.heap.size, 1, none⟩ = some (.int .i64 lane) := X0.cell (i := 1) rfl
  have x2 : (w.alloc (.cells #[.int .i64 kind, .int .i64 lane, .slice ea en ec, .int .i64 id, .bool pass, .int .i64 num] 140)).cell? ⟨w.heap.size, 2, none⟩ = some (.slice ea en ec) := X0.cell (i := 2) rfl
  have x3 : (w.alloc (.cells #[.int .i64 kind, .int .i64 lane, .slice ea en ec, .int .i64 id, .bool pass, .int .i64 num] 140)).cell? ⟨w.heap.size, 3, none⟩ = some (.int .i64 id) := X0.cell (i := 3) rfl
  have y0 : (w.alloc (.cells #[.int .i64 kind, .int .i64 lane, .slice ea en ec, .int .i64 id, .bool pass, .int .i64 num] 140)).cell? ⟨yb, 0, none⟩ = some (.int .i64 c.lanes) := (hB.mk _).cell h0
  have HP : Hid (ChOK c id lane es ↔ (1 ≤ id ∧ id ≤ 1000000 ∧ 0 ≤ lane ∧ lane < c.lanes ∧ EditsOK es)) := Iff.rfl
  obtain ⟨r, hr⟩ : ∃ r : Bool, r = true ↔ EditsOK es := by
    by_cases h : EditsOK es
    · exact ⟨true, by simp [h]⟩
    · exact ⟨false, by simp [h]⟩
  have cM := fun d os => Calls.regrown_of (d := d) (os := os) (w := w.alloc (.cells #[.int .i64 kind, .int .i64 lane, .slice ea en ec, .int .i64 id, .bool pass, .int .i64 num] 140)) (editsMayBe_val es (.slice ea en ec) _ ((hE.later (below_new _ _)).later (below_regrown _ d os)) hc hn r hr)
  have Hr : Hid (r = true ↔ EditsOK es) := hr
  generalize ChOK c id lane es = p at HP ⊢
  clear hB hE X0 hr
  go_enter Tryz.func194, Tryz.ntmps194
  go_upto_region 1 with fail
  generalize w.alloc (.cells #[.int .i64 kind, .int .i64 lane, .slice ea en ec, .int .i64 id, .bool pass, .int .i64 num] 140) = w0 at *
  have HB0 : Hid (Below w.heap.size w w0) := hB0
  have e1 := cell_regrown x1
  have e2 := cell_regrown x2
  have e3 := cell_regrown x3
  have e0 := cell_regrown y0
  clear hB0 x1 x2 x3 y0
  have fin : Hid (∀ (b : Bool) (q : Regrown), (b = true ↔ p) → RetIff (.returned (.bool b)) p ∧ Below w.heap.size w (grow (redrawn w0 q.d) q.os)) := fun b q h => ⟨⟨b, rfl, h⟩, HB0.out.trans ((below_regrown w0 q.d q.os).mono HB0.out.size)⟩
  have no : Hid (¬ p → (false = true ↔ p)) := fun h => ⟨fun x => Bool.noConfusion x, fun x => absurd x h⟩
  by_cases g1 : 1 ≤ id
  · by_cases g2 : id ≤ 1000000
    · by_cases g3 : 0 ≤ lane
      · by_cases g4 : lane < (c.lanes : Int)
        · have F : Hid (r = true ↔ p) := Hr.out.trans ⟨fun h => HP.out.2 ⟨g1, g2, g3, g4, h⟩, fun h => (HP.out.1 h).2.2.2.2⟩
          refine wp_region_quiet_below (by kernel_rfl) (by kernel_rfl) ?_
          repeat (first | go_big_quiet_step (exact cM _ _) | quiet_step (exact cM _ _))
          refine wpQuiet_nil ?_
          rintro _ ⟨q, rfl⟩
          go_wp2_with fail
          go_ret
          exact fin.out r q F.out
        · have F : Hid (false = true ↔ p) := no.out fun h => g4 (HP.out.1 h).2.2.2.1
          have d4 : decide (lane < (c.lanes : Int)) = false := decide_eq_false g4
          refine wp_region_quiet_below (by kernel_rfl) (by kernel_rfl) ?_
          repeat (first | go_big_quiet_step (exact cM _ _) | quiet_step (exact cM _ _))
          refine wpQuiet_nil ?_
          rintro _ ⟨q, rfl⟩
          go_wp2_with fail
          go_ret
          exact fin.out false q F.out
      · have F : Hid (false = true ↔ p) := no.out fun h => g3 (HP.out.1 h).2.2.1
        have d4 : decide (0 ≤ lane) = false := decide_eq_false g3
        refine wp_region_quiet_below (by kernel_rfl) (by kernel_rfl) ?_
        repeat (first | go_big_quiet_step (exact cM _ _) | quiet_step (exact cM _ _))
        refine wpQuiet_nil ?_
        rintro _ ⟨q, rfl⟩
        go_wp2_with fail
        go_ret
        exact fin.out false q F.out
    · have F : Hid (false = true ↔ p) := no.out fun h => g2 (HP.out.1 h).2.1
      have d4 : decide (id ≤ 1000000) = false := decide_eq_false g2
      refine wp_region_quiet_below (by kernel_rfl) (by kernel_rfl) ?_
      repeat (first | go_big_quiet_step (exact cM _ _) | quiet_step (exact cM _ _))
      refine wpQuiet_nil ?_
      rintro _ ⟨q, rfl⟩
      go_wp2_with fail
      go_ret
      exact fin.out false q F.out
  · have F : Hid (false = true ↔ p) := no.out fun h => g1 (HP.out.1 h).1
    have d4 : decide (1 ≤ id) = false := decide_eq_false g1
    refine wp_region_quiet_below (by kernel_rfl) (by kernel_rfl) ?_
    repeat (first | go_big_quiet_step (exact cM _ _) | quiet_step (exact cM _ _))
    refine wpQuiet_nil ?_
    rintro _ ⟨q, rfl⟩
    go_wp2_with fail
    go_ret
    exact fin.out false q F.out
end Go.Proofs.YtgamgomepdfgdaaGreat
