import Derived.Test.YtgamgomepdfgdaaGreatProg
import Derived.Test.YtgamgomepdfgdaaGreatM01
import Derived.WalkLawsBesides
import Derived.BigQuiet
import Derived.Laws.StructEq
import Derived.Deep.QuietTactic
namespace Go.Proofs.YtgamgomepdfgdaaGreat
open Go.RowKit

theorem ret_str {a b : ByteArray} (h : a = b) : Ending.returned (.string a) = .returned (.string b) := by rw [h]
theorem drop_cons {α : Type} (l : List α) (k : Nat) (h : k < l.length) : l.drop k = l[k] :: l.drop (k + 1) := List.drop_eq_getElem_cons h

set_option maxHeartbeats 400000 in
theorem ref_stands (l : List Fl) (q : ByteArray) (v : Value) (w : World) (hl : FilesAt w v l) (hn : l.length < 8796093022208) :
    Calls Tryz.prog 267 #[v, .string q] w fun e w' => e = .returned (.string (standsL l q)) ∧ w' = w := by
  rcases hl with ⟨rfl, a, cap, rfl⟩ | ⟨b, off, cap, rfl, hlt, h0, h1⟩
  · go_enter Tryz.func267, Tryz.ntmps267
    go_wp2
    go_loop [5] (fun i => i = .int .i64 0) (fun _ => 0)
    case atStart => rfl
    case round =>
      subst hrel
      go_wp2
      go_ret
      exact ⟨rfl, rfl⟩
  · go_enter Tryz.func267, Tryz.ntmps267
    go_wp2
    go_loop [5] (fun i => ∃ k : Nat, k ≤ l.length ∧ i = .int .i64 k ∧ Hid (standsL l q = standsL (l.drop k) q)) (fun i => l.length - (intOf i).toNat)
    case atStart => exact ⟨0, Nat.zero_le _, rfl, rfl⟩
    case round =>
      obtain ⟨k, hk, rfl, hs⟩ := hrel
      by_cases hlt : k < l.length
      · have hd := drop_cons l k hlt
        have H1 : Hid ((l[k].1.toList == q.toList) = true → standsL l q = l[k].2) := fun h => by rw [hs.out, hd]; exact standsL_hit _ _ _ h
        have H2 : Hid ((l[k].1.toList == q.toList) = false → standsL l q = standsL (l.drop (k + 1)) q) := fun h => by rw [hs.out, hd]; exact standsL_miss _ _ _ h
        clear hd
        go_wp2
        · go_ret
          exact ⟨ret_str (H1.out ‹_›).symm, rfl⟩
        · exact ⟨⟨k + 1, hlt, by go_num, H2.out ‹_›⟩, by simp [intOf]; omega⟩
      · go_wp2
        go_ret
        exact ⟨ret_str (by rw [hs.out, List.drop_of_length_le (by omega)]; rfl), rfl⟩

set_option maxHeartbeats 400000 in
theorem law_stands (l : List Fl) (q : ByteArray) (v : Value) (w : World) (hl : FilesAt w v l) (hn : l.length < 8796093022208) :
    Calls Tryz.prog 102 #[v, .string q] w fun e w' => e = .returned (.string (standsL l q)) ∧ w' = w := by
  rcases hl with ⟨rfl, a, cap, rfl⟩ | ⟨b, off, cap, rfl, hlt, h0, h1⟩
  · go_enter Tryz.func102, Tryz.ntmps102
    go_wp2
    go_loop [5] (fun i => i = .int .i64 0) (fun _ => 0)
    case atStart => rfl
    case round =>
      subst hrel
      go_wp2
      go_ret
      exact ⟨rfl, rfl⟩
  · go_enter Tryz.func102, Tryz.ntmps102
    go_wp2
    go_loop [5] (fun i => ∃ k : Nat, k ≤ l.length ∧ i = .int .i64 k ∧ Hid (standsL l q = standsL (l.drop k) q)) (fun i => l.length - (intOf i).toNat)
    case atStart => exact ⟨0, Nat.zero_le _, rfl, rfl⟩
    case round =>
      obtain ⟨k, hk, rfl, hs⟩ := hrel
      by_cases hlt : k < l.length
      · have hd := drop_cons l k hlt
        have H1 : Hid ((l[k].1.toList == q.toList) = true → standsL l q = l[k].2) := fun h => by rw [hs.out, hd]; exact standsL_hit _ _ _ h
        have H2 : Hid ((l[k].1.toList == q.toList) = false → standsL l q = standsL (l.drop (k + 1)) q) := fun h => by rw [hs.out, hd]; exact standsL_miss _ _ _ h
        clear hd
        go_wp2
        · go_ret
          exact ⟨ret_str (H1.out ‹_›).symm, rfl⟩
        · exact ⟨⟨k + 1, hlt, by go_num, H2.out ‹_›⟩, by simp [intOf]; omega⟩
      · go_wp2
        go_ret
        exact ⟨ret_str (by rw [hs.out, List.drop_of_length_le (by omega)]; rfl), rfl⟩

/-- two files, two edits that are not one -/
def neF (p b q c : ByteArray) : Bool := !((p.toList == q.toList) && (b.toList == c.toList))
def neE (p o n q r m : ByteArray) : Bool := !((p.toList == q.toList) && (o.toList == r.toList) && (n.toList == m.toList))

theorem neF_iff (f g : Fl) : neF f.1 f.2 g.1 g.2 = false ↔ f = g := by
  unfold neF
  rw [Bool.not_eq_false', Bool.and_eq_true, beq_true_iff, beq_true_iff]
  exact ⟨fun h => Prod.ext h.1 h.2, fun h => by rw [h]; exact ⟨rfl, rfl⟩⟩
theorem neE_iff (f g : Ed) : neE f.1 f.2.1 f.2.2 g.1 g.2.1 g.2.2 = false ↔ f = g := by
  unfold neE
  rw [Bool.not_eq_false', Bool.and_eq_true, Bool.and_eq_true, beq_true_iff, beq_true_iff, beq_true_iff]
  exact ⟨fun h => Prod.ext h.1.1 (Prod.ext h.1.2 h.2), fun h => by rw [h]; exact ⟨⟨rfl, rfl⟩, rfl⟩⟩

theorem eqF_run (p b q c : ByteArray) (w : World) : (binOp .neq 80 (.agg #[.string p, .string b]) (.agg #[.string q, .string c])).run Tryz.prog w = .ok (.bool (neF p b q c)) w := by
  have u9 := Tryz.underlying9
  have a9 := Tryz.isAgg9
  have z9 := Tryz.sizeOf9
  have hS : Tryz.prog.underlying 80 = some (.struct (Tryz.prog.fieldsOf 80)) := by kernel_rfl
  have hp : Tryz.prog.stoodInHeld 80 = false := by kernel_rfl
  rw [run_neq_struct, show (10000 : Nat) = 9999 + 1 from rfl, run_equalIn_agg w 9999 80 _ _ hS hp]
  simp only [Program.fieldsOf, Tryz.underlying80]
  go_simp
  unfold neF
  by_cases h1 : p.toList = q.toList <;> by_cases h2 : b.toList = c.toList <;> simp [h1, h2]

theorem eqE_run (p o n q r m : ByteArray) (w : World) : (binOp .neq 49 (.agg #[.string p, .string o, .string n]) (.agg #[.string q, .string r, .string m])).run Tryz.prog w = .ok (.bool (neE p o n q r m)) w := by
  have u9 := Tryz.underlying9
  have a9 := Tryz.isAgg9
  have z9 := Tryz.sizeOf9
  have hS : Tryz.prog.underlying 49 = some (.struct (Tryz.prog.fieldsOf 49)) := by kernel_rfl
  have hp : Tryz.prog.stoodInHeld 49 = false := by kernel_rfl
  rw [run_neq_struct, show (10000 : Nat) = 9999 + 1 from rfl, run_equalIn_agg w 9999 49 _ _ hS hp]
  simp only [Program.fieldsOf, Tryz.underlying49]
  go_simp
  unfold neE
  by_cases h1 : p.toList = q.toList <;> by_cases h2 : o.toList = r.toList <;> by_cases h3 : n.toList = m.toList <;> simp [h1, h2, h3]

theorem take_succ_eq {α : Type} {l m : List α} {k : Nat} (h1 : k < l.length) (h2 : k < m.length) (h : l.take k = m.take k) (e : l[k] = m[k]) : l.take (k + 1) = m.take (k + 1) := by
  rw [List.take_succ_eq_append_getElem h1, List.take_succ_eq_append_getElem h2, h, e]

set_option maxHeartbeats 1000000 in
theorem sameFiles_row (l m : List Fl) (b off cap b' off' cap' : Nat) (w : World) (he : m.length = l.length) (hn : l.length < 8796093022208)
    (h0 : ∀ i (h : i < l.length), w.cell? ⟨b, off + i * 2, none⟩ = some (.string l[i].1)) (h1 : ∀ i (h : i < l.length), w.cell? ⟨b, off + i * 2 + 1, none⟩ = some (.string l[i].2))
    (g0 : ∀ i (h : i < m.length), w.cell? ⟨b', off' + i * 2, none⟩ = some (.string m[i].1)) (g1 : ∀ i (h : i < m.length), w.cell? ⟨b', off' + i * 2 + 1, none⟩ = some (.string m[i].2)) :
    Calls Tryz.prog 38 #[.slice (some ⟨b, off, none⟩) l.length cap, .slice (some ⟨b', off', none⟩) l.length cap'] w fun e w' => RetIff e (l = m) ∧ Drew w w' := by
  have hne := eqF_run
  have he' : Hid (m.length = l.length) := he
  have hle : l.length ≤ m.length := by omega
  clear he
  go_enter Tryz.func38, Tryz.ntmps38
  go_wp2
  go_loopw [5] (fun i wr => ∃ k n : Nat, k ≤ l.length ∧ i = .int .i64 k ∧ wr = w.drewN n ∧ Hid (l.take k = m.take k)) (fun i _ => l.length - (intOf i).toNat)
  case atStart => exact ⟨0, 0, Nat.zero_le _, rfl, rfl, rfl⟩
  case round =>
    obtain ⟨k, n, hk, rfl, rfl, hs⟩ := hrel
    by_cases hlt : k < l.length
    · have hlt' : k < m.length := by omega
      have H : Hid (∀ x, x = false → (neF l[k].1 l[k].2 m[k].1 m[k].2 = x) → l[k] = m[k]) := fun x hx h => (neF_iff _ _).1 (h.trans hx)
      have H' : Hid (neF l[k].1 l[k].2 m[k].1 m[k].2 = true → l ≠ m) := fun h e => by
        have : neF l[k].1 l[k].2 m[k].1 m[k].2 = false := (neF_iff _ _).2 (by subst e; rfl)
        rw [this] at h; cases h
      go_wp2
      go_quiet (fail)
      go_wp2
      · go_ret
        exact ⟨.no (H'.out ‹_›), .two _ _ _⟩
      · go_roundw
        case rel => exact ⟨k + 1, _, hlt, by go_num, rfl, take_succ_eq hlt hlt' hs.out (H.out false rfl ‹_›)⟩
        case measure => simp [intOf]; omega
    · go_wp2
      go_ret
      refine ⟨.yes ?_, .one _ _⟩
      have := hs.out
      rwa [List.take_of_length_le (by omega), List.take_of_length_le (by have := he'.out; omega)] at this

set_option maxHeartbeats 400000 in
theorem sameFiles_len (n m cap cap' : Nat) (a a' : Option Addr) (w : World) (he : ((n : Int) == (m : Int)) = false) :
    Calls Tryz.prog 38 #[.slice a n cap, .slice a' m cap'] w fun e w' => e = .returned (.bool false) ∧ w' = w := by
  have he2 : ((n : Int) != (m : Int)) = true := by rw [bne, he]; rfl
  go_enter Tryz.func38, Tryz.ntmps38
  go_wp2
  go_ret
  exact ⟨rfl, rfl⟩

set_option maxHeartbeats 400000 in
theorem sameFiles_none (cap cap' : Nat) (a a' : Option Addr) (w : World) :
    Calls Tryz.prog 38 #[.slice a 0 cap, .slice a' 0 cap'] w fun e w' => e = .returned (.bool true) ∧ w' = w := by
  go_enter Tryz.func38, Tryz.ntmps38
  go_wp2
  go_loop [5] (fun i => i = .int .i64 0) (fun _ => 0)
  case atStart => rfl
  case round =>
    subst hrel
    go_wp2
    go_ret
    exact ⟨rfl, rfl⟩

theorem sameFiles_any (l m : List Fl) (va vb : Value) (w : World) (ha : FilesAt w va l) (hb : FilesAt w vb m) (hn : l.length < 8796093022208) :
    Calls Tryz.prog 38 #[va, vb] w fun e w' => RetIff e (l = m) ∧ Drew w w' := by
  have hl : ∃ a cap, va = .slice a l.length cap := by
    rcases ha with ⟨rfl, a, cap, rfl⟩ | ⟨b, off, cap, rfl, _⟩
    · exact ⟨_, _, rfl⟩
    · exact ⟨_, _, rfl⟩
  have hm : ∃ a cap, vb = .slice a m.length cap := by
    rcases hb with ⟨rfl, a, cap, rfl⟩ | ⟨b, off, cap, rfl, _⟩
    · exact ⟨_, _, rfl⟩
    · exact ⟨_, _, rfl⟩
  by_cases he : l.length = m.length
  · by_cases hz : l.length = 0
    · have e1 : l = [] := List.length_eq_zero_iff.1 hz
      have e2 : m = [] := List.length_eq_zero_iff.1 (by omega)
      subst e1; subst e2
      obtain ⟨a, cap, rfl⟩ := hl
      obtain ⟨a', cap', rfl⟩ := hm
      exact (sameFiles_none cap cap' a a' w).mono fun e w' ⟨h1, h2⟩ => by subst h1 h2; exact ⟨.yes rfl, .refl _⟩
    · rcases ha with ⟨rfl, _⟩ | ⟨b, off, cap, rfl, _, h0, h1⟩
      · exact absurd rfl hz
      rcases hb with ⟨rfl, _⟩ | ⟨b', off', cap', rfl, _, g0, g1⟩
      · exact absurd he (by simpa using hz)
      have := sameFiles_row l m b off cap b' off' cap' w he.symm hn h0 h1 g0 g1
      rw [← he]
      exact this
  · obtain ⟨a, cap, rfl⟩ := hl
    obtain ⟨a', cap', rfl⟩ := hm
    exact (sameFiles_len _ _ cap cap' a a' w (by rw [beq_eq_false_iff_ne]; omega)).mono fun e w' ⟨h1, h2⟩ => by subst h1 h2; exact ⟨.no (fun e => he (by rw [e])), .refl _⟩

set_option maxHeartbeats 1000000 in
theorem sameEdits_row (l m : List Ed) (b off cap b' off' cap' : Nat) (w : World) (he : m.length = l.length) (hn : l.length < 8796093022208)
    (h0 : ∀ i (h : i < l.length), w.cell? ⟨b, off + i * 3, none⟩ = some (.string l[i].1)) (h1 : ∀ i (h : i < l.length), w.cell? ⟨b, off + i * 3 + 1, none⟩ = some (.string l[i].2.1)) (h2 : ∀ i (h : i < l.length), w.cell? ⟨b, off + i * 3 + 2, none⟩ = some (.string l[i].2.2))
    (g0 : ∀ i (h : i < m.length), w.cell? ⟨b', off' + i * 3, none⟩ = some (.string m[i].1)) (g1 : ∀ i (h : i < m.length), w.cell? ⟨b', off' + i * 3 + 1, none⟩ = some (.string m[i].2.1)) (g2 : ∀ i (h : i < m.length), w.cell? ⟨b', off' + i * 3 + 2, none⟩ = some (.string m[i].2.2)) :
    Calls Tryz.prog 88 #[.slice (some ⟨b, off, none⟩) l.length cap, .slice (some ⟨b', off', none⟩) l.length cap'] w fun e w' => RetIff e (l = m) ∧ Drew w w' := by
  have hne := eqE_run
  have he' : Hid (m.length = l.length) := he
  have hle : l.length ≤ m.length := by omega
  clear he
  go_enter Tryz.func88, Tryz.ntmps88
  go_wp2
  go_loopw [5] (fun i wr => ∃ k n : Nat, k ≤ l.length ∧ i = .int .i64 k ∧ wr = w.drewN n ∧ Hid (l.take k = m.take k)) (fun i _ => l.length - (intOf i).toNat)
  case atStart => exact ⟨0, 0, Nat.zero_le _, rfl, rfl, rfl⟩
  case round =>
    obtain ⟨k, n, hk, rfl, rfl, hs⟩ := hrel
    by_cases hlt : k < l.length
    · have hlt' : k < m.length := by omega
      have H : Hid (∀ x, x = false → (neE l[k].1 l[k].2.1 l[k].2.2 m[k].1 m[k].2.1 m[k].2.2 = x) → l[k] = m[k]) := fun x hx h => (neE_iff _ _).1 (h.trans hx)
      have H' : Hid (neE l[k].1 l[k].2.1 l[k].2.2 m[k].1 m[k].2.1 m[k].2.2 = true → l ≠ m) := fun h e => by
        have : neE l[k].1 l[k].2.1 l[k].2.2 m[k].1 m[k].2.1 m[k].2.2 = false := (neE_iff _ _).2 (by subst e; rfl)
        rw [this] at h; cases h
      go_wp2
      go_quiet (fail)
      go_wp2
      · go_ret
        exact ⟨.no (H'.out ‹_›), .two _ _ _⟩
      · go_roundw
        case rel => exact ⟨k + 1, _, hlt, by go_num, rfl, take_succ_eq hlt hlt' hs.out (H.out false rfl ‹_›)⟩
        case measure => simp [intOf]; omega
    · go_wp2
      go_ret
      refine ⟨.yes ?_, .one _ _⟩
      have := hs.out
      rwa [List.take_of_length_le (by omega), List.take_of_length_le (by have := he'.out; omega)] at this

set_option maxHeartbeats 400000 in
theorem sameEdits_len (n m cap cap' : Nat) (a a' : Option Addr) (w : World) (he : ((n : Int) == (m : Int)) = false) :
    Calls Tryz.prog 88 #[.slice a n cap, .slice a' m cap'] w fun e w' => e = .returned (.bool false) ∧ w' = w := by
  have he2 : ((n : Int) != (m : Int)) = true := by rw [bne, he]; rfl
  go_enter Tryz.func88, Tryz.ntmps88
  go_wp2
  go_ret
  exact ⟨rfl, rfl⟩

set_option maxHeartbeats 400000 in
theorem sameEdits_none (cap cap' : Nat) (a a' : Option Addr) (w : World) :
    Calls Tryz.prog 88 #[.slice a 0 cap, .slice a' 0 cap'] w fun e w' => e = .returned (.bool true) ∧ w' = w := by
  go_enter Tryz.func88, Tryz.ntmps88
  go_wp2
  go_loop [5] (fun i => i = .int .i64 0) (fun _ => 0)
  case atStart => rfl
  case round =>
    subst hrel
    go_wp2
    go_ret
    exact ⟨rfl, rfl⟩

theorem sameEdits_any (l m : List Ed) (va vb : Value) (w : World) (ha : EditsAt w va l) (hb : EditsAt w vb m) (hn : l.length < 8796093022208) :
    Calls Tryz.prog 88 #[va, vb] w fun e w' => RetIff e (l = m) ∧ Drew w w' := by
  have hl : ∃ a cap, va = .slice a l.length cap := by
    rcases ha with ⟨rfl, a, cap, rfl⟩ | ⟨b, off, cap, rfl, _⟩
    · exact ⟨_, _, rfl⟩
    · exact ⟨_, _, rfl⟩
  have hm : ∃ a cap, vb = .slice a m.length cap := by
    rcases hb with ⟨rfl, a, cap, rfl⟩ | ⟨b, off, cap, rfl, _⟩
    · exact ⟨_, _, rfl⟩
    · exact ⟨_, _, rfl⟩
  by_cases he : l.length = m.length
  · by_cases hz : l.length = 0
    · have e1 : l = [] := List.length_eq_zero_iff.1 hz
      have e2 : m = [] := List.length_eq_zero_iff.1 (by omega)
      subst e1; subst e2
      obtain ⟨a, cap, rfl⟩ := hl
      obtain ⟨a', cap', rfl⟩ := hm
      exact (sameEdits_none cap cap' a a' w).mono fun e w' ⟨h1, h2⟩ => by subst h1 h2; exact ⟨.yes rfl, .refl _⟩
    · rcases ha with ⟨rfl, _⟩ | ⟨b, off, cap, rfl, _, h0, h1, h2⟩
      · exact absurd rfl hz
      rcases hb with ⟨rfl, _⟩ | ⟨b', off', cap', rfl, _, g0, g1, g2⟩
      · exact absurd he (by simpa using hz)
      have := sameEdits_row l m b off cap b' off' cap' w he.symm hn h0 h1 h2 g0 g1 g2
      rw [← he]
      exact this
  · obtain ⟨a, cap, rfl⟩ := hl
    obtain ⟨a', cap', rfl⟩ := hm
    exact (sameEdits_len _ _ cap cap' a a' w (by rw [beq_eq_false_iff_ne]; omega)).mono fun e w' ⟨h1, h2⟩ => by subst h1 h2; exact ⟨.no (fun e => he (by rw [e])), .refl _⟩

end Go.Proofs.YtgamgomepdfgdaaGreat

namespace Go.Proofs.YtgamgomepdfgdaaGreat
open Go.RowKit

/-- less, on strings, as Go has it -/
def ltB (a b : ByteArray) : Bool := decide (a.data.toList < b.data.toList)

theorem ltB_drop {a b : ByteArray} {k : Nat} (h : a.data.toList.take k = b.data.toList.take k) : ltB a b = decide (a.data.toList.drop k < b.data.toList.drop k) := by
  unfold ltB
  rw [decide_eq_decide]
  conv => lhs; rw [← List.take_append_drop k a.data.toList, ← List.take_append_drop k b.data.toList, h]
  generalize b.data.toList.take k = c
  induction c with
  | nil => rfl
  | cons x c ih => simpa [List.cons_lt_cons_iff] using ih

theorem drop_at (a : ByteArray) (k : Nat) (h : k < a.size) : a.data.toList.drop k = a[k] :: a.data.toList.drop (k + 1) := by
  rw [List.drop_eq_getElem_cons (by simpa using h)]; rfl
theorem take_at (a : ByteArray) (k : Nat) (h : k < a.size) : a.data.toList.take (k + 1) = a.data.toList.take k ++ [a[k]] := by
  rw [List.take_succ_eq_append_getElem (by simpa using h)]; rfl

theorem ord_ne {a b : ByteArray} {k : Nat} (h1 : k < a.size) (h2 : k < b.size) (hs : a.data.toList.take k = b.data.toList.take k) (h : ((a[k].toNat : Int) != (b[k].toNat : Int)) = true) :
    decide (a[k].toNat < b[k].toNat) = ltB a b := by
  rw [ltB_drop hs, drop_at a k h1, drop_at b k h2, decide_eq_decide, List.cons_lt_cons_iff, UInt8.lt_iff_toNat_lt]
  have hne : a[k] ≠ b[k] := fun e => by rw [e] at h; simp at h
  simp [hne]
theorem ord_eq {a b : ByteArray} {k : Nat} (h1 : k < a.size) (h2 : k < b.size) (hs : a.data.toList.take k = b.data.toList.take k) (h : ((a[k].toNat : Int) != (b[k].toNat : Int)) = false) :
    a.data.toList.take (k + 1) = b.data.toList.take (k + 1) := by
  have h' : (a[k].toNat : Int) = b[k].toNat := by simpa using h
  have e : a[k] = b[k] := UInt8.toNat_inj.1 (by omega)
  rw [take_at a k h1, take_at b k h2, hs, e]
theorem ord_end {a b : ByteArray} {k : Nat} (h1 : k ≤ a.size) (h2 : k ≤ b.size) (h : k = a.size ∨ k = b.size) (hs : a.data.toList.take k = b.data.toList.take k) : decide (a.size < b.size) = ltB a b := by
  rw [ltB_drop hs]
  have ea := Lib.size_eq a
  have eb := Lib.size_eq b
  rcases h with h | h
  · rw [List.drop_of_length_le (l := a.data.toList) (by omega)]
    by_cases hb : k < b.size
    · rw [drop_at b k hb]; simp; omega
    · rw [List.drop_of_length_le (l := b.data.toList) (by omega)]; simp; omega
  · rw [List.drop_of_length_le (l := b.data.toList) (by omega)]
    have : ¬ a.size < b.size := by omega
    simp [this]
theorem ret_bool {a b : Bool} (h : a = b) : Ending.returned (.bool a) = .returned (.bool b) := by rw [h]

set_option maxHeartbeats 1000000 in
theorem order_any (a b : ByteArray) (w : World) (ha : a.size ≤ maxLen) :
    Calls Tryz.prog 125 #[.string a, .string b] w fun e w' => e = .returned (.bool (ltB a b)) ∧ Drew w w' := by
  unfold maxLen at ha
  go_enter Tryz.func125, Tryz.ntmps125
  go_wp2
  go_loopw [5] (fun i wr => ∃ k n : Nat, k ≤ a.size ∧ k ≤ b.size ∧ i = .int .i64 k ∧ wr = w.drewN n ∧ Hid (a.data.toList.take k = b.data.toList.take k)) (fun i _ => a.size - (intOf i).toNat)
  case atStart => exact ⟨0, 0, Nat.zero_le _, Nat.zero_le _, rfl, rfl, rfl⟩
  case round =>
    obtain ⟨k, n, hka, hkb, rfl, rfl, hs⟩ := hrel
    by_cases h1 : k < a.size
    · by_cases h2 : k < b.size
      · go_wp2
        go_quiet (fail)
        go_wp2
        · go_quiet (fail)
          go_wp2
          go_ret
          exact ⟨ret_bool (ord_ne h1 h2 hs.out ‹_›), .three _ _ _ _⟩
        · exact ⟨⟨k + 1, _, h1, h2, by go_num, rfl, ord_eq h1 h2 hs.out ‹_›⟩, by simp [intOf]; omega⟩
      · go_wp2
        go_ret
        exact ⟨ret_bool (ord_end hka hkb (by omega) hs.out), .one _ _⟩
    · go_wp2
      go_ret
      exact ⟨ret_bool (ord_end hka hkb (by omega) hs.out), .one _ _⟩
end Go.Proofs.YtgamgomepdfgdaaGreat

namespace Go.Proofs.YtgamgomepdfgdaaGreat
open Go.RowKit

theorem good_stop {α : Type} {ok : α → Bool} {key : α → ByteArray} {l : List α} {k : Nat} (hk : k < l.length) (h : ¬ ok l[k] = true) : ¬ Good ok key l := fun hg => h (hg.1 _ (List.getElem_mem hk))
theorem good_twice {α : Type} {ok : α → Bool} {key : α → ByteArray} {l : List α} {j k : Nat} (hk : k < l.length) (hj : j < k) (h : key (l[j]'(by omega)) = key l[k]) : ¬ Good ok key l := fun hg =>
  List.pairwise_iff_getElem.1 hg.2 j k (by omega) hk hj h

set_option maxHeartbeats 1000000 in
theorem filesMay_any (l : List Fl) (v : Value) (w : World) (hl : FilesAt w v l) (hn : l.length < 8796093022208) :
    Calls Tryz.prog 82 #[v] w fun e w' => RetIff e (Good okFl Prod.fst l) ∧ Drew w w' := by
  rcases hl with ⟨rfl, a, cap, rfl⟩ | ⟨b, off, cap, rfl, hlt, h0, h1⟩
  · go_enter Tryz.func82, Tryz.ntmps82
    go_wp2
    go_loop [3] (fun i => i = .int .i64 0) (fun _ => 0)
    case atStart => rfl
    case round =>
      subst hrel
      go_wp2
      go_ret
      exact ⟨.yes (Good.nil _ _), .refl _⟩
  · go_enter Tryz.func82, Tryz.ntmps82
    go_wp2
    go_loopw [3] (fun i wr => ∃ k n : Nat, k ≤ l.length ∧ i = .int .i64 k ∧ wr = w.drewN n ∧ Hid (Good okFl Prod.fst (l.take k))) (fun i _ => l.length - (intOf i).toNat)
    case atStart => exact ⟨0, 0, Nat.zero_le _, rfl, rfl, Good.nil _ _⟩
    case round =>
      obtain ⟨k, n, hk, rfl, rfl, hs⟩ := hrel
      by_cases hlt : k < l.length
      · by_cases hok : okFl l[k] = true
        · have H := good_succ (ok := okFl) (key := Prod.fst) hlt
          have HS : Hid ((∀ j (h : j < k), (l[j]'(by omega)).1 ≠ l[k].1) → Good okFl Prod.fst (l.take (k + 1))) := fun h => H.2 ⟨hs.out, hok, h⟩
          obtain ⟨⟨q1, q2⟩, q3, q4⟩ := (okFl_iff _).1 hok
          clear H hok
          go_wp2
          go_loopw [4] (fun i wr => ∃ j m : Nat, j ≤ k ∧ i = .int .i64 j ∧ wr = w.drewN m ∧ Hid (∀ x (h : x < j) (h' : x < l.length), l[x].1 ≠ l[k].1)) (fun i _ => k - (intOf i).toNat)
          case atStart => exact ⟨0, n, Nat.zero_le _, rfl, rfl, fun x h => by omega⟩
          case round =>
            obtain ⟨j, m, hj, rfl, rfl, hi⟩ := hrel
            by_cases hjk : j < k
            · have hjl : j < l.length := by omega
              go_wp2
              go_quiet (fail)
              go_wp2
              · go_ret
                exact ⟨.no (good_twice hlt hjk ((beq_true_iff _ _).1 ‹_›)), .two _ _ _⟩
              · go_roundw
                case rel => exact ⟨j + 1, _, hjk, by go_num, rfl, fun x hx hx' => by
                  by_cases e : x = j
                  · subst e; exact (beq_false_iff _ _).1 ‹_›
                  · exact hi.out x (by omega) hx'⟩
                case measure => simp [intOf]; omega
            · go_wp2
              go_roundw
              case rel => exact ⟨k + 1, _, hlt, by go_num, rfl, HS.out fun x hx => hi.out x (by omega) (by omega)⟩
              case measure => simp [intOf]; omega
        · have hb : ¬ Good okFl Prod.fst l := good_stop hlt hok
          have hB : Hid (¬ Good okFl Prod.fst l) := hb
          have hok' : ¬ ((1 ≤ l[k].1.size ∧ l[k].1.size ≤ 8) ∧ 1 ≤ l[k].2.size ∧ l[k].2.size ≤ 8) := fun h => hok ((okFl_iff _).2 h)
          clear hb hok
          have hc : l[k].1.size < 1 ∨ (1 ≤ l[k].1.size ∧ 8 < l[k].1.size) ∨ (1 ≤ l[k].1.size ∧ l[k].1.size ≤ 8 ∧ l[k].2.size < 1) ∨ (1 ≤ l[k].1.size ∧ l[k].1.size ≤ 8 ∧ 1 ≤ l[k].2.size ∧ 8 < l[k].2.size) := by omega
          clear hok'
          rcases hc with c | ⟨c, d⟩ | ⟨c, d, e⟩ | ⟨c, d, e, f⟩
          all_goals
            go_wp2
            go_ret
            exact ⟨.no hB.out, .one _ _⟩
      · go_wp2
        go_ret
        refine ⟨.yes ?_, .one _ _⟩
        have := hs.out
        rwa [List.take_of_length_le (by omega)] at this

set_option maxHeartbeats 400000 in
theorem editsMay_len (n cap : Nat) (a : Option Addr) (w : World) (h : n < 1 ∨ 4 < n) (hn : n < 8796093022208) :
    Calls Tryz.prog 130 #[.slice a n cap] w fun e w' => e = .returned (.bool false) ∧ w' = w := by
  rcases h with h | h
  · go_enter Tryz.func130, Tryz.ntmps130
    go_wp2
    go_ret
    exact ⟨rfl, rfl⟩
  · have h1 : ¬ n < 1 := by omega
    go_enter Tryz.func130, Tryz.ntmps130
    go_wp2
    go_ret
    exact ⟨rfl, rfl⟩

/-- edits that may be -/
def EditsOK (l : List Ed) : Prop := 1 ≤ l.length ∧ l.length ≤ 4 ∧ Good okEd Prod.fst l
end Go.Proofs.YtgamgomepdfgdaaGreat
