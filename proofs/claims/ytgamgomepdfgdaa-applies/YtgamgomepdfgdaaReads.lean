import Derived.Test.YtgamgomepdfgdaaProg
import Derived.Test.YtgamgomepdfgdaaMem
import Derived.WalkLawsBesides
import Derived.BigQuiet
import Derived.Laws.StructEq
import Derived.Deep.QuietTactic
namespace Go.Proofs.Ytgamgomepdfgdaa
open Go.RowKit

theorem ret_str {a b : ByteArray} (h : a = b) : Ending.returned (.string a) = .returned (.string b) := by rw [h]
theorem drop_cons {α : Type} (l : List α) (k : Nat) (h : k < l.length) : l.drop k = l[k] :: l.drop (k + 1) := List.drop_eq_getElem_cons h

set_option maxHeartbeats 400000 in
theorem ref_stands (l : List Fl) (q : ByteArray) (v : Value) (w : World) (hl : FilesAt w v l) (hn : l.length < 8796093022208) :
    Calls Try.prog 29 #[v, .string q] w fun e w' => e = .returned (.string (standsL l q)) ∧ w' = w := by
  rcases hl with ⟨rfl, a, cap, rfl⟩ | ⟨b, off, cap, rfl, hlt, h0, h1⟩
  · go_enter Try.func29, Try.ntmps29
    go_wp2
    go_loop [5] (fun i => i = .int .i64 0) (fun _ => 0)
    case atStart => rfl
    case round =>
      subst hrel
      go_wp2
      go_ret
      exact ⟨rfl, rfl⟩
  · go_enter Try.func29, Try.ntmps29
    go_wp2
    go_loop [5] (fun i => ∃ k : Nat, k ≤ l.length ∧ i = .int .i64 k ∧ Hid (standsL l q = standsL (l.drop k) q)) (fun i => l.length - (intOf i).toNat)
    case atStart => exact ⟨0, Nat.zero_le _, rfl, rfl⟩
    case round =>
      obtain ⟨k, hk, rfl, hs⟩ := hrel
      by_cases hlt : k < l.length
      · have hd := drop_cons l k hlt
        have H1 : Hid ((l[k].1.toList == q.toList) = true → standsL l q = l[k].2) := fun h => by rw [hs.out, hd]; exact standsL_hit _ _ _ h
        have H2 : Hid ((l[k].1.toList == q.toList) = false → standsL l q = standsL (l.drop (k + 1)) q) := fun h => by rw [hs.out, hd]; exact standsL_miss _ _ _ h
        clear hd
        go_wp2
        · go_ret
          exact ⟨ret_str (H1.out ‹_›).symm, rfl⟩
        · exact ⟨⟨k + 1, hlt, by go_num, H2.out ‹_›⟩, by simp [intOf]; omega⟩
      · go_wp2
        go_ret
        exact ⟨ret_str (by rw [hs.out, List.drop_of_length_le (by omega)]; rfl), rfl⟩

set_option maxHeartbeats 400000 in
theorem law_stands (l : List Fl) (q : ByteArray) (v : Value) (w : World) (hl : FilesAt w v l) (hn : l.length < 8796093022208) :
    Calls Try.prog 15 #[v, .string q] w fun e w' => e = .returned (.string (standsL l q)) ∧ w' = w := by
  rcases hl with ⟨rfl, a, cap, rfl⟩ | ⟨b, off, cap, rfl, hlt, h0, h1⟩
  · go_enter Try.func15, Try.ntmps15
    go_wp2
    go_loop [5] (fun i => i = .int .i64 0) (fun _ => 0)
    case atStart => rfl
    case round =>
      subst hrel
      go_wp2
      go_ret
      exact ⟨rfl, rfl⟩
  · go_enter Try.func15, Try.ntmps15
    go_wp2
    go_loop [5] (fun i => ∃ k : Nat, k ≤ l.length ∧ i = .int .i64 k ∧ Hid (standsL l q = standsL (l.drop k) q)) (fun i => l.length - (intOf i).toNat)
    case atStart => exact ⟨0, Nat.zero_le _, rfl, rfl⟩
    case round =>
      obtain ⟨k, hk, rfl, hs⟩ := hrel
      by_cases hlt : k < l.length
      · have hd := drop_cons l k hlt
        have H1 : Hid ((l[k].1.toList == q.toList) = true → standsL l q = l[k].2) := fun h => by rw [hs.out, hd]; exact standsL_hit _ _ _ h
        have H2 : Hid ((l[k].1.toList == q.toList) = false → standsL l q = standsL (l.drop (k + 1)) q) := fun h => by rw [hs.out, hd]; exact standsL_miss _ _ _ h
        clear hd
        go_wp2
        · go_ret
          exact ⟨ret_str (H1.out ‹_›).symm, rfl⟩
        · exact ⟨⟨k + 1, hlt, by go_num, H2.out ‹_›⟩, by simp [intOf]; omega⟩
      · go_wp2
        go_ret
        exact ⟨ret_str (by rw [hs.out, List.drop_of_length_le (by omega)]; rfl), rfl⟩

/-- two files, two edits that are not one -/
def neF (p b q c : ByteArray) : Bool := !((p.toList == q.toList) && (b.toList == c.toList))
def neE (p o n q r m : ByteArray) : Bool := !((p.toList == q.toList) && (o.toList == r.toList) && (n.toList == m.toList))

theorem neF_iff (f g : Fl) : neF f.1 f.2 g.1 g.2 = false ↔ f = g := by
  unfold neF
  rw [Bool.not_eq_false', Bool.and_eq_true, beq_true_iff, beq_true_iff]
  exact ⟨fun h => Prod.ext h.1 h.2, fun h => by rw [h]; exact ⟨rfl, rfl⟩⟩
theorem neE_iff (f g : Ed) : neE f.1 f.2.1 f.2.2 g.1 g.2.1 g.2.2 = false ↔ f = g := by
  unfold neE
  rw [Bool.not_eq_false', Bool.and_eq_true, Bool.and_eq_true, beq_true_iff, beq_true_iff, beq_true_iff]
  exact ⟨fun h => Prod.ext h.1.1 (Prod.ext h.1.2 h.2), fun h => by rw [h]; exact ⟨⟨rfl, rfl⟩, rfl⟩⟩

theorem eqF_run (p b q c : ByteArray) (w : World) : (binOp .neq 47 (.agg #[.string p, .string b]) (.agg #[.string q, .string c])).run Try.prog w = .ok (.bool (neF p b q c)) w := by
  have u9 := Try.underlying9
  have a9 := Try.isAgg9
  have z9 := Try.sizeOf9
  have hS : Try.prog.underlying 47 = some (.struct (Try.prog.fieldsOf 47)) := by kernel_rfl
  have hp : Try.prog.stoodInHeld 47 = false := by kernel_rfl
  rw [run_neq_struct, show (10000 : Nat) = 9999 + 1 from rfl, run_equalIn_agg w 9999 47 _ _ hS hp]
  simp only [Program.fieldsOf, Try.underlying47]
  go_simp
  unfold neF
  by_cases h1 : p.toList = q.toList <;> by_cases h2 : b.toList = c.toList <;> simp [h1, h2]

theorem eqE_run (p o n q r m : ByteArray) (w : World) : (binOp .neq 49 (.agg #[.string p, .string o, .string n]) (.agg #[.string q, .string r, .string m])).run Try.prog w = .ok (.bool (neE p o n q r m)) w := by
  have u9 := Try.underlying9
  have a9 := Try.isAgg9
  have z9 := Try.sizeOf9
  have hS : Try.prog.underlying 49 = some (.struct (Try.prog.fieldsOf 49)) := by kernel_rfl
  have hp : Try.prog.stoodInHeld 49 = false := by kernel_rfl
  rw [run_neq_struct, show (10000 : Nat) = 9999 + 1 from rfl, run_equalIn_agg w 9999 49 _ _ hS hp]
  simp only [Program.fieldsOf, Try.underlying49]
  go_simp
  unfold neE
  by_cases h1 : p.toList = q.toList <;> by_cases h2 : o.toList = r.toList <;> by_cases h3 : n.toList = m.toList <;> simp [h1, h2, h3]

theorem take_succ_eq {α : Type} {l m : List α} {k : Nat} (h1 : k < l.length) (h2 : k < m.length) (h : l.take k = m.take k) (e : l[k] = m[k]) : l.take (k + 1) = m.take (k + 1) := by
  rw [List.take_succ_eq_append_getElem h1, List.take_succ_eq_append_getElem h2, h, e]

set_option maxHeartbeats 1000000 in
theorem sameFiles_row (l m : List Fl) (b off cap b' off' cap' : Nat) (w : World) (he : m.length = l.length) (hn : l.length < 8796093022208)
    (h0 : ∀ i (h : i < l.length), w.cell? ⟨b, off + i * 2, none⟩ = some (.string l[i].1)) (h1 : ∀ i (h : i < l.length), w.cell? ⟨b, off + i * 2 + 1, none⟩ = some (.string l[i].2))
    (g0 : ∀ i (h : i < m.length), w.cell? ⟨b', off' + i * 2, none⟩ = some (.string m[i].1)) (g1 : ∀ i (h : i < m.length), w.cell? ⟨b', off' + i * 2 + 1, none⟩ = some (.string m[i].2)) :
    Calls Try.prog 9 #[.slice (some ⟨b, off, none⟩) l.length cap, .slice (some ⟨b', off', none⟩) l.length cap'] w fun e w' => RetIff e (l = m) ∧ Drew w w' := by
  have hne := eqF_run
  have he' : Hid (m.length = l.length) := he
  have hle : l.length ≤ m.length := by omega
  clear he
  go_enter Try.func9, Try.ntmps9
  go_wp2
  go_loopw [5] (fun i wr => ∃ k n : Nat, k ≤ l.length ∧ i = .int .i64 k ∧ wr = w.drewN n ∧ Hid (l.take k = m.take k)) (fun i _ => l.length - (intOf i).toNat)
  case atStart => exact ⟨0, 0, Nat.zero_le _, rfl, rfl, rfl⟩
  case round =>
    obtain ⟨k, n, hk, rfl, rfl, hs⟩ := hrel
    by_cases hlt : k < l.length
    · have hlt' : k < m.length := by omega
      have H : Hid (∀ x, x = false → (neF l[k].1 l[k].2 m[k].1 m[k].2 = x) → l[k] = m[k]) := fun x hx h => (neF_iff _ _).1 (h.trans hx)
      have H' : Hid (neF l[k].1 l[k].2 m[k].1 m[k].2 = true → l ≠ m) := fun h e => by
        have : neF l[k].1 l[k].2 m[k].1 m[k].2 = false := (neF_iff _ _).2 (by subst e; rfl)
        rw [this] at h; cases h
      go_wp2
      go_quiet (fail)
      go_wp2
      · go_ret
        exact ⟨.no (H'.out ‹_›), .two _ _ _⟩
      · go_roundw
        case rel => exact ⟨k + 1, _, hlt, by go_num, rfl, take_succ_eq hlt hlt' hs.out (H.out false rfl ‹_›)⟩
        case measure => simp [intOf]; omega
    · go_wp2
      go_ret
      refine ⟨.yes ?_, .one _ _⟩
      have := hs.out
      rwa [List.take_of_length_le (by omega), List.take_of_length_le (by have := he'.out; omega)] at this

set_option maxHeartbeats 400000 in
theorem sameFiles_len (n m cap cap' : Nat) (a a' : Option Addr) (w : World) (he : ((n : Int) == (m : Int)) = false) :
    Calls Try.prog 9 #[.slice a n cap, .slice a' m cap'] w fun e w' => e = .returned (.bool false) ∧ w' = w := by
  have he2 : ((n : Int) != (m : Int)) = true := by rw [bne, he]; rfl
  go_enter Try.func9, Try.ntmps9
  go_wp2
  go_ret
  exact ⟨rfl, rfl⟩

set_option maxHeartbeats 400000 in
theorem sameFiles_none (cap cap' : Nat) (a a' : Option Addr) (w : World) :
    Calls Try.prog 9 #[.slice a 0 cap, .slice a' 0 cap'] w fun e w' => e = .returned (.bool true) ∧ w' = w := by
  go_enter Try.func9, Try.ntmps9
  go_wp2
  go_loop [5] (fun i => i = .int .i64 0) (fun _ => 0)
  case atStart => rfl
  case round =>
    subst hrel
    go_wp2
    go_ret
    exact ⟨rfl, rfl⟩

theorem sameFiles_any (l m : List Fl) (va vb : Value) (w : World) (ha : FilesAt w va l) (hb : FilesAt w vb m) (hn : l.length < 8796093022208) :
    Calls Try.prog 9 #[va, vb] w fun e w' => RetIff e (l = m) ∧ Drew w w' := by
  have hl : ∃ a cap, va = .slice a l.length cap := by
    rcases ha with ⟨rfl, a, cap, rfl⟩ | ⟨b, off, cap, rfl, _⟩
    · exact ⟨_, _, rfl⟩
    · exact ⟨_, _, rfl⟩
  have hm : ∃ a cap, vb = .slice a m.length cap := by
    rcases hb with ⟨rfl, a, cap, rfl⟩ | ⟨b, off, cap, rfl, _⟩
    · exact ⟨_, _, rfl⟩
    · exact ⟨_, _, rfl⟩
  by_cases he : l.length = m.length
  · by_cases hz : l.length = 0
    · have e1 : l = [] := List.length_eq_zero_iff.1 hz
      have e2 : m = [] := List.length_eq_zero_iff.1 (by omega)
      subst e1; subst e2
      obtain ⟨a, cap, rfl⟩ := hl
      obtain ⟨a', cap', rfl⟩ := hm
      exact (sameFiles_none cap cap' a a' w).mono fun e w' ⟨h1, h2⟩ => by subst h1 h2; exact ⟨.yes rfl, .refl _⟩
    · rcases ha with ⟨rfl, _⟩ | ⟨b, off, cap, rfl, _, h0, h1⟩
      · exact absurd rfl hz
      rcases hb with ⟨rfl, _⟩ | ⟨b', off', cap', rfl, _, g0, g1⟩
      · exact absurd he (by simpa using hz)
      have := sameFiles_row l m b off cap b' off' cap' w he.symm hn h0 h1 g0 g1
      rw [← he]
      exact this
  · obtain ⟨a, cap, rfl⟩ := hl
    obtain ⟨a', cap', rfl⟩ := hm
    exact (sameFiles_len _ _ cap cap' a a' w (by rw [beq_eq_false_iff_ne]; omega)).mono fun e w' ⟨h1, h2⟩ => by subst h1 h2; exact ⟨.no (fun e => he (by rw [e])), .refl _⟩

set_option maxHeartbeats 1000000 in
theorem sameEdits_row (l m : List Ed) (b off cap b' off' cap' : Nat) (w : World) (he : m.length = l.length) (hn : l.length < 8796093022208)
    (h0 : ∀ i (h : i < l.length), w.cell? ⟨b, off + i * 3, none⟩ = some (.string l[i].1)) (h1 : ∀ i (h : i < l.length), w.cell? ⟨b, off + i * 3 + 1, none⟩ = some (.string l[i].2.1)) (h2 : ∀ i (h : i < l.length), w.cell? ⟨b, off + i * 3 + 2, none⟩ = some (.string l[i].2.2))
    (g0 : ∀ i (h : i < m.length), w.cell? ⟨b', off' + i * 3, none⟩ = some (.string m[i].1)) (g1 : ∀ i (h : i < m.length), w.cell? ⟨b', off' + i * 3 + 1, none⟩ = some (.string m[i].2.1)) (g2 : ∀ i (h : i < m.length), w.cell? ⟨b', off' + i * 3 + 2, none⟩ = some (.string m[i].2.2)) :
    Calls Try.prog 12 #[.slice (some ⟨b, off, none⟩) l.length cap, .slice (some ⟨b', off', none⟩) l.length cap'] w fun e w' => RetIff e (l = m) ∧ Drew w w' := by
  have hne := eqE_run
  have he' : Hid (m.length = l.length) := he
  have hle : l.length ≤ m.length := by omega
  clear he
  go_enter Try.func12, Try.ntmps12
  go_wp2
  go_loopw [5] (fun i wr => ∃ k n : Nat, k ≤ l.length ∧ i = .int .i64 k ∧ wr = w.drewN n ∧ Hid (l.take k = m.take k)) (fun i _ => l.length - (intOf i).toNat)
  case atStart => exact ⟨0, 0, Nat.zero_le _, rfl, rfl, rfl⟩
  case round =>
    obtain ⟨k, n, hk, rfl, rfl, hs⟩ := hrel
    by_cases hlt : k < l.length
    · have hlt' : k < m.length := by omega
      have H : Hid (∀ x, x = false → (neE l[k].1 l[k].2.1 l[k].2.2 m[k].1 m[k].2.1 m[k].2.2 = x) → l[k] = m[k]) := fun x hx h => (neE_iff _ _).1 (h.trans hx)
      have H' : Hid (neE l[k].1 l[k].2.1 l[k].2.2 m[k].1 m[k].2.1 m[k].2.2 = true → l ≠ m) := fun h e => by
        have : neE l[k].1 l[k].2.1 l[k].2.2 m[k].1 m[k].2.1 m[k].2.2 = false := (neE_iff _ _).2 (by subst e; rfl)
        rw [this] at h; cases h
      go_wp2
      go_quiet (fail)
      go_wp2
      · go_ret
        exact ⟨.no (H'.out ‹_›), .two _ _ _⟩
      · go_roundw
        case rel => exact ⟨k + 1, _, hlt, by go_num, rfl, take_succ_eq hlt hlt' hs.out (H.out false rfl ‹_›)⟩
        case measure => simp [intOf]; omega
    · go_wp2
      go_ret
      refine ⟨.yes ?_, .one _ _⟩
      have := hs.out
      rwa [List.take_of_length_le (by omega), List.take_of_length_le (by have := he'.out; omega)] at this

set_option maxHeartbeats 400000 in
theorem sameEdits_len (n m cap cap' : Nat) (a a' : Option Addr) (w : World) (he : ((n : Int) == (m : Int)) = false) :
    Calls Try.prog 12 #[.slice a n cap, .slice a' m cap'] w fun e w' => e = .returned (.bool false) ∧ w' = w := by
  have he2 : ((n : Int) != (m : Int)) = true := by rw [bne, he]; rfl
  go_enter Try.func12, Try.ntmps12
  go_wp2
  go_ret
  exact ⟨rfl, rfl⟩

set_option maxHeartbeats 400000 in
theorem sameEdits_none (cap cap' : Nat) (a a' : Option Addr) (w : World) :
    Calls Try.prog 12 #[.slice a 0 cap, .slice a' 0 cap'] w fun e w' => e = .returned (.bool true) ∧ w' = w := by
  go_enter Try.func12, Try.ntmps12
  go_wp2
  go_loop [5] (fun i => i = .int .i64 0) (fun _ => 0)
  case atStart => rfl
  case round =>
    subst hrel
    go_wp2
    go_ret
    exact ⟨rfl, rfl⟩

theorem sameEdits_any (l m : List Ed) (va vb : Value) (w : World) (ha : EditsAt w va l) (hb : EditsAt w vb m) (hn : l.length < 8796093022208) :
    Calls Try.prog 12 #[va, vb] w fun e w' => RetIff e (l = m) ∧ Drew w w' := by
  have hl : ∃ a cap, va = .slice a l.length cap := by
    rcases ha with ⟨rfl, a, cap, rfl⟩ | ⟨b, off, cap, rfl, _⟩
    · exact ⟨_, _, rfl⟩
    · exact ⟨_, _, rfl⟩
  have hm : ∃ a cap, vb = .slice a m.length cap := by
    rcases hb with ⟨rfl, a, cap, rfl⟩ | ⟨b, off, cap, rfl, _⟩
    · exact ⟨_, _, rfl⟩
    · exact ⟨_, _, rfl⟩
  by_cases he : l.length = m.length
  · by_cases hz : l.length = 0
    · have e1 : l = [] := List.length_eq_zero_iff.1 hz
      have e2 : m = [] := List.length_eq_zero_iff.1 (by omega)
      subst e1; subst e2
      obtain ⟨a, cap, rfl⟩ := hl
      obtain ⟨a', cap', rfl⟩ := hm
      exact (sameEdits_none cap cap' a a' w).mono fun e w' ⟨h1, h2⟩ => by subst h1 h2; exact ⟨.yes rfl, .refl _⟩
    · rcases ha with ⟨rfl, _⟩ | ⟨b, off, cap, rfl, _, h0, h1, h2⟩
      · exact absurd rfl hz
      rcases hb with ⟨rfl, _⟩ | ⟨b', off', cap', rfl, _, g0, g1, g2⟩
      · exact absurd he (by simpa using hz)
      have := sameEdits_row l m b off cap b' off' cap' w he.symm hn h0 h1 h2 g0 g1 g2
      rw [← he]
      exact this
  · obtain ⟨a, cap, rfl⟩ := hl
    obtain ⟨a', cap', rfl⟩ := hm
    exact (sameEdits_len _ _ cap cap' a a' w (by rw [beq_eq_false_iff_ne]; omega)).mono fun e w' ⟨h1, h2⟩ => by subst h1 h2; exact ⟨.no (fun e => he (by rw [e])), .refl _⟩

end Go.Proofs.Ytgamgomepdfgdaa
