import Derived.Test.YtgamgomepdfgdaaGreatM25
import Derived.Test.YtgamgomepdfgdaaGreatM24
import Derived.Test.YtgamgomepdfgdaaGreatM16
import Derived.Test.YtgamgomepdfgdaaGreatM23
import Derived.Test.YtgamgomepdfgdaaGreatM22
namespace Go.Proofs.YtgamgomepdfgdaaGreat
open Go.RowKit

set_option maxRecDepth 100000 in
set_option maxHeartbeats 1000000 in
theorem yIns0 (a : Option Addr) (c : Nat) (f : Value) (w : World) :
    Calls Tryz.prog 234 #[.slice a 0 c, .int .i64 0, .int .i64 0, f] w fun e w' => e = .returned (.tuple #[]) ∧ w' = w := by
  go_enter Tryz.func234, Tryz.ntmps234
  go_wp2
  refine wp_loop_rounds 1 ?_
  rw [rounds_succ]
  go_wp2
  go_end0
  exact ⟨rfl, rfl⟩

set_option maxRecDepth 100000 in
set_option maxHeartbeats 1000000 in
theorem yStab (n : Nat) (v f : Value) (Q : World → Prop) (w : World) (hv : IsSl v) (hn : n ≤ 16) (h : Calls Tryz.prog 234 #[v, .int .i64 0, .int .i64 n, f] w fun e w' => e = .returned (.tuple #[]) ∧ Q w') :
    Calls Tryz.prog 193 #[v, .int .i64 n, f] w fun e w' => e = .returned (.tuple #[]) ∧ Q w' := by
  obtain ⟨a, m, c, rfl⟩ := hv
  have h1 : ¬ ((20 : Int) ≤ (n : Int)) := by omega
  have h2 : ¬ ((20 : Int) < (n : Int)) := by omega
  go_enter Tryz.func193, Tryz.ntmps193
  go_wp2
  refine wp_loop_rounds 1 ?_
  rw [rounds_succ]
  go_wp2_with fail
  go_fit h
  rintro e w' ⟨rfl, hq⟩
  go_wp2_with fail
  refine wp_loop_rounds 1 ?_
  rw [rounds_succ]
  go_wp2_with fail
  go_end0
  exact ⟨rfl, hq⟩

set_option maxRecDepth 100000 in
set_option maxHeartbeats 1000000 in
theorem ySortS (n c : Nat) (a : Option Addr) (f : Value) (Q : World → Prop) (w : World) (hn : n ≤ 16) (h : Calls Tryz.prog 234 #[.slice a n c, .int .i64 0, .int .i64 n, f] w fun e w' => e = .returned (.tuple #[]) ∧ Q w') :
    Calls Tryz.prog 155 #[.slice a n c, f] w fun e w' => e = .returned (.tuple #[]) ∧ Q w' := by
  have h1 := yStab n (.slice a n c) f Q w ⟨a, n, c, rfl⟩ hn h
  clear h
  go_enter Tryz.func155, Tryz.ntmps155
  go_wp2_with fail
  go_fit h1
  rintro e w' ⟨rfl, hq⟩
  go_wp2_with fail
  go_end0
  exact ⟨rfl, hq⟩
end Go.Proofs.YtgamgomepdfgdaaGreat

namespace Go.Proofs.YtgamgomepdfgdaaGreat
open Go.RowKit

set_option maxRecDepth 100000 in
set_option maxHeartbeats 1000000 in
/-- a copy of nothing -/
theorem yClone0 (w : World) :
    Calls Tryz.prog 154 #[.slice none 0 0] w fun e w' => e = .returned (.slice none 0 0) ∧ w' = w := by
  have hnil : ∀ W : World, (binOp .eql 190 (.slice none 0 0) (.slice none 0 0)).run Tryz.prog W = .ok (.bool true) W := fun W => Lib.run_eql_slice_nil W _ _ _ _ _ _ _ Tryz.underlying190
  go_enter Tryz.func154, Tryz.ntmps154
  go_wp2_with fail
  go_ret
  exact ⟨rfl, rfl⟩

set_option maxRecDepth 100000 in
set_option maxHeartbeats 1000000 in
theorem yCloneE (g off cap : Nat) (w : World) :
    Calls Tryz.prog 154 #[.slice (some ⟨g, off, none⟩) 0 cap] w fun e w' => (∃ v', e = .returned v' ∧ Sl w' 193 6 v' 0 []) ∧ Below w.heap.size w w' := by
  obtain ⟨i0, hi, hz0, hz1, hz2⟩ := info_parts info_pw
  have hnil : ∀ W : World, (binOp .eql 190 (.slice (some ⟨g, off, none⟩) 0 cap) (.slice none 0 0)).run Tryz.prog W = .ok (.bool false) W := fun W => Lib.run_eql_slice_nil W _ _ _ _ _ _ _ Tryz.underlying190
  have hS : Sl (w.alloc (.cells #[] 193)) 193 6 (.slice (some ⟨w.heap.size, 0, none⟩) 0 0) 0 [] := ⟨rfl, .inr ⟨w.heap.size, 0, 0, #[], rfl, Bx.new w #[] 193, Nat.le_refl _, by unfold maxLen; omega, by simp, fun j u hu => by simp at hu⟩⟩
  have HS : Hid (Sl (w.alloc (.cells #[] 193)) 193 6 (.slice (some ⟨w.heap.size, 0, none⟩) 0 0) 0 []) := hS
  clear hS
  go_enter Tryz.func154, Tryz.ntmps154
  go_wp2_with (at_builtin; refine wpList_append_sl _ rfl _ _ 190 rfl _ i0 _ 6 64 Tryz.underlying190 hi hz0 hz1 hz2 rfl (by decide) (.slice (some ⟨w.heap.size, 0, none⟩) 0 0) 0 [] rfl HS.out ⟨g, off, none⟩ 0 cap [] rfl rfl (by intro j u hu; simp at hu) (by simp) (by unfold maxLen; omega) (by omega) ?_; intro v3 w3 hs3 hg3 _)
  have hb3 : Below w.heap.size w w3 := (below_new _ _).grown hg3 (by simp) (by intro k hk; cases hk; exact Nat.le_refl _)
  obtain ⟨a3, c3, rfl⟩ := hs3.form
  go_wp2_with fail
  go_ret
  exact ⟨⟨_, rfl, hs3⟩, hb3⟩

def pmR (q : List Pw) (H : ∀ x ∈ q, x.1.lane < 1000 ∧ x.1.passed < 4611686018427387904 ∧ IsSl x.2) : List Rw := q.pmap (fun x h => (⟨x, h⟩ : Rw)) H
theorem pmR_val (q : List Pw) (H : ∀ x ∈ q, x.1.lane < 1000 ∧ x.1.passed < 4611686018427387904 ∧ IsSl x.2) : (pmR q H).map Rw.val = q := by
  rw [pmR, List.map_pmap]; simp
theorem pmR_len (q : List Pw) (H : ∀ x ∈ q, x.1.lane < 1000 ∧ x.1.passed < 4611686018427387904 ∧ IsSl x.2) : (pmR q H).length = q.length := by rw [pmR, List.length_pmap]
theorem pmR_flat (age : Nat) (q : List Pw) (H : ∀ x ∈ q, x.1.lane < 1000 ∧ x.1.passed < 4611686018427387904 ∧ IsSl x.2) : (pmR q H).flatMap (cR age) = q.flatMap (cP age) := by
  conv => rhs; rw [← pmR_val q H, List.flatMap_map]
  rfl

theorem rkG_len {age : Nat} {q : List Pw} (H : ∀ x ∈ q, x.1.lane < 1000 ∧ x.1.passed < 4611686018427387904 ∧ IsSl x.2) : (rkG (laneOf age) q 1000).length = q.length :=
  (rkG_perm fun x hx => Nat.lt_of_le_of_lt (Nat.sub_le _ _) (H x hx).1).length_eq

set_option maxRecDepth 100000 in
set_option maxHeartbeats 1000000 in
/-- who waits, by rank -/
theorem yByRank (age : Nat) (ha : 1 ≤ age ∧ age < 9) (q : List Pw) (v : Value) (w : World) (hS : Sl w 193 6 v q.length (q.flatMap (cP age))) (H : ∀ x ∈ q, x.1.lane < 1000 ∧ x.1.passed < 4611686018427387904 ∧ IsSl x.2) (hn : q.length ≤ 16) (hd : q.Pairwise fun x y => ordOf x < ordOf y) :
    Calls Tryz.prog 109 #[v] w fun e w' => (∃ v', e = .returned v' ∧ Sl w' 193 6 v' q.length ((rkG (laneOf age) q 1000).flatMap (cP age))) ∧ Below w.heap.size w w' := by
  by_cases hz : q = []
  · subst hz
    have hC : Calls Tryz.prog 154 #[v] w fun e w' => (∃ v', e = .returned v' ∧ Sl w' 193 6 v' 0 []) ∧ Below w.heap.size w w' := by
      rcases hS.2 with ⟨rfl, _⟩ | ⟨g, off, cap, cur, rfl, _⟩
      · refine (yClone0 w).mono ?_
        rintro e w' ⟨rfl, rfl⟩
        exact ⟨⟨_, rfl, Sl.nil _ _ _⟩, Below.refl _ _⟩
      · exact yCloneE g off cap w
    have e0 : (rkG (laneOf age) ([] : List Pw) 1000).flatMap (cP age) = [] := by simp [rkG]
    rw [e0]
    obtain ⟨va, vc, rfl⟩ := hS.form
    clear hS H hd e0
    go_enter Tryz.func109, Tryz.ntmps109
    go_wp2_with fail
    go_fit hC
    rintro e w1 ⟨⟨v1, rfl, hs1⟩, hb1⟩
    obtain ⟨a1, c1, rfl⟩ := hs1.form
    have hT := ySortS 0 c1 a1 (.func (.func 156) #[] #[]) (fun w' => w' = w1) w1 (by omega) (yIns0 a1 c1 _ w1)
    clear hC
    go_wp2_with fail
    go_fit hT
    rintro e w2 ⟨rfl, rfl⟩
    go_wp2_with fail
    go_ret
    exact ⟨⟨_, rfl, hs1⟩, hb1⟩
  · have hpos : 0 < q.length := by
      rcases q with _ | _
      · exact absurd rfl hz
      · simp
    obtain ⟨g, off, cap, rfl, _⟩ := hS.addr hpos
    have hC := yClone q age g off cap w hS (fun x hx => (H x hx).2.2) hn hpos
    clear hS
    have HV := pmR_val q H
    have HL := pmR_len q H
    have HF := pmR_flat age q H
    generalize pmR q H = l at HV HL HF
    clear H
    go_enter Tryz.func109, Tryz.ntmps109
    go_wp2_with fail
    go_fit hC
    rintro e w1 ⟨⟨v1, rfl, hr1⟩, hb1⟩
    have hT : ∃ g1 c1, v1 = .slice (some ⟨g1, 0, none⟩) q.length c1 ∧ w.heap.size ≤ g1 ∧ Calls Tryz.prog 155 #[.slice (some ⟨g1, 0, none⟩) q.length c1, .func (.func 156) #[] #[]] w1 fun e w' => e = .returned (.tuple #[]) ∧ (w'.ownsRow w.heap.size 193 6 (.slice (some ⟨g1, 0, none⟩) q.length c1) q.length ((rkG (laneOf age) q 1000).flatMap (cP age)) ∧ w1.grownBy w' (some g1)) := by
      rcases hr1.2 with ⟨_, h0⟩ | ⟨g1, c1, cur, rfl, hbase, _⟩
      · omega
      · rw [← HF, ← HL] at hr1
        have inh : Inhabited Rw := ⟨rwZero⟩
        have := yIns age ha l g1 c1 w.heap.size w1 hr1 (by omega) (by rw [HV]; exact hd)
        rw [HV, HL] at this
        exact ⟨g1, c1, rfl, hbase, ySortS q.length c1 (some ⟨g1, 0, none⟩) _ _ w1 hn this⟩
    obtain ⟨g1, c1, rfl, hg1, hT⟩ := hT
    have HX : Hid (l.map Rw.val = q ∧ l.length = q.length ∧ l.flatMap (cR age) = q.flatMap (cP age)) := ⟨HV, HL, HF⟩
    clear HV HL HF hC hr1
    go_wp2_with fail
    go_fit hT
    rintro e w2 ⟨rfl, hr2, hg2⟩
    have hb2 : Below w.heap.size w w2 := hb1.grown hg2 hb1.size (by intro k hk; cases hk; exact hg1)
    clear hT
    go_wp2_with fail
    go_ret
    exact ⟨⟨_, rfl, Sl.of_row hr2⟩, hb2⟩
end Go.Proofs.YtgamgomepdfgdaaGreat

namespace Go.Proofs.YtgamgomepdfgdaaGreat
open Go.RowKit Go.Sort

set_option maxRecDepth 100000 in
set_option maxHeartbeats 1000000 in
theorem within_val (n a b : Int) (r : Bool) (hr : r = true ↔ (a ≤ n ∧ n ≤ b)) (w : World) :
    Calls Tryz.prog 126 #[.int .i64 n, .int .i64 a, .int .i64 b] w fun e w' => e = .returned (.bool r) ∧ w' = w := by
  have Hr : Hid (r = true ↔ (a ≤ n ∧ n ≤ b)) := hr
  clear hr
  by_cases h1 : a ≤ n
  · by_cases h2 : n ≤ b
    · have e : Hid (r = true) := Hr.out.2 ⟨h1, h2⟩
      go_enter Tryz.func126, Tryz.ntmps126
      go_wp2
      go_ret
      exact ⟨by rw [e.out]; rfl, rfl⟩
    · have e : Hid (r = false) := by
        show r = false
        cases r
        · rfl
        · exact absurd (Hr.out.1 rfl).2 h2
      go_enter Tryz.func126, Tryz.ntmps126
      go_wp2
      go_ret
      exact ⟨by rw [e.out]; rfl, rfl⟩
  · have e : Hid (r = false) := by
      show r = false
      cases r
      · rfl
      · exact absurd (Hr.out.1 rfl).1 h1
    go_enter Tryz.func126, Tryz.ntmps126
    go_wp2
    go_ret
    exact ⟨by rw [e.out]; rfl, rfl⟩

def CfgOk (n0 n1 n2 n3 n4 n5 n6 : Int) : Prop := (1 ≤ n0 ∧ n0 ≤ 4) ∧ (1 ≤ n1 ∧ n1 ≤ 8) ∧ (1 ≤ n2 ∧ n2 ≤ 8) ∧ (1 ≤ n3 ∧ n3 ≤ 4) ∧ (0 ≤ n4 ∧ n4 ≤ 3) ∧ (1 ≤ n5 ∧ n5 ≤ 100) ∧ (1 ≤ n6 ∧ n6 ≤ 16)

set_option maxRecDepth 100000 in
set_option maxHeartbeats 4000000 in
/-- may the settings be? -/
theorem mConfig (n0 n1 n2 n3 n4 n5 n6 : Int) (w : World) :
    Calls Tryz.prog 84 #[.agg #[.int .i64 n0, .int .i64 n1, .int .i64 n2, .int .i64 n3, .int .i64 n4, .int .i64 n5, .int .i64 n6]] w fun e w' => RetIff e (CfgOk n0 n1 n2 n3 n4 n5 n6) ∧ Below w.heap.size w w' := by
  have HP : Hid (CfgOk n0 n1 n2 n3 n4 n5 n6 ↔ ((1 ≤ n0 ∧ n0 ≤ 4) ∧ (1 ≤ n1 ∧ n1 ≤ 8) ∧ (1 ≤ n2 ∧ n2 ≤ 8) ∧ (1 ≤ n3 ∧ n3 ≤ 4) ∧ (0 ≤ n4 ∧ n4 ≤ 3) ∧ (1 ≤ n5 ∧ n5 ≤ 100) ∧ (1 ≤ n6 ∧ n6 ≤ 16))) := Iff.rfl
  generalize CfgOk n0 n1 n2 n3 n4 n5 n6 = P at HP ⊢
  by_cases h0 : (1 ≤ n0 ∧ n0 ≤ 4)
  · have c0 := within_val n0 1 4 true ⟨fun _ => h0, fun _ => rfl⟩
    by_cases h1 : (1 ≤ n1 ∧ n1 ≤ 8)
    · have c1 := within_val n1 1 8 true ⟨fun _ => h1, fun _ => rfl⟩
      by_cases h2 : (1 ≤ n2 ∧ n2 ≤ 8)
      · have c2 := within_val n2 1 8 true ⟨fun _ => h2, fun _ => rfl⟩
        by_cases h3 : (1 ≤ n3 ∧ n3 ≤ 4)
        · have c3 := within_val n3 1 4 true ⟨fun _ => h3, fun _ => rfl⟩
          by_cases h4 : (0 ≤ n4 ∧ n4 ≤ 3)
          · have c4 := within_val n4 0 3 true ⟨fun _ => h4, fun _ => rfl⟩
            by_cases h5 : (1 ≤ n5 ∧ n5 ≤ 100)
            · have c5 := within_val n5 1 100 true ⟨fun _ => h5, fun _ => rfl⟩
              by_cases h6 : (1 ≤ n6 ∧ n6 ≤ 16)
              · have c6 := within_val n6 1 16 true ⟨fun _ => h6, fun _ => rfl⟩
                have F : Hid P := HP.out.2 ⟨h0, h1, h2, h3, h4, h5, h6⟩
                go_enter Tryz.func84, Tryz.ntmps84
                go_wp2_with (first | (go_at_call 126; go_fit (c0 _); rintro e w' ⟨rfl, rfl⟩) | (go_at_call 126; go_fit (c1 _); rintro e w' ⟨rfl, rfl⟩) | (go_at_call 126; go_fit (c2 _); rintro e w' ⟨rfl, rfl⟩) | (go_at_call 126; go_fit (c3 _); rintro e w' ⟨rfl, rfl⟩) | (go_at_call 126; go_fit (c4 _); rintro e w' ⟨rfl, rfl⟩) | (go_at_call 126; go_fit (c5 _); rintro e w' ⟨rfl, rfl⟩) | (go_at_call 126; go_fit (c6 _); rintro e w' ⟨rfl, rfl⟩))
                go_ret
                exact ⟨.yes F.out, below_new _ _⟩
              · have c6 := within_val n6 1 16 false ⟨fun x => Bool.noConfusion x, fun x => absurd x h6⟩
                have F : Hid (¬ P) := fun x => h6 (HP.out.1 x).2.2.2.2.2.2
                go_enter Tryz.func84, Tryz.ntmps84
                go_wp2_with (first | (go_at_call 126; go_fit (c0 _); rintro e w' ⟨rfl, rfl⟩) | (go_at_call 126; go_fit (c1 _); rintro e w' ⟨rfl, rfl⟩) | (go_at_call 126; go_fit (c2 _); rintro e w' ⟨rfl, rfl⟩) | (go_at_call 126; go_fit (c3 _); rintro e w' ⟨rfl, rfl⟩) | (go_at_call 126; go_fit (c4 _); rintro e w' ⟨rfl, rfl⟩) | (go_at_call 126; go_fit (c5 _); rintro e w' ⟨rfl, rfl⟩) | (go_at_call 126; go_fit (c6 _); rintro e w' ⟨rfl, rfl⟩))
                go_ret
                exact ⟨.no F.out, below_new _ _⟩
            · have c5 := within_val n5 1 100 false ⟨fun x => Bool.noConfusion x, fun x => absurd x h5⟩
              have F : Hid (¬ P) := fun x => h5 (HP.out.1 x).2.2.2.2.2.1
              go_enter Tryz.func84, Tryz.ntmps84
              go_wp2_with (first | (go_at_call 126; go_fit (c0 _); rintro e w' ⟨rfl, rfl⟩) | (go_at_call 126; go_fit (c1 _); rintro e w' ⟨rfl, rfl⟩) | (go_at_call 126; go_fit (c2 _); rintro e w' ⟨rfl, rfl⟩) | (go_at_call 126; go_fit (c3 _); rintro e w' ⟨rfl, rfl⟩) | (go_at_call 126; go_fit (c4 _); rintro e w' ⟨rfl, rfl⟩) | (go_at_call 126; go_fit (c5 _); rintro e w' ⟨rfl, rfl⟩))
              go_ret
              exact ⟨.no F.out, below_new _ _⟩
          · have c4 := within_val n4 0 3 false ⟨fun x => Bool.noConfusion x, fun x => absurd x h4⟩
            have F : Hid (¬ P) := fun x => h4 (HP.out.1 x).2.2.2.2.1
            go_enter Tryz.func84, Tryz.ntmps84
            go_wp2_with (first | (go_at_call 126; go_fit (c0 _); rintro e w' ⟨rfl, rfl⟩) | (go_at_call 126; go_fit (c1 _); rintro e w' ⟨rfl, rfl⟩) | (go_at_call 126; go_fit (c2 _); rintro e w' ⟨rfl, rfl⟩) | (go_at_call 126; go_fit (c3 _); rintro e w' ⟨rfl, rfl⟩) | (go_at_call 126; go_fit (c4 _); rintro e w' ⟨rfl, rfl⟩))
            go_ret
            exact ⟨.no F.out, below_new _ _⟩
        · have c3 := within_val n3 1 4 false ⟨fun x => Bool.noConfusion x, fun x => absurd x h3⟩
          have F : Hid (¬ P) := fun x => h3 (HP.out.1 x).2.2.2.1
          go_enter Tryz.func84, Tryz.ntmps84
          go_wp2_with (first | (go_at_call 126; go_fit (c0 _); rintro e w' ⟨rfl, rfl⟩) | (go_at_call 126; go_fit (c1 _); rintro e w' ⟨rfl, rfl⟩) | (go_at_call 126; go_fit (c2 _); rintro e w' ⟨rfl, rfl⟩) | (go_at_call 126; go_fit (c3 _); rintro e w' ⟨rfl, rfl⟩))
          go_ret
          exact ⟨.no F.out, below_new _ _⟩
      · have c2 := within_val n2 1 8 false ⟨fun x => Bool.noConfusion x, fun x => absurd x h2⟩
        have F : Hid (¬ P) := fun x => h2 (HP.out.1 x).2.2.1
        go_enter Tryz.func84, Tryz.ntmps84
        go_wp2_with (first | (go_at_call 126; go_fit (c0 _); rintro e w' ⟨rfl, rfl⟩) | (go_at_call 126; go_fit (c1 _); rintro e w' ⟨rfl, rfl⟩) | (go_at_call 126; go_fit (c2 _); rintro e w' ⟨rfl, rfl⟩))
        go_ret
        exact ⟨.no F.out, below_new _ _⟩
    · have c1 := within_val n1 1 8 false ⟨fun x => Bool.noConfusion x, fun x => absurd x h1⟩
      have F : Hid (¬ P) := fun x => h1 (HP.out.1 x).2.1
      go_enter Tryz.func84, Tryz.ntmps84
      go_wp2_with (first | (go_at_call 126; go_fit (c0 _); rintro e w' ⟨rfl, rfl⟩) | (go_at_call 126; go_fit (c1 _); rintro e w' ⟨rfl, rfl⟩))
      go_ret
      exact ⟨.no F.out, below_new _ _⟩
  · have c0 := within_val n0 1 4 false ⟨fun x => Bool.noConfusion x, fun x => absurd x h0⟩
    have F : Hid (¬ P) := fun x => h0 (HP.out.1 x).1
    go_enter Tryz.func84, Tryz.ntmps84
    go_wp2_with (first | (go_at_call 126; go_fit (c0 _); rintro e w' ⟨rfl, rfl⟩))
    go_ret
    exact ⟨.no F.out, below_new _ _⟩
end Go.Proofs.YtgamgomepdfgdaaGreat

namespace Go.Proofs.YtgamgomepdfgdaaGreat
open Go.RowKit Go.Maps

set_option maxRecDepth 100000 in
set_option maxHeartbeats 2000000 in
/-- settings that may not be -/
theorem mNew_config (n0 n1 n2 n3 n4 n5 n6 : Int) (fa : Option Addr) (fn fc : Nat) (w : World) (hno : ¬ CfgOk n0 n1 n2 n3 n4 n5 n6) :
    Calls Tryz.prog 37 #[.agg #[.int .i64 n0, .int .i64 n1, .int .i64 n2, .int .i64 n3, .int .i64 n4, .int .i64 n5, .int .i64 n6], .slice fa fn fc] w fun e w' => e = .returned (.tuple #[.pointer none, .int .i64 1]) ∧ Below w.heap.size w w' := by
  have hC := mConfig n0 n1 n2 n3 n4 n5 n6 (w.alloc (.cells #[.int .i64 n0, .int .i64 n1, .int .i64 n2, .int .i64 n3, .int .i64 n4, .int .i64 n5, .int .i64 n6] 23))
  have HN : Hid (¬ CfgOk n0 n1 n2 n3 n4 n5 n6) := hno
  clear hno
  generalize CfgOk n0 n1 n2 n3 n4 n5 n6 = p at hC HN
  go_enter Tryz.func37, Tryz.ntmps37
  go_wp2_with fail
  go_fit hC
  rintro e w1 ⟨⟨t, rfl, ht⟩, hb1⟩
  obtain rfl : t = false := by
    cases t
    · rfl
    · exact absurd (ht.1 rfl) HN.out
  have HB : Hid (Below w.heap.size w w1) := (below_new _ _).trans (hb1.mono (by simp))
  clear ht hb1 hC
  go_wp2_with fail
  refine bodyPost_ret (v := .tuple #[.pointer none, .int .i64 1]) (by simp [results, Tryz.results37, go_sem]) rfl ⟨rfl, HB.out⟩

/-- a machine that was made -/
structure Made (w w' : World) (xb : Nat) (c : Cfg) (l : List Fl) : Prop where
  up : ∃ Y mb rb yb, UpIs w' Y xb mb rb yb c Qs.start [] false 0 (.slice none 0 0) ∧ FilesMap w' mb l.length (standsL l) ∧ w.heap.size ≤ mb ∧ w.heap.size ≤ rb ∧ ¬ Y mb ∧ mb ≠ xb ∧ mb ≠ rb ∧ ∀ k, Y k → w.heap.size ≤ k
  new : w.heap.size ≤ xb

set_option maxRecDepth 100000 in
set_option maxHeartbeats 4000000 in
theorem mNew (c : Cfg) (l : List Fl) (fa : Option Addr) (fn fc : Nat) (w : World) (hc : CfgOk c.lanes c.age c.batch c.window c.retries c.deadline c.queue) (hl : FilesAt w (.slice fa fn fc) l) (hn : l.length < 8796093022208) (hsz : ∀ f ∈ l, f.1.size ≤ maxLen) :
    Calls Tryz.prog 37 #[.agg #[.int .i64 c.lanes, .int .i64 c.age, .int .i64 c.batch, .int .i64 c.window, .int .i64 c.retries, .int .i64 c.deadline, .int .i64 c.queue], .slice fa fn fc] w fun e w' => ((Good okFl Prod.fst l ∧ ∃ xb, e = .returned (.tuple #[.pointer (some ⟨xb, 0, none⟩), .int .i64 0]) ∧ Made w w' xb c l) ∨ (¬ Good okFl Prod.fst l ∧ e = .returned (.tuple #[.pointer none, .int .i64 2]))) ∧ Below w.heap.size w w' := by
  have hC := mConfig c.lanes c.age c.batch c.window c.retries c.deadline c.queue (w.alloc (.cells #[.int .i64 c.lanes, .int .i64 c.age, .int .i64 c.batch, .int .i64 c.window, .int .i64 c.retries, .int .i64 c.deadline, .int .i64 c.queue] 23))
  have HN : Hid (CfgOk c.lanes c.age c.batch c.window c.retries c.deadline c.queue) := hc
  have HL : Hid (FilesAt w (.slice fa fn fc) l) := hl
  clear hc hl
  generalize CfgOk c.lanes c.age c.batch c.window c.retries c.deadline c.queue = p at hC HN
  go_enter Tryz.func37, Tryz.ntmps37
  go_wp2_with fail
  go_fit hC
  rintro e w1 ⟨⟨t, rfl, ht⟩, hb1⟩
  obtain rfl : t = true := ht.2 HN.out
  have X1 : Bx w1 w.heap.size 23 #[.int .i64 c.lanes, .int .i64 c.age, .int .i64 c.batch, .int .i64 c.window, .int .i64 c.retries, .int .i64 c.deadline, .int .i64 c.queue] := (hb1.block _ (by simp)).trans (Bx.new w _ _)
  have HX1 : Hid (Bx w1 w.heap.size 23 #[.int .i64 c.lanes, .int .i64 c.age, .int .i64 c.batch, .int .i64 c.window, .int .i64 c.retries, .int .i64 c.deadline, .int .i64 c.queue]) := X1
  have HB : Hid (Below w.heap.size w w1) := (below_new _ _).trans (hb1.mono (by simp))
  have hFr := from_any l (.slice fa fn fc) w1 (FilesAt.later HL.out HB.out) hn hsz
  clear ht hb1 hC X1
  go_wp2_with fail
  go_fit hFr
  rintro e w2 ⟨hres, hb2⟩
  rcases hres with ⟨rfl, hg, D, hown, hM⟩ | ⟨rfl, hg⟩
  · have hml : w1.heap.size < w2.heap.size := hown.lt
    have hX2 := HX1.out.later hb2
    have x0 := hX2.cell (i := 0) (v := .int .i64 c.lanes) rfl
    have x1 := hX2.cell (i := 1) (v := .int .i64 c.age) rfl
    have x2 := hX2.cell (i := 2) (v := .int .i64 c.batch) rfl
    have x3 := hX2.cell (i := 3) (v := .int .i64 c.window) rfl
    have x4 := hX2.cell (i := 4) (v := .int .i64 c.retries) rfl
    have x5 := hX2.cell (i := 5) (v := .int .i64 c.deadline) rfl
    have x6 := hX2.cell (i := 6) (v := .int .i64 c.queue) rfl
    have hSt := mStart w2.heap.size w1.heap.size c [] (.slice none 0 0) none (w2.alloc (.cells (machCells c w1.heap.size (.slice none 0 0) (.pointer none)) 135)) (Bx.new _ _ _) (Sl.nil _ _ _) (by simp; omega)
    have HG : Hid (Good okFl Prod.fst l) := hg
    have HM : Hid (FilesMap w2 w1.heap.size l.length (standsL l)) := ⟨D, hown, hM⟩
    have HB2 : Hid (Below w.heap.size w w2) := HB.out.trans (hb2.mono HB.out.size)
    have hs1 := HB.out.size
    have hs2 := hb2.size
    clear hb2 hFr hg hown hM hX2 HX1
    unfold machCells at hSt
    go_wp2_with fail
    go_fit hSt
    rintro e w4 ⟨rfl, hS4⟩
    have HS4 : Hid _ := hS4
    clear hS4 hSt x0 x1 x2 x3 x4 x5 x6
    go_wp2_with fail
    obtain ⟨Y, rb, yb, hUp, hrb, hYk⟩ := HS4.out.up
    have hO := HS4.out.only
    have hw3 : ∀ o, (w2.alloc o).heap.size = w2.heap.size + 1 := fun o => by simp
    rw [hw3] at hrb
    have hYk' : ∀ k, Y k → w2.heap.size + 1 ≤ k := fun k hk => by have := hYk k hk; rwa [hw3] at this
    refine bodyPost_ret (v := .tuple #[.pointer (some ⟨w2.heap.size, 0, none⟩), .int .i64 0]) (by simp [results, Tryz.results37, go_sem]) rfl ⟨.inl ⟨HG.out, w2.heap.size, rfl, ⟨⟨Y, w1.heap.size, rb, yb, hUp, ?_, hs1, by omega, fun h => by have := hYk' _ h; omega, by omega, by omega, fun k hk => by have := hYk' k hk; omega⟩, by omega⟩⟩, ?_⟩
    · obtain ⟨D, h1, h2⟩ := HM.out
      obtain ⟨es, clock, hh, hr⟩ := h1
      exact ⟨D, ⟨es, clock, (hO.block _ (by rw [hw3]; omega) (by omega)).trans ((Below.heap_alloc _ _ _ hml).trans hh), hr⟩, h2⟩
    · refine HB2.out.trans ⟨hO.os, hO.tape, hO.output, by have := hO.size; rw [hw3] at this; omega, fun k hk => ?_⟩
      rw [hO.block k (by rw [hw3]; omega) (by omega), Below.heap_alloc _ _ _ (by omega)]
  · have HG : Hid (¬ Good okFl Prod.fst l) := hg
    have HB2 : Hid (Below w.heap.size w w2) := HB.out.trans (hb2.mono HB.out.size)
    clear hb2 hFr hg
    go_wp2_with fail
    exact bodyPost_ret (v := .tuple #[.pointer none, .int .i64 2]) (by simp [results, Tryz.results37, go_sem]) rfl ⟨.inr ⟨HG.out, rfl⟩, HB2.out⟩
end Go.Proofs.YtgamgomepdfgdaaGreat
