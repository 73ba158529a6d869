import Derived.Test.YtgamgomepdfgdaaGreatM01
import Derived.Maps.AppendAt
import Derived.Lib.EndianBits
namespace Go.Proofs.YtgamgomepdfgdaaGreat
open Go.RowKit

/-- the one, moved up so often -/
def up (f : Int → Int) : Nat → Int
  | 0 => 1
  | k + 1 => f (up f k)
def f8 (x : Int) : Int := x * 2 % 256
def f32 (x : Int) : Int := x * 2 % 4294967296
def f64 (x : Int) : Int := wrap64 (x * 2)
theorem up8 : ∀ k, k < 8 → (up f8 k != 0) = true := by decide
theorem up32 : ∀ k, k < 32 → (up f32 k != 0) = true := by decide
theorem up64 : ∀ k, k < 64 → (up f64 k != 0) = true := by decide +kernel

set_option maxRecDepth 100000 in
set_option maxHeartbeats 400000 in
theorem bits8 (w : World) : Calls Tryz.prog 200 #[] w fun e w' => e = .returned (.int .i64 8) ∧ w = w' := by
  go_enter Tryz.func200, Tryz.ntmps200
  go_wp2
  go_loop [1, 2] (fun b o => ∃ k : Nat, k ≤ 8 ∧ b = .int .i64 k ∧ o = .int .u8 (up f8 k)) (fun b _ => 8 - (intOf b).toNat)
  case atStart => exact ⟨0, by omega, rfl, rfl⟩
  case round =>
    obtain ⟨k, hk, rfl, rfl⟩ := hrel
    by_cases hlk : k < 8
    · have h0 := up8 k hlk
      have h1 : Hid (up f8 (k + 1) = f8 (up f8 k)) := rfl
      generalize up f8 k = x at h0 h1
      go_wp2
      refine ⟨⟨k + 1, hlk, by go_num, ?_⟩, by simp [intOf]; omega⟩
      rw [h1.out]; rfl
    · obtain rfl : k = 8 := by omega
      rw [show up f8 8 = 0 by decide +kernel]
      go_wp2
      go_ret
      exact ⟨rfl, rfl⟩

set_option maxRecDepth 100000 in
set_option maxHeartbeats 400000 in
theorem bits32 (w : World) : Calls Tryz.prog 201 #[] w fun e w' => e = .returned (.int .i64 32) ∧ w = w' := by
  go_enter Tryz.func201, Tryz.ntmps201
  go_wp2
  go_loop [1, 2] (fun b o => ∃ k : Nat, k ≤ 32 ∧ b = .int .i64 k ∧ o = .int .u32 (up f32 k)) (fun b _ => 32 - (intOf b).toNat)
  case atStart => exact ⟨0, by omega, rfl, rfl⟩
  case round =>
    obtain ⟨k, hk, rfl, rfl⟩ := hrel
    by_cases hlk : k < 32
    · have h0 := up32 k hlk
      have h1 : Hid (up f32 (k + 1) = f32 (up f32 k)) := rfl
      generalize up f32 k = x at h0 h1
      go_wp2
      refine ⟨⟨k + 1, hlk, by go_num, ?_⟩, by simp [intOf]; omega⟩
      rw [h1.out]; rfl
    · obtain rfl : k = 32 := by omega
      rw [show up f32 32 = 0 by decide +kernel]
      go_wp2
      go_ret
      exact ⟨rfl, rfl⟩

set_option maxRecDepth 100000 in
set_option maxHeartbeats 400000 in
theorem bits64 (w : World) : Calls Tryz.prog 238 #[] w fun e w' => e = .returned (.int .i64 64) ∧ w = w' := by
  go_enter Tryz.func238, Tryz.ntmps238
  go_wp2
  go_loop [1, 2] (fun b o => ∃ k : Nat, k ≤ 64 ∧ b = .int .i64 k ∧ o = .int .i64 (up f64 k)) (fun b _ => 64 - (intOf b).toNat)
  case atStart => exact ⟨0, by omega, rfl, rfl⟩
  case round =>
    obtain ⟨k, hk, rfl, rfl⟩ := hrel
    by_cases hlk : k < 64
    · have h0 := up64 k hlk
      have h1 : Hid (up f64 (k + 1) = f64 (up f64 k)) := rfl
      generalize up f64 k = x at h0 h1
      go_wp2
      refine ⟨⟨k + 1, hlk, by go_num, ?_⟩, by simp [intOf]; omega⟩
      rw [h1.out]; rfl
    · obtain rfl : k = 64 := by omega
      rw [show up f64 64 = 0 by decide +kernel]
      go_wp2
      go_ret
      exact ⟨rfl, rfl⟩
end Go.Proofs.YtgamgomepdfgdaaGreat

namespace Go.Proofs.YtgamgomepdfgdaaGreat
open Go.RowKit

/-- bytes as cells -/
def bc (l : List UInt8) : List Value := l.map fun b => .int .u8 b.toNat
theorem bc_len (l : List UInt8) : (bc l).length = l.length := by simp [bc]
theorem bc_append (l m : List UInt8) : bc (l ++ m) = bc l ++ bc m := by simp [bc]
theorem bc_one (l : List UInt8) : ∀ v ∈ bc l, v.oneCell' = true := by
  intro v hv
  obtain ⟨b, _, rfl⟩ := List.mem_map.1 hv
  rfl
theorem info_u8 : (Tryz.prog.info? 5).map (fun i => (i.zero, i.size, i.bytes)) = some (some (.int .u8 0), 1, 1) := by kernel_rfl

/-- the bytes of a number, one more -/
theorem be_take : ∀ (K n j : Nat), j < K → (be K n).take (j + 1) = (be K n).take j ++ [UInt8.ofNat (n / 256 ^ (K - 1 - j) % 256)]
  | 0, _, _, h => by omega
  | K + 1, n, 0, _ => by rw [be_head]; simp
  | K + 1, n, j + 1, h => by
    rw [be_head, List.take_succ_cons, List.take_succ_cons, be_take K n j (by omega), List.cons_append]
    congr 4
    rw [show K + 1 - 1 - (j + 1) = K - 1 - j by omega]

theorem cell_one_at (w : World) (v : Value) (t : TypeId) : ∀ j u, [v][j]? = some u → (w.alloc (.cells #[v] t)).cell? ((⟨w.heap.size, 0, none⟩ : Addr).add j) = some u := by
  intro j u h
  have hj : j = 0 := by
    by_cases hj : j = 0
    · exact hj
    · rw [List.getElem?_eq_none (by simp; omega)] at h; cases h
  subst hj
  obtain rfl : v = u := by simpa using h
  rw [addr_add]
  simp

/-- what appending to a row of the call's own leaves -/
structure Apped (base : Nat) (w w' : World) (v v' : Value) (n : Nat) (xs : List Value) : Prop where
  row : w'.ownsRow base 5 1 v' n xs
  grown : w.grownBy w' v.ownBlock
  block : v'.ownBlock = v.ownBlock ∨ ∃ g, v'.ownBlock = some g ∧ w.heap.size ≤ g
theorem Apped.refl {base : Nat} {w : World} {v : Value} {n : Nat} {xs : List Value} (h : w.ownsRow base 5 1 v n xs) : Apped base w w v v n xs := ⟨h, World.grownBy.refl _ _, .inl rfl⟩
theorem Apped.step {base : Nat} {w wr w' : World} {v u v' : Value} {n m : Nat} {xs ys : List Value} {o : Obj} (h : Apped base w wr v u n xs) (hg : (wr.alloc o).grownBy w' u.ownBlock) (hr : w'.ownsRow base 5 1 v' m ys) (hb : v'.ownBlock = u.ownBlock ∨ v'.ownBlock = some (wr.alloc o).heap.size) : Apped base w w' v v' m ys := by
  have hs := h.grown.size
  have ha := World.grownBy_alloc wr o none
  refine ⟨hr, ⟨hg.os.trans h.grown.os, hg.tape.trans h.grown.tape, hg.output.trans h.grown.output, Nat.le_trans (Nat.le_trans hs ha.size) hg.size, fun k hk hne => ?_⟩, ?_⟩
  · rw [hg.block k (Nat.lt_of_lt_of_le hk (Nat.le_trans hs ha.size)) (fun e => ?_), ha.block k (Nat.lt_of_lt_of_le hk hs) (by simp), h.grown.block k hk hne]
    rcases h.block with h1 | ⟨g, h1, h2⟩
    · exact hne (by rw [e, h1])
    · rw [h1] at e; cases e; omega
  · rcases hb with hb | hb
    · rw [hb]; exact h.block
    · exact .inr ⟨_, hb, Nat.le_trans hs ha.size⟩

set_option maxRecDepth 100000 in
set_option maxHeartbeats 400000 in
theorem app8 (n : Nat) (hn : n < 256) (v : Value) (l : List UInt8) (base : Nat) (w : World) (hrow : w.ownsRow base 5 1 v l.length (bc l)) (hbase : base ≤ w.heap.size) (hlen : l.length < 1099511627776) :
    Calls Tryz.prog 160 #[v, .int .u8 n] w fun e w' => ∃ v', e = .returned v' ∧ Apped base w w' v v' (l.length + 1) (bc (l ++ be 1 n)) := by
  obtain ⟨i0, hi, hz0, hz1, hz2⟩ := info_parts info_u8
  have hbe : be 1 n = [UInt8.ofNat n] := by simp [be, Nat.mod_eq_of_lt hn]
  have hx : ((UInt8.ofNat n).toNat : Int) = n := byte_nat hn
  go_enter Tryz.func160, Tryz.ntmps160
  go_wp2_with (go_at_call 200; go_fit (bits8 _); rintro e w' ⟨rfl, rfl⟩)
  go_loopw [0, 5] (fun bv lv wr => (lv = .int .i64 0 ∧ bv = v ∧ wr = w) ∨ (lv = .int .i64 (-8) ∧ Apped base w wr v bv (l.length + 1) (bc (l ++ be 1 n)))) (fun _ lv _ => (intOf lv + 8).toNat)
  case atStart => exact .inl ⟨rfl, rfl, rfl⟩
  case round =>
    rcases hrel with ⟨rfl, rfl, rfl⟩ | ⟨rfl, hA⟩
    · have q1 : Hid (l.length + 1 ≤ maxLen) := by show _ ≤ _; unfold maxLen; omega
      have q2 : Hid ((l.length + 1) * 1 ≤ 140737488355328) := by show _ ≤ _; omega
      have q3 : Hid (∀ o, base ≤ (wr.alloc o).heap.size) := fun o => by
        show base ≤ _
        simp; omega
      have hr : Hid _ := hrow
      clear hlen hn hrow
      generalize UInt8.ofNat n = x at hx hbe
      go_wp2_with (at_builtin; refine wpList_append_own_at _ rfl (.tmp 12) (.tmp 16) _ rfl base _ i0 _ 1 1 Tryz.underlying114 hi hz0 hz1 hz2 rfl (by decide) u0 _ _ rfl (World.ownsRow.alloc hr.out _) ⟨wr.heap.size, 0, none⟩ 1 1 [.int .u8 n] rfl rfl (cell_one_at wr _ _) (by simp [Value.oneCell']) q1.out q2.out (q3.out _) ?_; intro v1 w1 hown1 hg1 hnil1 hloc1)
      refine ⟨.inr ⟨by go_num, Apped.step (Apped.refl hr.out) hg1 (by rw [hbe, bc_append]; simp only [bc, List.map_cons, List.map_nil, hx]; exact hown1) hloc1⟩, by simp [intOf]⟩
    · have HA : Hid _ := hA
      clear hA
      go_wp2
      go_ret
      exact ⟨u0, rfl, HA.out⟩

theorem shr32 {n j : Nat} (hj : j < 4) : (n : Int) / 2 ^ (24 - 8 * j) % 256 = ((UInt8.ofNat (n / 256 ^ (4 - 1 - j) % 256)).toNat : Int) := by
  have e : (2 : Nat) ^ (24 - 8 * j) = 256 ^ (4 - 1 - j) := by
    rw [show (256 : Nat) = 2 ^ 8 from rfl, ← Nat.pow_mul]; congr 1; omega
  rw [byte_nat (Nat.mod_lt _ (by decide)), ← e, Int.natCast_emod, Int.natCast_ediv, Int.natCast_pow]
  rfl

set_option maxRecDepth 100000 in
set_option maxHeartbeats 400000 in
theorem app32 (n : Nat) (v : Value) (l : List UInt8) (base : Nat) (w : World) (hrow : w.ownsRow base 5 1 v l.length (bc l)) (hbase : base ≤ w.heap.size) (hlen : l.length < 1099511627776) :
    Calls Tryz.prog 161 #[v, .int .u32 n] w fun e w' => ∃ v', e = .returned v' ∧ Apped base w w' v v' (l.length + 4) (bc (l ++ be 4 n)) := by
  obtain ⟨i0, hi, hz0, hz1, hz2⟩ := info_parts info_u8
  go_enter Tryz.func161, Tryz.ntmps161
  go_wp2_with (go_at_call 201; go_fit (bits32 _); rintro e w' ⟨rfl, rfl⟩)
  go_loopw [0, 5] (fun bv lv wr => ∃ j : Nat, j ≤ 4 ∧ lv = .int .i64 (24 - 8 * j) ∧ Apped base w wr v bv (l.length + j) (bc (l ++ (be 4 n).take j))) (fun _ lv _ => (intOf lv + 8).toNat)
  case atStart => exact ⟨0, by omega, rfl, Apped.refl (by simpa using hrow)⟩
  case round =>
    obtain ⟨j, hj, rfl, hA⟩ := hrel
    have HA : Hid (Apped base w wr v u0 (l.length + j) (bc (l ++ (be 4 n).take j))) := hA
    by_cases hj4 : j < 4
    · have hsz : 24 - 8 * (j : Int) ≥ 0 := by omega
      have Hs := shr32 (n := n) hj4
      have Hb := be_take 4 n j hj4
      generalize UInt8.ofNat (n / 256 ^ (4 - 1 - j) % 256) = x at Hs Hb
      have HB : Hid _ := Hb
      have q1 : Hid (l.length + j + 1 ≤ maxLen) := by show _ ≤ _; unfold maxLen; omega
      have q2 : Hid ((l.length + j + 1) * 1 ≤ 140737488355328) := by show _ ≤ _; omega
      have q3 : Hid (∀ o, base ≤ (wr.alloc o).heap.size) := fun o => by
        show base ≤ _
        have := hA.grown.size
        simp; omega
      have hr : Hid (wr.ownsRow base 5 1 u0 (l.length + j) (bc (l ++ (be 4 n).take j))) := hA.row
      clear hA hrow Hb hlen
      go_wp2_with (at_builtin; refine wpList_append_own_at _ rfl (.tmp 12) (.tmp 17) _ rfl base _ i0 _ 1 1 Tryz.underlying114 hi hz0 hz1 hz2 rfl (by decide) u0 _ _ rfl (World.ownsRow.alloc hr.out _) ⟨wr.heap.size, 0, none⟩ 1 1 [.int .u8 x.toNat] rfl rfl (cell_one_at wr _ _) (by simp [Value.oneCell']) q1.out q2.out (q3.out _) ?_; intro v1 w1 hown1 hg1 hnil1 hloc1)
      refine ⟨⟨j + 1, by omega, by go_num, HA.out.step hg1 (by rw [HB.out, ← List.append_assoc, bc_append]; exact hown1) hloc1⟩, by simp [intOf]; omega⟩
    · obtain rfl : j = 4 := by omega
      have e : (be 4 n).take 4 = be 4 n := List.take_of_length_le (by rw [be_len]; exact Nat.le_refl _)
      rw [e] at HA
      clear hA
      go_wp2
      go_ret
      exact ⟨u0, rfl, HA.out⟩

theorem shr64 {n j : Nat} (hj : j < 8) : (n : Int) / 2 ^ (56 - 8 * j) % 256 = ((UInt8.ofNat (n / 256 ^ (8 - 1 - j) % 256)).toNat : Int) := by
  have e : (2 : Nat) ^ (56 - 8 * j) = 256 ^ (8 - 1 - j) := by
    rw [show (256 : Nat) = 2 ^ 8 from rfl, ← Nat.pow_mul]; congr 1; omega
  rw [byte_nat (Nat.mod_lt _ (by decide)), ← e, Int.natCast_emod, Int.natCast_ediv, Int.natCast_pow]
  rfl

set_option maxRecDepth 100000 in
set_option maxHeartbeats 400000 in
theorem app64 (n : Nat) (v : Value) (l : List UInt8) (base : Nat) (w : World) (hrow : w.ownsRow base 5 1 v l.length (bc l)) (hbase : base ≤ w.heap.size) (hlen : l.length < 1099511627776) :
    Calls Tryz.prog 198 #[v, .int .i64 n] w fun e w' => ∃ v', e = .returned v' ∧ Apped base w w' v v' (l.length + 8) (bc (l ++ be 8 n)) := by
  obtain ⟨i0, hi, hz0, hz1, hz2⟩ := info_parts info_u8
  go_enter Tryz.func198, Tryz.ntmps198
  go_wp2_with (go_at_call 238; go_fit (bits64 _); rintro e w' ⟨rfl, rfl⟩)
  go_loopw [0, 5] (fun bv lv wr => ∃ j : Nat, j ≤ 8 ∧ lv = .int .i64 (56 - 8 * j) ∧ Apped base w wr v bv (l.length + j) (bc (l ++ (be 8 n).take j))) (fun _ lv _ => (intOf lv + 8).toNat)
  case atStart => exact ⟨0, by omega, rfl, Apped.refl (by simpa using hrow)⟩
  case round =>
    obtain ⟨j, hj, rfl, hA⟩ := hrel
    have HA : Hid (Apped base w wr v u0 (l.length + j) (bc (l ++ (be 8 n).take j))) := hA
    by_cases hj4 : j < 8
    · have hsz : 56 - 8 * (j : Int) ≥ 0 := by omega
      have Hs := shr64 (n := n) hj4
      have Hb := be_take 8 n j hj4
      generalize UInt8.ofNat (n / 256 ^ (8 - 1 - j) % 256) = x at Hs Hb
      have HB : Hid _ := Hb
      have q1 : Hid (l.length + j + 1 ≤ maxLen) := by show _ ≤ _; unfold maxLen; omega
      have q2 : Hid ((l.length + j + 1) * 1 ≤ 140737488355328) := by show _ ≤ _; omega
      have q3 : Hid (∀ o, base ≤ (wr.alloc o).heap.size) := fun o => by
        show base ≤ _
        have := hA.grown.size
        simp; omega
      have hr : Hid (wr.ownsRow base 5 1 u0 (l.length + j) (bc (l ++ (be 8 n).take j))) := hA.row
      clear hA hrow Hb hlen
      go_wp2_with (at_builtin; refine wpList_append_own_at _ rfl (.tmp 12) (.tmp 17) _ rfl base _ i0 _ 1 1 Tryz.underlying114 hi hz0 hz1 hz2 rfl (by decide) u0 _ _ rfl (World.ownsRow.alloc hr.out _) ⟨wr.heap.size, 0, none⟩ 1 1 [.int .u8 x.toNat] rfl rfl (cell_one_at wr _ _) (by simp [Value.oneCell']) q1.out q2.out (q3.out _) ?_; intro v1 w1 hown1 hg1 hnil1 hloc1)
      refine ⟨⟨j + 1, by omega, by go_num, HA.out.step hg1 (by rw [HB.out, ← List.append_assoc, bc_append]; exact hown1) hloc1⟩, by simp [intOf]; omega⟩
    · obtain rfl : j = 8 := by omega
      have e : (be 8 n).take 8 = be 8 n := List.take_of_length_le (by rw [be_len]; exact Nat.le_refl _)
      rw [e] at HA
      clear hA
      go_wp2
      go_ret
      exact ⟨u0, rfl, HA.out⟩
end Go.Proofs.YtgamgomepdfgdaaGreat

namespace Go.Proofs.YtgamgomepdfgdaaGreat
open Go.RowKit

/-- a slice that reads as these bytes -/
def BytesAt (w : World) (v : Value) (l : List UInt8) : Prop :=
  (l = [] ∧ ∃ a cap, v = .slice a 0 cap) ∨
  ∃ g off cap, v = .slice (some ⟨g, off, none⟩) l.length cap ∧ g < w.heap.size ∧ ∀ i (h : i < l.length), w.cell? ⟨g, off + i, none⟩ = some (.int .u8 l[i].toNat)
theorem BytesAt.later {w w' : World} {v : Value} {l : List UInt8} (h : BytesAt w v l) (hb : Below w.heap.size w w') : BytesAt w' v l := by
  rcases h with h | ⟨g, off, cap, h1, h2, h3⟩
  · exact .inl h
  · exact .inr ⟨g, off, cap, h1, Nat.lt_of_lt_of_le h2 hb.size, fun i h => jcell_after hb (h3 i h)⟩
theorem BytesAt.of_row {w : World} {base : Nat} {v : Value} {l : List UInt8} (h : w.ownsRow base 5 1 v l.length (bc l)) : BytesAt w v l := by
  rcases h.2 with ⟨rfl, h0⟩ | ⟨g, cap, cur, rfl, hb, hg, _⟩
  · exact .inl ⟨List.length_eq_zero_iff.1 h0, _, _, rfl⟩
  · have hc := h.cells (g := g) rfl
    refine .inr ⟨g, 0, cap, rfl, (Array.getElem?_eq_some_iff.1 hg).1, fun i hi => ?_⟩
    have := hc i (.int .u8 l[i].toNat) (by simp [bc, hi])
    rwa [addr_add] at this

theorem adl_list {l : List UInt8} {i : Nat} (h : i < l.length) : adlS (l.take (i + 1)) = adl (adlS (l.take i)) l[i] := by
  rw [List.take_succ_eq_append_getElem h, adlS_snoc]

set_option maxRecDepth 100000 in
set_option maxHeartbeats 400000 in
theorem csum_row (l : List UInt8) (g off cap : Nat) (w : World) (hc : ∀ i (h : i < l.length), w.cell? ⟨g, off + i, none⟩ = some (.int .u8 l[i].toNat)) (hl : l.length < 1099511627776) :
    Calls Tryz.prog 162 #[.slice (some ⟨g, off, none⟩) l.length cap] w fun e w' => e = .returned (.int .u32 (adler l)) ∧ w = w' := by
  go_enter Tryz.func162, Tryz.ntmps162
  go_wp2
  go_loop [3, 4, 6, 9] (fun a b _ i => ∃ k : Nat, k ≤ l.length ∧ i = .int .i64 k ∧ a = .int .u32 (adlS (l.take k)).1 ∧ b = .int .u32 (adlS (l.take k)).2) (fun _ _ _ i => l.length - (intOf i).toNat)
  case atStart => exact ⟨0, Nat.zero_le _, rfl, rfl, rfl⟩
  case round =>
    obtain ⟨k, hk, rfl, rfl, rfl⟩ := hrel
    have hlt2 := adlS_lt (l.take k)
    by_cases hlk : k < l.length
    · have he := adl_list hlk
      have hck := hc k hlk
      have hx := l[k].toNat_lt
      generalize l[k] = x at he hck hx
      generalize adlS (l.take k) = ab at he hlt2
      have HE : Hid _ := he
      clear he hc
      go_wp2
      refine ⟨⟨k + 1, hlk, by go_num, ?_, ?_⟩, by simp [intOf]; omega⟩
      · rw [HE.out]; simp [adl]
      · rw [HE.out]; simp [adl]
    · obtain rfl : k = l.length := by omega
      rw [List.take_of_length_le (Nat.le_refl _)] at hlt2 ⊢
      have HA : Hid (adler l = (adlS l).2 * 65536 + (adlS l).1) := rfl
      generalize adlS l = ab at hlt2 HA
      have hj : bits .or .u32 ((ab.2 : Int) * 65536) (ab.1 : Int) = (ab.2 : Int) * 65536 + (ab.1 : Int) := bits_join .u32 32 (by decide) wraps_u32 16 _ _ (by omega) (by omega) (by omega) (by omega) (by omega) (by omega)
      go_wp2
      go_ret
      exact ⟨by rw [HA.out, Int.natCast_add, Int.natCast_mul]; rfl, rfl⟩

set_option maxRecDepth 100000 in
set_option maxHeartbeats 400000 in
theorem csum_none (a : Option Addr) (cap : Nat) (w : World) :
    Calls Tryz.prog 162 #[.slice a 0 cap] w fun e w' => e = .returned (.int .u32 (adler [])) ∧ w = w' := by
  go_enter Tryz.func162, Tryz.ntmps162
  go_wp2
  go_loop [3, 4, 6, 9] (fun a b _ i => i = .int .i64 0 ∧ a = .int .u32 1 ∧ b = .int .u32 0) (fun _ _ _ _ => 0)
  case atStart => exact ⟨rfl, rfl, rfl⟩
  case round =>
    obtain ⟨rfl, rfl, rfl⟩ := hrel
    go_wp2
    go_ret
    exact ⟨by rfl, rfl⟩

theorem csum_any (l : List UInt8) (v : Value) (w : World) (h : BytesAt w v l) (hl : l.length < 1099511627776) :
    Calls Tryz.prog 162 #[v] w fun e w' => e = .returned (.int .u32 (adler l)) ∧ w = w' := by
  rcases h with ⟨rfl, a, cap, rfl⟩ | ⟨g, off, cap, rfl, _, hc⟩
  · exact csum_none a cap w
  · exact csum_row l g off cap w hc hl
end Go.Proofs.YtgamgomepdfgdaaGreat

namespace Go.Proofs.YtgamgomepdfgdaaGreat
open Go.RowKit

/-- a cursor in its block: what is left, was there too little -/
def Cur (w : World) (cb : Nat) (v : Value) (sh : Bool) : Prop := w.heap[cb]? = some (.cells #[v, .bool sh] 205 (0, 0))
theorem Cur.c0 {w : World} {cb : Nat} {v : Value} {sh : Bool} (h : Cur w cb v sh) : w.cell? ⟨cb, 0, none⟩ = some v := by
  unfold Cur at h; simp [World.cell?, h]
theorem Cur.c1 {w : World} {cb : Nat} {v : Value} {sh : Bool} (h : Cur w cb v sh) : w.cell? ⟨cb, 1, none⟩ = some (.bool sh) := by
  unfold Cur at h; simp [World.cell?, h]
theorem Cur.fr {w : World} {cb : Nat} {v : Value} {sh : Bool} (h : Cur w cb v sh) (i : Nat) : w.frozen? ⟨cb, i, none⟩ = false := by
  unfold Cur at h; simp [World.frozen?, h]
theorem Cur.set0 {w : World} {cb : Nat} {v : Value} {sh : Bool} (h : Cur w cb v sh) (u : Value) : Cur (w.setCell ⟨cb, 0, none⟩ u) cb u sh := by
  unfold Cur at h ⊢
  simp [World.setCell, Array.getElem?_modify, h]
theorem Cur.set1 {w : World} {cb : Nat} {v : Value} {sh : Bool} (h : Cur w cb v sh) (b : Bool) : Cur (w.setCell ⟨cb, 1, none⟩ (.bool b)) cb v b := by
  unfold Cur at h ⊢
  simp [World.setCell, Array.getElem?_modify, h]
theorem grown_set (w : World) (b o : Nat) (u : Value) : w.grownBy (w.setCell ⟨b, o, none⟩ u) (some b) :=
  ⟨rfl, rfl, rfl, by simp [World.setCell], fun k _ hne => by
    have : b ≠ k := fun e => hne (by rw [e])
    simp [World.setCell, Array.getElem?_modify, this]⟩

/-- a slice of bytes that can be cut -/
def BV (w : World) (v : Value) (R : List UInt8) : Prop :=
  (R = [] ∧ v = .slice none 0 0) ∨ ∃ g off cap, v = .slice (some ⟨g, off, none⟩) R.length cap ∧ R.length ≤ cap ∧ (cap < 9223372036854775808 ∧ R.length < 1099511627776) ∧ g < w.heap.size ∧ ∀ i (h : i < R.length), w.cell? ⟨g, off + i, none⟩ = some (.int .u8 R[i].toNat)
theorem BV.at {w : World} {v : Value} {R : List UInt8} (h : BV w v R) : BytesAt w v R := by
  rcases h with ⟨rfl, rfl⟩ | ⟨g, off, cap, rfl, _, _, hg, hc⟩
  · exact .inl ⟨rfl, _, _, rfl⟩
  · exact .inr ⟨g, off, cap, rfl, hg, hc⟩
/-- bytes do not stand in a cursor's block -/
theorem Cur.ne {w : World} {cb : Nat} {x : Value} {sh : Bool} (h : Cur w cb x sh) (hx : ∃ a n c, x = .slice a n c) {g o : Nat} {b : Nat} (hc : w.cell? ⟨g, o, none⟩ = some (.int .u8 b)) : g ≠ cb := by
  rintro rfl
  obtain ⟨a, n, c, rfl⟩ := hx
  unfold Cur at h
  simp only [World.cell?, h] at hc
  rcases o with _ | _ | o
  · simp at hc
  · simp at hc
  · simp at hc
theorem BV.form {w : World} {v : Value} {R : List UInt8} (h : BV w v R) : ∃ a n c, v = .slice a n c := by
  rcases h with ⟨_, rfl⟩ | ⟨g, off, cap, rfl, _⟩
  · exact ⟨_, _, _, rfl⟩
  · exact ⟨_, _, _, rfl⟩
theorem BV.keep {w w' : World} {cb : Nat} {x v : Value} {sh : Bool} {R : List UInt8} (h : BV w v R) (hC : Cur w cb x sh) (hx : ∃ a n c, x = .slice a n c) (hg : w.grownBy w' (some cb)) : BV w' v R := by
  rcases h with h | ⟨g, off, cap, h1, h2, h3, h4, h5⟩
  · exact .inl h
  · refine .inr ⟨g, off, cap, h1, h2, h3, Nat.lt_of_lt_of_le h4 hg.size, fun i hi => hg.cell (h5 i hi) (fun e => ?_)⟩
    exact hC.ne hx (h5 i hi) (by simpa using e)
theorem BV.later {w w' : World} {v : Value} {R : List UInt8} (h : BV w v R) (hb : Below w.heap.size w w') : BV w' v R := by
  rcases h with h | ⟨g, off, cap, h1, h2, h3, h4, h5⟩
  · exact .inl h
  · exact .inr ⟨g, off, cap, h1, h2, h3, Nat.lt_of_lt_of_le h4 hb.size, fun i hi => jcell_after hb (h5 i hi)⟩

/-- what taking n bytes gives -/
def Took (e : Ending) (w w' : World) (cb : Nat) (v : Value) (sh : Bool) (R : List UInt8) (n : Nat) : Prop :=
  ((n ≤ R.length ∧ ∃ u v', e = .returned u ∧ Cur w' cb v' sh ∧ BV w' u (R.take n) ∧ BV w' v' (R.drop n) ∧ u.ownBlock = v.ownBlock ∧ v'.ownBlock = v.ownBlock) ∨ (R.length < n ∧ e = .returned (.slice none 0 0) ∧ Cur w' cb v true ∧ BV w' v R)) ∧ w.grownBy w' (some cb)

set_option maxRecDepth 100000 in
set_option maxHeartbeats 400000 in
theorem take_any (cb n : Nat) (v : Value) (sh : Bool) (R : List UInt8) (w : World) (hC : Cur w cb v sh) (hV : BV w v R) (hn : n < 18446744073709551616) :
    Calls Tryz.prog 165 #[.pointer (some ⟨cb, 0, none⟩), .int .u64 n] w fun e w' => Took e w w' cb v sh R n := by
  have c0 := hC.c0
  have f0 := hC.fr 0
  have c1 := hC.c1
  have f1 := hC.fr 1
  have HC : Hid (Cur w cb v sh) := hC
  have HV : Hid (BV w v R) := hV
  by_cases hlt : R.length < n
  · have key : ∃ a c, v = .slice a R.length c := by
      rcases hV with ⟨rfl, rfl⟩ | ⟨g, off, cap, rfl, _⟩
      · exact ⟨_, _, rfl⟩
      · exact ⟨_, _, rfl⟩
    obtain ⟨a, c, rfl⟩ := key
    have hl40 : R.length < 1099511627776 := by
      rcases hV with ⟨rfl, _⟩ | ⟨g, off, cap, h1, h2, h3, _⟩
      · decide
      · omega
    have hlt' : (R.length : Int) < n := by omega
    clear hC hV
    go_enter Tryz.func165, Tryz.ntmps165
    go_wp2
    go_ret
    exact ⟨.inr ⟨hlt, rfl, HC.out.set1 true, HV.out.keep HC.out ⟨_, _, _, rfl⟩ (grown_set _ _ _ _)⟩, grown_set _ _ _ _⟩
  · have hle : n ≤ R.length := by omega
    rcases hV with ⟨rfl, rfl⟩ | ⟨g, off, cap, rfl, h2, h3, h4, h5⟩
    · obtain rfl : n = 0 := by simpa using hle
      clear hC
      go_enter Tryz.func165, Tryz.ntmps165
      go_wp2
      go_ret
      exact ⟨.inl ⟨hle, _, _, rfl, HC.out.set0 _, .inl ⟨rfl, rfl⟩, .inl ⟨rfl, rfl⟩, rfl, rfl⟩, grown_set _ _ _ _⟩
    · have hlt' : ¬ ((R.length : Int) < n) := by omega
      have KA : Hid (∀ w', w.grownBy w' (some cb) → BV w' (.slice (some ⟨g, off, none⟩) n cap) (R.take n)) := fun w' hg => BV.keep (.inr ⟨g, off, cap, by rw [List.length_take, Nat.min_eq_left hle], by rw [List.length_take]; omega, ⟨h3.1, by rw [List.length_take]; omega⟩, h4, fun i hi => by
        rw [List.length_take] at hi
        rw [List.getElem_take]; exact h5 i (by omega)⟩) HC.out ⟨_, _, _, rfl⟩ hg
      have KB : Hid (∀ w' o, (o = off + n ∨ cap - n = 0) → w.grownBy w' (some cb) → BV w' (.slice (some ⟨g, o, none⟩) (R.length - n) (cap - n)) (R.drop n)) := fun w' o ho hg => BV.keep (.inr ⟨g, o, cap - n, by rw [List.length_drop], by rw [List.length_drop]; omega, ⟨by omega, by rw [List.length_drop]; omega⟩, h4, fun i hi => by
        rw [List.length_drop] at hi
        rcases ho with rfl | ho
        · rw [List.getElem_drop, Nat.add_assoc]; exact h5 (n + i) (by omega)
        · omega⟩) HC.out ⟨_, _, _, rfl⟩ hg
      clear hC h4 h5
      by_cases hcn : cap = n
      · subst hcn
        go_enter Tryz.func165, Tryz.ntmps165
        go_wp2
        go_ret
        exact ⟨.inl ⟨hle, _, _, rfl, HC.out.set0 _, KA.out _ (grown_set _ _ _ _), by have := KB.out _ off (.inr (by omega)) (grown_set w cb 0 (.slice (some ⟨g, off, none⟩) 0 0)); rwa [show R.length - cap = 0 by omega, Nat.sub_self] at this, rfl, rfl⟩, grown_set _ _ _ _⟩
      · go_enter Tryz.func165, Tryz.ntmps165
        go_wp2
        go_ret
        exact ⟨.inl ⟨hle, _, _, rfl, HC.out.set0 _, KA.out _ (grown_set _ _ _ _), KB.out _ _ (.inl rfl) (grown_set _ _ _ _), rfl, rfl⟩, grown_set _ _ _ _⟩
end Go.Proofs.YtgamgomepdfgdaaGreat
