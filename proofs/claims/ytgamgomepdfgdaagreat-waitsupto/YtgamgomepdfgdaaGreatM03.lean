import Derived.Test.YtgamgomepdfgdaaGreatM02
import Derived.Lib.EndianBits
import Derived.Test.YtgamgomepdfgdaaGreatProg
import Derived.Test.YtgamgomepdfgdaaGreatM01
import Derived.WalkLawsBesides
import Derived.Lib.AppendStr
namespace Go.Proofs.YtgamgomepdfgdaaGreat
open Go.RowKit

/-- the number that bytes tell -/
def val (l : List UInt8) : Nat := l.foldl (fun n b => n * 256 + b.toNat) 0
theorem val_snoc (l : List UInt8) (b : UInt8) : val (l ++ [b]) = val l * 256 + b.toNat := by simp [val]
theorem val_take {l : List UInt8} {i : Nat} (h : i < l.length) : val (l.take (i + 1)) = val (l.take i) * 256 + l[i].toNat := by
  rw [List.take_succ_eq_append_getElem h, val_snoc]
theorem val_lt : ∀ (k : Nat) (l : List UInt8), l.length = k → val l < 256 ^ k
  | 0, l, h => by rw [List.length_eq_zero_iff.1 h]; decide
  | k + 1, l, h => by
    rcases List.eq_nil_or_concat l with rfl | ⟨m, x, rfl⟩
    · simp at h
    · rw [List.concat_eq_append] at h ⊢
      have := val_lt k m (by simpa using h)
      have hx := x.toNat_lt
      rw [val_snoc, Nat.pow_succ]; omega
theorem val_be : ∀ (k n : Nat), val (be k n) = n % 256 ^ k
  | 0, n => by simp [be, val, Nat.mod_one]
  | k + 1, n => by
    have e1 : (UInt8.ofNat (n % 256)).toNat = n % 256 := by rw [UInt8.toNat_ofNat']; omega
    rw [be_succ, val_snoc, val_be k, e1, Nat.pow_succ, Nat.mul_comm (256 ^ k) 256, Nat.mod_mul]
    omega

theorem or_byte {x : Int} {b : UInt8} (h : 0 ≤ x) (h' : x < 72057594037927936) : bits .or .u64 (x * 256) (b.toNat : Int) = x * 256 + b.toNat := by
  have hb := b.toNat_lt
  exact bits_join .u64 64 (by decide) wraps_u64 8 _ _ (by omega) (by omega) (by omega) (by omega) (by omega) (by omega)

/-- a number of k bytes was read: x of them, or there were too few and x is 0 -/
def Read (x : Nat) (w w' : World) (cb : Nat) (v : Value) (sh : Bool) (R : List UInt8) (k : Nat) : Prop :=
  ((k ≤ R.length ∧ x = val (R.take k) ∧ ∃ v', Cur w' cb v' sh ∧ BV w' v' (R.drop k) ∧ v'.ownBlock = v.ownBlock) ∨ (R.length < k ∧ x = 0 ∧ Cur w' cb v true ∧ BV w' v R)) ∧ w.grownBy w' (some cb)


set_option maxRecDepth 100000 in
set_option maxHeartbeats 1000000 in
theorem num8 (cb : Nat) (v : Value) (sh : Bool) (R : List UInt8) (w : World) (hC : Cur w cb v sh) (hV : BV w v R) :
    Calls Tryz.prog 163 #[.pointer (some ⟨cb, 0, none⟩)] w fun e w' => ∃ x : Nat, e = .returned (.int .u8 x) ∧ Read x w w' cb v sh R 1 := by
  have hT := take_any cb 1 v sh R w hC hV (by decide)
  clear hC hV
  go_enter Tryz.func163, Tryz.ntmps163
  go_wp2_with (first
    | (go_at_call 200; go_fit (bits8 _); rintro e w' ⟨rfl, rfl⟩)
    | fail)
  refine hT.mono ?_
  rintro e w1 ⟨hk, hg⟩
  rcases hk with ⟨hle, u, v', rfl, hC', hU, hV', _, ho'⟩ | ⟨hlt, rfl, hC', hV'⟩
  · have HR : Hid (Read (val (R.take 1)) w w1 cb v sh R 1) := ⟨.inl ⟨hle, rfl, v', hC', hV', ho'⟩, hg⟩
    have hlK : (R.take 1).length = 1 := by rw [List.length_take, Nat.min_eq_left hle]
    generalize R.take 1 = L at hU hlK HR
    obtain ⟨g, off, cap, rfl, h5⟩ : ∃ g off cap, u = .slice (some ⟨g, off, none⟩) 1 cap ∧ ∀ i (h : i < L.length), w1.cell? ⟨g, off + i, none⟩ = some (.int .u8 L[i].toNat) := by
      rcases hU with ⟨rfl, _⟩ | ⟨g, off, cap, h1, _, _, _, h5⟩
      · simp at hlK
      · exact ⟨g, off, cap, by rw [h1, hlK], h5⟩
    clear hC' hV' hg hT hU hle ho'
    go_wp2_with fail
    go_loop [3, 5, 12] (fun n _ i => ∃ k : Nat, k ≤ 1 ∧ i = .int .i64 k ∧ n = .int .u64 (val (L.take k))) (fun _ _ i => 1 - (intOf i).toNat)
    case atStart => exact ⟨0, by omega, rfl, rfl⟩
    case round =>
      obtain ⟨k, hk, rfl, rfl⟩ := hrel
      by_cases hlk : k < 1
      · have hc := h5 k (by omega)
        have he := val_take (l := L) (i := k) (by omega)
        have hv := val_lt k (L.take k) (by rw [List.length_take]; omega)
        have hp : 256 ^ k ≤ 256 ^ 7 := Nat.pow_le_pow_right (by decide) (by omega)
        have hx : val (L.take k) < 72057594037927936 := Nat.lt_of_lt_of_le hv hp
        generalize L[k]'(by omega) = b at hc he
        generalize val (L.take k) = x at he hx hv
        have HE : Hid (val (L.take (k + 1)) = x * 256 + b.toNat) := he
        have hmo : (x : Int) * 256 % 18446744073709551616 = x * 256 := by omega
        have hor := or_byte (x := (x : Int)) (b := b) (by omega) (by omega)
        clear he hv hp h5
        go_wp2
        refine ⟨⟨k + 1, hlk, by go_num, ?_⟩, by simp [intOf]; omega⟩
        rw [HE.out]; simp
        rw [wrap_u64 (by omega) (by have := b.toNat_lt; omega)]; exact hor
      · obtain rfl : k = 1 := by omega
        have e : L.take 1 = L := List.take_of_length_le (by omega)
        have hv := val_lt 1 L hlK
        rw [e]
        generalize val L = x at hv HR
        have hm : (x : Int) % 256 = x := by omega
        go_wp2
        go_ret
        exact ⟨x, rfl, HR.out⟩
  · have HR : Hid (Read 0 w w1 cb v sh R 1) := ⟨.inr ⟨hlt, rfl, hC', hV'⟩, hg⟩
    clear hC' hV' hg hT
    go_wp2_with fail
    go_loop [3, 5, 12] (fun n _ i => n = .int .u64 0 ∧ i = .int .i64 0) (fun _ _ _ => 0)
    case atStart => exact ⟨rfl, rfl⟩
    case round =>
      obtain ⟨rfl, rfl⟩ := hrel
      go_wp2
      go_ret
      exact ⟨0, rfl, HR.out⟩

set_option maxRecDepth 100000 in
set_option maxHeartbeats 1000000 in
theorem num32 (cb : Nat) (v : Value) (sh : Bool) (R : List UInt8) (w : World) (hC : Cur w cb v sh) (hV : BV w v R) :
    Calls Tryz.prog 164 #[.pointer (some ⟨cb, 0, none⟩)] w fun e w' => ∃ x : Nat, e = .returned (.int .u32 x) ∧ Read x w w' cb v sh R 4 := by
  have hT := take_any cb 4 v sh R w hC hV (by decide)
  clear hC hV
  go_enter Tryz.func164, Tryz.ntmps164
  go_wp2_with (first
    | (go_at_call 201; go_fit (bits32 _); rintro e w' ⟨rfl, rfl⟩)
    | fail)
  refine hT.mono ?_
  rintro e w1 ⟨hk, hg⟩
  rcases hk with ⟨hle, u, v', rfl, hC', hU, hV', _, ho'⟩ | ⟨hlt, rfl, hC', hV'⟩
  · have HR : Hid (Read (val (R.take 4)) w w1 cb v sh R 4) := ⟨.inl ⟨hle, rfl, v', hC', hV', ho'⟩, hg⟩
    have hlK : (R.take 4).length = 4 := by rw [List.length_take, Nat.min_eq_left hle]
    generalize R.take 4 = L at hU hlK HR
    obtain ⟨g, off, cap, rfl, h5⟩ : ∃ g off cap, u = .slice (some ⟨g, off, none⟩) 4 cap ∧ ∀ i (h : i < L.length), w1.cell? ⟨g, off + i, none⟩ = some (.int .u8 L[i].toNat) := by
      rcases hU with ⟨rfl, _⟩ | ⟨g, off, cap, h1, _, _, _, h5⟩
      · simp at hlK
      · exact ⟨g, off, cap, by rw [h1, hlK], h5⟩
    clear hC' hV' hg hT hU hle ho'
    go_wp2_with fail
    go_loop [3, 5, 12] (fun n _ i => ∃ k : Nat, k ≤ 4 ∧ i = .int .i64 k ∧ n = .int .u64 (val (L.take k))) (fun _ _ i => 4 - (intOf i).toNat)
    case atStart => exact ⟨0, by omega, rfl, rfl⟩
    case round =>
      obtain ⟨k, hk, rfl, rfl⟩ := hrel
      by_cases hlk : k < 4
      · have hc := h5 k (by omega)
        have he := val_take (l := L) (i := k) (by omega)
        have hv := val_lt k (L.take k) (by rw [List.length_take]; omega)
        have hp : 256 ^ k ≤ 256 ^ 7 := Nat.pow_le_pow_right (by decide) (by omega)
        have hx : val (L.take k) < 72057594037927936 := Nat.lt_of_lt_of_le hv hp
        generalize L[k]'(by omega) = b at hc he
        generalize val (L.take k) = x at he hx hv
        have HE : Hid (val (L.take (k + 1)) = x * 256 + b.toNat) := he
        have hmo : (x : Int) * 256 % 18446744073709551616 = x * 256 := by omega
        have hor := or_byte (x := (x : Int)) (b := b) (by omega) (by omega)
        clear he hv hp h5
        go_wp2
        refine ⟨⟨k + 1, hlk, by go_num, ?_⟩, by simp [intOf]; omega⟩
        rw [HE.out]; simp
        rw [wrap_u64 (by omega) (by have := b.toNat_lt; omega)]; exact hor
      · obtain rfl : k = 4 := by omega
        have e : L.take 4 = L := List.take_of_length_le (by omega)
        have hv := val_lt 4 L hlK
        rw [e]
        generalize val L = x at hv HR
        have hm : (x : Int) % 4294967296 = x := by omega
        go_wp2
        go_ret
        exact ⟨x, rfl, HR.out⟩
  · have HR : Hid (Read 0 w w1 cb v sh R 4) := ⟨.inr ⟨hlt, rfl, hC', hV'⟩, hg⟩
    clear hC' hV' hg hT
    go_wp2_with fail
    go_loop [3, 5, 12] (fun n _ i => n = .int .u64 0 ∧ i = .int .i64 0) (fun _ _ _ => 0)
    case atStart => exact ⟨rfl, rfl⟩
    case round =>
      obtain ⟨rfl, rfl⟩ := hrel
      go_wp2
      go_ret
      exact ⟨0, rfl, HR.out⟩

set_option maxRecDepth 100000 in
set_option maxHeartbeats 1000000 in
theorem num64 (cb : Nat) (v : Value) (sh : Bool) (R : List UInt8) (w : World) (hC : Cur w cb v sh) (hV : BV w v R) (hx : val (R.take 8) < 9223372036854775808) :
    Calls Tryz.prog 203 #[.pointer (some ⟨cb, 0, none⟩)] w fun e w' => ∃ x : Nat, e = .returned (.int .i64 x) ∧ Read x w w' cb v sh R 8 := by
  have hT := take_any cb 8 v sh R w hC hV (by decide)
  clear hC hV
  go_enter Tryz.func203, Tryz.ntmps203
  go_wp2_with (first
    | (go_at_call 238; go_fit (bits64 _); rintro e w' ⟨rfl, rfl⟩)
    | fail)
  refine hT.mono ?_
  rintro e w1 ⟨hk, hg⟩
  rcases hk with ⟨hle, u, v', rfl, hC', hU, hV', _, ho'⟩ | ⟨hlt, rfl, hC', hV'⟩
  · have HR : Hid (Read (val (R.take 8)) w w1 cb v sh R 8) := ⟨.inl ⟨hle, rfl, v', hC', hV', ho'⟩, hg⟩
    have hlK : (R.take 8).length = 8 := by rw [List.length_take, Nat.min_eq_left hle]
    generalize R.take 8 = L at hU hlK HR hx
    obtain ⟨g, off, cap, rfl, h5⟩ : ∃ g off cap, u = .slice (some ⟨g, off, none⟩) 8 cap ∧ ∀ i (h : i < L.length), w1.cell? ⟨g, off + i, none⟩ = some (.int .u8 L[i].toNat) := by
      rcases hU with ⟨rfl, _⟩ | ⟨g, off, cap, h1, _, _, _, h5⟩
      · simp at hlK
      · exact ⟨g, off, cap, by rw [h1, hlK], h5⟩
    clear hC' hV' hg hT hU hle ho'
    go_wp2_with fail
    go_loop [3, 5, 12] (fun n _ i => ∃ k : Nat, k ≤ 8 ∧ i = .int .i64 k ∧ n = .int .u64 (val (L.take k))) (fun _ _ i => 8 - (intOf i).toNat)
    case atStart => exact ⟨0, by omega, rfl, rfl⟩
    case round =>
      obtain ⟨k, hk, rfl, rfl⟩ := hrel
      by_cases hlk : k < 8
      · have hc := h5 k (by omega)
        have he := val_take (l := L) (i := k) (by omega)
        have hv := val_lt k (L.take k) (by rw [List.length_take]; omega)
        have hp : 256 ^ k ≤ 256 ^ 7 := Nat.pow_le_pow_right (by decide) (by omega)
        have hx : val (L.take k) < 72057594037927936 := Nat.lt_of_lt_of_le hv hp
        generalize L[k]'(by omega) = b at hc he
        generalize val (L.take k) = x at he hx hv
        have HE : Hid (val (L.take (k + 1)) = x * 256 + b.toNat) := he
        have hmo : (x : Int) * 256 % 18446744073709551616 = x * 256 := by omega
        have hor := or_byte (x := (x : Int)) (b := b) (by omega) (by omega)
        clear he hv hp h5
        go_wp2
        refine ⟨⟨k + 1, hlk, by go_num, ?_⟩, by simp [intOf]; omega⟩
        rw [HE.out]; simp
        rw [wrap_u64 (by omega) (by have := b.toNat_lt; omega)]; exact hor
      · obtain rfl : k = 8 := by omega
        have e : L.take 8 = L := List.take_of_length_le (by omega)
        have hv := val_lt 8 L hlK
        rw [e]
        generalize val L = x at hv HR hx
        have hm : wrap64 (x : Int) = x := by unfold wrap64; omega
        go_wp2
        go_ret
        exact ⟨x, rfl, HR.out⟩
  · have HR : Hid (Read 0 w w1 cb v sh R 8) := ⟨.inr ⟨hlt, rfl, hC', hV'⟩, hg⟩
    clear hC' hV' hg hT hx
    go_wp2_with fail
    go_loop [3, 5, 12] (fun n _ i => n = .int .u64 0 ∧ i = .int .i64 0) (fun _ _ _ => 0)
    case atStart => exact ⟨rfl, rfl⟩
    case round =>
      obtain ⟨rfl, rfl⟩ := hrel
      go_wp2
      go_ret
      exact ⟨0, rfl, HR.out⟩
end Go.Proofs.YtgamgomepdfgdaaGreat

namespace Go.Proofs.YtgamgomepdfgdaaGreat
open Go.RowKit

theorem conv_bv {w : World} {v : Value} {l : List UInt8} (h : BV w v l) : (convert 114 9 v).run Tryz.prog w = .ok (.string (bs l)) w := by
  rcases h with ⟨rfl, rfl⟩ | ⟨g, off, cap, rfl, _, _, _, hc⟩
  · kernel_rfl
  · refine run_convert_bytes_back (P := Tryz.prog) _ _ _ 5 ⟨g, off, none⟩ cap l Tryz.underlying114 (by kernel_rfl) (by kernel_rfl) fun j hj => ?_
    have e : (⟨g, off, none⟩ : Addr).add j = ⟨g, off + j, none⟩ := by
      unfold Addr.add
      by_cases h : j = 0
      · subst h; simp
      · simp [h]
    rw [e]
    exact hc j hj

set_option maxRecDepth 100000 in
set_option maxHeartbeats 400000 in
/-- a text is read back -/
theorem text_read (cb : Nat) (v : Value) (sh : Bool) (s : ByteArray) (rest R : List UInt8) (w : World) (hC : Cur w cb v sh) (hV : BV w v R) (hR : R = txt s ++ rest) (hs : s.size < 256) :
    Calls Tryz.prog 239 #[.pointer (some ⟨cb, 0, none⟩)] w fun e w' => e = .returned (.string s) ∧ (∃ v', Cur w' cb v' sh ∧ BV w' v' rest ∧ v'.ownBlock = v.ownBlock) ∧ w.grownBy w' (some cb) := by
  have hN := num8 cb v sh R w hC hV
  have hR1 : R = [UInt8.ofNat s.size] ++ (s.data.toList ++ rest) := by
    rw [hR, txt, List.append_assoc]; simp [be, Nat.mod_eq_of_lt hs]
  have hlen : 1 ≤ R.length := by rw [hR1]; simp
  have hval : val (R.take 1) = s.size := by
    rw [hR1]; simp [val]; omega
  have hdrop : R.drop 1 = s.data.toList ++ rest := by rw [hR1]; rfl
  clear hC hV hR1 hR
  go_enter Tryz.func239, Tryz.ntmps239
  go_wp2_with fail
  refine hN.mono ?_
  rintro e w1 ⟨x, rfl, hk, hg⟩
  rcases hk with ⟨_, hx, v', hC', hV', ho'⟩ | ⟨h, _⟩
  · rw [hval] at hx
    subst hx
    rw [hdrop] at hV'
    have hT := take_any cb s.size v' sh _ w1 hC' hV' (by omega)
    have hw : IntKind.u64.wrap (s.size : Int) = s.size := wrap_u64 (by omega) (by omega)
    have hG : Hid (w.grownBy w1 (some cb)) := hg
    have HO : Hid (v'.ownBlock = v.ownBlock) := ho'
    clear hC' hV' hN hg ho'
    go_wp2_with fail
    refine hT.mono ?_
    rintro e w2 ⟨hk, hg2⟩
    rcases hk with ⟨_, u, v2, rfl, hC2, hU, hV2, _, ho2⟩ | ⟨h, _⟩
    · have e1 : (s.data.toList ++ rest).take s.size = s.data.toList := by rw [List.take_left']; simp
      have e2 : (s.data.toList ++ rest).drop s.size = rest := by rw [List.drop_left']; simp
      rw [e1] at hU
      rw [e2] at hV2
      have hcv := conv_bv hU
      rw [bs_data] at hcv
      have HC2 : Hid (Cur w2 cb v2 sh) := hC2
      have HV2 : Hid (BV w2 v2 rest) := hV2
      have HG2 : Hid (w1.grownBy w2 (some cb)) := hg2
      have HO2 : Hid (v2.ownBlock = v'.ownBlock) := ho2
      obtain ⟨ua, un, uc, rfl⟩ := hU.form
      clear hT hC2 hV2 hU hg2 ho2
      go_wp2
      go_ret
      exact ⟨rfl, ⟨v2, HC2.out, HV2.out, HO2.out.trans HO.out⟩, hG.out.trans HG2.out⟩
    · rw [List.length_append] at h; simp at h; omega
  · omega
end Go.Proofs.YtgamgomepdfgdaaGreat

namespace Go.Proofs.YtgamgomepdfgdaaGreat
open Go.RowKit

theorem cell_lt {w : World} {b o : Nat} {v : Value} (h : w.cell? ⟨b, o, none⟩ = some v) : b < w.heap.size := by
  by_cases hb : b < w.heap.size
  · exact hb
  · have : w.heap[b]? = none := Array.getElem?_eq_none (by omega)
    simp [World.cell?, this] at h
theorem cell_after {w w' : World} {b o : Nat} {v : Value} (hb : Below w.heap.size w w') (h : w.cell? ⟨b, o, none⟩ = some v) : w'.cell? ⟨b, o, none⟩ = some v :=
  (World.cell?_of_block (w := w) (hb.block b (cell_lt h))).trans h
theorem frozen_after {w w' : World} {b o : Nat} (hb : Below w.heap.size w w') (hl : b < w.heap.size) (h : w.frozen? ⟨b, o, none⟩ = false) : w'.frozen? ⟨b, o, none⟩ = false := by
  rw [← h]
  have := hb.block b hl
  simp [World.frozen?, this]

/-- the list in hand: so many edits stand in it already -/
def Half (w : World) (g n k : Nat) (es : List Ed) : Prop :=
  g < w.heap.size ∧ (∀ j, j < n * 3 → (∃ v, w.cell? ⟨g, j, none⟩ = some v) ∧ w.frozen? ⟨g, j, none⟩ = false) ∧
  ∀ i (h : i < es.length), i < k → w.cell? ⟨g, i * 3, none⟩ = some (.string es[i].1) ∧ w.cell? ⟨g, i * 3 + 1, none⟩ = some (.string es[i].2.1) ∧ w.cell? ⟨g, i * 3 + 2, none⟩ = some (.string es[i].2.2)

theorem Half.later {w w' : World} {g n k : Nat} {es : List Ed} (h : Half w g n k es) (hb : Below w.heap.size w w') : Half w' g n k es := by
  refine ⟨Nat.lt_of_lt_of_le h.1 hb.size, fun j hj => ⟨?_, frozen_after hb h.1 (h.2.1 j hj).2⟩, fun i hi hk => ?_⟩
  · obtain ⟨v, hv⟩ := (h.2.1 j hj).1
    exact ⟨v, cell_after hb hv⟩
  · obtain ⟨h0, h1, h2⟩ := h.2.2 i hi hk
    exact ⟨cell_after hb h0, cell_after hb h1, cell_after hb h2⟩

theorem Half.set {w : World} {g n k : Nat} {es : List Ed} (h : Half w g n k es) (hk : k < es.length) (hn : es.length = n) :
    Half (((w.setCell ⟨g, k * 3, none⟩ (.string es[k].1)).setCell ⟨g, k * 3 + 1, none⟩ (.string es[k].2.1)).setCell ⟨g, k * 3 + 2, none⟩ (.string es[k].2.2)) g n (k + 1) es := by
  obtain ⟨hg, ha, hd⟩ := h
  have ne : ∀ {i j : Nat}, i ≠ j → (⟨g, i, none⟩ : Addr) ≠ ⟨g, j, none⟩ := fun h e => h (by injection e)
  refine ⟨by simpa [World.setCell] using hg, fun j hj => ⟨?_, ?_⟩, fun i hi hik => ?_⟩
  · obtain ⟨v, hv⟩ := (ha j hj).1
    obtain ⟨v1, h1⟩ := cell?_setCell_some (p := ⟨g, k * 3, none⟩) (x := .string es[k].1) hv
    obtain ⟨v2, h2⟩ := cell?_setCell_some (p := ⟨g, k * 3 + 1, none⟩) (x := .string es[k].2.1) h1
    exact cell?_setCell_some h2
  · rw [World.frozen?_setCell, World.frozen?_setCell, World.frozen?_setCell]; exact (ha j hj).2
  · by_cases e : i = k
    · subst e
      obtain ⟨v0, h0⟩ := (ha (i * 3) (by omega)).1
      obtain ⟨v1, h1⟩ := (ha (i * 3 + 1) (by omega)).1
      obtain ⟨v2, h2⟩ := (ha (i * 3 + 2) (by omega)).1
      refine ⟨?_, ?_, ?_⟩
      · rw [World.cell?_setCell_other _ _ _ _ (ne (by omega)), World.cell?_setCell_other _ _ _ _ (ne (by omega))]
        exact World.cell?_setCell_same _ _ _ h0
      · rw [World.cell?_setCell_other _ _ _ _ (ne (by omega))]
        exact World.cell?_setCell_same _ _ _ ((World.cell?_setCell_other _ _ _ _ (ne (by omega))).trans h1)
      · exact World.cell?_setCell_same _ _ _ ((World.cell?_setCell_other _ _ _ _ (ne (by omega))).trans ((World.cell?_setCell_other _ _ _ _ (ne (by omega))).trans h2))
    · obtain ⟨h0, h1, h2⟩ := hd i hi (by omega)
      refine ⟨?_, ?_, ?_⟩
      all_goals
        rw [World.cell?_setCell_other _ _ _ _ (ne (by omega)), World.cell?_setCell_other _ _ _ _ (ne (by omega)), World.cell?_setCell_other _ _ _ _ (ne (by omega))]
        assumption

theorem Half.made {w : World} {base n : Nat} {e : TypeId} {g : Nat} {xs : List Value} {es : List Ed} (h : w.ownsRow base e 3 (.slice (some ⟨g, 0, none⟩) n n) n xs) : Half w g n 0 es := by
  rcases h.2 with ⟨hnil, _⟩ | ⟨g', cap', cur, hv, hb, hg, hnc, hcm, hcs, htk⟩
  · cases hnil
  cases hv
  have hl : g < w.heap.size := (Array.getElem?_eq_some_iff.1 hg).1
  refine ⟨hl, fun j hj => ⟨⟨cur[j]'(by omega), ?_⟩, ?_⟩, fun i _ h => by omega⟩
  · simp [World.cell?, hg]
  · simp [World.frozen?, hg]
end Go.Proofs.YtgamgomepdfgdaaGreat

namespace Go.Proofs.YtgamgomepdfgdaaGreat
open Go.RowKit

theorem run_string_at {P : Program} (w : World) (base : Nat) (t u ty e : TypeId) (i : TypeInfo) (ht : P.underlying t = some (.slice e)) (hu : P.underlying u = some .string) (hi : P.info? e = some i) (hz : i.zero = some (.int .u8 0))
    (hsize : i.size = 1) (hby : i.bytes = 1) (v : Value) (n : Nat) (xs : List Value) (hown : w.ownsRow base e 1 v n xs) (s : ByteArray)
    (h63 : n + s.size ≤ maxLen) (hbytes : n + s.size ≤ 140737488355328) (hbase : base ≤ w.heap.size) :
    ∃ v' w', (Builtin.append_ #[t, u] ty #[v, .string s]).run P w = .ok v' w' ∧ w'.ownsRow base e 1 v' (n + s.size) (xs ++ Lib.strCells s) ∧ w.grownBy w' v.ownBlock ∧ (v'.ownBlock = v.ownBlock ∨ v'.ownBlock = some w.heap.size) := by
  obtain ⟨v', w', hr, h2, h3, h4⟩ := Lib.run_append_own_string (P := P) w base t u ty e i ht hu hi hz hsize hby v n xs hown s h63 hbytes hbase
  refine ⟨v', w', hr, h2, h3, ?_⟩
  have hsmall : n + s.size ≤ 9223372036854775807 := by omega
  rcases hown.2 with ⟨rfl, rfl⟩ | ⟨g, cap, cur, rfl, hbg, hg, hnc, hcm, hcs, htake⟩
  · by_cases hm : s.size = 0
    · rw [h4.2 ⟨rfl, hm⟩]; exact .inl rfl
    · have hr2 := run_append_nil_string (P := P) w t u ty e i (.int .u8 0) ht hu hi hz s (by omega) (by omega) (by rw [hby]; omega)
      rw [hr] at hr2
      cases hr2
      exact .inr rfl
  · by_cases hroom : n + s.size ≤ cap
    · have hr2 := Lib.run_append_room_string (P := P) w t u ty e i ht hu hi hsize g n cap cur hg s hroom (by omega)
      rw [hr] at hr2
      cases hr2
      exact .inl rfl
    · have hxl : xs.length = n := by simpa using hown.1
      have hr2 := Lib.run_append_grow_string (P := P) w t u ty e i (.int .u8 0) ht hu hi hz ⟨g, 0, none⟩ n cap xs (by rw [hsize]; simpa using hxl) (hown.cells (g := g) rfl) s (by omega) (by omega) (by rw [hby]; exact growslice_fits (by omega) (by omega))
      rw [hr] at hr2
      cases hr2
      exact .inr rfl

theorem wpList_string_at {P : Program} (w : World) {ops : Array Oper} {rest : List Oper} {o : Oper} {a : Act} {Q : Exit → Act → World → Prop} (hgd : o.guard = none) (sl x : Operand) (t u : TypeId)
    (ho : o.op = .call { callee := .builtin .append, args := #[sl, x], argTypes := #[t, u] })
    (base : Nat) (e : TypeId) (i : TypeInfo) (ht : P.underlying t = some (.slice e)) (hu : P.underlying u = some .string) (hi : P.info? e = some i) (hz : i.zero = some (.int .u8 0)) (hsize : i.size = 1) (hby : i.bytes = 1)
    (v : Value) (n : Nat) (xs : List Value) (hs : a.eval sl = v) (hown : w.ownsRow base e 1 v n xs) (s : ByteArray) (hx : a.eval x = .string s)
    (h63 : n + s.size ≤ maxLen) (hbytes : n + s.size ≤ 140737488355328) (hbase : base ≤ w.heap.size)
    (h : ∀ v' w', w'.ownsRow base e 1 v' (n + s.size) (xs ++ Lib.strCells s) → w.grownBy w' v.ownBlock → (v'.ownBlock = v.ownBlock ∨ v'.ownBlock = some w.heap.size) → wpList P ops Q rest (a.put o.dst v') w') : wpList P ops Q (o :: rest) a w := by
  refine wpList_plain hgd fun K hK => ?_
  obtain ⟨v', w', hr, h2, h3, h4⟩ := run_string_at (P := P) w base t u o.type e i ht hu hi hz hsize hby v n xs hown s h63 hbytes hbase
  unfold Oper.wp execOp
  simp only [ho, resolve, invoke, builtin, Sem.run_bind, Sem.run_pure, Result.andThen_ok, List.map_toArray, List.map_cons, List.map_nil, hs, hx, hr]
  exact hK _ _ (h v' w' h2 h3 h4)

/-- bytes behind those of v -/
abbrev App (base : Nat) (w w' : World) (v v' : Value) (l : List UInt8) : Prop := Apped base w w' v v' l.length (bc l)

theorem Apped.trans {base : Nat} {w w1 w2 : World} {v v1 v2 : Value} {n m : Nat} {xs ys : List Value} (h : Apped base w w1 v v1 n xs) (h2 : Apped base w1 w2 v1 v2 m ys) : Apped base w w2 v v2 m ys := by
  have hs := h.grown.size
  refine ⟨h2.row, ⟨h2.grown.os.trans h.grown.os, h2.grown.tape.trans h.grown.tape, h2.grown.output.trans h.grown.output, Nat.le_trans hs h2.grown.size, fun k hk hne => ?_⟩, ?_⟩
  · rw [h2.grown.block k (Nat.lt_of_lt_of_le hk hs) (fun e => ?_), h.grown.block k hk hne]
    rcases h.block with h1 | ⟨g, h1, h3⟩
    · exact hne (by rw [e, h1])
    · rw [h1] at e; cases e; omega
  · rcases h2.block with hb | ⟨g, hb, hg⟩
    · rw [hb]; exact h.block
    · exact .inr ⟨g, hb, Nat.le_trans hs hg⟩
/-- a block that is not v's stays -/
theorem Apped.keeps {base : Nat} {w w' : World} {v v' : Value} {n : Nat} {xs : List Value} (h : Apped base w w' v v' n xs) {b o : Nat} {u : Value} (hc : w.cell? ⟨b, o, none⟩ = some u) (hne : v.ownBlock ≠ some b) : w'.cell? ⟨b, o, none⟩ = some u :=
  h.grown.cell hc (fun e => hne e.symm)
theorem Apped.apart {base : Nat} {w w' : World} {v v' : Value} {n : Nat} {xs : List Value} (h : Apped base w w' v v' n xs) {b : Nat} (hb : b < w.heap.size) (hne : v.ownBlock ≠ some b) : v'.ownBlock ≠ some b := by
  rcases h.block with h1 | ⟨g, h1, h2⟩
  · rw [h1]; exact hne
  · rw [h1]; intro e; cases e; omega

theorem app8' (n : Nat) (hn : n < 256) (v : Value) (l : List UInt8) (base : Nat) (w : World) (h : w.ownsRow base 5 1 v l.length (bc l)) (hbase : base ≤ w.heap.size) (hlen : l.length < 1099511627776) :
    Calls Tryz.prog 160 #[v, .int .u8 n] w fun e w' => ∃ v', e = .returned v' ∧ App base w w' v v' (l ++ be 1 n) :=
  (app8 n hn v l base w h hbase hlen).mono fun e w' ⟨v', he, ha⟩ => ⟨v', he, by
    show Apped base w w' v v' (l ++ be 1 n).length _
    rw [List.length_append, be_len]; exact ha⟩
theorem app32' (n : Nat) (v : Value) (l : List UInt8) (base : Nat) (w : World) (h : w.ownsRow base 5 1 v l.length (bc l)) (hbase : base ≤ w.heap.size) (hlen : l.length < 1099511627776) :
    Calls Tryz.prog 161 #[v, .int .u32 n] w fun e w' => ∃ v', e = .returned v' ∧ App base w w' v v' (l ++ be 4 n) :=
  (app32 n v l base w h hbase hlen).mono fun e w' ⟨v', he, ha⟩ => ⟨v', he, by
    show Apped base w w' v v' (l ++ be 4 n).length _
    rw [List.length_append, be_len]; exact ha⟩
theorem app64' (n : Nat) (v : Value) (l : List UInt8) (base : Nat) (w : World) (h : w.ownsRow base 5 1 v l.length (bc l)) (hbase : base ≤ w.heap.size) (hlen : l.length < 1099511627776) :
    Calls Tryz.prog 198 #[v, .int .i64 n] w fun e w' => ∃ v', e = .returned v' ∧ App base w w' v v' (l ++ be 8 n) :=
  (app64 n v l base w h hbase hlen).mono fun e w' ⟨v', he, ha⟩ => ⟨v', he, by
    show Apped base w w' v v' (l ++ be 8 n).length _
    rw [List.length_append, be_len]; exact ha⟩

theorem strCells_eq (s : ByteArray) : Lib.strCells s = bc s.data.toList := by
  simp [Lib.strCells, bc]

set_option maxRecDepth 100000 in
set_option maxHeartbeats 400000 in
theorem appText (s : ByteArray) (hs : s.size < 256) (v : Value) (l : List UInt8) (base : Nat) (w : World) (h : w.ownsRow base 5 1 v l.length (bc l)) (hbase : base ≤ w.heap.size) (hlen : l.length < 1099511627000) :
    Calls Tryz.prog 237 #[v, .string s] w fun e w' => ∃ v', e = .returned v' ∧ App base w w' v v' (l ++ txt s) := by
  obtain ⟨i0, hi, hz0, hz1, hz2⟩ := info_parts info_u8
  have hc := app8' s.size hs v l base w h hbase (by omega)
  have hm : (s.size : Int) % 256 = s.size := by omega
  have q1 : Hid (l.length + 1 + s.size ≤ maxLen) := by show _ ≤ _; unfold maxLen; omega
  have q2 : Hid (l.length + 1 + s.size ≤ 140737488355328) := by show _ ≤ _; omega
  have hl1 : (l ++ be 1 s.size).length = l.length + 1 := by rw [List.length_append, be_len]
  clear h hs
  go_enter Tryz.func237, Tryz.ntmps237
  go_wp2_with (first
    | (go_at_call 160; go_fit hc; rintro e w1 ⟨v1, rfl, h1⟩; have H1 : Hid (App base w w1 v v1 (l ++ be 1 s.size)) := h1; clear h1)
    | (at_builtin; refine wpList_string_at _ rfl _ _ _ _ rfl base _ i0 Tryz.underlying114 Tryz.underlying9 hi hz0 hz1 hz2 v1 _ _ rfl (Apped.row H1.out) s rfl (by rw [hl1]; exact q1.out) (by rw [hl1]; exact q2.out) (Nat.le_trans hbase (Apped.grown H1.out).size) ?_; intro v2 w2 hown2 hg2 hloc2))
  go_ret
  refine ⟨v2, rfl, Apped.trans H1.out ⟨?_, hg2, ?_⟩⟩
  · have e : l ++ txt s = l ++ be 1 s.size ++ s.data.toList := by rw [txt, List.append_assoc]
    rw [e, bc_append, ← strCells_eq]
    have e2 : (l ++ be 1 s.size ++ s.data.toList).length = (l ++ be 1 s.size).length + s.size := by rw [List.length_append]; simp
    rw [e2]
    exact hown2
  · rcases hloc2 with h | h
    · exact .inl h
    · exact .inr ⟨_, h, Nat.le_refl _⟩
end Go.Proofs.YtgamgomepdfgdaaGreat
