import Derived.Test.YtgamgomepdfgdaaLeaf
import Derived.WalkLawsBesides
import Derived.Laws.IdiomStrings
import Derived.Laws.Tables
namespace Go.Proofs.Ytgamgomepdfgdaa
open Go.RowKit

/-- the mark of a list: its number's digits, the last one first -/
def digs (k : Nat) : Nat → List UInt8
  | 0 => []
  | i + 1 => digs k i ++ [UInt8.ofNat (48 + k / 10 ^ i % 10)]
def markS (k i : Nat) : ByteArray := ⟨(digs k i).toArray⟩
def markB : ByteArray := ⟨#[109, 97, 114, 107]⟩
def mark (k : Nat) : Fl := (markS k 8, markB)

theorem conv_one (w : World) (b : UInt8) : (convert 73 9 (.slice (some ⟨w.heap.size, 0, none⟩) 1 1)).run Try.prog (w.alloc (.cells #[.int .u8 b.toNat] 5)) = .ok (.string ⟨#[b]⟩) (w.alloc (.cells #[.int .u8 b.toNat] 5)) := by
  refine run_convert_bytes_back (P := Try.prog) _ _ _ 5 ⟨w.heap.size, 0, none⟩ 1 [b] Try.underlying73 (by kernel_rfl) (by kernel_rfl) fun j hj => ?_
  have : j = 0 := by simpa using hj
  subst this
  rw [addr_add]
  show (match (w.heap.push _)[w.heap.size]? with | some (Obj.cells c _ _) => c[0 + 0]? | _ => none) = _
  simp

theorem isz : (Try.prog.info? 47).map (·.size) = some 2 := by kernel_rfl

theorem digs_len (k : Nat) : ∀ i, (digs k i).length = i
  | 0 => rfl
  | i + 1 => by rw [digs, List.length_append, digs_len k i]; rfl
theorem markS_size (k i : Nat) : (markS k i).size = i := by show (digs k i).toArray.size = i; rw [List.size_toArray, digs_len]
theorem markS_succ (k i : Nat) (b : UInt8) (h : UInt8.ofNat (48 + k / 10 ^ i % 10) = b) : markS k i ++ ⟨#[b]⟩ = markS k (i + 1) := by
  apply ByteArray.ext
  show (markS k i ++ ⟨#[b]⟩).data = (digs k i ++ [UInt8.ofNat (48 + k / 10 ^ i % 10)]).toArray
  rw [ByteArray.data_append, h]
  simp [markS]
theorem four_div (i : Nat) (h : i ≠ 0) : 4 / 10 ^ i = 0 := by
  apply Nat.div_eq_of_lt
  have : 10 ^ 1 ≤ 10 ^ i := Nat.pow_le_pow_right (by decide) (by omega)
  omega

def fresh (w : World) : World := w.alloc (.cells #[.string ⟨#[]⟩, .string ⟨#[]⟩] 47)
theorem fresh_cell {w wr : World} (hb : Below (w.heap.size + 1) (fresh w) wr) : wr.heap[w.heap.size]? = some (.cells #[.string ⟨#[]⟩, .string ⟨#[]⟩] 47 (0, 0)) := by
  rw [hb.block w.heap.size (by omega)]
  show (w.heap.push _)[w.heap.size]? = _
  simp
theorem fresh_below {w wr : World} (hb : Below (w.heap.size + 1) (fresh w) wr) (cs : Array Value) : Below w.heap.size w (wr.setRow w.heap.size cs) := by
  have h0 : Below w.heap.size w (fresh w) := (Below.refl _ _).alloc (Nat.le_refl _) _
  have h1 : Below w.heap.size w wr := h0.trans (hb.mono (by omega))
  exact h1.trans ⟨rfl, rfl, rfl, by simp [World.setRow], fun k hk => setRow_other wr w.heap.size k _ (by omega)⟩

set_option maxRecDepth 100000 in
set_option maxHeartbeats 1000000 in
theorem fileOf_any (k : Nat) (hk : k = 0 ∨ k = 4) (w : World) :
    Calls Try.prog 27 #[.int .i64 k] w fun e w' => e = .returned (.agg #[.string (mark k).1, .string (mark k).2]) ∧ Below w.heap.size w w' := by
  go_enter Try.func27, Try.ntmps27
  go_wp2
  go_loopw [0, 3, 4] (fun kv sv iv wr => ∃ i : Nat, i ≤ 8 ∧ iv = .int .i64 i ∧ kv = .int .i64 (if i = 0 then k else 0) ∧ sv = .string (markS k i) ∧ Below (w.heap.size + 1) (fresh w) wr) (fun _ _ i _ => 8 - (intOf i).toNat)
  case atStart => exact ⟨0, by omega, rfl, rfl, rfl, Below.refl _ _⟩
  case round =>
    obtain ⟨i, hi, rfl, rfl, rfl, hb⟩ := hrel
    have hms := markS_size k i
    have hbs := hb.size
    by_cases h8 : i < 8
    · by_cases hd : i = 0 ∧ k = 4
      · obtain ⟨rfl, rfl⟩ := hd
        have hconv := conv_one wr 52
        simp at hconv
        have e1 : markS 4 0 ++ ⟨#[52]⟩ = markS 4 1 := markS_succ 4 0 52 (by decide)
        go_wp2
        · exact ⟨⟨1, by omega, rfl, rfl, rfl, hb.alloc (by simpa [fresh] using hbs) _⟩, by simp [intOf]⟩
      · have hk0 : (if i = 0 then (k : Int) else 0) = 0 := by
          split
          · rcases hk with rfl | rfl
            · rfl
            · exact absurd ⟨by assumption, rfl⟩ hd
          · rfl
        rw [hk0]
        have hconv := conv_one wr 48
        simp at hconv
        have e1 : markS k i ++ ⟨#[48]⟩ = markS k (i + 1) := markS_succ k i 48 (by
          rcases hk with rfl | rfl
          · simp
          · rw [four_div i (fun h => hd ⟨h, rfl⟩)]; rfl)
        go_wp2
        · exact ⟨⟨i + 1, by omega, by go_num, by simp, rfl, hb.alloc (by simpa [fresh] using hbs) _⟩, by simp [intOf]; omega⟩
    · obtain rfl : i = 8 := by omega
      have hcell := fresh_cell hb
      go_wp2_with (refine wpList_store_row rfl _ _ _ rfl _ #[.string (markS k 8), .string ⟨#[109, 97, 114, 107]⟩] rfl rfl _ _ hcell isz rfl (by simp [Value.oneCell']) ?_)
      have hrow := setRow_heap wr w.heap.size _ #[.string (markS k 8), .string ⟨#[109, 97, 114, 107]⟩] _ _ hcell
      have hbl := fresh_below hb #[.string (markS k 8), .string ⟨#[109, 97, 114, 107]⟩]
      generalize wr.setRow w.heap.size #[.string (markS k 8), .string ⟨#[109, 97, 114, 107]⟩] = wz at hrow hbl ⊢
      have c0 : wz.cell? ⟨w.heap.size, 0, none⟩ = some (.string (markS k 8)) := by simp [World.cell?, hrow]
      have c1 : wz.cell? ⟨w.heap.size, 1, none⟩ = some (.string ⟨#[109, 97, 114, 107]⟩) := by simp [World.cell?, hrow]
      exact bodyPost_ret (v := .agg #[.string (mark k).1, .string (mark k).2]) (by simp [results, Try.results27, go_sem, c0, c1, mark, markB]) rfl ⟨rfl, hbl⟩
end Go.Proofs.Ytgamgomepdfgdaa
