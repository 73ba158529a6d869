import Derived.Test.YtgamgomepdfgdaaGreatM16
import Derived.WalkLawsBesides
import Derived.Laws.IdiomStrings
import Derived.Laws.Tables
import Derived.Test.YtgamgomepdfgdaaGreatM35
import Derived.Test.YtgamgomepdfgdaaGreatM11
import Derived.Test.YtgamgomepdfgdaaGreatM12
import Derived.Lib.SliceRun
namespace Go.Proofs.YtgamgomepdfgdaaGreat
open Go.RowKit

/-- the mark of a list: its number's digits, the last one first -/
def digs (k : Nat) : Nat → List UInt8
  | 0 => []
  | i + 1 => digs k i ++ [UInt8.ofNat (48 + k / 10 ^ i % 10)]
def markS (k i : Nat) : ByteArray := ⟨(digs k i).toArray⟩
def markB : ByteArray := ⟨#[109, 97, 114, 107]⟩
def mark (k : Nat) : Fl := (markS k 8, markB)

theorem conv_one (w : World) (b : UInt8) : (convert 114 9 (.slice (some ⟨w.heap.size, 0, none⟩) 1 1)).run Tryz.prog (w.alloc (.cells #[.int .u8 b.toNat] 5)) = .ok (.string ⟨#[b]⟩) (w.alloc (.cells #[.int .u8 b.toNat] 5)) := by
  refine run_convert_bytes_back (P := Tryz.prog) _ _ _ 5 ⟨w.heap.size, 0, none⟩ 1 [b] Tryz.underlying114 (by kernel_rfl) (by kernel_rfl) fun j hj => ?_
  have : j = 0 := by simpa using hj
  subst this
  rw [addr_add]
  show (match (w.heap.push _)[w.heap.size]? with | some (Obj.cells c _ _) => c[0 + 0]? | _ => none) = _
  simp

theorem isz : (Tryz.prog.info? 80).map (·.size) = some 2 := by kernel_rfl

theorem digs_len (k : Nat) : ∀ i, (digs k i).length = i
  | 0 => rfl
  | i + 1 => by rw [digs, List.length_append, digs_len k i]; rfl
theorem markS_size (k i : Nat) : (markS k i).size = i := by show (digs k i).toArray.size = i; rw [List.size_toArray, digs_len]
theorem markS_succ (k i : Nat) (b : UInt8) (h : UInt8.ofNat (48 + k / 10 ^ i % 10) = b) : markS k i ++ ⟨#[b]⟩ = markS k (i + 1) := by
  apply ByteArray.ext
  show (markS k i ++ ⟨#[b]⟩).data = (digs k i ++ [UInt8.ofNat (48 + k / 10 ^ i % 10)]).toArray
  rw [ByteArray.data_append, h]
  simp [markS]
theorem four_div (i : Nat) (h : i ≠ 0) : 4 / 10 ^ i = 0 := by
  apply Nat.div_eq_of_lt
  have : 10 ^ 1 ≤ 10 ^ i := Nat.pow_le_pow_right (by decide) (by omega)
  omega

def fresh (w : World) : World := w.alloc (.cells #[.string ⟨#[]⟩, .string ⟨#[]⟩] 80)
theorem fresh_cell {w wr : World} (hb : Below (w.heap.size + 1) (fresh w) wr) : wr.heap[w.heap.size]? = some (.cells #[.string ⟨#[]⟩, .string ⟨#[]⟩] 80 (0, 0)) := by
  rw [hb.block w.heap.size (by omega)]
  show (w.heap.push _)[w.heap.size]? = _
  simp
theorem fresh_below {w wr : World} (hb : Below (w.heap.size + 1) (fresh w) wr) (cs : Array Value) : Below w.heap.size w (wr.setRow w.heap.size cs) := by
  have h0 : Below w.heap.size w (fresh w) := (Below.refl _ _).alloc (Nat.le_refl _) _
  have h1 : Below w.heap.size w wr := h0.trans (hb.mono (by omega))
  exact h1.trans ⟨rfl, rfl, rfl, by simp [World.setRow], fun k hk => setRow_other wr w.heap.size k _ (by omega)⟩

set_option maxRecDepth 100000 in
set_option maxHeartbeats 1000000 in
theorem fileOf_any (k : Nat) (hk : k = 0 ∨ k = 4) (w : World) :
    Calls Tryz.prog 54 #[.int .i64 k] w fun e w' => e = .returned (.agg #[.string (mark k).1, .string (mark k).2]) ∧ Below w.heap.size w w' := by
  go_enter Tryz.func54, Tryz.ntmps54
  go_wp2
  go_loopw [0, 3, 4] (fun kv sv iv wr => ∃ i : Nat, i ≤ 8 ∧ iv = .int .i64 i ∧ kv = .int .i64 (if i = 0 then k else 0) ∧ sv = .string (markS k i) ∧ Below (w.heap.size + 1) (fresh w) wr) (fun _ _ i _ => 8 - (intOf i).toNat)
  case atStart => exact ⟨0, by omega, rfl, rfl, rfl, Below.refl _ _⟩
  case round =>
    obtain ⟨i, hi, rfl, rfl, rfl, hb⟩ := hrel
    have hms := markS_size k i
    have hbs := hb.size
    by_cases h8 : i < 8
    · by_cases hd : i = 0 ∧ k = 4
      · obtain ⟨rfl, rfl⟩ := hd
        have hconv := conv_one wr 52
        simp at hconv
        have e1 : markS 4 0 ++ ⟨#[52]⟩ = markS 4 1 := markS_succ 4 0 52 (by decide)
        go_wp2
        · exact ⟨⟨1, by omega, rfl, rfl, rfl, hb.alloc (by simpa [fresh] using hbs) _⟩, by simp [intOf]⟩
      · have hk0 : (if i = 0 then (k : Int) else 0) = 0 := by
          split
          · rcases hk with rfl | rfl
            · rfl
            · exact absurd ⟨by assumption, rfl⟩ hd
          · rfl
        rw [hk0]
        have hconv := conv_one wr 48
        simp at hconv
        have e1 : markS k i ++ ⟨#[48]⟩ = markS k (i + 1) := markS_succ k i 48 (by
          rcases hk with rfl | rfl
          · simp
          · rw [four_div i (fun h => hd ⟨h, rfl⟩)]; rfl)
        go_wp2
        · exact ⟨⟨i + 1, by omega, by go_num, by simp, rfl, hb.alloc (by simpa [fresh] using hbs) _⟩, by simp [intOf]; omega⟩
    · obtain rfl : i = 8 := by omega
      have hcell := fresh_cell hb
      go_wp2_with (refine wpList_store_row rfl _ _ _ rfl _ #[.string (markS k 8), .string ⟨#[109, 97, 114, 107]⟩] rfl rfl _ _ hcell isz rfl (by simp [Value.oneCell']) ?_)
      have hrow := setRow_heap wr w.heap.size _ #[.string (markS k 8), .string ⟨#[109, 97, 114, 107]⟩] _ _ hcell
      have hbl := fresh_below hb #[.string (markS k 8), .string ⟨#[109, 97, 114, 107]⟩]
      generalize wr.setRow w.heap.size #[.string (markS k 8), .string ⟨#[109, 97, 114, 107]⟩] = wz at hrow hbl ⊢
      have c0 : wz.cell? ⟨w.heap.size, 0, none⟩ = some (.string (markS k 8)) := by simp [World.cell?, hrow]
      have c1 : wz.cell? ⟨w.heap.size, 1, none⟩ = some (.string ⟨#[109, 97, 114, 107]⟩) := by simp [World.cell?, hrow]
      exact bodyPost_ret (v := .agg #[.string (mark k).1, .string (mark k).2]) (by simp [results, Tryz.results54, go_sem, c0, c1, mark, markB]) rfl ⟨rfl, hbl⟩
end Go.Proofs.YtgamgomepdfgdaaGreat

namespace Go.Proofs.YtgamgomepdfgdaaGreat
open Go.RowKit

theorem digit_lt (k i : Nat) : k / 10 ^ i % 10 < 10 := Nat.mod_lt _ (by decide)
theorem digit_succ (k i : Nat) : k / 10 ^ i / 10 = k / 10 ^ (i + 1) := by rw [Nat.div_div_eq_div_mul, Nat.pow_succ]

set_option maxRecDepth 100000 in
set_option maxHeartbeats 1000000 in
theorem fileOf_all (k : Nat) (hk : k < 1099511627776) (w : World) :
    Calls Tryz.prog 54 #[.int .i64 k] w fun e w' => e = .returned (.agg #[.string (mark k).1, .string (mark k).2]) ∧ Below w.heap.size w w' := by
  go_enter Tryz.func54, Tryz.ntmps54
  go_wp2
  go_loopw [0, 3, 4] (fun kv sv iv wr => ∃ i : Nat, i ≤ 8 ∧ iv = .int .i64 i ∧ kv = .int .i64 (k / 10 ^ i : Nat) ∧ sv = .string (markS k i) ∧ Below (w.heap.size + 1) (fresh w) wr) (fun _ _ i _ => 8 - (intOf i).toNat)
  case atStart => exact ⟨0, by omega, rfl, by simp, rfl, Below.refl _ _⟩
  case round =>
    obtain ⟨i, hi, rfl, rfl, rfl, hb⟩ := hrel
    have hms := markS_size k i
    have hbs := hb.size
    by_cases h8 : i < 8
    · have hd := digit_lt k i
      have hsu := digit_succ k i
      have hle : k / 10 ^ i < 1099511627776 := Nat.lt_of_le_of_lt (Nat.div_le_self _ _) hk
      have hms2 : ∀ b, UInt8.ofNat (48 + k / 10 ^ i % 10) = b → markS k i ++ ⟨#[b]⟩ = markS k (i + 1) := markS_succ k i
      obtain ⟨K1, hK1⟩ : ∃ K1, K1 = k / 10 ^ (i + 1) := ⟨_, rfl⟩
      have HK1 : Hid (K1 = k / 10 ^ (i + 1)) := hK1
      rw [← hK1] at hsu
      clear hK1
      generalize k / 10 ^ i = K at *
      have hconv := fun b => conv_one wr b
      have e1 : (K : Int) % 10 = ((K % 10 : Nat) : Int) := by omega
      have e2 : (K : Int) / 10 = ((K1 : Nat) : Int) := by omega
      generalize K % 10 = d at *
      have hcases : d = 0 ∨ d = 1 ∨ d = 2 ∨ d = 3 ∨ d = 4 ∨ d = 5 ∨ d = 6 ∨ d = 7 ∨ d = 8 ∨ d = 9 := by omega
      have hc := hconv (UInt8.ofNat (48 + d))
      have hm := hms2 _ rfl
      clear hconv hms2
      rcases hcases with rfl | rfl | rfl | rfl | rfl | rfl | rfl | rfl | rfl | rfl
      all_goals
        simp at hc hm
        go_wp2
        · exact ⟨⟨i + 1, by omega, by go_num, by rw [← HK1.out], rfl, hb.alloc (by simpa [fresh] using hbs) _⟩, by simp [intOf]; omega⟩
    · obtain rfl : i = 8 := by omega
      have hcell := fresh_cell hb
      go_wp2_with (refine wpList_store_row rfl _ _ _ rfl _ #[.string (markS k 8), .string ⟨#[109, 97, 114, 107]⟩] rfl rfl _ _ hcell isz rfl (by simp [Value.oneCell']) ?_)
      have hrow := setRow_heap wr w.heap.size _ #[.string (markS k 8), .string ⟨#[109, 97, 114, 107]⟩] _ _ hcell
      have hbl := fresh_below hb #[.string (markS k 8), .string ⟨#[109, 97, 114, 107]⟩]
      generalize wr.setRow w.heap.size #[.string (markS k 8), .string ⟨#[109, 97, 114, 107]⟩] = wz at hrow hbl ⊢
      have c0 : wz.cell? ⟨w.heap.size, 0, none⟩ = some (.string (markS k 8)) := by simp [World.cell?, hrow]
      have c1 : wz.cell? ⟨w.heap.size, 1, none⟩ = some (.string ⟨#[109, 97, 114, 107]⟩) := by simp [World.cell?, hrow]
      exact bodyPost_ret (v := .agg #[.string (mark k).1, .string (mark k).2]) (by simp [results, Tryz.results54, go_sem, c0, c1, mark, markB]) rfl ⟨rfl, hbl⟩
end Go.Proofs.YtgamgomepdfgdaaGreat

namespace Go.Proofs.YtgamgomepdfgdaaGreat
open Go.RowKit

def dF : Kd := ⟨93, 80, 2, fun k => cF (mark k)⟩
def dW : Kd := ⟨97, 71, 3, fun k => [.int .i64 (-1 - (k : Int)), .int .i64 0, .int .i64 0]⟩
def dT : Kd := ⟨172, 110, 2, fun k => [.int .i64 (-1 - (k : Int)), .slice none 0 0]⟩
def dG : Kd := ⟨174, 119, 4, fun k => [.slice none 0 0, .int .i64 0, .bool false, .int .i64 (-1 - (k : Int))]⟩
def dJ : Kd := ⟨176, 124, 4, fun k => [.int .i64 (-1 - (k : Int)), .int .i64 0, .slice none 0 0, .slice none 0 0]⟩

def bookCells (fv wv tv gv jv : Value) : Array Value := #[fv, .slice none 0 0, wv, tv, gv, jv]
/-- the book; K: its blocks -/
structure BookIs (w : World) (K : Nat → Prop) (bb : Nat) (fs ws ts gs js : List En) (fv wv tv gv jv : Value) : Prop where
  box : Bx w bb 88 (bookCells fv wv tv gv jv)
  kb : K bb
  kl : ∀ k, K k → k < w.heap.size
  f : BL w K dF fv fs
  q : BL w K dW wv ws
  t : BL w K dT tv ts
  g : BL w K dG gv gs
  j : BL w K dJ jv js
/-- the book, no list of it longer than n -/
def BookAt (w : World) (K : Nat → Prop) (bb n : Nat) : Prop := ∃ fs ws ts gs js fv wv tv gv jv, BookIs w K bb fs ws ts gs js fv wv tv gv jv ∧ fs.length ≤ n ∧ ws.length ≤ n ∧ ts.length ≤ n ∧ gs.length ≤ n ∧ js.length ≤ n
theorem BookAt.kept {w w' : World} {K : Nat → Prop} {bb n : Nat} (h : BookAt w K bb n) (hs : w.heap.size ≤ w'.heap.size) (hk : ∀ k, K k → w'.heap[k]? = w.heap[k]?) : BookAt w' K bb n := by
  obtain ⟨fs, ws, ts, gs, js, fv, wv, tv, gv, jv, h, hn⟩ := h
  exact ⟨fs, ws, ts, gs, js, fv, wv, tv, gv, jv, ⟨(hk bb h.kb).trans h.box, h.kb, fun k hk => Nat.lt_of_lt_of_le (h.kl k hk) hs, h.f.kept fun k _ h => hk k h, h.q.kept fun k _ h => hk k h, h.t.kept fun k _ h => hk k h, h.g.kept fun k _ h => hk k h, h.j.kept fun k _ h => hk k h⟩, hn⟩
theorem BookAt.later {w w' : World} {K : Nat → Prop} {bb n : Nat} (h : BookAt w K bb n) (hb : Below w.heap.size w w') : BookAt w' K bb n := by
  have hl : ∀ k, K k → k < w.heap.size := by
    obtain ⟨fs, ws, ts, gs, js, fv, wv, tv, gv, jv, h, hn⟩ := h
    exact h.kl
  exact h.kept hb.size fun k hk => hb.block k (hl k hk)
theorem BookAt.only {w w' : World} {K S : Nat → Prop} {bb n : Nat} (h : BookAt w K bb n) (hO : Only w w' S) (hn : ∀ k, K k → ¬ S k) : BookAt w' K bb n := by
  have hl : ∀ k, K k → k < w.heap.size := by
    obtain ⟨fs, ws, ts, gs, js, fv, wv, tv, gv, jv, h, _⟩ := h
    exact h.kl
  exact h.kept hO.size fun k hk => hO.block k (hl k hk) (hn k hk)
/-- one more list is in the book -/
def Owned (w w' : World) (K : Nat → Prop) (bb n : Nat) (l : Value) : Prop := ∃ K', BookAt w' K' bb (n + 4) ∧ (∀ k, K' k → K k ∨ l.ownBlock = some k ∨ w.heap.size ≤ k) ∧ Only w w' (fun k => K k ∨ l.ownBlock = some k)
theorem KL.lt {K : Nat → Prop} {l : Value} {w w' : World} (hK : ∀ k, K k → k < w.heap.size) (hl : ∀ g, l.ownBlock = some g → g < w.heap.size) (hs : w.heap.size ≤ w'.heap.size) : ∀ k, KL K l w w' k → k < w'.heap.size := fun k h => by
  rcases h with h | h | h
  · exact Nat.lt_of_lt_of_le (hK k h) hs
  · exact Nat.lt_of_lt_of_le (hl k h) hs
  · exact h.2
theorem KL.sub {K : Nat → Prop} {l : Value} {w w' : World} : ∀ k, KL K l w w' k → K k ∨ l.ownBlock = some k ∨ w.heap.size ≤ k := fun k h => by
  rcases h with h | h | h
  · exact .inl h
  · exact .inr (.inl h)
  · exact .inr (.inr h.1)

theorem own_q1 {i j : Nat} (h : i < 8796093022208) (hj : j < 3) : i + j + 1 ≤ maxLen := by unfold maxLen; omega
theorem own_q2 {i j : Nat} (h : (i + 100) * 64 ≤ 140737488355328) (hj : j < 3) : (i + j + 1) * 64 ≤ 140737488355328 := Nat.le_trans (Nat.mul_le_mul_right 64 (show i + j + 1 ≤ i + 100 by omega)) h
theorem own_le {m b : Nat} (hb : b ≤ 64) (h : m * 64 ≤ 140737488355328) : m * b ≤ 140737488355328 := Nat.le_trans (Nat.mul_le_mul_left m hb) h
theorem own_q3 {m : Nat} (h : m < 1073741824) : m + 1 ≤ maxLen := by unfold maxLen; omega
theorem own_q4 {m : Nat} (h : m < 1073741824) : (m + 1) * 32 ≤ 140737488355328 := Nat.le_trans (Nat.mul_le_mul_right 32 (show m + 1 ≤ 1073741824 by omega)) (by decide)
theorem base_alloc {base : Nat} {wr : World} (h : base ≤ wr.heap.size) (o : Obj) : base ≤ (wr.alloc o).heap.size := by simp; omega
theorem below_grown {w w' : World} (h : Below w.heap.size w w') : w.grownBy w' none := ⟨h.os, h.tape, h.output, h.size, fun k hk _ => h.block k hk⟩
/-- the list is marked as far as i -/
theorem rep_seg {m : List Value} {size : Nat} (hs : m.length = size) {i : Nat} {xs : List Value} : (rep m i ++ xs.drop (i * size)).take (i * size) ++ m ++ (rep m i ++ xs.drop (i * size)).drop (i * size + size) = rep m (i + 1) ++ xs.drop ((i + 1) * size) := by
  have hl := rep_len m i
  rw [hs] at hl
  have e1 : (rep m i ++ xs.drop (i * size)).take (i * size) = rep m i := by rw [← hl, List.take_left]
  have e2 : (rep m i ++ xs.drop (i * size)).drop (i * size + size) = (xs.drop (i * size)).drop size := by rw [← List.drop_drop]; congr 1; exact List.drop_left' hl
  have e3 : (i + 1) * size = i * size + size := by rw [Nat.add_mul, Nat.one_mul]
  rw [e1, e2, rep, List.drop_drop, e3]
/-- the state of the second loop -/
def L2 (w wr : World) (bb : Nat) (bx : Value → Array Value) (K : Nat → Prop) (V0 l0 : Value) (d : Kd) (k n : Nat) (lv : Value) (j : Nat) : Prop :=
  ∃ a' cap' va' vcap' rs', lv = .slice a' (n + j) cap' ∧ rs'.length = k + j + 1 ∧ St w wr bb bx K V0 l0 d k (.slice va' rs'.length vcap') lv (n + j) rs'
end Go.Proofs.YtgamgomepdfgdaaGreat

namespace Go.Proofs.YtgamgomepdfgdaaGreat
open Go.RowKit

theorem neF_same (p b : ByteArray) : neF p b p b = false := by simp [neF]
theorem eqMark_run (k : Nat) (w : World) : (binOp .neq 80 (.agg #[.string (mark k).1, .string (mark k).2]) (.agg #[.string (mark k).1, .string (mark k).2])).run Tryz.prog w = .ok (.bool false) w := by
  rw [eqF_run, neF_same]
theorem eqW_run (k : Int) (w : World) : (binOp .neq 71 (.agg #[.int .i64 k, .int .i64 0, .int .i64 0]) (.agg #[.int .i64 k, .int .i64 0, .int .i64 0])).run Tryz.prog w = .ok (.bool false) w := by
  have u9 := Tryz.underlying3
  have a9 := Tryz.isAgg3
  have z9 := Tryz.sizeOf3
  have hS : Tryz.prog.underlying 71 = some (.struct (Tryz.prog.fieldsOf 71)) := by kernel_rfl
  have hp : Tryz.prog.stoodInHeld 71 = false := by kernel_rfl
  rw [run_neq_struct, show (10000 : Nat) = 9999 + 1 from rfl, run_equalIn_agg w 9999 71 _ _ hS hp]
  simp only [Program.fieldsOf, Tryz.underlying71]
  go_simp

/-- an entry of the book, and what it says, in a later world -/
theorem BL.read {w wr : World} {K : Nat → Prop} {d : Kd} {V : Value} {rs : List En} (h : BL w K d V rs) (hb : Below w.heap.size w wr) {i : Nat} (hi : i < rs.length) : ∃ g off cap, V = .slice (some ⟨g, off, none⟩) rs.length cap ∧ g < w.heap.size ∧ wr.cell? ⟨g, off + i * 2, none⟩ = some rs[i].1 ∧ wr.cell? ⟨g, off + i * 2 + 1, none⟩ = some (.int .i64 rs[i].2.2) := by
  obtain ⟨g, off, cap, rfl, _⟩ := h.row.addr (by omega)
  refine ⟨g, off, cap, rfl, h.row.lt rfl, ?_, ?_⟩
  · have := h.row.cell (j := i * 2 + 0) (u := rs[i].1) (by rw [flat_get cN 2 (fun _ => rfl) rs i 0 hi (by omega)]; rfl)
    exact jcell_after hb this
  · have := h.row.cell (j := i * 2 + 1) (u := .int .i64 rs[i].2.2) (by rw [flat_get cN 2 (fun _ => rfl) rs i 1 hi (by omega)]; rfl)
    rw [Nat.add_assoc]
    exact jcell_after hb this
theorem BL.entry {w : World} {K : Nat → Prop} {d : Kd} {V : Value} {rs : List En} (h : BL w K d V rs) (hd : ∀ k, (d.mrk k).length = d.size) {r : En} (hr : r ∈ rs) : ∃ a cap, r.1 = .slice a r.2.1 cap ∧ r.2.1 ≤ maxLen ∧ ∀ q, q < r.2.1 → ∃ g off, a = some ⟨g, off, none⟩ ∧ g < w.heap.size ∧ ∀ j u, j < d.size → (d.mrk r.2.2)[j]? = some u → w.cell? ⟨g, off + q * d.size + j, none⟩ = some u := by
  have hS := h.ents r hr
  obtain ⟨a, cap, e⟩ := hS.form
  rw [e] at hS
  refine ⟨a, cap, e, ?_, fun q hq => ?_⟩
  · rcases hS.2 with ⟨_, h0⟩ | ⟨_, _, _, _, _, _, h1, h2, _⟩
    · omega
    · omega
  · obtain ⟨g, off, cap', e', _⟩ := hS.addr (by omega)
    obtain ⟨rfl, _, rfl⟩ := Value.slice.inj e'
    refine ⟨g, off, rfl, hS.lt rfl, fun j u hj hu => ?_⟩
    have := hS.cell (j := q * d.size + j) (u := u) (by rw [rep_get (hd _) hj hq]; exact hu)
    rwa [← Nat.add_assoc] at this

def OthersOk (w : World) (K : Nat → Prop) (bb : Nat) (ts gs js : List En) (fv wv tv gv jv : Value) : Prop := Bx w bb 88 (bookCells fv wv tv gv jv) ∧ BL w K dT tv ts ∧ BL w K dG gv gs ∧ BL w K dJ jv js
end Go.Proofs.YtgamgomepdfgdaaGreat
