import Derived.Test.YtgamgomepdfgdaaGreatM01
import Derived.Deep.CutRange
import Derived.Deep.CutBlock
import Derived.Test.YtgamgomepdfgdaaGreatM03
namespace Go.Proofs.YtgamgomepdfgdaaGreat
open Go.RowKit

theorem written1 (n : Nat) (w : World) (hn : n < 9223372036854775808) : Calls Tryz.prog 180 #[.int .i64 n, .int .i64 1] w fun e w' => e = .returned (.string (bs (be 1 n))) ∧ Below w.heap.size w w' := written_any 1 n w hn (by decide)
theorem written4 (n : Nat) (w : World) (hn : n < 9223372036854775808) : Calls Tryz.prog 180 #[.int .i64 n, .int .i64 4] w fun e w' => e = .returned (.string (bs (be 4 n))) ∧ Below w.heap.size w w' := written_any 4 n w hn (by decide)
theorem written8 (n : Nat) (w : World) (hn : n < 9223372036854775808) : Calls Tryz.prog 180 #[.int .i64 n, .int .i64 8] w fun e w' => e = .returned (.string (bs (be 8 n))) ∧ Below w.heap.size w w' := written_any 8 n w hn (by decide)

theorem below_then {w w1 w2 : World} (h : Below w.heap.size w w1) (h2 : Below w1.heap.size w1 w2) : Below w.heap.size w w2 := h.trans (h2.mono h.size)

/-- a record as the reference has it -/
def recV (r : Rc) (ev : Value) : Value := .agg #[.int .i64 r.kind, .int .i64 r.lane, .int .i64 r.num, .bool r.pass, ev]

set_option maxRecDepth 100000 in
set_option maxHeartbeats 1000000 in
theorem rbytes_num (kind lane num : Nat) (pass : Bool) (ev : Value) (w : World) (hk : kind = 2 ∨ kind = 5 ∨ kind = 6) (hnum : num < 9223372036854775808) (s : List UInt8) (hs : s = be 1 kind ++ be 4 8 ++ be 8 num) :
    Calls Tryz.prog 132 #[.agg #[.int .i64 kind, .int .i64 lane, .int .i64 num, .bool pass, ev]] w fun e w' => e = .returned (.string (bs (s ++ be 4 (adler s)))) ∧ Below w.heap.size w w' := by
  have k1 : ((kind : Int) == 1) = false := by simp; omega
  have k4 : ((kind : Int) == 4) = false := by simp; omega
  have k3 : ((kind : Int) == 3) = false := by simp; omega
  have k7 : ((kind : Int) == 7) = false := by simp; omega
  have n3 : ((kind : Int) != 3) = true := by simp; omega
  have n7 : ((kind : Int) != 7) = true := by simp; omega
  have z8 : (bs (be 8 num)).size = 8 := by rw [bs_size, be_len]
  have z1 : (bs (be 1 kind)).size = 1 := by rw [bs_size, be_len]
  have z4 : ∀ n, (bs (be 4 n)).size = 4 := fun n => by rw [bs_size, be_len]
  have e0 : (({ data := #[] } : ByteArray) ++ bs (be 8 num)) = bs (be 8 num) := bs_append [] _
  have e1 : bs (be 1 kind) ++ bs (be 4 8) = bs (be 1 kind ++ be 4 8) := bs_append _ _
  have e2 : bs (be 1 kind ++ be 4 8) ++ bs (be 8 num) = bs s := by rw [hs]; exact bs_append _ _
  have e3 : bs s ++ bs (be 4 (adler s)) = bs (s ++ be 4 (adler s)) := bs_append _ _
  have z5 : (bs (be 1 kind ++ be 4 8)).size = 5 := by rw [bs_size, List.length_append, be_len, be_len]
  have z13 : (bs s).size = 13 := by rw [hs, bs_size, List.length_append, List.length_append, be_len, be_len, be_len]
  have hS : ∀ w, Calls Tryz.prog 182 #[.string (bs s)] w fun e w' => e = .returned (.int .i64 (adler s)) ∧ w' = w := fun w => by
    have := refsum_any (bs s) w (by rw [z13]; decide)
    rwa [bs_list] at this
  have hA := adler_lt s
  clear hs
  go_enter Tryz.func132, Tryz.ntmps132
  go_wp2_with (first
    | (go_at_call 180; go_fit (written8 num _ hnum); rintro e w1 ⟨rfl, hb1⟩; have c1 : w1.cell? ⟨w.heap.size, 0, none⟩ = some (.int .i64 kind) := jcell_after hb1 (by simp))
    | (go_at_call 180; go_fit (written1 kind w1 (by omega)); rintro e w2 ⟨rfl, hb2⟩)
    | (go_at_call 180; go_fit (written4 8 w2 (by omega)); rintro e w3 ⟨rfl, hb3⟩)
    | (go_at_call 182; go_fit (hS _); rintro e w' ⟨rfl, rfl⟩)
    | (go_at_call 180; go_fit (written4 (adler s) _ (by omega)); rintro e w4 ⟨rfl, hb4⟩))
  go_ret
  exact ⟨rfl, below_then (below_then (below_then (below_mk hb1) hb2) hb3) hb4⟩

set_option maxRecDepth 100000 in
set_option maxHeartbeats 1000000 in
theorem rbytes_bare (kind lane num : Nat) (pass : Bool) (ev : Value) (w : World) (hk : kind = 3 ∨ kind = 7) (s : List UInt8) (hs : s = be 1 kind ++ be 4 0) :
    Calls Tryz.prog 132 #[.agg #[.int .i64 kind, .int .i64 lane, .int .i64 num, .bool pass, ev]] w fun e w' => e = .returned (.string (bs (s ++ be 4 (adler s)))) ∧ Below w.heap.size w w' := by
  have k1 : ((kind : Int) == 1) = false := by simp; omega
  have k4 : ((kind : Int) == 4) = false := by simp; omega
  have z1 : (bs (be 1 kind)).size = 1 := by rw [bs_size, be_len]
  have z4 : ∀ n, (bs (be 4 n)).size = 4 := fun n => by rw [bs_size, be_len]
  have e2 : bs (be 1 kind) ++ bs (be 4 0) = bs s := by rw [hs]; exact bs_append _ _
  have e1 : bs s ++ ({ data := #[] } : ByteArray) = bs s := (bs_append s []).trans (by rw [List.append_nil])
  have e3 : bs s ++ bs (be 4 (adler s)) = bs (s ++ be 4 (adler s)) := bs_append _ _
  have z13 : (bs s).size = 5 := by rw [hs, bs_size, List.length_append, be_len, be_len]
  have hS : ∀ w, Calls Tryz.prog 182 #[.string (bs s)] w fun e w' => e = .returned (.int .i64 (adler s)) ∧ w' = w := fun w => by
    have := refsum_any (bs s) w (by rw [z13]; decide)
    rwa [bs_list] at this
  have hA := adler_lt s
  clear hs
  rcases hk with rfl | rfl
  all_goals
    go_enter Tryz.func132, Tryz.ntmps132
    go_wp2_with (first
      | (go_at_call 180; (first | go_fit (written1 3 (w.alloc _) (by omega)) | go_fit (written1 7 (w.alloc _) (by omega))); rintro e w2 ⟨rfl, hb2⟩)
      | (go_at_call 180; go_fit (written4 0 w2 (by omega)); rintro e w3 ⟨rfl, hb3⟩)
      | (go_at_call 182; go_fit (hS _); rintro e w' ⟨rfl, rfl⟩)
      | (go_at_call 180; go_fit (written4 (adler s) _ (by omega)); rintro e w4 ⟨rfl, hb4⟩))
    go_ret
    exact ⟨rfl, below_then (below_then (below_mk hb2) hb3) hb4⟩
end Go.Proofs.YtgamgomepdfgdaaGreat

namespace Go.Proofs.YtgamgomepdfgdaaGreat
open Go.RowKit

theorem edits_cells' {w wr : World} {b off : Nat} {l : List Ed} (hb : Below w.heap.size w wr) (hlt : b < w.heap.size)
    (h0 : ∀ i (h : i < l.length), w.cell? ⟨b, off + i * 3, none⟩ = some (.string l[i].1)) (h1 : ∀ i (h : i < l.length), w.cell? ⟨b, off + i * 3 + 1, none⟩ = some (.string l[i].2.1)) (h2 : ∀ i (h : i < l.length), w.cell? ⟨b, off + i * 3 + 2, none⟩ = some (.string l[i].2.2)) {k : Nat} (hk : k < l.length) :
    wr.cell? ⟨b, off + k * 3, none⟩ = some (.string l[k].1) ∧ wr.cell? ⟨b, off + k * 3 + 1, none⟩ = some (.string l[k].2.1) ∧ wr.cell? ⟨b, off + k * 3 + 2, none⟩ = some (.string l[k].2.2) ∧ b < wr.heap.size :=
  ⟨jcell_after hb (h0 k hk), jcell_after hb (h1 k hk), jcell_after hb (h2 k hk), Nat.lt_of_lt_of_le hlt hb.size⟩

theorem txt_len (s : ByteArray) : (txt s).length = s.size + 1 := by
  rw [txt, List.length_append, be_len]; simp; omega
theorem edB_len (e : Ed) : (edB e).length = e.1.size + e.2.1.size + e.2.2.size + 3 := by
  rw [edB, List.length_append, List.length_append, txt_len, txt_len, txt_len]; omega
def Small (es : List Ed) : Prop := es.length ≤ 4 ∧ ∀ x ∈ es, x.1.size ≤ 8 ∧ x.2.1.size ≤ 8 ∧ x.2.2.size ≤ 8
theorem flat_small : ∀ (es : List Ed), (∀ x ∈ es, x.1.size ≤ 8 ∧ x.2.1.size ≤ 8 ∧ x.2.2.size ≤ 8) → (es.flatMap edB).length ≤ es.length * 27
  | [], _ => by simp
  | e :: es, h => by
    have h1 := h e (by simp)
    have h2 := flat_small es fun x hx => h x (by simp [hx])
    rw [List.flatMap_cons, List.length_append, edB_len, List.length_cons]
    omega

/-- what stands ahead of the id -/
def subB (lane : Nat) (es : List Ed) (k : Nat) : List UInt8 := be 1 lane ++ be 1 es.length ++ (es.take k).flatMap edB
theorem subB_len {es : List Ed} (h : Small es) (lane k : Nat) : (subB lane es k).length ≤ 110 := by
  have h1 := flat_small (es.take k) fun x hx => h.2 x (List.mem_of_mem_take hx)
  have h2 := h.1
  rw [List.length_take] at h1
  rw [subB, List.length_append, List.length_append, be_len, be_len]
  omega
theorem subB_succ {es : List Ed} {k : Nat} (hk : k < es.length) (lane : Nat) : subB lane es (k + 1) = subB lane es k ++ txt es[k].1 ++ txt es[k].2.1 ++ txt es[k].2.2 := by
  rw [subB, subB, List.take_succ_eq_append_getElem hk, List.flatMap_append]
  simp [edB, List.append_assoc]

/-- the record in its box -/
def BoxR (w : World) (bb : Nat) (cs : Array Value) : Prop := w.heap[bb]? = some (.cells cs 168 (0, 0))
theorem BoxR.new (w : World) (cs : Array Value) : BoxR (w.alloc (.cells cs 168)) w.heap.size cs := by
  show (w.heap.push _)[w.heap.size]? = _
  simp
theorem BoxR.later {w w' : World} {bb : Nat} {cs : Array Value} (h : BoxR w bb cs) (hb : Below w.heap.size w w') : BoxR w' bb cs :=
  (hb.block bb (Array.getElem?_eq_some_iff.1 h).1).trans h
theorem BoxR.cell {w : World} {bb : Nat} {cs : Array Value} (h : BoxR w bb cs) {i : Nat} {v : Value} (hv : cs[i]? = some v) : w.cell? ⟨bb, i, none⟩ = some v := by
  unfold BoxR at h
  simp [World.cell?, h, hv]

set_option maxRecDepth 100000 in
set_option maxHeartbeats 2000000 in
theorem rbytes_submit (lane num : Nat) (pass : Bool) (es : List Ed) (b off cap : Nat) (w : World) (hnum : num < 9223372036854775808) (hlane : lane < 256) (hsm : Small es) (hlt : b < w.heap.size)
    (h0 : ∀ i (h : i < es.length), w.cell? ⟨b, off + i * 3, none⟩ = some (.string es[i].1)) (h1 : ∀ i (h : i < es.length), w.cell? ⟨b, off + i * 3 + 1, none⟩ = some (.string es[i].2.1)) (h2 : ∀ i (h : i < es.length), w.cell? ⟨b, off + i * 3 + 2, none⟩ = some (.string es[i].2.2))
    (body s : List UInt8) (hbody : body = subB lane es es.length ++ be 8 num) (hs : s = be 1 1 ++ be 4 body.length ++ body) :
    Calls Tryz.prog 132 #[.agg #[.int .i64 1, .int .i64 lane, .int .i64 num, .bool pass, .slice (some ⟨b, off, none⟩) es.length cap]] w fun e w' => e = .returned (.string (bs (s ++ be 4 (adler s)))) ∧ Below w.heap.size w w' := by
  have hl4 := hsm.1
  have z1 : ∀ n, (bs (be 1 n)).size = 1 := fun n => by rw [bs_size, be_len]
  have e1 : bs (be 1 lane) ++ bs (be 1 es.length) = bs (subB lane es 0) := by rw [bs_append]; simp [subB]
  go_enter Tryz.func132, Tryz.ntmps132
  go_wp2
  go_region_held_law (fun w' => w'.cell? ⟨w.heap.size, 1, none⟩ = some (.int .i64 lane) ∧ w'.cell? ⟨w.heap.size, 4, none⟩ = some (.slice (some ⟨b, off, none⟩) es.length cap)) (go_keep) (first
    | (go_at_call 180; go_fit (written1 lane _ (by omega)); rintro e w1 ⟨rfl, hb1⟩; have c1 : w1.cell? ⟨w.heap.size, 1, none⟩ = some (.int .i64 lane) := jcell_after hb1 (by simp); have c4 : w1.cell? ⟨w.heap.size, 4, none⟩ = some (.slice (some ⟨b, off, none⟩) es.length cap) := jcell_after hb1 (by simp))
    | (go_at_call 180; go_fit (written1 es.length _ (by omega)); rintro e w2 ⟨rfl, hb2⟩; have d1 := jcell_after hb2 c1; have d4 := jcell_after hb2 c4))
  have B2 : Hid (Below w.heap.size w w2) := below_then (below_mk_draw hb1) hb2
  have X2 : Hid (BoxR w2 w.heap.size #[.int .i64 1, .int .i64 lane, .int .i64 num, .bool pass, .slice (some ⟨b, off, none⟩) es.length cap]) := BoxR.later (BoxR.later (w := w.alloc _) (BoxR.new w _) (below_drew hb1)) hb2
  clear c1 c4 d1 d4 hb1 hb2 e1
  go_wp2
  go_loopw [3, 4] (fun sv iv wr => ∃ k : Nat, k ≤ es.length ∧ iv = .int .i64 k ∧ sv = .string (bs (subB lane es k)) ∧ Hid (BoxR wr w.heap.size #[.int .i64 1, .int .i64 lane, .int .i64 num, .bool pass, .slice (some ⟨b, off, none⟩) es.length cap]) ∧ Hid (Below w.heap.size w wr)) (fun _ i _ => es.length - (intOf i).toNat)
  case atStart => exact ⟨0, Nat.zero_le _, rfl, rfl, X2, B2⟩
  case round =>
    obtain ⟨k, hk, rfl, rfl, X, B⟩ := hrel
    clear X2 B2
    by_cases hlk : k < es.length
    · obtain ⟨g0, g1, g2, gb⟩ := edits_cells' B.out hlt h0 h1 h2 hlk
      have hsb := subB_len hsm lane k
      have hsc := subB_succ hlk lane
      obtain ⟨y0, y1, y2⟩ := hsm.2 _ (List.getElem_mem hlk)
      have c4 := X.out.cell (i := 4) rfl
      clear h0 h1 h2 hs hbody hnum z1
      generalize hNe : subB lane es (k + 1) = N at hsc
      have HN : Hid (subB lane es (k + 1) = N) := hNe
      clear hNe
      generalize subB lane es k = M at hsb hsc
      generalize es[k].1 = p at g0 y0 hsc
      generalize es[k].2.1 = o at g1 y1 hsc
      generalize es[k].2.2 = n at g2 y2 hsc
      have z0 : (bs M).size = M.length := rfl
      have z1 : (bs (txt p)).size = p.size + 1 := txt_len p
      have z2 : (bs (txt o)).size = o.size + 1 := txt_len o
      have z3 : (bs (txt n)).size = n.size + 1 := txt_len n
      obtain ⟨M1, hM1⟩ : ∃ M1, M1 = M ++ txt p := ⟨_, rfl⟩
      obtain ⟨M2, hM2⟩ : ∃ M2, M2 = M1 ++ txt o := ⟨_, rfl⟩
      have hN : N = M2 ++ txt n := by rw [hM2, hM1, hsc]
      have f1 : bs M ++ bs (txt p) = bs M1 := by rw [hM1]; exact bs_append _ _
      have f2 : bs M1 ++ bs (txt o) = bs M2 := by rw [hM2]; exact bs_append _ _
      have f3 : bs M2 ++ bs (txt n) = bs N := by rw [hN]; exact bs_append _ _
      have z4 : (bs M1).size = M.length + (p.size + 1) := by rw [bs_size, hM1, List.length_append, txt_len]
      have z5 : (bs M2).size = M.length + (p.size + 1) + (o.size + 1) := by rw [bs_size, hM2, List.length_append, ← bs_size, z4, txt_len]
      have z6 : (bs N).size = M.length + (p.size + 1) + (o.size + 1) + (n.size + 1) := by rw [bs_size, hN, List.length_append, ← bs_size, z5, txt_len]
      clear hM1 hM2 hN
      clear hsc
      go_wp2
      go_region_held_law (fun w' => w'.cell? ⟨w.heap.size, 4, none⟩ = some (.slice (some ⟨b, off, none⟩) es.length cap) ∧ w'.cell? ⟨b, off + k * 3, none⟩ = some (.string p) ∧ w'.cell? ⟨b, off + k * 3 + 1, none⟩ = some (.string o) ∧ w'.cell? ⟨b, off + k * 3 + 2, none⟩ = some (.string n)) (go_keep) (first
        | (go_at_call 181; go_fit (text_any p wr.drew (by omega)); rintro e w3 ⟨rfl, hb3⟩; have a0 := jcell_after hb3 c4; have a1 := jcell_after hb3 g0; have a2 := jcell_after hb3 g1; have a3 := jcell_after hb3 g2)
        | (go_at_call 181; go_fit (text_any o w3 (by omega)); rintro e w4 ⟨rfl, hb4⟩; have b0 := jcell_after hb4 a0; have b1 := jcell_after hb4 a1; have b2 := jcell_after hb4 a2; have b3 := jcell_after hb4 a3)
        | (go_at_call 181; go_fit (text_any n w4 (by omega)); rintro e w5 ⟨rfl, hb5⟩; have d0 := jcell_after hb5 b0; have d1 := jcell_after hb5 b1; have d2 := jcell_after hb5 b2; have d3 := jcell_after hb5 b3))
      all_goals
        have hb35 : Below wr.heap.size wr w5 := below_then (below_then (below_drew hb3) hb4) hb5
        clear a0 a1 a2 a3 b0 b1 b2 b3 d0 d1 d2 d3 z0 z1 z2 z3 z4 z5 z6 f1 f2 f3
        go_wp2
        exact ⟨⟨k + 1, hlk, by go_num, by rw [HN.out], X.out.later hb35, below_then B.out hb35⟩, by simp [intOf]; omega⟩
    · obtain rfl : k = es.length := by omega
      have c0 := X.out.cell (i := 0) rfl
      have c2 := X.out.cell (i := 2) rfl
      have c3 := X.out.cell (i := 3) rfl
      have c4 := X.out.cell (i := 4) rfl
      have hsb := subB_len hsm lane es.length
      have z8 : (bs (be 8 num)).size = 8 := by rw [bs_size, be_len]
      have z4 : ∀ n, (bs (be 4 n)).size = 4 := fun n => by rw [bs_size, be_len]
      have zb : (bs body).size = body.length := rfl
      have zl : body.length ≤ 118 := by rw [hbody, List.length_append, be_len]; omega
      have z0 : (bs (subB lane es es.length)).size = (subB lane es es.length).length := rfl
      have f1 : bs (subB lane es es.length) ++ bs (be 8 num) = bs body := by rw [hbody]; exact bs_append _ _
      have f2 : bs (be 1 1) ++ bs (be 4 body.length) = bs (be 1 1 ++ be 4 body.length) := bs_append _ _
      have f3 : bs (be 1 1 ++ be 4 body.length) ++ bs body = bs s := by rw [hs]; exact bs_append _ _
      have f4 : bs s ++ bs (be 4 (adler s)) = bs (s ++ be 4 (adler s)) := bs_append _ _
      have z5 : (bs (be 1 1 ++ be 4 body.length)).size = 5 := by rw [bs_size, List.length_append, be_len, be_len]
      have zs : (bs s).size = 5 + body.length := by rw [hs, bs_size, List.length_append, List.length_append, be_len, be_len]
      have z9 : (bs (s ++ be 4 (adler s))).size = 9 + body.length := by rw [bs_size, List.length_append, be_len, ← bs_size, zs]; omega
      have hS : ∀ w, Calls Tryz.prog 182 #[.string (bs s)] w fun e w' => e = .returned (.int .i64 (adler s)) ∧ w' = w := fun w => by
        have := refsum_any (bs s) w (by rw [zs]; omega)
        rwa [bs_list] at this
      have hA := adler_lt s
      clear hs hbody h0 h1 h2 hsm
      generalize subB lane es es.length = M at hsb z0 f1
      go_wp2_with (first
        | (go_at_call 180; go_fit (written8 num _ hnum); rintro e w3 ⟨rfl, hb3⟩; have a0 := jcell_after hb3 c0)
        | (go_at_call 180; go_fit (written1 1 w3 (by omega)); rintro e w4 ⟨rfl, hb4⟩)
        | (go_at_call 180; go_fit (written4 body.length w4 (by omega)); rintro e w5 ⟨rfl, hb5⟩)
        | (go_at_call 182; go_fit (hS _); rintro e w' ⟨rfl, rfl⟩)
        | (go_at_call 180; go_fit (written4 (adler s) _ (by omega)); rintro e w6 ⟨rfl, hb6⟩))
      go_ret
      exact ⟨rfl, below_then (below_then (below_then (below_then B.out hb3) hb4) hb5) hb6⟩
end Go.Proofs.YtgamgomepdfgdaaGreat

namespace Go.Proofs.YtgamgomepdfgdaaGreat
open Go.RowKit

/-- the edits' bytes -/
def edsB (es : List Ed) (k : Nat) : List UInt8 := be 1 es.length ++ (es.take k).flatMap edB
theorem edsB_succ {es : List Ed} {k : Nat} (hk : k < es.length) : edsB es (k + 1) = edsB es k ++ txt es[k].1 ++ txt es[k].2.1 ++ txt es[k].2.2 := by
  rw [edsB, edsB, List.take_succ_eq_append_getElem hk, List.flatMap_append]
  simp [edB, List.append_assoc]
theorem edsB_len {es : List Ed} (h : Small es) (k : Nat) : (edsB es k).length ≤ 109 := by
  have h1 := flat_small (es.take k) fun x hx => h.2 x (List.mem_of_mem_take hx)
  have h2 := h.1
  rw [List.length_take] at h1
  rw [edsB, List.length_append, be_len]
  omega

theorem Apped.alloc {base : Nat} {w wr : World} {v v' : Value} {n : Nat} {xs : List Value} (h : Apped base w wr v v' n xs) (o : Obj) : Apped base w (wr.alloc o) v v' n xs := by
  have ha := World.grownBy_alloc wr o none
  exact ⟨h.row.alloc o, ⟨ha.os.trans h.grown.os, ha.tape.trans h.grown.tape, ha.output.trans h.grown.output, Nat.le_trans h.grown.size ha.size, fun k hk hne => (ha.block k (Nat.lt_of_lt_of_le hk h.grown.size) (by simp)).trans (h.grown.block k hk hne)⟩, h.block⟩
theorem row_ne {w : World} {base : Nat} {e : TypeId} {size n : Nat} {v : Value} {xs : List Value} (h : w.ownsRow base e size v n xs) {b : Nat} (hb : b < base ∨ w.heap.size ≤ b) : v.ownBlock ≠ some b := fun e => by
  have := h.lt b e
  omega

/-- a text behind X is Y: the call's contract -/
def TextTo (base : Nat) (p : ByteArray) (X Y : List UInt8) : Prop := ∀ (v : Value) (w : World), w.ownsRow base 5 1 v X.length (bc X) → base ≤ w.heap.size →
  Calls Tryz.prog 237 #[v, .string p] w fun e w' => ∃ v', e = .returned v' ∧ App base w w' v v' Y
theorem textTo {base : Nat} {p : ByteArray} {X Y : List UInt8} (h : Y = X ++ txt p) (hp : p.size < 256) (hX : X.length < 1099511627000) : TextTo base p X Y := fun v w hr hb => by
  subst h; exact appText p hp v X base w hr hb hX

set_option maxRecDepth 100000 in
set_option maxHeartbeats 1000000 in
theorem appEdits (es : List Ed) (hsm : Small es) (b off cap : Nat) (v : Value) (l : List UInt8) (base : Nat) (w : World) (h : w.ownsRow base 5 1 v l.length (bc l)) (hbase : base ≤ w.heap.size) (hlt : b < base)
    (h0 : ∀ i (h : i < es.length), w.cell? ⟨b, off + i * 3, none⟩ = some (.string es[i].1)) (h1 : ∀ i (h : i < es.length), w.cell? ⟨b, off + i * 3 + 1, none⟩ = some (.string es[i].2.1)) (h2 : ∀ i (h : i < es.length), w.cell? ⟨b, off + i * 3 + 2, none⟩ = some (.string es[i].2.2)) (hlen : l.length < 1099511000000) :
    Calls Tryz.prog 197 #[v, .slice (some ⟨b, off, none⟩) es.length cap] w fun e w' => ∃ v', e = .returned v' ∧ App base w w' v v' (l ++ edsB es es.length) := by
  have hl4 := hsm.1
  have hc := app8' es.length (by omega) v l base w h hbase (by omega)
  have hm : (es.length : Int) % 256 = es.length := by omega
  have hvb : v.ownBlock ≠ some b := row_ne h (.inl hlt)
  clear h
  go_enter Tryz.func197, Tryz.ntmps197
  go_wp2_with (go_at_call 160; go_fit hc; rintro e w1 ⟨v1, rfl, hA⟩)
  have HA : Hid (App base w w1 v v1 (l ++ edsB es 0)) := by
    show App base w w1 v v1 (l ++ edsB es 0)
    rw [edsB]; simpa using hA
  clear hA hc
  go_loopw [0, 6, 14] (fun bv _ iv wr => ∃ k : Nat, k ≤ es.length ∧ iv = .int .i64 k ∧ Hid (App base w wr v bv (l ++ edsB es k))) (fun _ _ i _ => es.length - (intOf i).toNat)
  case atStart => exact ⟨0, Nat.zero_le _, rfl, HA⟩
  case round =>
    obtain ⟨k, hk, rfl, hA⟩ := hrel
    clear HA
    by_cases hlk : k < es.length
    · have hwr := Nat.le_trans hbase (Apped.grown hA.out).size
      have g0 := Apped.keeps hA.out (h0 k hlk) hvb
      have g1 := Apped.keeps hA.out (h1 k hlk) hvb
      have g2 := Apped.keeps hA.out (h2 k hlk) hvb
      have gb : b < wr.heap.size := by omega
      obtain ⟨y0, y1, y2⟩ := hsm.2 _ (List.getElem_mem hlk)
      have hel := edsB_len hsm k
      have hsc := edsB_succ hlk
      generalize hNe : edsB es (k + 1) = N at hsc
      have HN : Hid (edsB es (k + 1) = N) := hNe
      clear hNe h0 h1 h2
      generalize edsB es k = M at hA hel hsc
      generalize es[k].1 = p at g0 y0 hsc
      generalize es[k].2.1 = o at g1 y1 hsc
      generalize es[k].2.2 = n at g2 y2 hsc
      obtain ⟨X0, hX0⟩ : ∃ X, X = l ++ M := ⟨_, rfl⟩
      obtain ⟨X1, hX1⟩ : ∃ X, X = X0 ++ txt p := ⟨_, rfl⟩
      obtain ⟨X2, hX2⟩ : ∃ X, X = X1 ++ txt o := ⟨_, rfl⟩
      have hX3 : l ++ N = X2 ++ txt n := by rw [hX2, hX1, hX0, hsc]; simp [List.append_assoc]
      have L0 : X0.length = l.length + M.length := by rw [hX0, List.length_append]
      have L1 : X1.length = X0.length + (p.size + 1) := by rw [hX1, List.length_append, txt_len]
      have L2 : X2.length = X1.length + (o.size + 1) := by rw [hX2, List.length_append, txt_len]
      have T1 : Hid (TextTo base p X0 X1) := textTo hX1 (by omega) (by omega)
      have T2 : Hid (TextTo base o X1 X2) := textTo hX2 (by omega) (by omega)
      have T3 : Hid (TextTo base n X2 (l ++ N)) := textTo hX3 (by omega) (by omega)
      rw [← hX0] at hA
      have R0 : Hid (∀ ob, (wr.alloc ob).ownsRow base 5 1 u0 X0.length (bc X0)) := fun ob => World.ownsRow.alloc (Apped.row hA.out) ob
      have N0 : Hid (u0.ownBlock ≠ some wr.heap.size) := row_ne (Apped.row hA.out) (.inr (Nat.le_refl _))
      have B0 : Hid (∀ ob, base ≤ (wr.alloc ob).heap.size ∧ wr.heap.size < (wr.alloc ob).heap.size) := fun ob => by
        show base ≤ _ ∧ wr.heap.size < _
        simp; omega
      have A0 : Hid (∀ ob, App base w (wr.alloc ob) v u0 X0) := fun ob => Apped.alloc hA.out ob
      clear hA hX0 hX1 hX2 hX3 hsc L0 L1 L2 hel
      go_wp2_with (first
        | (go_at_call 237; go_fit (T1.out u0 (wr.alloc _) (R0.out _) (B0.out _).1); rintro e w3 ⟨v3, rfl, h3⟩; have c1 : w3.cell? ⟨wr.heap.size, 1, none⟩ = some (.string o) := Apped.keeps h3 (by simp) N0.out; have c2 : w3.cell? ⟨wr.heap.size, 2, none⟩ = some (.string n) := Apped.keeps h3 (by simp) N0.out; have N3 : Hid (v3.ownBlock ≠ some wr.heap.size) := Apped.apart h3 (B0.out _).2 N0.out; have A3 : Hid (App base w w3 v v3 X1) := Apped.trans (A0.out _) h3; clear h3)
        | (go_at_call 237; go_fit (T2.out v3 w3 (Apped.row A3.out) (Nat.le_trans hbase (Apped.grown A3.out).size)); rintro e w4 ⟨v4, rfl, h4⟩; have d2 : w4.cell? ⟨wr.heap.size, 2, none⟩ = some (.string n) := Apped.keeps h4 c2 N3.out; have A4 : Hid (App base w w4 v v4 X2) := Apped.trans A3.out h4; clear h4)
        | (go_at_call 237; go_fit (T3.out v4 w4 (Apped.row A4.out) (Nat.le_trans hbase (Apped.grown A4.out).size)); rintro e w5 ⟨v5, rfl, h5⟩; have A5 : Hid (App base w w5 v v5 (l ++ N)) := Apped.trans A4.out h5; clear h5))
      exact ⟨⟨k + 1, hlk, by go_num, by rw [HN.out]; exact A5⟩, by simp [intOf]; omega⟩
    · obtain rfl : k = es.length := by omega
      go_wp2
      go_ret
      exact ⟨u0, rfl, hA.out⟩
end Go.Proofs.YtgamgomepdfgdaaGreat
