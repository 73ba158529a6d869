import Derived.Test.YtgamgomepdfgdaaGreatM47
import Derived.Test.YtgamgomepdfgdaaGreatRows
import Derived.ProofKit
import Derived.SizedLaws
import Derived.Deep.Slices
import Derived.OpenShut
import Derived.JoinedCond
namespace Go.Proofs.YtgamgomepdfgdaaGreat
open Go.RowKit

theorem lPlays (n0 n1 n2 n3 n4 n5 n6 : Int) (l : List Fl) (fa : Option Addr) (fc : Nat) (sv : Value) (xs : List Ac) (w : World) (hl : FilesAt w (.slice fa l.length fc) l) (hn : (l.length + 100) * 64 ≤ 140737488355328) (hsz : ∀ f ∈ l, f.1.size ≤ maxLen) (hsv : ActsAt w sv xs) (hok : ∀ a ∈ xs, a.Ok w ∧ queues a.kind) (hlen : xs.length < 400000) :
    Calls Tryz.prog 11 #[cfgV n0 n1 n2 n3 n4 n5 n6, .slice fa l.length fc, sv] w fun e w' => e = .returned (.bool true) ∧ Below w.heap.size w w' := by
  obtain ⟨ok, k, c, hc, hy, hx⟩ := made_both n0 n1 n2 n3 n4 n5 n6 l hn hsz
  cases ok
  · refine lPlays_no _ l fa fc sv w n0 n1 n2 n3 n4 n5 n6 rfl ?_ fun W hb => lMade_no n0 n1 n2 n3 n4 n5 n6 k c l fa fc W (hl.later hb) hn hy hx
    obtain ⟨a, cap, e, _⟩ := hsv
    exact ⟨a, _, cap, e⟩
  · exact lPlays_yes _ l fa fc sv xs w n0 n1 n2 n3 n4 n5 n6 rfl hsv hok hlen fun W hb => lMade_yes n0 n1 n2 n3 n4 n5 n6 k c l fa fc W (hl.later hb) (hc rfl) hn hy hx

set_option maxRecDepth 100000 in
set_option maxHeartbeats 4000000 in
theorem lQueueing (kind id lane : Int) (pass : Bool) (ea : Option Addr) (en ec : Nat) (r : Bool) (hr : r = true ↔ queues kind) (w : World) :
    Calls Tryz.prog 10 #[.agg #[.int .i64 kind, .int .i64 id, .int .i64 lane, .bool pass, .slice ea en ec]] w fun e w' => e = .returned (.bool r) ∧ Below w.heap.size w w' := by
  have HB : Hid (Below w.heap.size w (w.alloc (.cells #[.int .i64 kind, .int .i64 id, .int .i64 lane, .bool pass, .slice ea en ec] 29))) := below_new _ _
  have X0 := Bx.new w #[.int .i64 kind, .int .i64 id, .int .i64 lane, .bool pass, .slice ea en ec] 29
  have x0 := X0.cell (i := 0) (v := .int .i64 kind) rfl
  clear X0
  by_cases hq : queues kind
  · obtain rfl : r = true := hr.2 hq
    clear hr
    rcases hq with rfl | rfl | rfl | rfl | rfl | rfl | rfl | rfl | rfl | rfl
    all_goals
      go_enter Tryz.func10, Tryz.ntmps10
      go_wp2_with fail
      go_ret
      exact ⟨rfl, HB.out⟩
  · obtain rfl : r = false := by
      cases r
      · rfl
      · exact absurd (hr.1 rfl) hq
    unfold queues at hq
    have m1 : (kind == 1) = false := by
      have : ¬ kind = 1 := fun h => hq (by omega)
      simpa using this
    have m2 : (kind == 2) = false := by
      have : ¬ kind = 2 := fun h => hq (by omega)
      simpa using this
    have m7 : (kind == 7) = false := by
      have : ¬ kind = 7 := fun h => hq (by omega)
      simpa using this
    have m8 : (kind == 8) = false := by
      have : ¬ kind = 8 := fun h => hq (by omega)
      simpa using this
    have m12 : (kind == 12) = false := by
      have : ¬ kind = 12 := fun h => hq (by omega)
      simpa using this
    have m14 : (kind == 14) = false := by
      have : ¬ kind = 14 := fun h => hq (by omega)
      simpa using this
    have m17 : (kind == 17) = false := by
      have : ¬ kind = 17 := fun h => hq (by omega)
      simpa using this
    have m10 : (kind == 10) = false := by
      have : ¬ kind = 10 := fun h => hq (by omega)
      simpa using this
    have m11 : (kind == 11) = false := by
      have : ¬ kind = 11 := fun h => hq (by omega)
      simpa using this
    have m9 : (kind == 9) = false := by
      have : ¬ kind = 9 := fun h => hq (by omega)
      simpa using this
    clear hr hq
    go_enter Tryz.func10, Tryz.ntmps10
    go_wp2_with fail
    go_ret
    exact ⟨rfl, HB.out⟩

theorem info_act : (Tryz.prog.info? 29).map (fun i => (i.zero, i.size, i.bytes)) = some (some (.agg #[.int .i64 0, .int .i64 0, .int .i64 0, .bool false, .slice none 0 0]), 5, 56) := by kernel_rfl
theorem acts_of_row {w : World} {base : Nat} {v : Value} {xs : List Ac} (h : w.ownsRow base 29 5 v xs.length (xs.flatMap cA)) : ActsAt w v xs := by
  rcases h.2 with ⟨rfl, h0⟩ | ⟨g, cap, cur, rfl, _, hh, _⟩
  · exact ⟨none, 0, by rw [h0], .inl (List.eq_nil_of_length_eq_zero h0)⟩
  · refine ⟨_, _, rfl, .inr ⟨g, 0, rfl, (Array.getElem?_eq_some_iff.1 hh).1, fun i hi j u hu => ?_⟩⟩
    have hj : j < 5 := by
      have := (List.getElem?_eq_some_iff.1 hu).1
      simpa [cA] using this
    have := h.cells (g := g) rfl (i * 5 + j) u (by rw [flat_get cA 5 (fun _ => rfl) xs i j hi hj]; exact hu)
    rw [addr_add] at this
    rw [Nat.add_assoc]; exact this

set_option maxRecDepth 100000 in
set_option maxHeartbeats 4000000 in
theorem lWaits (n0 n1 n2 n3 n4 n5 n6 : Int) (l : List Fl) (fa : Option Addr) (fc : Nat) (sv : Value) (xs : List Ac) (w : World) (hl : FilesAt w (.slice fa l.length fc) l) (hn : (l.length + 100) * 64 ≤ 140737488355328) (hsz : ∀ f ∈ l, f.1.size ≤ maxLen) (hsv : ActsAt w sv xs) (hok : ∀ a ∈ xs, a.Ok w) (hlen : xs.length < 400000) :
    Calls Tryz.prog 3 #[cfgV n0 n1 n2 n3 n4 n5 n6, .slice fa l.length fc, sv] w fun e w' => e = .returned (.bool true) ∧ Below w.heap.size w w' := by
  obtain ⟨sa, sc, rfl, hS⟩ := hsv
  obtain ⟨i0, hi, hz0, hz1, hz2⟩ := info_parts info_act
  have HPl : Hid (∀ (W : World) (lv : Value) (bs : List Ac), Below w.heap.size w W → W.ownsRow w.heap.size 29 5 lv bs.length (bs.flatMap cA) → (∀ a ∈ bs, a ∈ xs ∧ queues a.kind) → bs.length ≤ xs.length → Calls Tryz.prog 11 #[.agg #[.int .i64 n0, .int .i64 n1, .int .i64 n2, .int .i64 n3, .int .i64 n4, .int .i64 n5, .int .i64 n6], .slice fa l.length fc, lv] W fun e w' => e = .returned (.bool true) ∧ Below W.heap.size W w') := fun W lv bs hb hrow hbs hle => lPlays n0 n1 n2 n3 n4 n5 n6 l fa fc lv bs W (hl.later hb) hn hsz (acts_of_row hrow) (fun a ha => ⟨(hok a (hbs a ha).1).later hb, (hbs a ha).2⟩) (by omega)
  unfold cfgV
  have HB0 : Hid (Below w.heap.size w (w.alloc (.cells #[.int .i64 n0, .int .i64 n1, .int .i64 n2, .int .i64 n3, .int .i64 n4, .int .i64 n5, .int .i64 n6] 23))) := below_new _ _
  have HX0 : Hid (Bx (w.alloc (.cells #[.int .i64 n0, .int .i64 n1, .int .i64 n2, .int .i64 n3, .int .i64 n4, .int .i64 n5, .int .i64 n6] 23)) w.heap.size 23 #[.int .i64 n0, .int .i64 n1, .int .i64 n2, .int .i64 n3, .int .i64 n4, .int .i64 n5, .int .i64 n6]) := Bx.new _ _ _
  clear hl hn hsz hok
  go_enter Tryz.func3, Tryz.ntmps3
  go_wp2_with fail
  generalize w.alloc (.cells #[.int .i64 n0, .int .i64 n1, .int .i64 n2, .int .i64 n3, .int .i64 n4, .int .i64 n5, .int .i64 n6] 23) = W0 at *
  go_loopw [7, 8, 9] (fun lv iv _ wr => ∃ (i : Nat) (bs : List Ac), i ≤ xs.length ∧ iv = .int .i64 i ∧ Hid (wr.ownsRow W0.heap.size 29 5 lv bs.length (bs.flatMap cA)) ∧ Hid ((∀ a ∈ bs, a ∈ xs ∧ queues a.kind) ∧ bs.length ≤ i) ∧ Hid (Below W0.heap.size W0 wr)) (fun _ i _ _ => xs.length - (intOf i).toNat)
  case atStart => exact ⟨0, [], Nat.zero_le _, rfl, World.ownsRow_nil _ _ _ _, ⟨by simp, Nat.le_refl _⟩, Below.refl _ _⟩
  case round =>
    obtain ⟨i, bs, hin, rfl, hrow, hbs, hb⟩ := hrel
    by_cases hlt : i < xs.length
    · rcases hS with rfl | ⟨b, off, rfl, hbl, hcl⟩
      · simp at hlt
      have hbw : Below w.heap.size w wr := below_trans HB0.out hb.out
      have kk : ∀ j (u : Value), (cA xs[i])[j]? = some u → wr.cell? ⟨b, off + i * 5 + j, none⟩ = some u := fun j u hu => jcell_after hbw (hcl i hlt j u hu)
      have d0 : wr.cell? ⟨b, off + i * 5, none⟩ = some (.int .i64 xs[i].kind) := kk 0 _ rfl
      have d1 := kk 1 (.int .i64 xs[i].id) rfl
      have d2 := kk 2 (.int .i64 xs[i].lane) rfl
      have d3 := kk 3 (.bool xs[i].pass) rfl
      have d4 := kk 4 (.slice xs[i].ea xs[i].es.length xs[i].ec) rfl
      have hgl := jcell_lt d0
      obtain ⟨r, hr⟩ := dec_val (queues xs[i].kind)
      have hq := lQueueing xs[i].kind xs[i].id xs[i].lane xs[i].pass xs[i].ea xs[i].es.length xs[i].ec r hr wr
      have Hc : Hid (cA xs[i] = [.int .i64 xs[i].kind, .int .i64 xs[i].id, .int .i64 xs[i].lane, .bool xs[i].pass, .slice xs[i].ea xs[i].es.length xs[i].ec]) := rfl
      have Hr : Hid (r = true ↔ queues xs[i].kind) := hr
      have Hm : Hid (xs[i] ∈ xs) := List.getElem_mem hlt
      generalize hai : xs[i] = ai at *
      clear kk hr hbw hai hcl
      generalize hz4 : ai.es.length = z4 at *
      go_wp2_with fail
      go_fit hq
      rintro e w1 ⟨rfl, hb1⟩
      have f0 := jcell_after hb1 d0
      have f1 := jcell_after hb1 d1
      have f2 := jcell_after hb1 d2
      have f3 := jcell_after hb1 d3
      have f4 := jcell_after hb1 d4
      have HB1 : Hid (Below W0.heap.size W0 w1) := below_trans hb.out hb1
      have HR1 : Hid (w1.ownsRow W0.heap.size 29 5 u7 bs.length (bs.flatMap cA)) := World.ownsRow.kept hrow.out (below_grown hb1) (Classical.em _)
      clear hq hb1 d0 d1 d2 d3 d4
      cases r
      · go_wp2_with fail
        exact ⟨⟨i + 1, bs, hlt, by go_num, HR1, ⟨hbs.out.1, by have := hbs.out.2; omega⟩, HB1⟩, by simp [intOf]; omega⟩
      · have hblen := hbs.out.2
        have q1 : Hid (bs.length + 1 ≤ maxLen) := by show _ ≤ _; unfold maxLen; omega
        have q2 : Hid ((bs.length + 1) * 56 ≤ 140737488355328) := by show _ ≤ _; omega
        have q3 : Hid (∀ o, W0.heap.size ≤ (w1.alloc o).heap.size) := fun o => base_alloc HB1.out.size o
        obtain ⟨la, lcap, rfl⟩ := row_shape3 HR1.out
        go_wp2_with (at_builtin; refine wpList_append_own_at _ rfl _ _ 25 rfl W0.heap.size _ i0 _ 5 56 Tryz.underlying25 hi hz0 hz1 hz2 rfl (by decide) (.slice la bs.length lcap) _ _ rfl (World.ownsRow.alloc HR1.out _) ⟨w1.heap.size, 0, none⟩ 1 1 [.int .i64 ai.kind, .int .i64 ai.id, .int .i64 ai.lane, .bool ai.pass, .slice ai.ea z4 ai.ec] rfl rfl (cells_new w1 _ _) (by simp [Value.oneCell']) q1.out q2.out (q3.out _) ?_; intro v3 w3 hown3 hg3 hnil3 hloc3)
        refine ⟨⟨i + 1, bs ++ [ai], hlt, by go_num, ?_, ⟨fun a ha => ?_, by rw [List.length_append]; exact Nat.succ_le_succ hblen⟩, ?_⟩, by simp [intOf]; omega⟩
        · show w3.ownsRow _ _ _ _ _ _
          rw [List.length_append, List.flatMap_append]
          have e1 : [ai].flatMap cA = [.int .i64 ai.kind, .int .i64 ai.id, .int .i64 ai.lane, .bool ai.pass, .slice ai.ea z4 ai.ec] := by simp [Hc.out]
          rw [e1]
          exact hown3
        · rcases List.mem_append.1 ha with ha | ha
          · exact hbs.out.1 a ha
          · obtain rfl := List.mem_singleton.1 ha
            exact ⟨Hm.out, Hr.out.1 (by first | rfl | trivial)⟩
        · exact (HB1.out.alloc HB1.out.size _).grown hg3 (q3.out _) (fun j hj => (World.ownsRow.lt HR1.out j hj).1)
    · have hbw : Below w.heap.size w wr := below_trans HB0.out hb.out
      have hX := HX0.out.later hb.out
      have x0 := hX.cell (i := 0) (v := .int .i64 n0) rfl
      have x1 := hX.cell (i := 1) (v := .int .i64 n1) rfl
      have x2 := hX.cell (i := 2) (v := .int .i64 n2) rfl
      have x3 := hX.cell (i := 3) (v := .int .i64 n3) rfl
      have x4 := hX.cell (i := 4) (v := .int .i64 n4) rfl
      have x5 := hX.cell (i := 5) (v := .int .i64 n5) rfl
      have x6 := hX.cell (i := 6) (v := .int .i64 n6) rfl
      have hp := HPl.out wr u7 bs hbw (row_low hrow.out HB0.out.size) hbs.out.1 (by have := hbs.out.2; omega)
      have HBw : Hid (Below w.heap.size w wr) := hbw
      obtain ⟨la, lcap, rfl⟩ := row_shape3 hrow.out
      clear hX hbw HPl
      go_wp2_with fail
      go_fit hp
      rintro e w2 ⟨rfl, hb2⟩
      have HB2 : Hid (Below w.heap.size w w2) := below_trans HBw.out hb2
      clear hp hb2
      go_wp2_with fail
      go_ret
      exact ⟨rfl, HB2.out⟩
end Go.Proofs.YtgamgomepdfgdaaGreat

namespace Go.Proofs.YtgamgomepdfgdaaGreat
open Go.ChangeShapes Go.WideShapes Go.ChangeAt Go.RowKit

theorem tz_own : ownKnob Tryz.prog.godebug = none := by kernel_rfl
theorem tz_laidOut : laidOutB Tryz.prog = true := by kernel_rfl
theorem tz_str : Tryz.prog.cellsOf 9 = 1 := by kernel_rfl
theorem tz_int : Tryz.prog.cellsOf 3 = 1 := by kernel_rfl
theorem tz_bool : Tryz.prog.cellsOf 4 = 1 := by kernel_rfl
theorem tz_eds : Tryz.prog.cellsOf 27 = 1 := by kernel_rfl
theorem tz_file : Tryz.prog.cellsOf 80 = 2 := by kernel_rfl
theorem tz_edit : Tryz.prog.cellsOf 49 = 3 := by kernel_rfl
theorem tz_act : Tryz.prog.cellsOf 29 = 5 := by kernel_rfl

theorem bulk_one {H : Type} (d : DataW H) : 1 ≤ Rows.uptoBulk d := by
  cases d with
  | lit l => cases l <;> simp [Rows.uptoBulk]
  | nil => simp [Rows.uptoBulk]
  | ptr d => simp [Rows.uptoBulk]
  | slice elems spare => simp [Rows.uptoBulk]
  | agg parts => simp [Rows.uptoBulk]
  | iface t d => simp [Rows.uptoBulk]
  | map entries => simp [Rows.uptoBulk]
  | held h => simp [Rows.uptoBulk]
theorem bulk_part {H : Type} {d : DataW H} {l : List (DataW H)} (h : d ∈ l) : Rows.uptoBulk d ≤ Rows.uptoBulkAll l := by
  induction l with
  | nil => cases h
  | cons x r ih =>
    simp only [Rows.uptoBulkAll]
    cases List.mem_cons.1 h with
    | inl e => subst e; omega
    | inr e => have := ih e; omega
theorem bulk_each {H : Type} {k : Nat} : ∀ {l : List (DataW H)}, (∀ d ∈ l, k ≤ Rows.uptoBulk d) → l.length * k ≤ Rows.uptoBulkAll l
  | [], _ => by simp [Rows.uptoBulkAll]
  | x :: r, h => by
    have h1 := h x List.mem_cons_self
    have h2 := bulk_each (l := r) fun d hd => h d (List.mem_cons_of_mem _ hd)
    simp only [Rows.uptoBulkAll, List.length_cons]
    rw [Nat.add_mul, Nat.one_mul]
    omega
theorem bulk_len {H : Type} (l : List (DataW H)) : l.length ≤ Rows.uptoBulkAll l := by
  have := bulk_each (k := 1) (l := l) fun d _ => bulk_one d
  omega

theorem len2 {α : Type} {l : List α} (h : l.length = 2) : ∃ a b, l = [a, b] := by
  match l, h with
  | [a, b], _ => exact ⟨a, b, rfl⟩
theorem len3 {α : Type} {l : List α} (h : l.length = 3) : ∃ a b c, l = [a, b, c] := by
  match l, h with
  | [a, b, c], _ => exact ⟨a, b, c, rfl⟩
theorem len5 {α : Type} {l : List α} (h : l.length = 5) : ∃ a b c d e, l = [a, b, c, d, e] := by
  match l, h with
  | [a, b, c, d, e], _ => exact ⟨a, b, c, d, e, rfl⟩
theorem len7 {α : Type} {l : List α} (h : l.length = 7) : ∃ a b c d e f g, l = [a, b, c, d, e, f, g] := by
  match l, h with
  | [a, b, c, d, e, f, g], _ => exact ⟨a, b, c, d, e, f, g, rfl⟩

section
variable {H : Type} {enc : TypeId × Value → H} {W : World}

theorem one_str {n : Nat} {v : Value} {x : Option (DataW H × List MemPlace)} (h : DataW.trod enc Tryz.prog W 0 (fun _ => true) true n 9 [v] = x) (hx : x.isSome = true) : ∃ s : ByteArray, v = .string s ∧ s.size ≤ maxLen := by
  obtain ⟨y, rfl⟩ := Option.isSome_iff_exists.1 hx
  obtain ⟨s, h1, _, h2⟩ := DataW.trod_string Tryz.underlying9 h
  exact ⟨s, by simpa using h1, h2⟩
theorem one_int {n : Nat} {v : Value} {x : Option (DataW H × List MemPlace)} (h : DataW.trod enc Tryz.prog W 0 (fun _ => true) true n 3 [v] = x) (hx : x.isSome = true) : ∃ k : Int, v = .int .i64 k := by
  obtain ⟨y, rfl⟩ := Option.isSome_iff_exists.1 hx
  obtain ⟨k, h1, _⟩ := DataW.trod_int Tryz.underlying3 h
  exact ⟨k, by simpa using h1⟩
theorem one_bool {n : Nat} {v : Value} {x : Option (DataW H × List MemPlace)} (h : DataW.trod enc Tryz.prog W 0 (fun _ => true) true n 4 [v] = x) (hx : x.isSome = true) : ∃ b : Bool, v = .bool b := by
  obtain ⟨y, rfl⟩ := Option.isSome_iff_exists.1 hx
  obtain ⟨b, h1, _⟩ := DataW.trod_bool Tryz.underlying4 h
  exact ⟨b, by simpa using h1⟩
theorem two_strs {n : Nat} {cs : List Value} {x : DataW H × List MemPlace} (hl : cs.length = 2) (h : DataW.trod enc Tryz.prog W 0 (fun _ => true) true n 80 cs = some x) : ∃ s t : ByteArray, cs = [.string s, .string t] ∧ s.size ≤ maxLen := by
  obtain ⟨xs, k, hk, hxy, _, hxl, hf⟩ := DataW.trod_struct Tryz.underlying80 h
  obtain ⟨y0, y1, rfl⟩ := len2 (l := xs) (by simpa using hxl)
  obtain ⟨v0, v1, rfl⟩ := len2 hl
  have g0 := hf 0 _ rfl
  have g1 := hf 1 _ rfl
  simp [tz_str] at g0 g1
  obtain ⟨s, rfl, hs⟩ := one_str g0 rfl
  obtain ⟨t, rfl, _⟩ := one_str g1 rfl
  exact ⟨s, t, rfl, hs⟩
theorem three_strs {n : Nat} {cs : List Value} {x : DataW H × List MemPlace} (hl : cs.length = 3) (h : DataW.trod enc Tryz.prog W 0 (fun _ => true) true n 49 cs = some x) : ∃ s t u : ByteArray, cs = [.string s, .string t, .string u] := by
  obtain ⟨xs, k, hk, hxy, _, hxl, hf⟩ := DataW.trod_struct Tryz.underlying49 h
  obtain ⟨y0, y1, y2, rfl⟩ := len3 (l := xs) (by simpa using hxl)
  obtain ⟨v0, v1, v2, rfl⟩ := len3 hl
  have g0 := hf 0 _ rfl
  have g1 := hf 1 _ rfl
  have g2 := hf 2 _ rfl
  simp [tz_str] at g0 g1 g2
  obtain ⟨s, rfl, _⟩ := one_str g0 rfl
  obtain ⟨t, rfl, _⟩ := one_str g1 rfl
  obtain ⟨u, rfl, _⟩ := one_str g2 rfl
  exact ⟨s, t, u, rfl⟩

/-- the settings that came in -/
theorem cfg_of {n : Nat} {cs : List Value} {x : DataW H × List MemPlace} (hl : cs.length = 7) (h : DataW.trod enc Tryz.prog W 0 (fun _ => true) true n 23 cs = some x) : ∃ n0 n1 n2 n3 n4 n5 n6 : Int, cs = [.int .i64 n0, .int .i64 n1, .int .i64 n2, .int .i64 n3, .int .i64 n4, .int .i64 n5, .int .i64 n6] := by
  obtain ⟨xs, k, hk, hxy, _, hxl, hf⟩ := DataW.trod_struct Tryz.underlying23 h
  obtain ⟨y0, y1, y2, y3, y4, y5, y6, rfl⟩ := len7 (l := xs) (by simpa using hxl)
  obtain ⟨v0, v1, v2, v3, v4, v5, v6, rfl⟩ := len7 hl
  have g0 := hf 0 _ rfl
  have g1 := hf 1 _ rfl
  have g2 := hf 2 _ rfl
  have g3 := hf 3 _ rfl
  have g4 := hf 4 _ rfl
  have g5 := hf 5 _ rfl
  have g6 := hf 6 _ rfl
  simp [tz_int] at g0 g1 g2 g3 g4 g5 g6
  obtain ⟨n0, rfl⟩ := one_int g0 rfl
  obtain ⟨n1, rfl⟩ := one_int g1 rfl
  obtain ⟨n2, rfl⟩ := one_int g2 rfl
  obtain ⟨n3, rfl⟩ := one_int g3 rfl
  obtain ⟨n4, rfl⟩ := one_int g4 rfl
  obtain ⟨n5, rfl⟩ := one_int g5 rfl
  obtain ⟨n6, rfl⟩ := one_int g6 rfl
  exact ⟨n0, n1, n2, n3, n4, n5, n6, rfl⟩

/-- files that came in, opened -/
theorem files_of {fuel : Nat} {v : Value} {x : DataW H × List MemPlace} (hf : DataW.trod enc Tryz.prog W 0 (fun _ => true) true fuel 24 [v] = some x) :
    ∃ (l : List Fl) (a : Option Addr) (cap : Nat), v = .slice a l.length cap ∧ FilesAt W v l ∧ (∀ f ∈ l, f.1.size ≤ maxLen) ∧ l.length ≤ Rows.uptoBulk x.1 := by
  rcases Deep.open_slice Tryz.underlying24 hf with ⟨hcs, hx⟩ | ⟨a, len, cap, m, n, D, Pl, hcs, _, hl, hm, hmm, hx, hi⟩
  · obtain rfl : v = .slice none 0 0 := by simpa using hcs
    exact ⟨[], none, 0, rfl, .inl ⟨rfl, _, _, rfl⟩, fun f h => by simp at h, Nat.zero_le _⟩
  · obtain rfl : v = .slice (some a) len cap := by simpa using hcs
    simp only [if_true] at hmm
    rw [tz_file] at hi
    have each : ∀ i, i < len → ∃ q : Fl, W.cell? (a.add (i * 2)) = some (.string q.1) ∧ W.cell? ((a.add (i * 2)).add 1) = some (.string q.2) ∧ q.1.size ≤ maxLen := fun i hil => by
      obtain ⟨cs, h1, h2⟩ := hi i (by omega)
      obtain ⟨_, hlen, hc⟩ := World.cells?_some h1
      obtain ⟨s, t, rfl, hs⟩ := two_strs hlen h2
      have e0 := hc 0 (by omega)
      have e1 := hc 1 (by omega)
      exact ⟨(s, t), by simpa [Addr.add] using e0, by simpa using e1, hs⟩
    obtain ⟨q, hq⟩ := Deep.choose_lt (α := Fl) each
    have hL : ((List.range len).map q).length = len := by simp
    have hg : ∀ i (h : i < ((List.range len).map q).length), ((List.range len).map q)[i] = q i := fun i h => by simp
    refine ⟨(List.range len).map q, some a, cap, by rw [hL], ?_, fun f hf => ?_, ?_⟩
    · by_cases h0 : len = 0
      · subst h0
        exact .inl ⟨rfl, _, _, rfl⟩
      · obtain ⟨b, off, spot⟩ := a
        have hspot : spot = none := by simpa [Addr.add] using World.cell?_spot (hq 0 (by omega)).1
        subst hspot
        have hbW : b < W.heap.size := cell_lt (o := off) (by simpa [Addr.add] using (hq 0 (by omega)).1)
        refine .inr ⟨b, off, cap, by rw [hL], hbW, fun i h => ?_, fun i h => ?_⟩
        · have := (hq i (by rw [hL] at h; exact h)).1
          rw [hg i h, ← this, add_plain]
        · have := (hq i (by rw [hL] at h; exact h)).2.1
          rw [hg i h, ← this, add_plain, add_plain]
    · obtain ⟨i, hi', rfl⟩ := List.mem_map.1 hf
      exact (hq i (List.mem_range.1 hi')).2.2
    · rw [hx, hL]
      have := bulk_len ((List.range len).map D)
      simp only [Rows.uptoBulk]
      simp at this
      omega

/-- edits that came in, opened -/
theorem edits_of {fuel : Nat} {v : Value} {x : DataW H × List MemPlace} (hf : DataW.trod enc Tryz.prog W 0 (fun _ => true) true fuel 27 [v] = some x) :
    ∃ (l : List Ed) (a : Option Addr) (cap : Nat), v = .slice a l.length cap ∧ EditsAt W v l ∧ l.length ≤ Rows.uptoBulk x.1 := by
  rcases Deep.open_slice Tryz.underlying27 hf with ⟨hcs, hx⟩ | ⟨a, len, cap, m, n, D, Pl, hcs, _, hl, hm, hmm, hx, hi⟩
  · obtain rfl : v = .slice none 0 0 := by simpa using hcs
    exact ⟨[], none, 0, rfl, .inl ⟨rfl, _, _, rfl⟩, Nat.zero_le _⟩
  · obtain rfl : v = .slice (some a) len cap := by simpa using hcs
    simp only [if_true] at hmm
    rw [tz_edit] at hi
    have each : ∀ i, i < len → ∃ q : Ed, W.cell? (a.add (i * 3)) = some (.string q.1) ∧ W.cell? ((a.add (i * 3)).add 1) = some (.string q.2.1) ∧ W.cell? ((a.add (i * 3)).add 2) = some (.string q.2.2) := fun i hil => by
      obtain ⟨cs, h1, h2⟩ := hi i (by omega)
      obtain ⟨_, hlen, hc⟩ := World.cells?_some h1
      obtain ⟨s, t, u, rfl⟩ := three_strs hlen h2
      have e0 := hc 0 (by omega)
      have e1 := hc 1 (by omega)
      have e2 := hc 2 (by omega)
      exact ⟨(s, t, u), by simpa [Addr.add] using e0, by simpa using e1, by simpa using e2⟩
    obtain ⟨q, hq⟩ := Deep.choose_lt (α := Ed) each
    have hL : ((List.range len).map q).length = len := by simp
    have hg : ∀ i (h : i < ((List.range len).map q).length), ((List.range len).map q)[i] = q i := fun i h => by simp
    refine ⟨(List.range len).map q, some a, cap, by rw [hL], ?_, ?_⟩
    · by_cases h0 : len = 0
      · subst h0
        exact .inl ⟨rfl, _, _, rfl⟩
      · obtain ⟨b, off, spot⟩ := a
        have hspot : spot = none := by simpa [Addr.add] using World.cell?_spot (hq 0 (by omega)).1
        subst hspot
        have hbW : b < W.heap.size := cell_lt (o := off) (by simpa [Addr.add] using (hq 0 (by omega)).1)
        refine .inr ⟨b, off, cap, by rw [hL], hbW, fun i h => ?_, fun i h => ?_, fun i h => ?_⟩
        · have := (hq i (by rw [hL] at h; exact h)).1
          rw [hg i h, ← this, add_plain]
        · have := (hq i (by rw [hL] at h; exact h)).2.1
          rw [hg i h, ← this, add_plain, add_plain]
        · have := (hq i (by rw [hL] at h; exact h)).2.2
          rw [hg i h, ← this, add_plain, add_plain]
    · rw [hx, hL]
      have := bulk_len ((List.range len).map D)
      simp only [Rows.uptoBulk]
      simp at this
      omega

/-- an act that came in -/
theorem act_of {n : Nat} {cs : List Value} {x : DataW H × List MemPlace} (hl : cs.length = 5) (h : DataW.trod enc Tryz.prog W 0 (fun _ => true) true n 29 cs = some x) : ∃ a : Ac, cs = cA a ∧ EditsAt W (.slice a.ea a.es.length a.ec) a.es ∧ a.es.length ≤ Rows.uptoBulk x.1 ∧ 6 ≤ Rows.uptoBulk x.1 := by
  obtain ⟨xs, k, hk, hxy, _, hxl, hf⟩ := DataW.trod_struct Tryz.underlying29 h
  obtain ⟨y0, y1, y2, y3, y4, rfl⟩ := len5 (l := xs) (by simpa using hxl)
  obtain ⟨v0, v1, v2, v3, v4, rfl⟩ := len5 hl
  have g0 := hf 0 _ rfl
  have g1 := hf 1 _ rfl
  have g2 := hf 2 _ rfl
  have g3 := hf 3 _ rfl
  have g4 := hf 4 _ rfl
  simp [tz_int, tz_bool, tz_eds] at g0 g1 g2 g3 g4
  obtain ⟨n0, rfl⟩ := one_int g0 rfl
  obtain ⟨n1, rfl⟩ := one_int g1 rfl
  obtain ⟨n2, rfl⟩ := one_int g2 rfl
  obtain ⟨b3, rfl⟩ := one_bool g3 rfl
  obtain ⟨es, ea, ec, rfl, hE, hle⟩ := edits_of g4
  have e : Rows.uptoBulk x.1 = Rows.uptoBulk y0.1 + (Rows.uptoBulk y1.1 + (Rows.uptoBulk y2.1 + (Rows.uptoBulk y3.1 + Rows.uptoBulk y4.1))) + 1 := by
    rw [hxy]
    simp [Rows.uptoBulk, Rows.uptoBulkAll]
  have := bulk_one y0.1
  have := bulk_one y1.1
  have := bulk_one y2.1
  have := bulk_one y3.1
  have := bulk_one y4.1
  exact ⟨⟨n0, n1, n2, b3, es, ea, ec⟩, rfl, hE, by show es.length ≤ _; omega, by omega⟩

/-- a script that came in -/
theorem acts_of {fuel : Nat} {v : Value} {x : DataW H × List MemPlace} (hf : DataW.trod enc Tryz.prog W 0 (fun _ => true) true fuel 25 [v] = some x) :
    ∃ l : List Ac, ActsAt W v l ∧ (∀ a ∈ l, EditsAt W (.slice a.ea a.es.length a.ec) a.es ∧ a.es.length ≤ Rows.uptoBulk x.1) ∧ l.length * 6 ≤ Rows.uptoBulk x.1 := by
  rcases Deep.open_slice Tryz.underlying25 hf with ⟨hcs, hx⟩ | ⟨a, len, cap, m, n, D, Pl, hcs, _, hl, hm, hmm, hx, hi⟩
  · obtain rfl : v = .slice none 0 0 := by simpa using hcs
    exact ⟨[], ⟨none, 0, rfl, .inl rfl⟩, fun a h => by simp at h, by simp⟩
  · obtain rfl : v = .slice (some a) len cap := by simpa using hcs
    simp only [if_true] at hmm
    rw [tz_act] at hi
    have each : ∀ i, i < len → ∃ q : Ac, (∀ j u, (cA q)[j]? = some u → W.cell? ((a.add (i * 5)).add j) = some u) ∧ EditsAt W (.slice q.ea q.es.length q.ec) q.es ∧ q.es.length ≤ Rows.uptoBulk (D i) ∧ 6 ≤ Rows.uptoBulk (D i) := fun i hil => by
      obtain ⟨cs, h1, h2⟩ := hi i (by omega)
      obtain ⟨_, hlen, hc⟩ := World.cells?_some h1
      obtain ⟨q, rfl, hE, h3, h4⟩ := act_of hlen h2
      refine ⟨q, fun j u hu => ?_, hE, h3, h4⟩
      have hj : j < 5 := by
        have := (List.getElem?_eq_some_iff.1 hu).1
        simpa [cA] using this
      have := hc j hj
      rw [this]
      exact hu
    have inh : Inhabited Ac := ⟨⟨0, 0, 0, false, [], none, 0⟩⟩
    obtain ⟨q, hq⟩ := Deep.choose_lt (α := Ac) each
    have hL : ((List.range len).map q).length = len := by simp
    have hg : ∀ i (h : i < ((List.range len).map q).length), ((List.range len).map q)[i] = q i := fun i h => by simp
    have hB : ((List.range len).map D).length * 6 ≤ Rows.uptoBulkAll ((List.range len).map D) := bulk_each fun d hd => by
      obtain ⟨i, hi', rfl⟩ := List.mem_map.1 hd
      exact (hq i (List.mem_range.1 hi')).2.2.2
    have hx1 : Rows.uptoBulkAll ((List.range len).map D) ≤ Rows.uptoBulk x.1 := by
      rw [hx]; simp only [Rows.uptoBulk]; omega
    refine ⟨(List.range len).map q, ⟨some a, cap, by rw [hL], ?_⟩, fun c hc => ?_, ?_⟩
    · by_cases h0 : len = 0
      · subst h0
        exact .inl rfl
      · obtain ⟨b, off, spot⟩ := a
        have c0 := (hq 0 (by omega)).1 0 _ rfl
        have hspot : spot = none := by simpa [Addr.add] using World.cell?_spot c0
        subst hspot
        have hbW : b < W.heap.size := cell_lt (o := off) (by simpa [Addr.add] using c0)
        refine .inr ⟨b, off, rfl, hbW, fun i h j u hu => ?_⟩
        rw [hg i h] at hu
        have := (hq i (by rw [hL] at h; exact h)).1 j u hu
        rw [← this, add_plain, add_plain]
    · obtain ⟨i, hi', rfl⟩ := List.mem_map.1 hc
      have h1 := hq i (List.mem_range.1 hi')
      have h2 : Rows.uptoBulk (D i) ≤ Rows.uptoBulkAll ((List.range len).map D) := bulk_part (List.mem_map_of_mem hi')
      exact ⟨h1.2.1, by omega⟩
    · rw [hL]
      simp at hB
      omega
end
end Go.Proofs.YtgamgomepdfgdaaGreat
