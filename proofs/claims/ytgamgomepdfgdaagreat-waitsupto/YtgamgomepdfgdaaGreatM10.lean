import Derived.Test.YtgamgomepdfgdaaGreatM08
import Derived.Test.YtgamgomepdfgdaaGreatM09
import Derived.Test.YtgamgomepdfgdaaGreatM07
namespace Go.Proofs.YtgamgomepdfgdaaGreat
open Go.RowKit

/-- the settings -/
structure Cfg where
  lanes : Nat
  age : Nat
  batch : Nat
  window : Nat
  retries : Nat
  deadline : Nat
  queue : Nat
def Cfg.cells (c : Cfg) : List Value := [.int .i64 c.lanes, .int .i64 c.age, .int .i64 c.batch, .int .i64 c.window, .int .i64 c.retries, .int .i64 c.deadline, .int .i64 c.queue]
def Cfg.Ok (c : Cfg) : Prop := (1 ≤ c.lanes ∧ c.lanes ≤ 4) ∧ (1 ≤ c.age ∧ c.age ≤ 8) ∧ (1 ≤ c.batch ∧ c.batch ≤ 8) ∧ (1 ≤ c.window ∧ c.window ≤ 4) ∧ c.retries ≤ 3 ∧ (1 ≤ c.deadline ∧ c.deadline ≤ 100) ∧ (1 ≤ c.queue ∧ c.queue ≤ 16)

/-- a change that waits -/
structure Ch where
  id : Nat
  lane : Nat
  passed : Nat
  ord : Nat
  edits : List Ed

/-- who waits, and the outcomes -/
structure Qs where
  ids : List Nat
  queue : List Ch
  outs : List (Nat × Nat)
  acked : Nat
def Qs.start : Qs := ⟨[], [], [], 0⟩

/-- what a record does -/
def Qs.does (s : Qs) (r : Rc) : Qs :=
  if r.kind = 1 then { s with ids := s.ids ++ [r.num], queue := s.queue ++ [⟨r.num, r.lane, 0, s.ids.length, r.edits⟩] }
  else if r.kind = 2 then { s with queue := s.queue.filter fun c => c.id != r.num, outs := s.outs ++ [(r.num, 4)] }
  else if r.kind = 6 then { s with acked := s.acked + 1 }
  else s
def Qs.all (rs : List Rc) : Qs := rs.foldl Qs.does Qs.start
theorem Qs.all_snoc (rs : List Rc) (r : Rc) : Qs.all (rs ++ [r]) = (Qs.all rs).does r := by simp [Qs.all]

/-- edits may be (P3) -/
def EdOk (es : List Ed) : Prop := Good okEd Prod.fst es ∧ 1 ≤ es.length ∧ es.length ≤ 4

/-- may a record be written? -/
structure Qs.Can (c : Cfg) (s : Qs) (r : Rc) : Prop where
  kind : r.kind = 1 ∨ r.kind = 2 ∨ r.kind = 6 ∨ r.kind = 7
  num : r.num ≤ 9223372036854775807
  sub : r.kind = 1 → r.num ≤ 1000000 ∧ r.num ∉ s.ids ∧ s.queue.length < c.queue ∧ r.lane < c.lanes ∧ Small r.edits
  cancel : r.kind = 2 → ∃ x ∈ s.queue, x.id = r.num
  ack : r.kind = 6 → s.acked < s.outs.length

def Fits (c : Cfg) (rs : List Rc) : Prop := ∀ k (hk : k < rs.length), (Qs.all (rs.take k)).Can c rs[k]
theorem Fits.nil {c : Cfg} : Fits c [] := fun k hk => by simp at hk
theorem Fits.snoc {c : Cfg} {rs : List Rc} {r : Rc} (h : Fits c rs) (hr : (Qs.all rs).Can c r) : Fits c (rs ++ [r]) := fun k hk => by
  by_cases h1 : k < rs.length
  · rw [List.take_append_of_le_length (by omega)]
    have := h k h1
    rwa [List.getElem_append_left h1]
  · obtain rfl : k = rs.length := by rw [List.length_append, List.length_singleton] at hk; omega
    rw [List.take_append_of_le_length (Nat.le_refl _), List.take_length, List.getElem_concat_length rfl]
    exact hr

/-- what holds all along -/
structure Qs.Inv (c : Cfg) (s : Qs) : Prop where
  len : s.queue.length ≤ c.queue
  ord : s.queue.Pairwise fun x y => x.ord < y.ord
  top : ∀ x ∈ s.queue, x.ord < s.ids.length ∧ x.lane < c.lanes ∧ x.passed = 0 ∧ x.id ≤ 1000000 ∧ Small x.edits
  ack : s.acked ≤ s.outs.length
theorem Qs.Inv.start (c : Cfg) : Qs.Inv c Qs.start := ⟨by simp [Qs.start], by simp [Qs.start], by simp [Qs.start], by simp [Qs.start]⟩
theorem Qs.Inv.step {c : Cfg} {s : Qs} {r : Rc} (h : s.Inv c) (hr : s.Can c r) : (s.does r).Inv c := by
  unfold Qs.does
  split
  · rename_i hk
    obtain ⟨h1, h2, h3, h4, h5⟩ := hr.sub hk
    refine ⟨by simp; omega, ?_, fun x hx => ?_, h.ack⟩
    · show (s.queue ++ _).Pairwise _
      rw [List.pairwise_append]
      refine ⟨h.ord, by simp, fun x hx y hy => ?_⟩
      obtain rfl := List.mem_singleton.1 hy
      exact (h.top x hx).1
    · rcases List.mem_append.1 hx with hx | hx
      · have := h.top x hx
        refine ⟨?_, this.2⟩
        simp; omega
      · obtain rfl := List.mem_singleton.1 hx
        exact ⟨by simp, h4, rfl, h1, h5⟩
  · split
    · refine ⟨Nat.le_trans (List.length_filter_le _ _) h.len, h.ord.filter _, fun x hx => h.top x (List.mem_filter.1 hx).1, ?_⟩
      show s.acked ≤ (s.outs ++ _).length
      have := h.ack
      simp; omega
    · split
      · rename_i hk
        exact ⟨h.len, h.ord, h.top, hr.ack hk⟩
      · exact h
theorem Qs.step_at' {rs : List Rc} {k : Nat} (hk : k < rs.length) : Qs.all (rs.take (k + 1)) = (Qs.all (rs.take k)).does rs[k] := by
  rw [List.take_succ_eq_append_getElem hk, Qs.all_snoc]
theorem Fits.inv {c : Cfg} {rs : List Rc} (h : Fits c rs) : (Qs.all rs).Inv c := by
  have key : ∀ k, k ≤ rs.length → (Qs.all (rs.take k)).Inv c := fun k => by
    induction k with
    | zero => intro _; simpa [Qs.all] using Qs.Inv.start c
    | succ k ih =>
      intro hk
      rw [Qs.step_at' (by omega)]
      exact (ih (by omega)).step (h k (by omega))
  have := key rs.length (Nat.le_refl _)
  rwa [List.take_length] at this
theorem Qs.Can.ok {c : Cfg} {s : Qs} {r : Rc} (hc : c.Ok) (h : s.Can c r) : r.ok := by
  refine ⟨?_, by have := h.num; omega⟩
  rcases h.kind with hk | hk | hk | hk
  · obtain ⟨h1, h2, h3, h4, h5⟩ := h.sub hk
    have := hc.1.2
    exact .inl ⟨hk, by omega, h5⟩
  · exact .inr (.inl hk)
  · exact .inr (.inr (.inr (.inr (.inl hk))))
  · exact .inr (.inr (.inr (.inr (.inr hk))))
theorem Fits.ok {c : Cfg} {rs : List Rc} (hc : c.Ok) (h : Fits c rs) : ∀ r ∈ rs, r.ok := fun r hm => by
  obtain ⟨k, hk, rfl⟩ := List.mem_iff_getElem.1 hm
  exact (h k hk).ok hc
theorem Fits.take {c : Cfg} {rs : List Rc} (h : Fits c rs) : ∀ k, Fits c (rs.take k) := fun k i hi => by
  have hl : i < rs.length ∧ i < k := by rw [List.length_take] at hi; omega
  rw [List.take_take, Nat.min_eq_left (by omega), List.getElem_take]
  exact h i hl.1
theorem Fits.at {c : Cfg} {rs : List Rc} (h : Fits c rs) : ∀ k (hk : k < rs.length), (Qs.all (rs.take k)).Can c rs[k] := h
theorem Qs.step_at {rs : List Rc} {k : Nat} (hk : k < rs.length) : Qs.all (rs.take (k + 1)) = (Qs.all (rs.take k)).does rs[k] := by
  rw [List.take_succ_eq_append_getElem hk, Qs.all_snoc]
/-- no more than records -/
theorem Qs.does_len (s : Qs) (r : Rc) : (s.does r).ids.length ≤ s.ids.length + 1 ∧ (s.does r).outs.length ≤ s.outs.length + 1 := by
  unfold Qs.does
  split
  · simp
  · split
    · simp
    · split <;> simp
theorem Qs.fold_len : ∀ (rs : List Rc) (s : Qs), (rs.foldl Qs.does s).ids.length ≤ s.ids.length + rs.length ∧ (rs.foldl Qs.does s).outs.length ≤ s.outs.length + rs.length
  | [], s => by simp
  | r :: rs, s => by
    have h1 := Qs.does_len s r
    have h2 := Qs.fold_len rs (s.does r)
    rw [List.foldl_cons, List.length_cons]
    omega
theorem Qs.all_len (rs : List Rc) : (Qs.all rs).ids.length ≤ rs.length ∧ (Qs.all rs).outs.length ≤ rs.length := by
  have := Qs.fold_len rs Qs.start
  simpa [Qs.all, Qs.start] using this

/-- the outcomes that are left, as cells -/
def oc : Nat → List (Nat × Nat) → List Value
  | _, [] => []
  | k, o :: l => [.int .i64 ((k : Int) + 1), .int .i64 o.1, .int .i64 o.2] ++ oc (k + 1) l
theorem oc_len : ∀ (k : Nat) (l : List (Nat × Nat)), (oc k l).length = l.length * 3
  | _, [] => rfl
  | k, o :: l => by
    rw [oc, List.length_append, oc_len (k + 1) l]
    simp only [List.length_cons, List.length_nil]
    omega
theorem oc_snoc : ∀ (k : Nat) (l : List (Nat × Nat)) (o : Nat × Nat), oc k (l ++ [o]) = oc k l ++ [.int .i64 (((k + l.length : Nat) : Int) + 1), .int .i64 o.1, .int .i64 o.2]
  | k, [], o => by simp [oc]
  | k, x :: l, o => by
    rw [List.cons_append, oc, oc_snoc (k + 1) l o, oc, List.append_assoc, List.length_cons]
    have : k + 1 + l.length = k + (l.length + 1) := by omega
    rw [this]
end Go.Proofs.YtgamgomepdfgdaaGreat

namespace Go.Proofs.YtgamgomepdfgdaaGreat
open Go.RowKit

/-- who waits, as it lies: the change, its edits' slice -/
abbrev Pw := Ch × Value
def cP (age : Nat) (x : Pw) : List Value := [.int .i64 x.1.id, .int .i64 x.1.lane, .int .i64 x.1.passed, .int .i64 age, .int .i64 x.1.ord, x.2]
def vP (age : Nat) (x : Pw) : Value := .agg #[.int .i64 x.1.id, .int .i64 x.1.lane, .int .i64 x.1.passed, .int .i64 age, .int .i64 x.1.ord, x.2]
theorem info_pw : (Tryz.prog.info? 193).map (fun i => (i.zero, i.size, i.bytes)) = some (some (.agg #[.int .i64 0, .int .i64 0, .int .i64 0, .int .i64 0, .int .i64 0, .slice none 0 0]), 6, 64) := by kernel_rfl

/-- the cells of an element -/
theorem Sl.elems {w : World} {e : TypeId} {g off cap n age : Nat} {q : List Pw} (h : Sl w e 6 (.slice (some ⟨g, off, none⟩) n cap) n (q.flatMap (cP age))) {i : Nat} (hi : i < q.length) :
    w.cell? ⟨g, off + i * 6, none⟩ = some (.int .i64 q[i].1.id) ∧ w.cell? ⟨g, off + i * 6 + 1, none⟩ = some (.int .i64 q[i].1.lane) ∧ w.cell? ⟨g, off + i * 6 + 2, none⟩ = some (.int .i64 q[i].1.passed) ∧ w.cell? ⟨g, off + i * 6 + 3, none⟩ = some (.int .i64 age) ∧ w.cell? ⟨g, off + i * 6 + 4, none⟩ = some (.int .i64 q[i].1.ord) ∧ w.cell? ⟨g, off + i * 6 + 5, none⟩ = some q[i].2 := by
  have k : ∀ j (u : Value), j < 6 → (cP age q[i])[j]? = some u → w.cell? ⟨g, off + i * 6 + j, none⟩ = some u := fun j u hj hu => by
    have := h.cell (j := i * 6 + j) (u := u) (by rw [flat_get (cP age) 6 (fun _ => rfl) q i j hi hj]; exact hu)
    rw [Nat.add_assoc]; exact this
  exact ⟨k 0 _ (by decide) rfl, k 1 _ (by decide) rfl, k 2 _ (by decide) rfl, k 3 _ (by decide) rfl, k 4 _ (by decide) rfl, k 5 _ (by decide) rfl⟩

def FoundZ (id : Int) (q : List Pw) (r : Int) : Prop := (r = -1 ∧ ∀ x ∈ q, (x.1.id : Int) ≠ id) ∨ ∃ k : Nat, r = k ∧ ∃ h : k < q.length, (q[k].1.id : Int) = id ∧ ∀ j (hj : j < k), ((q[j]'(by omega)).1.id : Int) ≠ id
/-- what the search answers -/
def FoundAt (id : Nat) (q : List Pw) (r : Int) : Prop := (r = -1 ∧ ∀ x ∈ q, x.1.id ≠ id) ∨ ∃ k : Nat, r = k ∧ ∃ h : k < q.length, q[k].1.id = id ∧ ∀ j (hj : j < k), (q[j]'(by omega)).1.id ≠ id

set_option maxRecDepth 100000 in
set_option maxHeartbeats 400000 in
theorem cl_waits (age bk : Nat) (id i l p o : Int) (ea : Option Addr) (en ec : Nat) (w : World) (hq : w.cell? ⟨bk, 0, none⟩ = some (.int .i64 id)) (hb : bk < w.heap.size) :
    Calls Tryz.prog 196 #[.agg #[.int .i64 i, .int .i64 l, .int .i64 p, .int .i64 age, .int .i64 o, .slice ea en ec], .pointer (some ⟨bk, 0, none⟩)] w fun e w' => e = .returned (.bool (i == id)) ∧ Below w.heap.size w w' := by
  go_enter Tryz.func196, Tryz.ntmps196
  go_wp2
  go_ret
  exact ⟨rfl, below_new _ _⟩
set_option maxRecDepth 100000 in
set_option maxHeartbeats 400000 in
theorem cl_withdraw (age id bk : Nat) (i l p o : Int) (ea : Option Addr) (en ec : Nat) (w : World) (hq : w.cell? ⟨bk, 0, none⟩ = some (.int .i64 id)) (hb : bk < w.heap.size) :
    Calls Tryz.prog 169 #[.agg #[.int .i64 i, .int .i64 l, .int .i64 p, .int .i64 age, .int .i64 o, .slice ea en ec], .pointer (some ⟨bk, 0, none⟩)] w fun e w' => e = .returned (.bool (i == (id : Int))) ∧ Below w.heap.size w w' := by
  go_enter Tryz.func169, Tryz.ntmps169
  go_wp2
  go_ret
  exact ⟨rfl, below_new _ _⟩

set_option maxRecDepth 100000 in
set_option maxHeartbeats 1000000 in
theorem index_waits (q : List Pw) (age g off cap bk : Nat) (id : Int) (w : World) (hS : Sl w 193 6 (.slice (some ⟨g, off, none⟩) q.length cap) q.length (q.flatMap (cP age))) (hsl : ∀ x ∈ q, IsSl x.2) (hq : w.cell? ⟨bk, 0, none⟩ = some (.int .i64 id)) (hn : q.length ≤ 16) :
    Calls Tryz.prog 204 #[.slice (some ⟨g, off, none⟩) q.length cap, .func (.func 196) #[] #[.pointer (some ⟨bk, 0, none⟩)]] w fun e w' => (∃ r : Int, e = .returned (.int .i64 r) ∧ FoundZ id q r) ∧ Below w.heap.size w w' := by
  have HS : Hid _ := hS
  have hbk := jcell_lt hq
  clear hS
  go_enter Tryz.func204, Tryz.ntmps204
  go_wp2_with fail
  go_loopw [8] (fun i wr => ∃ k : Nat, k ≤ q.length ∧ i = .int .i64 k ∧ Below w.heap.size w wr ∧ Hid (∀ j (h : j < k) (h' : j < q.length), (q[j].1.id : Int) ≠ id)) (fun i _ => q.length - (intOf i).toNat)
  case atStart => exact ⟨0, Nat.zero_le _, rfl, Below.refl _ _, fun j h => by omega⟩
  case round =>
    obtain ⟨k, hk, rfl, hb, hs⟩ := hrel
    have HB : Hid (Below w.heap.size w wr) := hb
    have gq : wr.cell? ⟨bk, 0, none⟩ = some (.int .i64 id) := jcell_after hb hq
    have gk : bk < wr.heap.size := Nat.lt_of_lt_of_le hbk hb.size
    by_cases hlk : k < q.length
    · obtain ⟨d0, d1, d2, d3, d4, d5⟩ := (Sl.later HS.out hb).elems hlk
      obtain ⟨ea, en, ec, he⟩ := hsl _ (List.getElem_mem hlk)
      have hc := cl_waits age bk id q[k].1.id q[k].1.lane q[k].1.passed q[k].1.ord ea en ec wr gq gk
      rw [he] at d5
      have hlt : g < wr.heap.size := jcell_lt d0
      have Hy : Hid ((q[k].1.id : Int) = id → FoundZ id q (k : Int)) := fun h => .inr ⟨k, rfl, hlk, h, fun j hj => hs.out j hj (by omega)⟩
      have Hn : Hid ((q[k].1.id : Int) ≠ id → ∀ j (h : j < k + 1) (h' : j < q.length), (q[j].1.id : Int) ≠ id) := fun h j hj hj' => by
        by_cases e : j = k
        · subst e; exact h
        · exact hs.out j (by omega) hj'
      generalize q[k].1.id = a0 at *
      generalize q[k].1.lane = a1 at *
      generalize q[k].1.passed = a2 at *
      generalize q[k].1.ord = a3 at *
      clear he hb hs
      by_cases hid : (a0 : Int) = id
      · subst hid
        go_wp2_with fail
        go_fit hc
        rintro e w' ⟨rfl, hb1⟩
        go_wp2_with fail
        go_ret
        exact ⟨⟨k, rfl, by first | exact Hy.out rfl | exact Hy.out trivial⟩, HB.out.trans (hb1.mono HB.out.size)⟩
      · have hne : ((a0 : Int) == id) = false := by simpa using hid
        rw [hne] at hc
        go_wp2_with fail
        go_fit hc
        rintro e w' ⟨rfl, hb1⟩
        go_wp2_with fail
        exact ⟨⟨k + 1, hlk, by go_num, HB.out.trans (hb1.mono HB.out.size), Hn.out hid⟩, by simp [intOf]; omega⟩
    · go_wp2_with fail
      go_ret
      refine ⟨⟨-1, rfl, .inl ⟨rfl, fun x hx => ?_⟩⟩, HB.out⟩
      obtain ⟨j, hj, rfl⟩ := List.mem_iff_getElem.1 hx
      exact hs.out j (by omega) hj

set_option maxRecDepth 100000 in
set_option maxHeartbeats 1000000 in
theorem index_withdraw (q : List Pw) (age id g off cap bk : Nat) (w : World) (hS : Sl w 193 6 (.slice (some ⟨g, off, none⟩) q.length cap) q.length (q.flatMap (cP age))) (hsl : ∀ x ∈ q, IsSl x.2) (hq : w.cell? ⟨bk, 0, none⟩ = some (.int .i64 id)) (hn : q.length ≤ 16) :
    Calls Tryz.prog 204 #[.slice (some ⟨g, off, none⟩) q.length cap, .func (.func 169) #[] #[.pointer (some ⟨bk, 0, none⟩)]] w fun e w' => (∃ r : Int, e = .returned (.int .i64 r) ∧ FoundAt id q r) ∧ Below w.heap.size w w' := by
  have HS : Hid _ := hS
  have hbk := jcell_lt hq
  clear hS
  go_enter Tryz.func204, Tryz.ntmps204
  go_wp2_with fail
  go_loopw [8] (fun i wr => ∃ k : Nat, k ≤ q.length ∧ i = .int .i64 k ∧ Below w.heap.size w wr ∧ Hid (∀ j (h : j < k) (h' : j < q.length), q[j].1.id ≠ id)) (fun i _ => q.length - (intOf i).toNat)
  case atStart => exact ⟨0, Nat.zero_le _, rfl, Below.refl _ _, fun j h => by omega⟩
  case round =>
    obtain ⟨k, hk, rfl, hb, hs⟩ := hrel
    have HB : Hid (Below w.heap.size w wr) := hb
    have gq : wr.cell? ⟨bk, 0, none⟩ = some (.int .i64 id) := jcell_after hb hq
    have gk : bk < wr.heap.size := Nat.lt_of_lt_of_le hbk hb.size
    by_cases hlk : k < q.length
    · obtain ⟨d0, d1, d2, d3, d4, d5⟩ := (Sl.later HS.out hb).elems hlk
      obtain ⟨ea, en, ec, he⟩ := hsl _ (List.getElem_mem hlk)
      have hc := cl_withdraw age id bk q[k].1.id q[k].1.lane q[k].1.passed q[k].1.ord ea en ec wr gq gk
      rw [he] at d5
      have hlt : g < wr.heap.size := jcell_lt d0
      have Hy : Hid (q[k].1.id = id → FoundAt id q (k : Int)) := fun h => .inr ⟨k, rfl, hlk, h, fun j hj => hs.out j hj (by omega)⟩
      have Hn : Hid (q[k].1.id ≠ id → ∀ j (h : j < k + 1) (h' : j < q.length), q[j].1.id ≠ id) := fun h j hj hj' => by
        by_cases e : j = k
        · subst e; exact h
        · exact hs.out j (by omega) hj'
      generalize q[k].1.id = a0 at *
      generalize q[k].1.lane = a1 at *
      generalize q[k].1.passed = a2 at *
      generalize q[k].1.ord = a3 at *
      clear he hb hs
      by_cases hid : a0 = id
      · subst hid
        go_wp2_with fail
        go_fit hc
        rintro e w' ⟨rfl, hb1⟩
        go_wp2_with fail
        go_ret
        exact ⟨⟨k, rfl, by first | exact Hy.out rfl | exact Hy.out trivial⟩, HB.out.trans (hb1.mono HB.out.size)⟩
      · have hne : ((a0 : Int) == (id : Int)) = false := by simp; omega
        rw [hne] at hc
        go_wp2_with fail
        go_fit hc
        rintro e w' ⟨rfl, hb1⟩
        go_wp2_with fail
        exact ⟨⟨k + 1, hlk, by go_num, HB.out.trans (hb1.mono HB.out.size), Hn.out hid⟩, by simp [intOf]; omega⟩
    · go_wp2_with fail
      go_ret
      refine ⟨⟨-1, rfl, .inl ⟨rfl, fun x hx => ?_⟩⟩, HB.out⟩
      obtain ⟨j, hj, rfl⟩ := List.mem_iff_getElem.1 hx
      exact hs.out j (by omega) hj

set_option maxRecDepth 100000 in
set_option maxHeartbeats 1000000 in
theorem index_no (f : Value) (a : Option Addr) (cap : Nat) (w : World) :
    Calls Tryz.prog 204 #[.slice a 0 cap, f] w fun e w' => e = .returned (.int .i64 (-1)) ∧ w' = w := by
  go_enter Tryz.func204, Tryz.ntmps204
  go_wp2
  go_loop [8] (fun i => i = .int .i64 0) (fun _ => 0)
  case atStart => rfl
  case round =>
    subst hrel
    go_wp2
    go_ret
    exact ⟨rfl, rfl⟩

/-- does somebody of this id wait? -/
theorem index_any (q : List Pw) (age bk : Nat) (id : Int) (v : Value) (w : World) (hS : Sl w 193 6 v q.length (q.flatMap (cP age))) (hsl : ∀ x ∈ q, IsSl x.2) (hq : w.cell? ⟨bk, 0, none⟩ = some (.int .i64 id)) (hn : q.length ≤ 16) :
    Calls Tryz.prog 204 #[v, .func (.func 196) #[] #[.pointer (some ⟨bk, 0, none⟩)]] w fun e w' => (∃ r : Int, e = .returned (.int .i64 r) ∧ FoundZ id q r) ∧ Below w.heap.size w w' := by
  by_cases h0 : q.length = 0
  · obtain rfl := List.eq_nil_of_length_eq_zero h0
    obtain ⟨a, cap, rfl⟩ := hS.form
    refine (index_no _ a cap w).mono ?_
    rintro e w' ⟨rfl, rfl⟩
    exact ⟨⟨-1, rfl, .inl ⟨rfl, by simp⟩⟩, Below.refl _ _⟩
  · obtain ⟨g, off, cap, rfl, _⟩ := hS.addr (by omega)
    exact index_waits q age g off cap bk id w hS hsl hq hn

set_option maxRecDepth 100000 in
set_option maxHeartbeats 1000000 in
theorem contains_any (q : List Pw) (age bk : Nat) (id : Int) (v : Value) (w : World) (hS : Sl w 193 6 v q.length (q.flatMap (cP age))) (hsl : ∀ x ∈ q, IsSl x.2) (hq : w.cell? ⟨bk, 0, none⟩ = some (.int .i64 id)) (hn : q.length ≤ 16) :
    Calls Tryz.prog 195 #[v, .func (.func 196) #[] #[.pointer (some ⟨bk, 0, none⟩)]] w fun e w' => RetIff e (∃ x ∈ q, (x.1.id : Int) = id) ∧ Below w.heap.size w w' := by
  have hc := index_any q age bk id v w hS hsl hq hn
  obtain ⟨a, cap, rfl⟩ := hS.form
  have HF : Hid (∀ r : Int, FoundZ id q r → (0 ≤ r ↔ ∃ x ∈ q, (x.1.id : Int) = id)) := fun r hr => by
    rcases hr with ⟨rfl, h⟩ | ⟨k, rfl, hk, h1, h2⟩
    · exact ⟨fun h => by omega, fun ⟨x, hx, he⟩ => absurd he (h x hx)⟩
    · exact ⟨fun _ => ⟨q[k], List.getElem_mem hk, h1⟩, fun _ => by omega⟩
  generalize (∃ x ∈ q, (x.1.id : Int) = id) = p at HF ⊢
  clear hS hq
  go_enter Tryz.func195, Tryz.ntmps195
  go_wp2_with fail
  go_fit hc
  rintro e w' ⟨⟨r, rfl, hr⟩, hb⟩
  have Hr : Hid (0 ≤ r ↔ p) := HF.out r hr
  clear hr HF hc
  go_wp2_with fail
  go_ret
  exact ⟨⟨decide (0 ≤ r), rfl, by rw [decide_eq_true_eq]; exact Hr.out⟩, hb⟩

set_option maxRecDepth 100000 in
set_option maxHeartbeats 1000000 in
theorem yWaits (q : List Pw) (age yb : Nat) (id : Int) (v : Value) (cs : Array Value) (w : World) (hB : Bx w yb 201 cs) (h9 : cs[9]? = some v) (hS : Sl w 193 6 v q.length (q.flatMap (cP age))) (hsl : ∀ x ∈ q, IsSl x.2) (hn : q.length ≤ 16) :
    Calls Tryz.prog 158 #[.pointer (some ⟨yb, 0, none⟩), .int .i64 id] w fun e w' => RetIff e (∃ x ∈ q, (x.1.id : Int) = id) ∧ Below w.heap.size w w' := by
  have hc := contains_any q age w.heap.size id v (w.alloc (.cells #[.int .i64 id] 3)) (hS.mk _) hsl (by simp) hn
  obtain ⟨a, cap, rfl⟩ := hS.form
  have c9 := (hB.mk (.cells #[.int .i64 id] 3)).cell h9
  generalize (∃ x ∈ q, (x.1.id : Int) = id) = p at hc ⊢
  clear hS hB
  go_enter Tryz.func158, Tryz.ntmps158
  go_wp2_with fail
  go_fit hc
  rintro e w' ⟨⟨r, rfl, hr⟩, hb⟩
  have Hr : Hid (r = true ↔ p) := hr
  clear hr hc
  go_wp2_with fail
  go_ret
  exact ⟨⟨r, rfl, Hr.out⟩, (below_new _ _).trans (hb.mono (by simp))⟩
end Go.Proofs.YtgamgomepdfgdaaGreat

namespace Go.Proofs.YtgamgomepdfgdaaGreat
open Go.RowKit

theorem wpList_clear_sl' {P : Program} (w : World) {ops : Array Oper} {rest : List Oper} {o : Oper} {a : Act} {Q : Exit → Act → World → Prop} (hgd : o.guard = none) (s : Operand) (t : TypeId)
    (ho : o.op = .call { callee := .builtin .clear, args := #[s], argTypes := #[t] })
    (e : TypeId) (z : Value) (size : Nat) (ht : P.underlying t = some (.slice e)) (hz : ∀ w, (zeroValue e).run P w = .ok z w) (hzs : z.cells.size = size) (h1 : ∀ u ∈ z.cells.toList, u.oneCell' = true)
    (g o' m c : Nat) (hs : a.eval s = .slice (some ⟨g, o', none⟩) (m + 1) c) (cur : Array Value) (hb : w.heap[g]? = some (.cells cur e (0, 0))) (hfit : o' + (m + 1) * size ≤ cur.size)
    (h : ∀ w' cur', w'.heap[g]? = some (.cells cur' e (0, 0)) → cur'.size = cur.size → (∀ j, j < o' → cur'[j]? = cur[j]?) → w.grownBy w' (some g) → wpList P ops Q rest (a.put o.dst (.tuple #[])) w') : wpList P ops Q (o :: rest) a w := by
  refine wpList_plain hgd fun K hK => ?_
  have hl : (Builtin.zeroCells z.cells (m + 1)).toList.length = (m + 1) * size := by rw [Array.length_toList, size_zeroCells, hzs]
  have hm : ∀ u ∈ (Builtin.zeroCells z.cells (m + 1)).toList, u.oneCell' = true := by
    intro u hu
    simp only [Builtin.zeroCells, Array.mem_toList_iff] at hu
    obtain ⟨i, hi, rfl⟩ := Array.mem_map.1 hu
    have hi' : i < (m + 1) * z.cells.size := by simpa using hi
    have hp : 0 < z.cells.size := by
      rcases Nat.eq_zero_or_pos z.cells.size with h0 | h0
      · rw [h0] at hi'; simp at hi'
      · exact h0
    have hlt := Nat.mod_lt i hp
    rw [getElem!_pos z.cells _ hlt]
    exact h1 _ (by simp)
  have hst := run_storeCells_at P g o' e (Builtin.zeroCells z.cells (m + 1)).toList 0 cur w hb (by rw [hl]; simpa using hfit) hm
  simp only [Nat.add_zero] at hst
  have hr : (Builtin.clear_ #[t] o.type #[.slice (some ⟨g, o', none⟩) (m + 1) c]).run P w = .ok (.tuple #[]) (w.setRow g (cur.toList.take o' ++ (Builtin.zeroCells z.cells (m + 1)).toList ++ cur.toList.drop (o' + (Builtin.zeroCells z.cells (m + 1)).toList.length)).toArray) := by
    simp [Builtin.clear_, run_underlying ht, hz, hst]
  unfold Oper.wp execOp
  simp only [ho, resolve, invoke, builtin, Sem.run_bind, Sem.run_pure, Result.andThen_ok, List.map_toArray, List.map_cons, List.map_nil, hs, hr]
  refine hK _ _ (h _ _ (setRow_heap w g cur _ e _ hb) ?_ (fun j hj => ?_) ⟨rfl, rfl, rfl, by simp, fun k _ hk => setRow_other w g k _ (fun e => hk (by rw [e]))⟩)
  · simp only [List.size_toArray, List.length_append, List.length_take, List.length_drop, Array.length_toList]
    rw [Array.length_toList] at hl
    omega
  · have : o' ≤ cur.toList.length := by rw [Array.length_toList]; omega
    rw [List.getElem?_toArray, List.append_assoc, List.getElem?_append_left (by rw [List.length_take]; omega), List.getElem?_take_of_lt hj]
    simp

theorem wpList_clear_sl {P : Program} (w : World) {ops : Array Oper} {rest : List Oper} {o : Oper} {a : Act} {Q : Exit → Act → World → Prop} (hgd : o.guard = none) (s : Operand) (t : TypeId)
    (ho : o.op = .call { callee := .builtin .clear, args := #[s], argTypes := #[t] })
    (e : TypeId) (z : Value) (size : Nat) (ht : P.underlying t = some (.slice e)) (hz : ∀ w, (zeroValue e).run P w = .ok z w) (hzs : z.cells.size = size) (h1 : ∀ u ∈ z.cells.toList, u.oneCell' = true)
    (g o' m c : Nat) (hm : 0 < m) (hs : a.eval s = .slice (some ⟨g, o', none⟩) m c) (cur : Array Value) (hb : w.heap[g]? = some (.cells cur e (0, 0))) (hfit : o' + m * size ≤ cur.size)
    (h : ∀ w' cur', w'.heap[g]? = some (.cells cur' e (0, 0)) → cur'.size = cur.size → (∀ j, j < o' → cur'[j]? = cur[j]?) → w.grownBy w' (some g) → wpList P ops Q rest (a.put o.dst (.tuple #[])) w') : wpList P ops Q (o :: rest) a w := by
  obtain ⟨k, rfl⟩ : ∃ k, m = k + 1 := ⟨m - 1, by omega⟩
  exact wpList_clear_sl' w hgd s t ho e z size ht hz hzs h1 g o' k c hs cur hb hfit h

theorem flat_set6 (age : Nat) (x : Pw) : ∀ (l : List Pw) (i : Nat), i < l.length → (l.set i x).flatMap (cP age) = ((((((l.flatMap (cP age)).set (i * 6) (.int .i64 x.1.id)).set (i * 6 + 1) (.int .i64 x.1.lane)).set (i * 6 + 2) (.int .i64 x.1.passed)).set (i * 6 + 3) (.int .i64 age)).set (i * 6 + 4) (.int .i64 x.1.ord)).set (i * 6 + 5) x.2
  | [], _, h => by simp at h
  | y :: l, 0, _ => by simp [cP]
  | y :: l, i + 1, h => by
    have ih := flat_set6 age x l i (by simpa using h)
    have e : (i + 1) * 6 = i * 6 + 1 + 1 + 1 + 1 + 1 + 1 := by omega
    rw [List.set_cons_succ, List.flatMap_cons, ih, e]
    simp [cP]

theorem Sl.put6 {w : World} {e : TypeId} {g off cap n age : Nat} {q : List Pw} (h : Sl w e 6 (.slice (some ⟨g, off, none⟩) n cap) n (q.flatMap (cP age))) {i : Nat} (hi : i < q.length) (x : Pw) :
    Sl ((((((w.setCell ⟨g, off + i * 6, none⟩ (.int .i64 x.1.id)).setCell ⟨g, off + i * 6 + 1, none⟩ (.int .i64 x.1.lane)).setCell ⟨g, off + i * 6 + 2, none⟩ (.int .i64 x.1.passed)).setCell ⟨g, off + i * 6 + 3, none⟩ (.int .i64 age)).setCell ⟨g, off + i * 6 + 4, none⟩ (.int .i64 x.1.ord)).setCell ⟨g, off + i * 6 + 5, none⟩ x.2) e 6 (.slice (some ⟨g, off, none⟩) n cap) n ((q.set i x).flatMap (cP age)) := by
  rw [flat_set6 age x q i hi]
  have := (((((h.set (i * 6) (.int .i64 x.1.id)).set (i * 6 + 1) (.int .i64 x.1.lane)).set (i * 6 + 2) (.int .i64 x.1.passed)).set (i * 6 + 3) (.int .i64 age)).set (i * 6 + 4) (.int .i64 x.1.ord)).set (i * 6 + 5) x.2
  simpa only [Nat.add_assoc] using this
theorem grown6 (w : World) (g a b c d e f : Nat) (x y z u v t : Value) : w.grownBy ((((((w.setCell ⟨g, a, none⟩ x).setCell ⟨g, b, none⟩ y).setCell ⟨g, c, none⟩ z).setCell ⟨g, d, none⟩ u).setCell ⟨g, e, none⟩ v).setCell ⟨g, f, none⟩ t) (some g) := (((((grown_set w g a x).trans (grown_set _ g b y)).trans (grown_set _ g c z)).trans (grown_set _ g d u)).trans (grown_set _ g e v)).trans (grown_set _ g f t)

/-- all but those of an id -/
def woP (id : Nat) (q : List Pw) : List Pw := q.filter fun x => x.1.id != id
theorem woP_hit {id : Nat} {q : List Pw} {k : Nat} (h : k < q.length) (he : q[k].1.id = id) : woP id (q.take (k + 1)) = woP id (q.take k) := by
  rw [List.take_succ_eq_append_getElem h, woP, woP, List.filter_append]; simp [he]
theorem woP_miss {id : Nat} {q : List Pw} {k : Nat} (h : k < q.length) (he : q[k].1.id ≠ id) : woP id (q.take (k + 1)) = woP id (q.take k) ++ [q[k]] := by
  rw [List.take_succ_eq_append_getElem h, woP, woP, List.filter_append]; simp [he]
theorem woP_all {id : Nat} {q : List Pw} (h : ∀ x ∈ q, x.1.id ≠ id) : woP id q = q := List.filter_eq_self.2 fun x hx => by simpa using h x hx

/-- the row in hand: what is kept, something, what is still to come -/
structure DelAt (id : Nat) (q : List Pw) (j : Nat) (R : List Pw) : Prop where
  len : R.length = q.length
  kept : R.take (woP id (q.take j)).length = woP id (q.take j)
  rest : R.drop j = q.drop j
  less : (woP id (q.take j)).length < j
theorem DelAt.get {id : Nat} {q : List Pw} {j : Nat} {R : List Pw} (h : DelAt id q j R) (hj : j < q.length) : R[j]'(by rw [h.len]; exact hj) = q[j] := by
  have h1 : (R.drop j)[0]'(by rw [h.rest]; simp; omega) = (q.drop j)[0]'(by simp; omega) := by simp only [h.rest]
  simpa using h1
theorem DelAt.miss {id : Nat} {q : List Pw} {j : Nat} {R : List Pw} (h : DelAt id q j R) (hj : j < q.length) (he : q[j].1.id ≠ id) : DelAt id q (j + 1) (R.set (woP id (q.take j)).length q[j]) := by
  have hl := h.less
  have hr := h.len
  have e := woP_miss hj he
  refine ⟨by rw [List.length_set]; exact hr, ?_, ?_, ?_⟩
  · rw [e, List.length_append, List.length_singleton, List.take_succ_eq_append_getElem (by rw [List.length_set]; omega), List.take_set_of_le (Nat.le_refl _), h.kept, List.getElem_set_self]
  · rw [List.drop_set_of_lt (by omega), ← List.drop_drop, h.rest, List.drop_drop]
  · rw [e, List.length_append, List.length_singleton]; omega
theorem DelAt.hit {id : Nat} {q : List Pw} {j : Nat} {R : List Pw} (h : DelAt id q j R) (hj : j < q.length) (he : q[j].1.id = id) : DelAt id q (j + 1) R := by
  have e := woP_hit hj he
  have hl := h.less
  refine ⟨h.len, by rw [e]; exact h.kept, by rw [← List.drop_drop, h.rest, List.drop_drop], by rw [e]; omega⟩
theorem DelAt.start {id : Nat} {q : List Pw} {k : Nat} (hk : k < q.length) (h1 : q[k].1.id = id) (h2 : ∀ j (hj : j < k), (q[j]'(by omega)).1.id ≠ id) : DelAt id q (k + 1) q ∧ (woP id (q.take (k + 1))).length = k := by
  have e : woP id (q.take (k + 1)) = q.take k := by
    rw [woP_hit hk h1]
    refine woP_all fun x hx => ?_
    obtain ⟨j, hj, rfl⟩ := List.mem_iff_getElem.1 hx
    rw [List.length_take] at hj
    rw [List.getElem_take]
    exact h2 j (by omega)
  have hl : (q.take k).length = k := by rw [List.length_take]; omega
  exact ⟨⟨rfl, by rw [e, hl], rfl, by rw [e, hl]; omega⟩, by rw [e, hl]⟩
end Go.Proofs.YtgamgomepdfgdaaGreat
