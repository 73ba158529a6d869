import Derived.Test.YtgamgomepdfgdaaGreatM33
import Derived.Test.YtgamgomepdfgdaaGreatM31
import Derived.Test.YtgamgomepdfgdaaGreatM32
namespace Go.Proofs.YtgamgomepdfgdaaGreat
open Go.RowKit

set_option maxRecDepth 100000 in
set_option maxHeartbeats 1000000 in
theorem refranked0 (nb : Nat) (cs : Array Value) (w : World) (hB : Bx w nb 163 cs) (hv : cs[10]? = some (.slice none 0 0)) :
    Calls Tryz.prog 184 #[.pointer (some ⟨nb, 0, none⟩)] w fun e w' => e = .returned (.slice none 0 0) ∧ Below w.heap.size w w' := by
  have c10 := hB.cell hv
  clear hB hv
  go_enter Tryz.func184, Tryz.ntmps184
  go_wp2
  go_loopw [3, 4, 5, 6] (fun lv Lv _ _ wr => ∃ L : Nat, L ≤ 4 ∧ Lv = .int .i64 L ∧ lv = .slice none 0 0 ∧ wr = w) (fun _ Lv _ _ _ => 4 - (intOf Lv).toNat)
  case atStart => exact ⟨0, Nat.zero_le _, rfl, rfl, rfl⟩
  case round =>
    obtain ⟨L, hL, rfl, rfl, rfl⟩ := hrel
    by_cases hL4 : L < 4
    · have hL4i : (L : Int) < 4 := by omega
      go_wp2
      refine wp_loop_rounds 1 ?_
      rw [rounds_succ]
      go_wp2
      exact ⟨⟨L + 1, hL4, by go_num, rfl, trivial⟩, by simp [intOf]; omega⟩
    · obtain rfl : L = 4 := by omega
      go_wp2
      go_ret
      exact ⟨rfl, Below.refl _ _⟩

theorem grown_undrew {w w' : World} {r : Option Nat} (h : w.drew.grownBy w' r) : w.grownBy w' r := ⟨h.os, h.tape, h.output, h.size, h.block⟩
theorem rk_eq (age : Nat) (q : List Wt) (L : Nat) : rk age q L = rkG (lnOf age) q L := rfl
def tW (x : Wt) : Tw := (x.1, x.2.1, x.2.2.1)
theorem tellQ_ref {age : Nat} {q : List Pw} {s : List Ch} (hq : q.map Prod.fst = s) : (rk age (q.map wt) 4).map tW = tellQ age s := by
  subst hq
  rw [rk_eq, rkG_map, tellQ, rkG_map, List.map_map, List.map_map]; rfl

set_option maxRecDepth 100000 in
set_option maxHeartbeats 2000000 in
theorem rQueue_up (yb : Nat) (c : Cfg) (fv lv : Value) (lr : List Lr) (torn : ByteArray) (broken : Bool) (keep : Int) (w : World) (hR : RefIs w yb c fv lr torn false broken keep lv) (hfv : IsSl fv) (hF : LrFits c lr) (hc : c.Ok) :
    Calls Tryz.prog 138 #[.pointer (some ⟨yb, 0, none⟩)] w fun e w' => ToldQ w w' e c.age (Qs.all (lr.map Prod.fst)).queue ∧ Below w.heap.size w w' := by
  obtain ⟨i0, hi, hz0, hz1, hz2⟩ := info_parts info_apw
  have c10 : w.cell? ⟨yb, 10, none⟩ = some (.bool false) := hR.box.cell (i := 10) rfl
  have hN := rNowOf hR hfv hF hc
  have hI := hF.fits.inv
  generalize Qs.all (lr.map Prod.fst) = s at hN hI ⊢
  have hage : 1 ≤ c.age ∧ c.age < 9 := ⟨hc.2.1.1, by have := hc.2.1.2; omega⟩
  have hq16 : s.queue.length ≤ 16 := Nat.le_trans hI.len hc.2.2.2.2.2.2.2
  have HI : Hid (s.Inv c) := hI
  have hlanes := hc.1.2
  have hl4 : Hid (∀ x ∈ s.queue, x.lane < 4) := fun x hx => by have := (hI.top x hx).2.1; omega
  clear hR hF hc hI
  unfold ToldQ
  obtain ⟨tq, htq⟩ : ∃ t, t = tellQ c.age s.queue := ⟨_, rfl⟩
  rw [← htq]
  have HTQ : Hid (tq = tellQ c.age s.queue) := htq
  clear htq
  go_enter Tryz.func138, Tryz.ntmps138
  go_wp2_with fail
  go_fit hN
  rintro e w1 ⟨⟨nb, rfl, q, idv, qv, ov, h⟩, hb1⟩
  have hql : q.length = s.queue.length := by rw [← h.qs, List.length_map]
  have hRk : Calls Tryz.prog 184 #[.pointer (some ⟨nb, 0, none⟩)] w1 fun e w' => (∃ v', e = .returned v' ∧ w'.ownsRow w1.heap.size 165 4 v' (rk c.age (q.map wt) 4).length ((rk c.age (q.map wt) 4).flatMap cW)) ∧ Below w1.heap.size w1 w' := by
    have hmem : ∀ x ∈ q, x.1 ∈ s.queue := fun x hx => by rw [← h.qs]; exact List.mem_map_of_mem hx
    rcases h.row.2 with ⟨rfl, h0⟩ | ⟨g, cap, cur, rfl, _⟩
    · obtain rfl : q = [] := List.length_eq_zero_iff.1 h0
      refine (refranked0 nb _ w1 h.box rfl).mono ?_
      rintro e w' ⟨rfl, hb⟩
      exact ⟨⟨_, rfl, by rw [show rk c.age (([] : List Pw).map wt) 4 = [] from rfl]; exact World.ownsRow_nil _ _ _ _⟩, hb⟩
    · have hrow := h.row
      have hml : (q.map wt).length = q.length := List.length_map _
      rw [← hml] at hrow
      refine (refranked nb c.age (q.map wt) g cap w.heap.size _ w1 h.box (by rw [hml]; rfl) rfl hage hrow (fun x hx => ?_) (by rw [hml]; omega)).mono ?_
      · obtain ⟨y, hy, rfl⟩ := List.mem_map.1 hx
        have := HI.out.top _ (hmem y hy)
        exact ⟨h.sl y hy, by show y.1.lane < 1000; omega, by show y.1.passed < _; omega⟩
      · rintro e w' ⟨v', rfl, h1, h2⟩
        exact ⟨⟨v', rfl, h1⟩, h2⟩
  have HT : Hid ((rk c.age (q.map wt) 4).map tW = tq) := by rw [HTQ.out]; exact tellQ_ref h.qs
  have hTl : Hid ((rk c.age (q.map wt) 4).length ≤ 16) := by
    have := congrArg List.length HT.out
    rw [List.length_map, HTQ.out, tellQ_len hl4.out] at this
    show _ ≤ _
    omega
  have HSL : Hid (∀ x ∈ rk c.age (q.map wt) 4, IsSl x.2.2.2) := fun x hx => by
    have h1 := (rkG_below (lnOf c.age) (q.map wt) 4).mem_iff.1 hx
    obtain ⟨y, hy, rfl⟩ := List.mem_map.1 (List.mem_filter.1 h1).1
    exact h.sl y hy
  have HB : Hid (Below w.heap.size w w1) := hb1
  clear h hb1 hN hql hl4 HI
  generalize rk c.age (q.map wt) 4 = r at *
  go_wp2_with fail
  go_fit hRk
  rintro e w2 ⟨⟨v2, rfl, hr2⟩, hb2⟩
  have HB2 : Hid (Below w.heap.size w w2) := below_trans HB.out hb2
  have HR2 : Hid (w2.ownsRow w1.heap.size 165 4 v2 r.length (r.flatMap cW)) := hr2
  obtain ⟨a2, c2, rfl⟩ := row_shape3 hr2
  have hrl : r.length ≤ 16 := hTl.out
  clear hr2 hb2 HB hRk
  go_wp2_with fail
  go_loopw [4, 7] (fun ov iv wr => ∃ k : Nat, k ≤ r.length ∧ iv = .int .i64 k ∧ Hid (wr.ownsRow w2.heap.size 71 3 ov k (((r.take k).map tW).flatMap cT)) ∧ Hid (Below w2.heap.size w2 wr)) (fun _ i _ => r.length - (intOf i).toNat)
  case atStart => exact ⟨0, Nat.zero_le _, rfl, World.ownsRow_nil _ _ _ _, Below.refl _ _⟩
  case round =>
    obtain ⟨k, hk, rfl, hr, hb⟩ := hrel
    by_cases hlk : k < r.length
    · have hS : ∃ g, a2 = some ⟨g, 0, none⟩ := by
        rcases HR2.out.2 with ⟨_, h0⟩ | ⟨g, cap, cur, hv, _⟩
        · omega
        · injection hv with hva; exact ⟨g, hva⟩
      obtain ⟨g, rfl⟩ := hS
      have kk : ∀ j (u : Value), j < 4 → (cW r[k])[j]? = some u → wr.cell? ⟨g, k * 4 + j, none⟩ = some u := fun j u hj hu => by
        have := (Sl.of_row HR2.out).cell (j := k * 4 + j) (u := u) (by rw [flat_get cW 4 (fun _ => rfl) r k j hlk hj]; exact hu)
        rw [Nat.zero_add] at this
        exact jcell_after hb.out this
      obtain ⟨ea, en, ec, he⟩ := HSL.out _ (List.getElem_mem hlk)
      have d0 : wr.cell? ⟨g, k * 4, none⟩ = some (.int .i64 r[k].1) := kk 0 _ (by decide) rfl
      have d1 := kk 1 (.int .i64 r[k].2.1) (by decide) rfl
      have d2 := kk 2 (.int .i64 r[k].2.2.1) (by decide) rfl
      have d3 := kk 3 (.slice ea en ec) (by decide) (by rw [← he]; rfl)
      have hgl := jcell_lt d0
      have HW : Hid (((r.take (k + 1)).map tW).flatMap cT = ((r.take k).map tW).flatMap cT ++ [.int .i64 r[k].1, .int .i64 r[k].2.1, .int .i64 r[k].2.2.1]) := by
        show _ = _
        rw [List.take_succ_eq_append_getElem hlk, List.map_append, List.flatMap_append]; simp [cT, tW]
      generalize r[k].1 = x0 at *
      generalize r[k].2.1 = x1 at *
      generalize r[k].2.2.1 = x2 at *
      clear he kk
      have q1 : Hid (k + 1 ≤ maxLen) := by show _ ≤ _; unfold maxLen; omega
      have q2 : Hid ((k + 1) * 24 ≤ 140737488355328) := by show _ ≤ _; omega
      have q3 : Hid (∀ o, w2.heap.size ≤ (wr.alloc o).heap.size) := fun o => q3' hb.out o
      have hne : some g ≠ u4.ownBlock := fun e => by
        have h1 := (World.ownsRow.lt hr.out g e.symm).1
        have h2 := (World.ownsRow.lt HR2.out g rfl).2
        omega
      have KC : Hid (∀ o w3, (wr.alloc o).grownBy w3 u4.ownBlock → ∀ j (u : Value), wr.cell? ⟨g, j, none⟩ = some u → w3.cell? ⟨g, j, none⟩ = some u) := fun o w3 h j u hu => h.cell (jcell_after (below_new wr o) hu) hne
      clear hne
      go_wp2_with fail
      go_region_held_law (fun w' => w'.cell? ⟨g, k * 4, none⟩ = some (.int .i64 x0) ∧ w'.cell? ⟨g, k * 4 + 1, none⟩ = some (.int .i64 x1) ∧ w'.cell? ⟨g, k * 4 + 2, none⟩ = some (.int .i64 x2)) (go_keep) ((refine step_append_tells rfl _ _ 61 rfl w2.heap.size _ i0 _ 3 24 Tryz.underlying61 hi hz0 hz1 hz2 rfl (by decide) u4 _ _ rfl (World.ownsRow.alloc hr.out _) ⟨wr.heap.size, 0, none⟩ 1 1 [.int .i64 x0, .int .i64 x1, .int .i64 x2] rfl rfl (cells_new wr _ _) (by simp [Value.oneCell']) q1.out q2.out (q3.out _) ?_; intro v3 w3 hown3 hg3' hloc3; have hg3 := grown_undrew hg3'; have e0 := KC.out (.cells #[.int .i64 x0, .int .i64 x1, .int .i64 x2] 71) w3 hg3 _ _ d0; have e1 := KC.out (.cells #[.int .i64 x0, .int .i64 x1, .int .i64 x2] 71) w3 hg3 _ _ d1; have e2 := KC.out (.cells #[.int .i64 x0, .int .i64 x1, .int .i64 x2] 71) w3 hg3 _ _ d2; have HO3 : Hid (w3.ownsRow w2.heap.size 71 3 v3 (k + 1) (((r.take k).map tW).flatMap cT ++ [.int .i64 x0, .int .i64 x1, .int .i64 x2])) := hown3; have HG3 : Hid ((wr.alloc (.cells #[.int .i64 x0, .int .i64 x1, .int .i64 x2] 71)).grownBy w3 u4.ownBlock) := hg3; clear hown3 hg3 hg3' hloc3))
      all_goals
        go_wp2_with fail
        refine ⟨⟨k + 1, hlk, by go_num, ?_, ?_⟩, by simp [intOf]; omega⟩
        · show w3.ownsRow _ _ _ _ _ _
          rw [HW.out]
          exact HO3.out
        · exact (hb.out.alloc hb.out.size _).grown HG3.out (q3.out _) (fun j hj => (World.ownsRow.lt hr.out j hj).1)
    · obtain rfl : k = r.length := by omega
      have hr' : Hid (wr.ownsRow w.heap.size 71 3 u4 tq.length (tq.flatMap cT)) := by
        have := row_low hr.out (base' := w.heap.size) HB2.out.size
        rw [List.take_of_length_le (Nat.le_refl _), HT.out] at this
        rwa [← HT.out, List.length_map, HT.out]
      have HB : Hid (Below w.heap.size w wr) := below_trans HB2.out hb.out
      obtain ⟨a4, c4, rfl⟩ := row_shape3 hr'.out
      clear hr
      go_wp2_with fail
      refine bodyPost_ret (by simp [results, Tryz.results138, go_sem]; rfl) rfl ⟨⟨_, by rfl, hr'.out⟩, HB.out⟩
end Go.Proofs.YtgamgomepdfgdaaGreat

namespace Go.Proofs.YtgamgomepdfgdaaGreat
open Go.RowKit

/-- a record of the document's machine: its edits lie in R -/
structure LrIn (w : World) (R : Nat → Prop) (x : Lr) : Prop where
  sl : ∃ a n cap, x.2 = .slice a n cap
  ed : x.1.kind = 1 → 0 < x.1.edits.length ∧ Sl w 49 3 x.2 x.1.edits.length (x.1.edits.flatMap cE) ∧ ∀ q, x.2.ownBlock = some q → R q
theorem LrIn.eds {w : World} {R : Nat → Prop} {x : Lr} (h : LrIn w R x) : ∃ a n cap, x.2 = .slice a n cap ∧ EdsIn w x.1 a n := by
  obtain ⟨a, n, cap, e⟩ := h.sl
  refine ⟨a, n, cap, e, fun hk => ?_⟩
  obtain ⟨h0, hS, _⟩ := h.ed hk
  obtain ⟨b, off, cap', e', _⟩ := hS.addr h0
  have hS' := hS
  rw [e'] at hS'
  rw [e] at e'
  injection e' with e1 e2 e3
  have kk : ∀ i (hi : i < x.1.edits.length) j (u : Value), j < 3 → (cE x.1.edits[i])[j]? = some u → w.cell? ⟨b, off + i * 3 + j, none⟩ = some u := fun i hi j u hj hu => by
    have := hS'.cell (j := i * 3 + j) (u := u) (by rw [flat_get cE 3 (fun _ => rfl) x.1.edits i j hi hj]; exact hu)
    rw [Nat.add_assoc]; exact this
  exact ⟨b, off, e1, e2, hS'.lt rfl, fun i hi => kk i hi 0 _ (by decide) rfl, fun i hi => kk i hi 1 _ (by decide) rfl, fun i hi => kk i hi 2 _ (by decide) rfl⟩
theorem LrIn.kept {w w' : World} {R R' : Nat → Prop} {x : Lr} (h : LrIn w R x) (hk : ∀ k, R k → w'.heap[k]? = w.heap[k]?) (hR : ∀ k, R k → R' k) : LrIn w' R' x :=
  ⟨h.sl, fun hx => ⟨(h.ed hx).1, (h.ed hx).2.1.kept fun q hq => hk q ((h.ed hx).2.2 q hq), fun q hq => hR q ((h.ed hx).2.2 q hq)⟩⟩

/-- the document's machine; R: its blocks -/
structure RefPk (w : World) (R : Nat → Prop) (yb : Nat) (c : Cfg) (σ : Sg) (fv : Value) (ss : List Fl) : Prop where
  ex : ∃ lv lr, RefIs w yb c fv lr (bs σ.T) (!σ.up) σ.br σ.keep lv ∧ lr.map Prod.fst = σ.rs ∧ (∀ x ∈ lr, LrOk x ∧ LrIn w R x) ∧ ∀ q, lv.ownBlock = some q → R q
  fs : Sl w 80 2 fv ss.length (ss.flatMap cF)
  ff : ∀ q, fv.ownBlock = some q → R q
  fy : R yb
  rl : ∀ k, R k → k < w.heap.size
theorem RefPk.kept {w w' : World} {R : Nat → Prop} {yb : Nat} {c : Cfg} {σ : Sg} {fv : Value} {ss : List Fl} (h : RefPk w R yb c σ fv ss) (hs : w.heap.size ≤ w'.heap.size) (hk : ∀ k, R k → w'.heap[k]? = w.heap[k]?) : RefPk w' R yb c σ fv ss := by
  obtain ⟨lv, lr, hR, e, hx, hl⟩ := h.ex
  exact ⟨⟨lv, lr, ⟨(hk yb h.fy).trans hR.box, hR.row.kept fun q hq => hk q (hl q hq)⟩, e, fun x hm => ⟨(hx x hm).1, (hx x hm).2.kept hk fun _ h => h⟩, hl⟩, h.fs.kept fun q hq => hk q (h.ff q hq), h.ff, h.fy, fun k hR => Nat.lt_of_lt_of_le (h.rl k hR) hs⟩
theorem RefPk.later {w w' : World} {R : Nat → Prop} {yb : Nat} {c : Cfg} {σ : Sg} {fv : Value} {ss : List Fl} (h : RefPk w R yb c σ fv ss) (hb : Below w.heap.size w w') : RefPk w' R yb c σ fv ss := h.kept hb.size fun k hk => hb.block k (h.rl k hk)
theorem RefPk.only {w w' : World} {R S : Nat → Prop} {yb : Nat} {c : Cfg} {σ : Sg} {fv : Value} {ss : List Fl} (h : RefPk w R yb c σ fv ss) (hO : Only w w' S) (hn : ∀ k, R k → ¬ S k) : RefPk w' R yb c σ fv ss := h.kept hO.size fun k hk => hO.block k (h.rl k hk) (hn k hk)
theorem RefPk.isl {w : World} {R : Nat → Prop} {yb : Nat} {c : Cfg} {σ : Sg} {fv : Value} {ss : List Fl} (h : RefPk w R yb c σ fv ss) : IsSl fv := by
  obtain ⟨a, cap, e⟩ := h.fs.form
  exact ⟨a, _, cap, e⟩
theorem RefPk.fits {w : World} {R : Nat → Prop} {c : Cfg} {σ : Sg} {lr : List Lr} (hσ : σ.Ok c) (e : lr.map Prod.fst = σ.rs) (hx : ∀ x ∈ lr, LrOk x ∧ LrIn w R x) (hn : σ.rs.length < 1048576) : LrFits c lr :=
  ⟨fun x hm => (hx x hm).1, by rw [e]; exact hσ.fits, by rw [← e, List.length_map] at hn; exact hn⟩

def RDid (w w' : World) (e : Ending) (R : Nat → Prop) (yb : Nat) (c : Cfg) (fv : Value) (ss : List Fl) (a : Int × Sg) : Prop := e = .returned (.int .i64 a.1) ∧ ∃ R', RefPk w' R' yb c a.2 fv ss ∧ Grows w w' R R'
theorem RDid.same {w w' : World} {R : Nat → Prop} {yb : Nat} {c : Cfg} {fv : Value} {ss : List Fl} {k : Int} {σ : Sg} (h : RefPk w R yb c σ fv ss) (hb : Below w.heap.size w w') : RDid w w' (.returned (.int .i64 k)) R yb c fv ss (k, σ) := ⟨rfl, R, h.later hb, Grows.of_below hb⟩

/-- behind a writing: the records, with one more or not -/
theorem RefPk.noted {m : Nat} {xs : List Value} {w w' : World} {R E : Nat → Prop} {yb : Nat} {c : Cfg} {σ σ' : Sg} {fv lv : Value} {ss : List Fl} {lr lr' : List Lr} (h : RefPk w R yb c σ fv ss) (hl : ∀ q, lv.ownBlock = some q → R q) (hrow : Sl w 168 5 lv m xs) (hN : Noted w w' yb c fv lr' (bs σ'.T) (!σ'.up) σ'.br σ'.keep lv) (e' : lr'.map Prod.fst = σ'.rs) (hx : ∀ x ∈ lr, LrOk x ∧ LrIn w R x)
    (hlr : ∀ x ∈ lr', x ∈ lr ∨ (LrOk x ∧ LrIn w E x)) (hE : ∀ k, E k → k < w.heap.size ∧ ¬ R k) : ∃ R', RefPk w' R' yb c σ' fv ss ∧ Only w w' R ∧ ∀ k, R' k → R k ∨ E k ∨ w.heap.size ≤ k := by
  obtain ⟨⟨lv', hR', hls⟩, hO⟩ := hN
  have hs := hO.size
  have hO' : Only w w' R := hO.mono fun k hk => by
    rcases hk with hk | hk
    · rw [hk]; exact h.fy
    · exact hl k hk
  obtain ⟨lv0, lr0, hR0, _⟩ := h.ex
  refine ⟨fun k => R k ∨ E k ∨ (w.heap.size ≤ k ∧ k < w'.heap.size), ⟨⟨lv', lr', hR', e', fun x hm => ?_, fun q hq => ?_⟩, ?_, fun q hq => .inl (h.ff q hq), .inl h.fy, fun k hk => ?_⟩, hO', fun k hk => ?_⟩
  · rcases hlr x hm with hm | ⟨h1, h2⟩
    · refine ⟨(hx x hm).1, ?_⟩
      have hi := (hx x hm).2
      refine ⟨hi.sl, fun hk => ⟨(hi.ed hk).1, (hi.ed hk).2.1.kept fun q hq => hO.block q ((hi.ed hk).2.1.lt hq) fun e => ?_, fun q hq => .inl ((hi.ed hk).2.2 q hq)⟩⟩
      rcases e with e | e
      · exact (hi.ed hk).2.1.ne hR0.box (by decide) (by rw [hq, e])
      · exact (hi.ed hk).2.1.apart hrow (by decide) hq e
    · exact ⟨h1, h2.kept (fun k hEk => hO'.block k (hE k hEk).1 (hE k hEk).2) fun k hk => .inr (.inl hk)⟩
  · rcases hls with h' | ⟨q', h', hq'⟩
    · rw [h'] at hq; exact .inl (hl q hq)
    · exact .inr (.inr ⟨by rw [h'] at hq; cases hq; exact hq', hR'.row.lt hq⟩)
  · refine h.fs.kept fun q hq => hO.block q (h.fs.lt hq) fun e => ?_
    rcases e with e | e
    · exact h.fs.ne hR0.box (by decide) (by rw [hq, e])
    · exact h.fs.apart hrow (by decide) hq e
  · rcases hk with hk | hk | hk
    · exact Nat.lt_of_lt_of_le (h.rl k hk) hs
    · exact Nat.lt_of_lt_of_le (hE k hk).1 hs
    · exact hk.2
  · rcases hk with hk | hk | hk
    · exact .inl hk
    · exact .inr (.inl hk)
    · exact .inr (.inr hk.1)
end Go.Proofs.YtgamgomepdfgdaaGreat

namespace Go.Proofs.YtgamgomepdfgdaaGreat
open Go.RowKit

set_option maxHeartbeats 1000000 in
/-- a record is written -/
theorem rWriteX (R E : Nat → Prop) (yb : Nat) (c : Cfg) (σ : Sg) (fv : Value) (ss : List Fl) (r : Rc) (ea : Option Addr) (en ec : Nat) (W : World) (h : RefPk W R yb c σ fv ss) (hσ : σ.Ok c) (hu : σ.up = true) (hn : σ.rs.length < 1048576) (hr : r.ok) (hlr : LrOk (r, .slice ea en ec)) (hin : LrIn W E (r, .slice ea en ec)) (hE : ∀ k, E k → k < W.heap.size ∧ ¬ R k) :
    Calls Tryz.prog 91 #[.pointer (some ⟨yb, 0, none⟩), .agg #[.int .i64 r.kind, .int .i64 r.lane, .int .i64 r.num, .bool r.pass, .slice ea en ec]] W fun e w' => e = .returned (.int .i64 (σ.write r).1) ∧ ∃ R', RefPk w' R' yb c (σ.write r).2 fv ss ∧ Only W w' R ∧ ∀ k, R' k → R k ∨ E k ∨ W.heap.size ≤ k := by
  obtain ⟨lv, lr, hR, e, hx, hl⟩ := h.ex
  have hnl : lr.length < 1048576 := by rw [← e, List.length_map] at hn; exact hn
  have e' : (lr ++ [((r, .slice ea en ec) : Lr)]).map Prod.fst = σ.rs ++ [r] := by rw [List.map_append, e]; rfl
  have hmem : ∀ x ∈ lr ++ [((r, .slice ea en ec) : Lr)], x ∈ lr ∨ (LrOk x ∧ LrIn W E x) := fun x hx => by
    rcases List.mem_append.1 hx with hx | hx
    · exact .inl hx
    · obtain rfl := List.mem_singleton.1 hx
      exact .inr ⟨hlr, hin⟩
  have hrow := hR.row
  rw [hu] at hR
  by_cases hb : σ.br = false
  · have ew : σ.write r = (0, { σ with rs := σ.rs ++ [r] }) := by simp [Sg.write, hb]
    rw [ew]
    rw [hb] at hR
    refine (rWrite yb c fv lv lr (bs σ.T) false σ.keep r ea en ec W hR hnl).mono ?_
    rintro _ w' ⟨rfl, hN⟩
    refine ⟨rfl, h.noted hl hrow (σ' := { σ with rs := σ.rs ++ [r] }) ?_ e' hx hmem hE⟩
    rw [hu, hb]; exact hN
  · have hb : σ.br = true := by simpa using hb
    rw [hb] at hR
    have hT := hσ.upT hu
    rw [hT] at hR
    have hbl := r.bytes_len
    obtain ⟨k, hk⟩ : ∃ k : Nat, (k : Int) = max 0 (min σ.keep r.bytes.length) := ⟨(max 0 (min σ.keep r.bytes.length)).toNat, by omega⟩
    obtain ⟨a', n', cap', e1, hEd⟩ := hin.eds
    injection e1 with e1 e2 _
    subst e1; subst e2
    refine (rWriteBr yb c fv lv lr (bs []) false σ.keep r ea en ec W hR hnl hr hEd k hk).mono ?_
    rintro _ w' ⟨rfl, hN⟩
    by_cases hkl : (r.bytes.length : Int) ≤ σ.keep
    · have ew : σ.write r = (8, { σ with rs := σ.rs ++ [r], up := false, T := [], br := false }) := by simp [Sg.write, hb, hkl]
      rw [ew]
      rcases hN with ⟨_, hN⟩ | ⟨hk', _⟩
      · exact ⟨rfl, h.noted hl hrow (σ' := { σ with rs := σ.rs ++ [r], up := false, T := [], br := false }) hN e' hx hmem hE⟩
      · omega
    · have ew : σ.write r = (8, { σ with up := false, T := r.bytes.take σ.keep.toNat, br := false }) := by simp [Sg.write, hb, hkl]
      rw [ew]
      have hkk : k = σ.keep.toNat := by omega
      rcases hN with ⟨hk', _⟩ | ⟨_, hN⟩
      · omega
      · refine ⟨rfl, h.noted hl hrow (σ' := { σ with up := false, T := r.bytes.take σ.keep.toNat, br := false }) ?_ e hx (fun x hx => .inl hx) hE⟩
        rw [← hkk]
        by_cases h0 : k = 0
        · rw [if_pos h0] at hN; rw [h0, List.take_zero]; exact hN
        · rw [if_neg h0] at hN; exact hN

theorem plain_ok (kind num : Nat) : LrOk (⟨kind, 0, num, false, []⟩, .slice none 0 0) := ⟨⟨_, _, _, rfl⟩, fun _ => ⟨rfl, rfl⟩⟩
theorem plain_in (W : World) (kind num : Nat) (hk : kind ≠ 1) : LrIn W (fun _ => False) (⟨kind, 0, num, false, []⟩, .slice none 0 0) := ⟨⟨_, _, _, rfl⟩, fun h => absurd h hk⟩
/-- nothing but reading went ahead -/
theorem RDid.of {w W w' : World} {R R' E : Nat → Prop} {yb : Nat} {c : Cfg} {fv : Value} {ss : List Fl} {k : Int} {σ : Sg} (hb : Below w.heap.size w W) (hP : RefPk w' R' yb c σ fv ss) (hO : Only W w' R) (hR : ∀ k, R' k → R k ∨ E k ∨ W.heap.size ≤ k) (hE : ∀ k, E k → w.heap.size ≤ k) : RDid w w' (.returned (.int .i64 k)) R yb c fv ss (k, σ) := by
  refine ⟨rfl, R', hP, (Only.of_below hb).trans hO fun _ h => .inl h, fun k hk => ?_⟩
  rcases hR k hk with h | h | h
  · exact .inl h
  · exact .inr (hE k h)
  · exact .inr (Nat.le_trans hb.size h)

theorem rCancel (R : Nat → Prop) (yb : Nat) (c : Cfg) (σ : Sg) (fv : Value) (ss : List Fl) (id err : Int) (w : World) (h : RefPk w R yb c σ fv ss) (hσ : σ.Ok c) (hc : c.Ok) (hn : σ.rs.length < 1048576) (he : CanErr (Qs.all σ.rs) id err) :
    Calls Tryz.prog 41 #[.pointer (some ⟨yb, 0, none⟩), .int .i64 id] w fun e w' => RDid w w' e R yb c fv ss (σ.cancel id err) := by
  obtain ⟨lv, lr, hR, e, hx, hl⟩ := h.ex
  have hF := RefPk.fits hσ e hx hn
  cases hu : σ.up
  · have ea : σ.cancel id err = (8, σ) := by simp [Sg.cancel, Sg.act, hu]
    rw [ea]
    rw [hu] at hR
    refine (rCancel_down yb c fv lv lr _ σ.br σ.keep id w hR).mono ?_
    rintro _ w' ⟨rfl, rfl⟩
    exact .same h (Below.refl _ _)
  · rw [hu] at hR
    have hI := hσ.fits.inv
    refine (rCancel_up yb c fv lv lr _ σ.br σ.keep id (σ.write ⟨2, 0, id.toNat, false, []⟩).1 (fun W w' => ∃ R', RefPk w' R' yb c (σ.write ⟨2, 0, id.toNat, false, []⟩).2 fv ss ∧ Only W w' R ∧ ∀ k, R' k → R k ∨ False ∨ W.heap.size ≤ k) w hR h.isl hF hc (Qs.all σ.rs) (by rw [e]) ?_).mono ?_
    · intro hex W hb
      obtain ⟨hcan, hid⟩ := can_can (c := c) (err := 0) (.inl ⟨hex, rfl⟩) hI rfl
      have := rWriteX R (fun _ => False) yb c σ fv ss ⟨2, 0, id.toNat, false, []⟩ none 0 0 W (h.later hb) hσ hu hn (hcan.ok hc) (plain_ok _ _) (plain_in _ _ _ (by decide)) (fun _ h => h.elim)
      rw [← hid] at this
      exact this
    · rintro _ w' (⟨hex, rfl, hb⟩ | ⟨hex, rfl, W, hb, R', hP, hO, hR'⟩)
      · obtain rfl := can_fun he (.inr ⟨hex, rfl⟩)
        have ea : σ.cancel id 5 = (5, σ) := by simp [Sg.cancel, Sg.act, hu]
        rw [ea]
        exact .same h hb
      · obtain rfl := can_fun he (.inl ⟨hex, rfl⟩)
        have ea : σ.cancel id 0 = σ.write ⟨2, 0, id.toNat, false, []⟩ := by simp [Sg.cancel, Sg.act, hu]
        rw [ea]
        exact RDid.of hb hP hO hR' (fun _ h => h.elim)

theorem rPoll (R : Nat → Prop) (yb : Nat) (c : Cfg) (σ : Sg) (fv : Value) (ss : List Fl) (w : World) (h : RefPk w R yb c σ fv ss) (hσ : σ.Ok c) (hc : c.Ok) (hn : σ.rs.length < 1048576) :
    Calls Tryz.prog 57 #[.pointer (some ⟨yb, 0, none⟩)] w fun e w' => e = .returned (pollV σ.poll) ∧ Below w.heap.size w w' := by
  obtain ⟨lv, lr, hR, e, hx, hl⟩ := h.ex
  have hF := RefPk.fits hσ e hx hn
  have hlen := (Qs.all_len σ.rs).2
  cases hu : σ.up
  · rw [hu] at hR
    refine (rPoll_down yb c fv lv lr _ σ.br σ.keep w hR).mono ?_
    rintro _ w' ⟨rfl, hb⟩
    exact ⟨by simp [Sg.poll, hu, pollV], hb⟩
  · rw [hu] at hR
    by_cases hlt : (Qs.all σ.rs).acked < (Qs.all σ.rs).outs.length
    · refine (rPoll_some yb c fv lv lr _ σ.br σ.keep w hR h.isl hF hc (Qs.all σ.rs) (by rw [e]) hlt (by omega)).mono ?_
      rintro _ w' ⟨rfl, hb⟩
      exact ⟨by simp [Sg.poll, hu, hlt, pollV], hb⟩
    · refine (rPoll_none yb c fv lv lr _ σ.br σ.keep w hR h.isl hF hc (by rw [e]; have := hσ.fits.inv.ack; omega)).mono ?_
      rintro _ w' ⟨rfl, hb⟩
      exact ⟨by simp [Sg.poll, hu, hlt, pollV], hb⟩

theorem rAck (R : Nat → Prop) (yb : Nat) (c : Cfg) (σ : Sg) (fv : Value) (ss : List Fl) (m err : Int) (w : World) (h : RefPk w R yb c σ fv ss) (hσ : σ.Ok c) (hc : c.Ok) (hn : σ.rs.length < 1048576) (he : AckErr (Qs.all σ.rs) m err) :
    Calls Tryz.prog 93 #[.pointer (some ⟨yb, 0, none⟩), .int .i64 m] w fun e w' => RDid w w' e R yb c fv ss (σ.ack m err) := by
  have hP := rPoll R yb c σ fv ss w h hσ hc hn
  unfold pollV at hP
  cases hu : σ.up
  · have ea : σ.ack m err = (8, σ) := by simp [Sg.ack, Sg.act, hu]
    have ep : σ.poll = (0, 0, 0, 8) := by simp [Sg.poll, hu]
    rw [ep] at hP
    rw [ea]
    refine (rAck_err yb m 8 0 0 0 (by decide) w hP).mono ?_
    rintro _ w' ⟨rfl, hb⟩
    exact .same h hb
  · by_cases hlt : (Qs.all σ.rs).acked < (Qs.all σ.rs).outs.length
    · have ep : σ.poll = (((Qs.all σ.rs).acked : Int) + 1, (((Qs.all σ.rs).outs[(Qs.all σ.rs).acked]'hlt).1 : Int), (((Qs.all σ.rs).outs[(Qs.all σ.rs).acked]'hlt).2 : Int), 0) := by simp [Sg.poll, hu, hlt]
      rw [ep] at hP
      by_cases hm : m = ((Qs.all σ.rs).acked : Int) + 1
      · obtain rfl := ack_fun he (.inl ⟨⟨hlt, hm⟩, rfl⟩)
        obtain ⟨hcan, hid⟩ := ack_can (c := c) he hn rfl
        have ea : σ.ack m 0 = σ.write ⟨6, 0, m.toNat, false, []⟩ := by simp [Sg.ack, Sg.act, hu]
        rw [ea]
        rw [← hm] at hP
        refine (rAck_ok yb m (σ.write ⟨6, 0, m.toNat, false, []⟩).1 _ _ (fun W w' => ∃ R', RefPk w' R' yb c (σ.write ⟨6, 0, m.toNat, false, []⟩).2 fv ss ∧ Only W w' R ∧ ∀ k, R' k → R k ∨ False ∨ W.heap.size ≤ k) w hP fun W hb => ?_).mono ?_
        · have := rWriteX R (fun _ => False) yb c σ fv ss ⟨6, 0, m.toNat, false, []⟩ none 0 0 W (h.later hb) hσ hu hn (hcan.ok hc) (plain_ok _ _) (plain_in _ _ _ (by decide)) (fun _ h => h.elim)
          rw [← hid] at this
          exact this
        · rintro _ w' ⟨rfl, W, hb, R', hP, hO, hR'⟩
          exact RDid.of hb hP hO hR' (fun _ h => h.elim)
      · obtain rfl := ack_fun he (.inr ⟨fun h => hm h.2, rfl⟩)
        have ea : σ.ack m 5 = (5, σ) := by simp [Sg.ack, Sg.act, hu]
        rw [ea]
        refine (rAck_no yb m _ _ _ (fun h => hm h.symm) w hP).mono ?_
        rintro _ w' ⟨rfl, hb⟩
        exact .same h hb
    · obtain rfl := ack_fun he (.inr ⟨fun h => hlt h.1, rfl⟩)
      have ea : σ.ack m 5 = (5, σ) := by simp [Sg.ack, Sg.act, hu]
      have ep : σ.poll = (0, 0, 0, 5) := by simp [Sg.poll, hu, hlt]
      rw [ep] at hP
      rw [ea]
      refine (rAck_err yb m 5 0 0 0 (by decide) w hP).mono ?_
      rintro _ w' ⟨rfl, hb⟩
      exact .same h hb

theorem rSubmit (R : Nat → Prop) (yb : Nat) (c : Cfg) (σ : Sg) (fv : Value) (ss : List Fl) (id lane err : Int) (es : List Ed) (ea : Option Addr) (ec : Nat) (w : World) (h : RefPk w R yb c σ fv ss) (hσ : σ.Ok c) (hc : c.Ok) (hn : σ.rs.length < 1048576) (he : SubErr c (Qs.all σ.rs) id lane es err) (hE : EditsAt w (.slice ea es.length ec) es) (hen : es.length < 8796093022208) :
    Calls Tryz.prog 87 #[.pointer (some ⟨yb, 0, none⟩), .int .i64 id, .int .i64 lane, .slice ea es.length ec] w fun e w' => RDid w w' e R yb c fv ss (σ.sub id lane es err) := by
  obtain ⟨lv, lr, hR, e, hx, hl⟩ := h.ex
  have hF := RefPk.fits hσ e hx hn
  cases hu : σ.up
  · have ea' : σ.sub id lane es err = (8, σ) := by simp [Sg.sub, Sg.act, hu]
    rw [ea']
    rw [hu] at hR
    refine (rSubmit_down yb c fv lv lr _ σ.br σ.keep id lane ea es.length ec w hR).mono ?_
    rintro _ w' ⟨rfl, rfl⟩
    exact .same h (Below.refl _ _)
  · rw [hu] at hR
    refine (rSubmit_up yb c fv lv lr _ σ.br σ.keep id lane (σ.write ⟨1, lane.toNat, id.toNat, false, es⟩).1 es ea ec (fun W g w' => ∃ R', RefPk w' R' yb c (σ.write ⟨1, lane.toNat, id.toNat, false, es⟩).2 fv ss ∧ Only W w' R ∧ ∀ k, R' k → R k ∨ k = g ∨ W.heap.size ≤ k) w hR h.isl hF hc (Qs.all σ.rs) (by rw [e]) hE hen ?_).mono ?_
    · intro h0 W g hb hrow
      obtain ⟨hcan, hid, hla, hsm⟩ := sub_can h0 rfl
      have hok : EditsOK es := by
        rcases h0 with ⟨_, h⟩ | ⟨_, _, h⟩ | ⟨_, _, _, h⟩ | ⟨h, _⟩
        · omega
        · omega
        · omega
        · exact h.2.2.2.2
      have hg : w.heap.size ≤ g ∧ g < W.heap.size := ⟨(World.ownsRow.lt hrow g rfl).1, (World.ownsRow.lt hrow g rfl).2⟩
      have := rWriteX R (fun k => k = g) yb c σ fv ss ⟨1, lane.toNat, id.toNat, false, es⟩ (some ⟨g, 0, none⟩) es.length es.length W (h.later hb) hσ hu hn (hcan.ok hc) ⟨⟨_, _, _, rfl⟩, fun h => absurd rfl h⟩ ⟨⟨_, _, _, rfl⟩, fun _ => ⟨by have := hok.1; show 0 < es.length; omega, Sl.of_row hrow, fun q hq => by simpa [Value.ownBlock] using hq.symm⟩⟩ (fun k hk => by
        subst hk
        exact ⟨hg.2, fun hR => by have := h.rl k hR; omega⟩)
      rw [← hid, ← hla] at this
      exact this
    · rintro _ w' (⟨k', hk', hs, rfl, hb⟩ | ⟨hs, rfl, W, g, hb, hrow, R', hP, hO, hR'⟩)
      · obtain rfl := sub_fun he hs
        have ea' : σ.sub id lane es err = (err, σ) := by simp [Sg.sub, Sg.act, hu, hk']
        rw [ea']
        exact .same h hb
      · obtain rfl := sub_fun he hs
        have ea' : σ.sub id lane es 0 = σ.write ⟨1, lane.toNat, id.toNat, false, es⟩ := by simp [Sg.sub, Sg.act, hu]
        rw [ea']
        exact RDid.of hb hP hO hR' (fun k hk => by rw [hk]; exact (World.ownsRow.lt hrow g rfl).1)
end Go.Proofs.YtgamgomepdfgdaaGreat
