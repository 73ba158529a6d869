import Derived.Test.YtgamgomepdfgdaaGreatM11
import Derived.Test.YtgamgomepdfgdaaGreatM13
namespace Go.Proofs.YtgamgomepdfgdaaGreat
open Go.RowKit

def yardCells (c : Cfg) (mb : Nat) (qv : Value) (sb n : Nat) (ov : Value) : Array Value :=
  #[.int .i64 c.lanes, .int .i64 c.age, .int .i64 c.batch, .int .i64 c.window, .int .i64 c.retries, .int .i64 c.deadline, .int .i64 c.queue, .map (some mb), .slice none 0 0, qv, .map (some sb), .slice none 0 0, .int .i64 0, .int .i64 0, .int .i64 n, ov]

/-- a yard in which nothing was pumped: what lies where; S: its blocks (those of the tip's files apart) -/
structure YardIs (w : World) (S : Nat → Prop) (yb mb : Nat) (c : Cfg) (s : Qs) (q : List Pw) (sb : Nat) (qv ov : Value) : Prop where
  qs : q.map Prod.fst = s.queue
  box : Bx w yb 201 (yardCells c mb qv sb s.outs.length ov)
  row : Sl w 193 6 qv q.length (q.flatMap (cP c.age))
  eds : ∀ x ∈ q, Sl w 49 3 x.2 x.1.edits.length (x.1.edits.flatMap cE)
  sub : Subm w sb s.ids
  ne : sb ≠ mb
  outs : Sl w 99 3 ov (s.outs.length - s.acked) (oc s.acked (s.outs.drop s.acked))
  fy : S yb
  fs : S sb
  fq : ∀ g, qv.ownBlock = some g → S g
  fo : ∀ g, ov.ownBlock = some g → S g
  fe : ∀ x ∈ q, ∀ g, x.2.ownBlock = some g → S g
def YardAt (w : World) (S : Nat → Prop) (yb mb : Nat) (c : Cfg) (s : Qs) : Prop := ∃ q sb qv ov, YardIs w S yb mb c s q sb qv ov

theorem YardAt.kept {w w' : World} {S : Nat → Prop} {yb mb : Nat} {c : Cfg} {s : Qs} (h : YardAt w S yb mb c s) (hk : ∀ k, k < w.heap.size → S k → w'.heap[k]? = w.heap[k]?) : YardAt w' S yb mb c s := by
  obtain ⟨q, sb, qv, ov, h⟩ := h
  exact ⟨q, sb, qv, ov, h.qs, (hk _ h.box.lt h.fy).trans h.box, h.row.kept fun g hg => hk g (h.row.lt hg) (h.fq g hg), fun x hx => (h.eds x hx).kept fun g hg => hk g ((h.eds x hx).lt hg) (h.fe x hx g hg),
    h.sub.same (hk _ h.sub.lt h.fs), h.ne, h.outs.kept fun g hg => hk g (h.outs.lt hg) (h.fo g hg), h.fy, h.fs, h.fq, h.fo, h.fe⟩
theorem YardAt.later {w w' : World} {S : Nat → Prop} {yb mb : Nat} {c : Cfg} {s : Qs} (h : YardAt w S yb mb c s) (hb : Below w.heap.size w w') : YardAt w' S yb mb c s := h.kept fun k hk _ => hb.block k hk
theorem YardAt.mono {w : World} {S T : Nat → Prop} {yb mb : Nat} {c : Cfg} {s : Qs} (h : YardAt w S yb mb c s) (hST : ∀ k, S k → T k) : YardAt w T yb mb c s := by
  obtain ⟨q, sb, qv, ov, h⟩ := h
  exact ⟨q, sb, qv, ov, h.qs, h.box, h.row, h.eds, h.sub, h.ne, h.outs, hST _ h.fy, hST _ h.fs, fun g hg => hST _ (h.fq g hg), fun g hg => hST _ (h.fo g hg), fun x hx g hg => hST _ (h.fe x hx g hg)⟩
theorem YardIs.sl {w : World} {S : Nat → Prop} {yb mb : Nat} {c : Cfg} {s : Qs} {q : List Pw} {sb : Nat} {qv ov : Value} (h : YardIs w S yb mb c s q sb qv ov) : ∀ x ∈ q, IsSl x.2 := fun x hx => by
  obtain ⟨a, cap, e⟩ := (h.eds x hx).form
  exact ⟨a, _, cap, e⟩
theorem YardIs.qlen {w : World} {S : Nat → Prop} {yb mb : Nat} {c : Cfg} {s : Qs} {q : List Pw} {sb : Nat} {qv ov : Value} (h : YardIs w S yb mb c s q sb qv ov) : q.length = s.queue.length := by rw [← h.qs, List.length_map]
theorem Subm.ne_box {w : World} {sb b : Nat} {ids : List Nat} {t : TypeId} {cs : Array Value} (h : Subm w sb ids) (hB : Bx w b t cs) : sb ≠ b := fun e => by
  obtain ⟨D, ⟨es, clock, hh, _⟩, _⟩ := h
  subst e
  unfold Bx at hB
  rw [hB] at hh; cases hh
theorem Subm.ne_sl {w : World} {sb : Nat} {ids : List Nat} {e : TypeId} {size n : Nat} {v : Value} {xs : List Value} (h : Subm w sb ids) (hS : Sl w e size v n xs) : v.ownBlock ≠ some sb := fun hv => by
  obtain ⟨D, ⟨es, clock, hh, _⟩, _⟩ := h
  obtain ⟨cur, hc⟩ := hS.typed hv
  rw [hc] at hh; cases hh
theorem Sl.apart {w : World} {e e' : TypeId} {size n size' n' : Nat} {v v' : Value} {xs xs' : List Value} (h : Sl w e size v n xs) (h' : Sl w e' size' v' n' xs') (hne : e ≠ e') {g : Nat} (hv : v.ownBlock = some g) : v'.ownBlock ≠ some g := fun hv' => by
  obtain ⟨cur, hc⟩ := h.typed hv
  obtain ⟨cur', hc'⟩ := h'.typed hv'
  rw [hc] at hc'
  injection hc' with hc'
  injection hc' with _ h2 _
  exact hne h2
end Go.Proofs.YtgamgomepdfgdaaGreat

namespace Go.Proofs.YtgamgomepdfgdaaGreat
open Go.RowKit

/-- S, and what is new -/
def Plus (S : Nat → Prop) (w : World) : Nat → Prop := fun k => S k ∨ w.heap.size ≤ k

theorem set9 (c : Cfg) (mb : Nat) (qv qv' : Value) (sb n : Nat) (ov : Value) : (yardCells c mb qv sb n ov).setIfInBounds 9 qv' = yardCells c mb qv' sb n ov := rfl
theorem set1415 (c : Cfg) (mb : Nat) (qv : Value) (sb n : Nat) (ov ov' : Value) : ((yardCells c mb qv sb n ov).setIfInBounds 14 (.int .i64 ((n : Int) + 1))).setIfInBounds 15 ov' = yardCells c mb qv sb (n + 1) ov' := by
  simp [yardCells]
theorem set15 (c : Cfg) (mb : Nat) (qv : Value) (sb n : Nat) (ov ov' : Value) : (yardCells c mb qv sb n ov).setIfInBounds 15 ov' = yardCells c mb qv sb n ov' := rfl

theorem woP_fst (id : Nat) (q : List Pw) : (woP id q).map Prod.fst = (q.map Prod.fst).filter fun c => c.id != id := by
  rw [woP, List.filter_map]; rfl
theorem drop_snoc {α : Type} {l : List α} {k : Nat} (h : k ≤ l.length) (x : α) : (l ++ [x]).drop k = l.drop k ++ [x] := List.drop_append_of_le_length h

set_option maxRecDepth 100000 in
set_option maxHeartbeats 4000000 in
theorem yWithdraw (S : Nat → Prop) (yb mb id : Nat) (c : Cfg) (s : Qs) (w : World) (hY : YardAt w S yb mb c s) (hn : s.queue.length ≤ 16) (hex : ∃ x ∈ s.queue, x.id = id) (ho : s.outs.length < 1048576000) (ha : s.acked ≤ s.outs.length) :
    Calls Tryz.prog 116 #[.pointer (some ⟨yb, 0, none⟩), .int .i64 id] w fun e w' => e = .returned (.tuple #[]) ∧ YardAt w' (Plus S w) yb mb c { s with queue := s.queue.filter fun c => c.id != id, outs := s.outs ++ [(id, 4)] } ∧ Only w w' S := by
  obtain ⟨q, sb, qv, ov, h⟩ := hY
  have hql := h.qlen
  have hpos : 0 < q.length := by
    obtain ⟨x, hx, _⟩ := hex
    rw [hql]; exact List.length_pos_of_mem hx
  obtain ⟨g, off, cap, rfl, hnc, hcm⟩ := h.row.addr hpos
  have HY : Hid (YardIs w S yb mb c s q sb (.slice (some ⟨g, off, none⟩) q.length cap) ov) := h
  have hyl := h.box.lt
  have hgl : g < w.heap.size := h.row.lt rfl
  have hgy : g ≠ yb := fun e => h.row.ne h.box (by decide) (by rw [e]; rfl)
  have c9 := (h.box.mk (.cells #[.int .i64 id] 3)).cell (i := 9) rfl
  have hD := delete_row q c.age id g off cap w.heap.size (w.alloc (.cells #[.int .i64 id] 3)) (h.row.mk _) h.sl (by simp) (by omega) (by omega)
  have HE : Hid (∀ W v', Bx W yb 201 (yardCells c mb v' sb s.outs.length ov) → Sl W 99 3 ov (s.outs.length - s.acked) (oc s.acked (s.outs.drop s.acked)) → Calls Tryz.prog 170 #[.pointer (some ⟨yb, 0, none⟩), .int .i64 id, .int .i64 4] W fun e w' => e = .returned (.tuple #[]) ∧ ∃ o', Bx w' yb 201 (yardCells c mb v' sb (s.outs.length + 1) o') ∧ Sl w' 99 3 o' (s.outs.length + 1 - s.acked) (oc s.acked ((s.outs ++ [(id, 4)]).drop s.acked)) ∧ (o'.ownBlock = ov.ownBlock ∨ ∃ g, o'.ownBlock = some g ∧ W.heap.size ≤ g) ∧ Only W w' (fun k => k = yb ∨ ov.ownBlock = some k)) := fun W v' hB hS => by
    refine (yEnd yb _ s.outs.length id 4 ov _ _ W hB rfl rfl hS (by omega) ho).mono ?_
    rintro e w' ⟨rfl, o', h1, h2, h3, h4⟩
    rw [set1415] at h1
    refine ⟨rfl, o', h1, ?_, h3, h4⟩
    rw [drop_snoc ha, oc_snoc, List.length_drop]
    have e1 : s.acked + (s.outs.length - s.acked) = s.outs.length := by omega
    have e2 : s.outs.length + 1 - s.acked = s.outs.length - s.acked + 1 := by omega
    rw [e1, e2]
    exact h2
  clear h hql hex
  go_enter Tryz.func116, Tryz.ntmps116
  go_upto_region 2 with fail
  go_fit hD
  rintro e w1 ⟨rfl, hS1, hG1⟩
  have h := HY.out
  have B1 : Bx w1 yb 201 (yardCells c mb (.slice (some ⟨g, off, none⟩) q.length cap) sb s.outs.length ov) := (h.box.mk _).grown hG1 (by simpa using hgy.symm)
  have HB1 : Hid (Bx w1 yb 201 (yardCells c mb (.slice (some ⟨g, off, none⟩) q.length cap) sb s.outs.length ov)) := B1
  have f9 := B1.fr 9
  have d9 := B1.cell (i := 9) rfl
  have b0 : w1.cell? ⟨w.heap.size, 0, none⟩ = some (.int .i64 id) := World.grownBy.cell hG1 (v := .int .i64 id) (by simp) (by simp; omega)
  have hyw : yb ≠ w.heap.size := by omega
  have HS1 : Hid (Sl w1 193 6 (.slice (some ⟨g, off, none⟩) (woP id q).length cap) (woP id q).length ((woP id q).flatMap (cP c.age))) := hS1
  have HG1 : Hid (w.grownBy w1 (some g)) := (World.grownBy_alloc _ _ _).trans hG1
  clear h hD B1 hS1 hG1 c9
  go_upto_region 2 with fail
  have B2 : Bx (w1.setCell ⟨yb, 9, none⟩ (.slice (some ⟨g, off, none⟩) (woP id q).length cap)) yb 201 (yardCells c mb (.slice (some ⟨g, off, none⟩) (woP id q).length cap) sb s.outs.length ov) := by
    have := HB1.out.set 9 (.slice (some ⟨g, off, none⟩) (woP id q).length cap)
    rwa [set9] at this
  have hov : ∀ k, ov.ownBlock = some k → k ≠ yb ∧ k ≠ g := fun k hk => ⟨fun e => HY.out.outs.ne HY.out.box (by decide) (by rw [hk, e]), fun e => HY.out.outs.apart HY.out.row (by decide) hk (by rw [e]; rfl)⟩
  have O2 : Hid (Sl (w1.setCell ⟨yb, 9, none⟩ (.slice (some ⟨g, off, none⟩) (woP id q).length cap)) 99 3 ov (s.outs.length - s.acked) (oc s.acked (s.outs.drop s.acked))) :=
    (HY.out.outs.grown HG1.out (fun k hk e => (hov k hk).2 (by injection e with e; exact e.symm))).grown (grown_set _ _ _ _) (fun k hk e => (hov k hk).1 (by injection e with e; exact e.symm))
  have R2 : Hid (Sl (w1.setCell ⟨yb, 9, none⟩ (.slice (some ⟨g, off, none⟩) (woP id q).length cap)) 193 6 (.slice (some ⟨g, off, none⟩) (woP id q).length cap) (woP id q).length ((woP id q).flatMap (cP c.age))) :=
    Sl.grown HS1.out (grown_set _ _ _ _) (fun k hk e => hgy (by cases hk; injection e with e; exact e.symm))
  have G2 : Hid (Only w (w1.setCell ⟨yb, 9, none⟩ (.slice (some ⟨g, off, none⟩) (woP id q).length cap)) (fun k => k = yb ∨ k = g)) := (Only.of_grown HG1.out (S := fun k => k = yb ∨ k = g) fun k h => by cases h; exact .inr rfl).set (.inl (.inl rfl))
  have HE2 := HE.out _ _ B2 O2.out
  have b2 : (w1.setCell ⟨yb, 9, none⟩ (.slice (some ⟨g, off, none⟩) (woP id q).length cap)).cell? ⟨w.heap.size, 0, none⟩ = some (.int .i64 id) := by
    rw [World.cell?_setCell_other _ _ _ _ (by intro e; injection e with e; omega)]; exact b0
  generalize w1.setCell ⟨yb, 9, none⟩ (.slice (some ⟨g, off, none⟩) (woP id q).length cap) = W at *
  clear HE HB1 HS1 HG1 B2 hov b0 f9 d9
  go_wp2_with fail
  go_fit HE2
  rintro e w3 ⟨rfl, o', h1, h2, h3, h4⟩
  have H1 : Hid _ := h1
  have H2 : Hid _ := h2
  have H3 : Hid _ := h3
  have H4 : Hid _ := h4
  clear h1 h2 h3 h4 HE2 b2
  go_wp2_with fail
  have h := HY.out
  have hsz : w.heap.size ≤ W.heap.size := G2.out.size
  have O : Only w w3 (fun k => k = yb ∨ k = g ∨ ov.ownBlock = some k) := (G2.out.mono fun k hk => by
      rcases hk with hk | hk
      · exact .inl hk
      · exact .inr (.inl hk)).trans H4.out fun k hk => by
    rcases hk with hk | hk
    · exact .inl (.inl hk)
    · exact .inl (.inr (.inr hk))
  have hrow : Sl w3 193 6 (.slice (some ⟨g, off, none⟩) (woP id q).length cap) (woP id q).length ((woP id q).flatMap (cP c.age)) := R2.out.kept fun k hk => H4.out.block k (R2.out.lt hk) (fun e => by
      cases hk
      rcases e with e | e
      · exact hgy e
      · exact h.outs.apart h.row (by decide) e rfl)
  have nold : ∀ k, k < w.heap.size → k ≠ yb → k ≠ g → ov.ownBlock ≠ some k → w3.heap[k]? = w.heap[k]? := fun k hk h1 h2 h3 => O.block k hk (fun e => by
      rcases e with e | e | e
      · exact h1 e
      · exact h2 e
      · exact h3 e)
  refine bodyPost_end (v := .tuple #[]) (results_none (by kernel_rfl) _ _ _) rfl ⟨rfl, ⟨woP id q, sb, .slice (some ⟨g, off, none⟩) (woP id q).length cap, o', ?_⟩, O.mono fun k hk => ?_⟩
  · refine ⟨by rw [woP_fst, h.qs], ?_, hrow, fun x hx => ?_, ?_, h.ne, ?_, .inl h.fy, .inl h.fs, fun k hk => .inl (h.fq k hk), fun k hk => ?_, fun x hx k hk => .inl (h.fe x (List.mem_filter.1 hx).1 k hk)⟩
    · show Bx w3 yb _ (yardCells c mb _ sb (s.outs ++ [(id, 4)]).length o')
      rw [List.length_append]; exact H1.out
    · have hx' := (List.mem_filter.1 hx).1
      have he := h.eds x hx'
      exact he.kept fun k hk => nold k (he.lt hk) (fun e => he.ne h.box (by decide) (by rw [hk, e])) (fun e => he.apart h.row (by decide) hk (by rw [e]; rfl)) (he.apart h.outs (by decide) hk)
    · exact h.sub.same (nold sb h.sub.lt (h.sub.ne_box h.box) (fun e => h.sub.ne_sl h.row (by rw [e]; rfl)) (h.sub.ne_sl h.outs))
    · show Sl w3 _ 3 o' ((s.outs ++ [(id, 4)]).length - s.acked) _
      rw [List.length_append]; exact H2.out
    · rcases H3.out with e | ⟨k', e, hk'⟩
      · rw [e] at hk; exact .inl (h.fo k hk)
      · rw [e] at hk; cases hk; exact .inr (Nat.le_trans hsz hk')
  · rcases hk with hk | hk | hk
    · rw [hk]; exact h.fy
    · rw [hk]; exact h.fq g rfl
    · exact h.fo k hk
end Go.Proofs.YtgamgomepdfgdaaGreat
