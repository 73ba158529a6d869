import Derived.Test.YtgamgomepdfgdaaGreatM34
import Derived.Test.YtgamgomepdfgdaaGreatM19
namespace Go.Proofs.YtgamgomepdfgdaaGreat
open Go.RowKit

/-- only the box was written, or nothing -/
theorem RefPk.boxed {w w' : World} {R : Nat → Prop} {yb : Nat} {c : Cfg} {σ σ' : Sg} {fv lv : Value} {ss : List Fl} {lr : List Lr} (h : RefPk w R yb c σ fv ss) (hl : ∀ q, lv.ownBlock = some q → R q) (hx : ∀ x ∈ lr, LrOk x ∧ LrIn w R x) (hO : Only w w' (fun j => j = yb)) (hR' : RefIs w' yb c fv lr (bs σ'.T) (!σ'.up) σ'.br σ'.keep lv) (hrow : Sl w 168 5 lv lr.length (lr.flatMap cL)) (e' : lr.map Prod.fst = σ'.rs) : RefPk w' R yb c σ' fv ss := by
  obtain ⟨R', hP, hO', hs⟩ := h.noted (E := fun _ => False) hl hrow (σ' := σ') ⟨⟨lv, hR', .inl rfl⟩, hO.mono fun _ h => .inl h⟩ e' hx (fun x hx => .inl hx) (fun _ h => h.elim)
  obtain ⟨lv0, lr0, hR0, _⟩ := h.ex
  refine ⟨⟨lv, lr, hR', e', fun x hm => ⟨(hx x hm).1, (hx x hm).2.sl, fun hk => ⟨((hx x hm).2.ed hk).1, ((hx x hm).2.ed hk).2.1.kept fun q hq => hO.block q (((hx x hm).2.ed hk).2.1.lt hq) fun e => ?_, ((hx x hm).2.ed hk).2.2⟩⟩, hl⟩, h.fs.kept fun q hq => hO.block q (h.fs.lt hq) fun e => ?_, h.ff, h.fy, fun k hk => Nat.lt_of_lt_of_le (h.rl k hk) hO.size⟩
  · exact ((hx x hm).2.ed hk).2.1.ne hR0.box (by decide) (by rw [hq, e])
  · exact h.fs.ne hR0.box (by decide) (by rw [hq, e])

theorem rBreak (R : Nat → Prop) (yb : Nat) (c : Cfg) (σ : Sg) (fv : Value) (ss : List Fl) (k : Int) (w : World) (h : RefPk w R yb c σ fv ss) :
    Calls Tryz.prog 49 #[.pointer (some ⟨yb, 0, none⟩), .int .i64 k] w fun e w' => RDid w w' e R yb c fv ss (σ.brk k) := by
  obtain ⟨lv, lr, hR, e, hx, hl⟩ := h.ex
  cases hu : σ.up
  · have ea : σ.brk k = (8, σ) := by simp [Sg.brk, hu]
    rw [ea]
    rw [hu] at hR
    refine (rBreak_down yb c fv lv lr _ σ.br σ.keep k w hR).mono ?_
    rintro _ w' ⟨rfl, rfl⟩
    exact .same h (Below.refl _ _)
  · have ea : σ.brk k = (0, { σ with br := true, keep := k }) := by simp [Sg.brk, hu]
    rw [ea]
    have hrow := hR.row
    rw [hu] at hR
    refine (rBreak_up yb c fv lv lr _ σ.br σ.keep k w hR).mono ?_
    rintro _ w' ⟨rfl, hR', hO⟩
    refine ⟨rfl, R, h.boxed hl hx hO ?_ hrow e, hO.mono fun q hq => (by rw [hq]; exact h.fy), fun _ h => .inl h⟩
    show RefIs w' yb c fv lr (bs σ.T) (!σ.up) true k lv
    rw [hu]; exact hR'

theorem rCrash (R : Nat → Prop) (yb : Nat) (c : Cfg) (σ : Sg) (fv : Value) (ss : List Fl) (w : World) (h : RefPk w R yb c σ fv ss) (hσ : σ.Ok c) :
    Calls Tryz.prog 51 #[.pointer (some ⟨yb, 0, none⟩)] w fun e w' => RDid w w' e R yb c fv ss σ.crash := by
  obtain ⟨lv, lr, hR, e, hx, hl⟩ := h.ex
  cases hu : σ.up
  · have ea : σ.crash = (8, σ) := by simp [Sg.crash, hu]
    rw [ea]
    rw [hu] at hR
    refine (rCrash_down yb c fv lv lr _ σ.br σ.keep w hR).mono ?_
    rintro _ w' ⟨rfl, rfl⟩
    exact .same h (Below.refl _ _)
  · have ea : σ.crash = (0, { σ with up := false, T := [], br := false }) := by simp [Sg.crash, hu]
    rw [ea]
    have hrow := hR.row
    rw [hu, hσ.upT hu] at hR
    refine (rCrash_up yb c fv lv lr _ σ.br σ.keep w hR).mono ?_
    rintro _ w' ⟨rfl, hR', hO⟩
    exact ⟨rfl, R, h.boxed (σ' := { σ with up := false, T := [], br := false }) hl hx hO hR' hrow e, hO.mono fun q hq => (by rw [hq]; exact h.fy), fun _ h => .inl h⟩

theorem rRecover (R : Nat → Prop) (yb : Nat) (c : Cfg) (σ : Sg) (fv : Value) (ss : List Fl) (w : World) (h : RefPk w R yb c σ fv ss) (hσ : σ.Ok c) (hn : σ.rs.length < 1048576) :
    Calls Tryz.prog 52 #[.pointer (some ⟨yb, 0, none⟩)] w fun e w' => RDid w w' e R yb c fv ss σ.recover := by
  obtain ⟨lv, lr, hR, e, hx, hl⟩ := h.ex
  cases hu : σ.up
  · have ea : σ.recover = (0, { σ with rs := σ.rs ++ [rc7], up := true, T := [], br := false }) := by simp [Sg.recover, hu]
    rw [ea]
    have hrow := hR.row
    rw [hu, hσ.downB hu] at hR
    refine (rRecover_down yb c fv lv lr _ false σ.keep w hR (by rw [← e, List.length_map] at hn; exact hn)).mono ?_
    rintro _ w' ⟨rfl, hN⟩
    obtain ⟨R', hP, hO, hs⟩ := h.noted (E := fun _ => False) (σ' := { σ with rs := σ.rs ++ [rc7], up := true, T := [], br := false }) hl hrow hN (by rw [List.map_append, e]; rfl) hx (fun x hx => by
      rcases List.mem_append.1 hx with hx | hx
      · exact .inl hx
      · obtain rfl := List.mem_singleton.1 hx
        exact .inr ⟨plain_ok 7 0, plain_in w 7 0 (by decide)⟩) (fun _ h => h.elim)
    exact RDid.of (Below.refl _ _) hP hO hs (fun _ h => h.elim)
  · have ea : σ.recover = (9, σ) := by simp [Sg.recover, hu]
    rw [ea]
    rw [hu] at hR
    refine (rRecover_up yb c fv lv lr _ σ.br σ.keep w hR).mono ?_
    rintro _ w' ⟨rfl, rfl⟩
    exact .same h (Below.refl _ _)

theorem rLogX (R : Nat → Prop) (yb : Nat) (c : Cfg) (σ : Sg) (fv : Value) (ss : List Fl) (w : World) (h : RefPk w R yb c σ fv ss) (hσ : σ.Ok c) (hc : c.Ok) (hn : σ.rs.length < 1048576) :
    Calls Tryz.prog 143 #[.pointer (some ⟨yb, 0, none⟩)] w fun e w' => e = .returned (.string (bs (allB σ.rs ++ σ.T))) ∧ Below w.heap.size w w' := by
  obtain ⟨lv, lr, hR, e, hx, hl⟩ := h.ex
  have hok := hσ.fits.ok hc
  have hal := allB_len hok
  have htl := torn_len hσ.torn
  rw [← e]
  refine rLog yb c fv lv lr σ.T _ σ.br σ.keep w hR (fun x hm => ⟨hok x.1 (by rw [← e]; exact List.mem_map_of_mem hm), (hx x hm).2.eds⟩) (by rw [← e, List.length_map] at hn; exact hn) (by rw [e]; omega)

theorem rMainX (R : Nat → Prop) (yb : Nat) (c : Cfg) (σ : Sg) (fv : Value) (ss : List Fl) (w : World) (h : RefPk w R yb c σ fv ss) (hσ : σ.Ok c) (hc : c.Ok) (hn : σ.rs.length < 1048576) :
    Calls Tryz.prog 136 #[.pointer (some ⟨yb, 0, none⟩)] w fun e w' => e = .returned (.tuple #[.slice none 0 0, .int .i64 σ.err]) ∧ Below w.heap.size w w' := by
  obtain ⟨lv, lr, hR, e, hx, hl⟩ := h.ex
  have hF := RefPk.fits hσ e hx hn
  cases hu : σ.up
  · rw [hu] at hR
    refine (rMain_down yb c fv lv lr _ σ.br σ.keep w hR).mono ?_
    rintro _ w' ⟨rfl, rfl⟩
    exact ⟨by simp [Sg.err, hu], Below.refl _ _⟩
  · rw [hu] at hR
    refine (rMain_up yb c fv lv lr _ σ.br σ.keep w hR h.isl hF hc).mono ?_
    rintro _ w' ⟨rfl, hb⟩
    exact ⟨by simp [Sg.err, hu], hb⟩

theorem rTrainX (R : Nat → Prop) (yb : Nat) (c : Cfg) (σ : Sg) (fv : Value) (ss : List Fl) (w : World) (h : RefPk w R yb c σ fv ss) (hσ : σ.Ok c) (hc : c.Ok) (hn : σ.rs.length < 1048576) :
    Calls Tryz.prog 140 #[.pointer (some ⟨yb, 0, none⟩)] w fun e w' => e = .returned (.tuple #[.slice none 0 0, .int .i64 σ.err]) ∧ Below w.heap.size w w' := by
  obtain ⟨lv, lr, hR, e, hx, hl⟩ := h.ex
  have hF := RefPk.fits hσ e hx hn
  cases hu : σ.up
  · rw [hu] at hR
    refine (rTrain_down yb c fv lv lr _ σ.br σ.keep w hR).mono ?_
    rintro _ w' ⟨rfl, rfl⟩
    exact ⟨by simp [Sg.err, hu], Below.refl _ _⟩
  · rw [hu] at hR
    refine (rTrain_up yb c fv lv lr _ σ.br σ.keep w hR h.isl hF hc).mono ?_
    rintro _ w' ⟨rfl, hb⟩
    exact ⟨by simp [Sg.err, hu], hb⟩

theorem rJobsX (R : Nat → Prop) (yb : Nat) (c : Cfg) (σ : Sg) (fv : Value) (ss : List Fl) (w : World) (h : RefPk w R yb c σ fv ss) (hσ : σ.Ok c) (hc : c.Ok) (hn : σ.rs.length < 1048576) :
    Calls Tryz.prog 92 #[.pointer (some ⟨yb, 0, none⟩)] w fun e w' => e = .returned (.tuple #[.slice none 0 0, .int .i64 σ.err]) ∧ Below w.heap.size w w' := by
  obtain ⟨lv, lr, hR, e, hx, hl⟩ := h.ex
  have hF := RefPk.fits hσ e hx hn
  cases hu : σ.up
  · rw [hu] at hR
    refine (rJobs_down yb c fv lv lr _ σ.br σ.keep w hR).mono ?_
    rintro _ w' ⟨rfl, rfl⟩
    exact ⟨by simp [Sg.err, hu], Below.refl _ _⟩
  · rw [hu] at hR
    refine (rJobs_up yb c fv lv lr _ σ.br σ.keep w hR h.isl hF hc).mono ?_
    rintro _ w' ⟨rfl, hb⟩
    exact ⟨by simp [Sg.err, hu], hb⟩

theorem rQueueX (R : Nat → Prop) (yb : Nat) (c : Cfg) (σ : Sg) (fv : Value) (ss : List Fl) (w : World) (h : RefPk w R yb c σ fv ss) (hσ : σ.Ok c) (hc : c.Ok) (hn : σ.rs.length < 1048576) :
    Calls Tryz.prog 138 #[.pointer (some ⟨yb, 0, none⟩)] w fun e w' => TellsQ w w' e c σ ∧ Below w.heap.size w w' := by
  obtain ⟨lv, lr, hR, e, hx, hl⟩ := h.ex
  have hF := RefPk.fits hσ e hx hn
  cases hu : σ.up
  · rw [hu] at hR
    refine (rQueue_down yb c fv lv lr _ σ.br σ.keep w hR).mono ?_
    rintro _ w' ⟨rfl, rfl⟩
    exact ⟨.inr ⟨hu, rfl⟩, Below.refl _ _⟩
  · rw [hu] at hR
    refine (rQueue_up yb c fv lv lr _ σ.br σ.keep w hR h.isl hF hc).mono ?_
    rintro _ w' ⟨h, hb⟩
    exact ⟨.inl ⟨hu, by rw [← e]; exact h⟩, hb⟩

/-- the files of the beginning; or the machine is down -/
theorem rTreeX (R : Nat → Prop) (yb : Nat) (c : Cfg) (σ : Sg) (fv : Value) (ss : List Fl) (w : World) (h : RefPk w R yb c σ fv ss) (hσ : σ.Ok c) (hc : c.Ok) (hn : σ.rs.length < 1048576) :
    Calls Tryz.prog 134 #[.pointer (some ⟨yb, 0, none⟩)] w fun e w' => e = .returned (.tuple #[if σ.up = false then .slice none 0 0 else fv, .int .i64 σ.err]) ∧ Below w.heap.size w w' := by
  obtain ⟨lv, lr, hR, e, hx, hl⟩ := h.ex
  have hF := RefPk.fits hσ e hx hn
  cases hu : σ.up
  · rw [hu] at hR
    refine (rTree_down yb c fv lv lr _ σ.br σ.keep w hR).mono ?_
    rintro _ w' ⟨rfl, rfl⟩
    exact ⟨by simp [Sg.err, hu], Below.refl _ _⟩
  · rw [hu] at hR
    obtain ⟨fa, fn, fc, rfl⟩ := h.isl
    refine (rTree_up yb c fa fn fc lv lr _ σ.br σ.keep w hR hF hc).mono ?_
    rintro _ w' ⟨rfl, hb⟩
    exact ⟨by simp [Sg.err, hu], hb⟩
end Go.Proofs.YtgamgomepdfgdaaGreat

namespace Go.Proofs.YtgamgomepdfgdaaGreat
open Go.RowKit

/-- append, at a row of ours: it stays where it is, or nothing old is written -/
theorem run_append_slt {P : Program} (w : World) (t ty e : TypeId) (i : TypeInfo) (z : Value) (size bytes : Nat) (ht : P.underlying t = some (.slice e)) (hi : P.info? e = some i) (hz : i.zero = some z)
    (hsize : i.size = size) (hby : i.bytes = bytes) (hzs : z.cells.size = size) (hsz : 0 < size)
    (v : Value) (n : Nat) (xs : List Value) (hown : Sl w e size v n xs)
    (a : Addr) (m c : Nat) (news : List Value) (hl : news.length = m * size) (hnews : ∀ j u, news[j]? = some u → w.cell? (a.add j) = some u) (h1 : ∀ u ∈ news, u.oneCell' = true) (hm : 0 < m)
    (h63 : n + m ≤ maxLen) (hbytes : (n + m) * bytes ≤ 140737488355328) :
    ∃ v' w', (Builtin.append_ #[t, t] ty #[v, .slice (some a) m c]).run P w = .ok v' w' ∧ Sl w' e size v' (n + m) (xs ++ news) ∧ ((∃ b cap, v = .slice b n cap ∧ v' = .slice b (n + m) cap ∧ w.grownBy w' v.ownBlock) ∨ (w.grownBy w' none ∧ ∃ g, v'.ownBlock = some g ∧ w.heap.size ≤ g)) := by
  have fresh : ∀ (v' : Value) (w' : World), w'.ownsRow w.heap.size e size v' (n + m) (xs ++ news) → ∃ g, v'.ownBlock = some g ∧ w.heap.size ≤ g := fun v' w' r => by
    rcases r.2 with ⟨_, h0⟩ | ⟨g', cap', cur', rfl, hb, _⟩
    · omega
    · exact ⟨g', rfl, hb⟩
  rcases hown.2 with ⟨rfl, rfl⟩ | ⟨g, off, cap, cur, rfl, hg, hnc, hcm, hcs, hr⟩
  · obtain rfl : xs = [] := List.eq_nil_of_length_eq_zero (by simpa using hown.1)
    obtain ⟨v', w', r, r1, r2, _, _⟩ := run_append_own_at (P := P) w w.heap.size t ty e i z size bytes ht hi hz hsize hby hzs hsz (.slice none 0 0) 0 [] (World.ownsRow_nil w _ e size) a m c news hl hnews h1 h63 hbytes (Nat.le_refl _)
    exact ⟨v', w', r, Sl.of_row r1, .inr ⟨r2, fresh v' w' r1⟩⟩
  · by_cases hroom : n + m ≤ cap
    · obtain ⟨v', w', r, r1, r2, _⟩ := run_append_sl (P := P) w t ty e i z size bytes ht hi hz hsize hby hzs hsz _ n xs hown a m c news hl hnews h1 h63 hbytes
      subst hsize
      have hfit : off + n * i.size + news.length ≤ cur.size := by
        have : (n + m) * i.size ≤ cap * i.size := Nat.mul_le_mul_right _ hroom
        rw [Nat.add_mul] at this
        omega
      have hf := run_firstCells_some (P := P) w i.size m a m c news hl hnews
      have hst := run_storeCells_at P g (off + n * i.size) e news 0 cur w hg (by simpa using hfit) h1
      simp only [Nat.add_zero] at hst
      have hrun : (Builtin.append_ #[t, t] ty #[.slice (some ⟨g, off, none⟩) n cap, .slice (some a) m c]).run P w = .ok (.slice (some ⟨g, off, none⟩) (n + m) cap) (w.setRow g (cur.toList.take (off + n * i.size) ++ news ++ cur.toList.drop (off + n * i.size + news.length)).toArray) := by
        simp [Builtin.append_, run_underlying ht, sizeOf, typeInfo, hi, Builtin.lenOf, hroom, hf, Addr.add_lit, hst]
      rw [hrun] at r
      injection r with e1 e2
      subst e1; subst e2
      exact ⟨_, _, hrun, r1, .inl ⟨_, _, rfl, rfl, r2⟩⟩
    · obtain ⟨v', w', r, r1, r2⟩ := run_append_arg_grows (P := P) w t ty e i z size bytes ht hi hz hsize hby hzs hsz ⟨g, off, none⟩ n cap xs hown.1 (fun j u hu => by
        have : (⟨g, off, none⟩ : Addr).add j = ⟨g, off + j, none⟩ := by
          unfold Addr.add
          by_cases h : j = 0
          · subst h; simp
          · simp [h]
        rw [this]; exact hown.cell hu) a m c news hl hnews (by omega) h63 hbytes
      exact ⟨v', w', r, Sl.of_row r1, .inr ⟨r2, fresh v' w' r1⟩⟩

theorem wpList_append_slt {P : Program} (w : World) {ops : Array Oper} {rest : List Oper} {o : Oper} {a : Act} {Q : Exit → Act → World → Prop} (hgd : o.guard = none) (s x : Operand) (t : TypeId)
    (ho : o.op = .call { callee := .builtin .append, args := #[s, x], argTypes := #[t, t] })
    (e : TypeId) (i : TypeInfo) (z : Value) (size bytes : Nat) (ht : P.underlying t = some (.slice e)) (hi : P.info? e = some i) (hz : i.zero = some z)
    (hsize : i.size = size) (hby : i.bytes = bytes) (hzs : z.cells.size = size) (hsz : 0 < size)
    (v : Value) (n : Nat) (xs : List Value) (hs : a.eval s = v) (hown : Sl w e size v n xs)
    (ad : Addr) (m c : Nat) (news : List Value) (hx : a.eval x = .slice (some ad) m c) (hl : news.length = m * size) (hnews : ∀ j u, news[j]? = some u → w.cell? (ad.add j) = some u) (h1 : ∀ u ∈ news, u.oneCell' = true) (hm : 0 < m)
    (h63 : n + m ≤ maxLen) (hbytes : (n + m) * bytes ≤ 140737488355328)
    (h : ∀ v' w', Sl w' e size v' (n + m) (xs ++ news) → ((∃ b cap, v = .slice b n cap ∧ v' = .slice b (n + m) cap ∧ w.grownBy w' v.ownBlock) ∨ (w.grownBy w' none ∧ ∃ g, v'.ownBlock = some g ∧ w.heap.size ≤ g)) → wpList P ops Q rest (a.put o.dst v') w') : wpList P ops Q (o :: rest) a w := by
  refine wpList_plain hgd fun K hK => ?_
  obtain ⟨v', w', hr, h2, h3⟩ := run_append_slt (P := P) w t o.type e i z size bytes ht hi hz hsize hby hzs hsz v n xs hown ad m c news hl hnews h1 hm h63 hbytes
  unfold Oper.wp execOp
  simp only [ho, resolve, invoke, builtin, Sem.run_bind, Sem.run_pure, Result.andThen_ok, List.map_toArray, List.map_cons, List.map_nil, hs, hx, hr]
  exact hK _ _ (h v' w' h2 h3)

/-- a list that came out: the slice, its length, its mark -/
abbrev En := Value × Nat × Nat
def cN (r : En) : List Value := [r.1, .int .i64 r.2.2]
/-- a mark, so often -/
def rep (m : List Value) : Nat → List Value
  | 0 => []
  | n + 1 => rep m n ++ m
theorem rep_len (m : List Value) : ∀ n, (rep m n).length = n * m.length
  | 0 => by simp [rep]
  | n + 1 => by rw [rep, List.length_append, rep_len m n, Nat.add_mul, Nat.one_mul]
theorem rep_take {m : List Value} {size : Nat} (hs : m.length = size) {j : Nat} : ∀ {n : Nat}, j ≤ n → (rep m n).take (j * size) = rep m j
  | 0, h => by obtain rfl : j = 0 := by omega
               simp [rep]
  | n + 1, h => by
    have hl := rep_len m n
    rw [hs] at hl
    by_cases hj : j = n + 1
    · subst hj
      rw [List.take_of_length_le]
      rw [rep_len, hs]
      exact Nat.le_refl _
    · rw [rep, List.take_append_of_le_length (by rw [hl]; exact Nat.mul_le_mul_right _ (by omega))]
      exact rep_take hs (by omega)
theorem rep_get {m : List Value} {size : Nat} (hs : m.length = size) {q j : Nat} (hj : j < size) : ∀ {n : Nat}, q < n → (rep m n)[q * size + j]? = m[j]?
  | 0, h => by omega
  | n + 1, h => by
    have hl := rep_len m n
    rw [hs] at hl
    rw [rep]
    by_cases hq : q = n
    · subst hq
      rw [List.getElem?_append_right (by omega), hl]
      congr 1
      omega
    · rw [List.getElem?_append_left, rep_get hs hj (by omega)]
      rw [hl]
      have : (q + 1) * size ≤ n * size := Nat.mul_le_mul_right _ (by omega)
      rw [Nat.add_mul] at this
      omega

/-- a kind of lists in the book: the type of an entry, of an element, an element's cells, and its marks -/
structure Kd where
  o : TypeId
  e : TypeId
  size : Nat
  mrk : Nat → List Value

/-- one of the book's lists -/
structure BL (w : World) (K : Nat → Prop) (d : Kd) (V : Value) (rs : List En) : Prop where
  row : Sl w d.o 2 V rs.length (rs.flatMap cN)
  ents : ∀ r ∈ rs, Sl w d.e d.size r.1 r.2.1 (rep (d.mrk r.2.2) r.2.1)
  fv : ∀ g, V.ownBlock = some g → K g
  fe : ∀ r ∈ rs, ∀ g, r.1.ownBlock = some g → K g
  sm : ∀ r ∈ rs, r.2.2 < 1099511627776
theorem BL.nil (w : World) (K : Nat → Prop) (d : Kd) : BL w K d (.slice none 0 0) [] := ⟨Sl.nil _ _ _, by simp, by simp [Value.ownBlock], by simp, by simp⟩
theorem BL.kept {w w' : World} {K : Nat → Prop} {d : Kd} {V : Value} {rs : List En} (h : BL w K d V rs) (hk : ∀ k, k < w.heap.size → K k → w'.heap[k]? = w.heap[k]?) : BL w' K d V rs :=
  ⟨h.row.kept fun g hg => hk g (h.row.lt hg) (h.fv g hg), fun r hr => (h.ents r hr).kept fun g hg => hk g ((h.ents r hr).lt hg) (h.fe r hr g hg), h.fv, h.fe, h.sm⟩
theorem BL.mono {w : World} {K K' : Nat → Prop} {d : Kd} {V : Value} {rs : List En} (h : BL w K d V rs) (hK : ∀ k, k < w.heap.size → K k → K' k) : BL w K' d V rs :=
  ⟨h.row, h.ents, fun g hg => hK g (h.row.lt hg) (h.fv g hg), fun r hr g hg => hK g ((h.ents r hr).lt hg) (h.fe r hr g hg), h.sm⟩

/-- while a list is put into the book; bx: the book's cells, as far as this kind's list goes -/
structure St (w0 w : World) (bb : Nat) (bx : Value → Array Value) (K : Nat → Prop) (V0 l0 : Value) (d : Kd) (k : Nat) (V lv : Value) (n : Nat) (rs : List En) : Prop where
  box : Bx w bb 88 (bx V)
  row : Sl w d.o 2 V rs.length (rs.flatMap cN)
  ents : ∀ r ∈ rs, Sl w d.e d.size r.1 r.2.1 (rep (d.mrk r.2.2) r.2.1)
  list : Sl w d.e d.size lv n (rep (d.mrk k) n)
  head : ∀ r ∈ rs, (∃ a cap, lv = .slice a n cap ∧ r.1 = .slice a r.2.1 cap ∧ r.2.1 ≤ n ∧ r.2.2 = k) ∨ (∀ g, r.1.ownBlock = some g → lv.ownBlock ≠ some g)
  only : Only w0 w (fun q => q = bb ∨ V0.ownBlock = some q ∨ l0.ownBlock = some q)
  fv : ∀ g, V.ownBlock = some g → V0.ownBlock = some g ∨ w0.heap.size ≤ g
  fl : ∀ g, lv.ownBlock = some g → l0.ownBlock = some g ∨ w0.heap.size ≤ g
  fe : ∀ r ∈ rs, ∀ g, r.1.ownBlock = some g → K g ∨ l0.ownBlock = some g ∨ w0.heap.size ≤ g
  sm : ∀ r ∈ rs, r.2.2 < 1099511627776

theorem St.later {w0 w w' : World} {bb : Nat} {bx : Value → Array Value} {K : Nat → Prop} {V0 l0 : Value} {d : Kd} {k : Nat} {V lv : Value} {n : Nat} {rs : List En} (h : St w0 w bb bx K V0 l0 d k V lv n rs) (hb : Below w.heap.size w w') : St w0 w' bb bx K V0 l0 d k V lv n rs :=
  ⟨h.box.later hb, h.row.later hb, fun r hr => (h.ents r hr).later hb, h.list.later hb, h.head, h.only.trans (Only.of_below (S := fun _ => False) hb) (fun _ h => h.elim), h.fv, h.fl, h.fe, h.sm⟩

/-- a row of this type is written, or nothing old is -/
theorem Sl.keptT {w w' : World} {e t : TypeId} {size n size' n' : Nat} {v u : Value} {xs ys : List Value} (h : Sl w e size v n xs) (hu : Sl w t size' u n' ys) (het : e ≠ t) (hg : w.grownBy w' u.ownBlock) : Sl w' e size v n xs :=
  h.grown hg fun _ hv hg' => h.apart hu het hv hg'
/-- what an append makes of other blocks -/
def Moved (w w' : World) (v v' : Value) (n m : Nat) : Prop := (∃ b cap, v = .slice b n cap ∧ v' = .slice b (n + m) cap ∧ w.grownBy w' v.ownBlock) ∨ (w.grownBy w' none ∧ ∃ g, v'.ownBlock = some g ∧ w.heap.size ≤ g)
theorem Moved.grown {w w' : World} {v v' : Value} {n m : Nat} (h : Moved w w' v v' n m) : w.grownBy w' v.ownBlock := by
  rcases h with ⟨_, _, _, _, h⟩ | ⟨h, _⟩
  · exact h
  · exact ⟨h.os, h.tape, h.output, h.size, fun k hk _ => h.block k hk (by simp)⟩
theorem Moved.blk {w w' : World} {v v' : Value} {n m : Nat} (h : Moved w w' v v' n m) {g : Nat} (hg : v'.ownBlock = some g) : v.ownBlock = some g ∨ w.heap.size ≤ g := by
  rcases h with ⟨b, cap, rfl, rfl, _⟩ | ⟨_, g', h', hl⟩
  · exact .inl (by cases b <;> first | exact hg | (simp [Value.ownBlock] at hg))
  · rw [h'] at hg; cases hg; exact .inr hl

/-- the list goes into the book: behind the append -/
theorem St.append {w0 w w' : World} {bb : Nat} {bx : Value → Array Value} {K : Nat → Prop} {V0 l0 : Value} {d : Kd} {k : Nat} {V V1 lv : Value} {n : Nat} {rs : List En} (h : St w0 w bb bx K V0 l0 d k V lv n rs) (hd : d.e ≠ d.o ∧ 88 ≠ d.o)
    (hS : Sl w' d.o 2 V1 (rs.length + 1) (rs.flatMap cN ++ cN (lv, n, k))) (hM : Moved w w' V V1 rs.length 1) :
    Bx w' bb 88 (bx V) ∧ Sl w' d.o 2 V1 (rs ++ [(lv, n, k)]).length ((rs ++ [(lv, n, k)]).flatMap cN) ∧ (∀ r ∈ rs, Sl w' d.e d.size r.1 r.2.1 (rep (d.mrk r.2.2) r.2.1)) ∧ Sl w' d.e d.size lv n (rep (d.mrk k) n) ∧ Only w0 w' (fun q => q = bb ∨ V0.ownBlock = some q ∨ l0.ownBlock = some q) ∧ (∀ g, V1.ownBlock = some g → V0.ownBlock = some g ∨ w0.heap.size ≤ g) := by
  have hg := hM.grown
  refine ⟨h.box.grown hg ?_, ?_, fun r hr => (h.ents r hr).keptT h.row hd.1 hg, h.list.keptT h.row hd.1 hg, ?_, fun g hv => ?_⟩
  · exact fun e => h.row.ne h.box (fun e => hd.2 e.symm) e.symm
  · rw [List.length_append, List.flatMap_append]
    simpa using hS
  · refine h.only.trans (S' := fun q => V.ownBlock = some q) (Only.of_grown hg fun q e => e) fun q hq => ?_
    rcases h.fv q hq with h' | h'
    · exact .inl (.inr (.inl h'))
    · exact .inr h'
  · rcases hM.blk hv with h' | h'
    · exact h.fv g h'
    · exact .inr (Nat.le_trans h.only.size h')
theorem St.push {w0 w w' : World} {bb j : Nat} {bx : Value → Array Value} {K : Nat → Prop} {V0 l0 : Value} {d : Kd} {k : Nat} {V V1 lv : Value} {n : Nat} {rs : List En} (h : St w0 w bb bx K V0 l0 d k V lv n rs) (hd : d.e ≠ d.o ∧ 88 ≠ d.o) (hde : d.e ≠ 88)
    (hS : Sl w' d.o 2 V1 (rs.length + 1) (rs.flatMap cN ++ cN (lv, n, k))) (hM : Moved w w' V V1 rs.length 1) (hk : k < 1099511627776) (hj : (bx V).setIfInBounds j V1 = bx V1) :
    St w0 (w'.setCell ⟨bb, j, none⟩ V1) bb bx K V0 l0 d k V1 lv n (rs ++ [(lv, n, k)]) := by
  obtain ⟨b1, b2, b3, b4, b5, b6⟩ := h.append hd hS hM
  have hset : ∀ {e : TypeId} {size n : Nat} {v : Value} {xs : List Value}, e ≠ 88 → Sl w' e size v n xs → Sl (w'.setCell ⟨bb, j, none⟩ V1) e size v n xs := fun he hs => hs.grown (grown_set _ _ _ _) fun g hg e' => hs.ne b1 he (by rw [hg]; exact e'.symm)
  refine ⟨by rw [← hj]; exact b1.set j V1, hset (fun e => hd.2 e.symm) b2, fun r hr => ?_, hset hde b4, fun r hr => ?_, b5.set (.inl (.inl rfl)), b6, h.fl, fun r hr => ?_, fun r hr => ?_⟩
  · rcases List.mem_append.1 hr with hr | hr
    · exact hset hde (b3 r hr)
    · obtain rfl := List.mem_singleton.1 hr
      exact hset hde b4
  · rcases List.mem_append.1 hr with hr | hr
    · exact h.head r hr
    · obtain rfl := List.mem_singleton.1 hr
      obtain ⟨a, cap, e⟩ := h.list.form
      exact .inl ⟨a, cap, e, e, Nat.le_refl _, rfl⟩
  · rcases List.mem_append.1 hr with hr | hr
    · exact h.fe r hr
    · obtain rfl := List.mem_singleton.1 hr
      exact fun g hg => .inr (h.fl g hg)
  · rcases List.mem_append.1 hr with hr | hr
    · exact h.sm r hr
    · obtain rfl := List.mem_singleton.1 hr
      exact hk

/-- one more mark behind the list -/
theorem St.more {w0 w w' : World} {bb : Nat} {bx : Value → Array Value} {K : Nat → Prop} {V0 l0 : Value} {d : Kd} {k : Nat} {V lv lv1 : Value} {n : Nat} {rs : List En} (h : St w0 w bb bx K V0 l0 d k V lv n rs) (hd : d.o ≠ d.e) (hde : 88 ≠ d.e) (hmk : ∀ k, (d.mrk k).length = d.size)
    (hS : Sl w' d.e d.size lv1 (n + 1) (rep (d.mrk k) n ++ d.mrk k)) (hM : Moved w w' lv lv1 n 1) :
    St w0 w' bb bx K V0 l0 d k V lv1 (n + 1) rs := by
  have hg := hM.grown
  refine ⟨h.box.grown hg (fun e => h.list.ne h.box (fun e => hde e.symm) e.symm), h.row.keptT h.list hd hg, fun r hr => ?_, hS, fun r hr => ?_, ?_, h.fv, fun g hv => ?_, h.fe, h.sm⟩
  · rcases h.head r hr with ⟨a, cap, e1, e2, hle, e3⟩ | hn
    · rcases hM with ⟨b, cap', e4, e5, _⟩ | ⟨hnone, _⟩
      · rw [e1] at e4
        obtain ⟨rfl, _, rfl⟩ := Value.slice.inj e4
        rw [e5] at hS
        have hc := hS.cut (show r.2.1 ≤ n + 1 by omega)
        have ht : rep (d.mrk k) n ++ d.mrk k = rep (d.mrk k) (n + 1) := rfl
        rw [ht, rep_take (hmk k) (by omega)] at hc
        rw [e2, e3]
        exact hc
      · exact (h.ents r hr).grown hnone (by simp)
    · exact (h.ents r hr).grown hg fun g hv e => hn g hv e
  · rcases hM with ⟨b, cap', e4, e5, _⟩ | ⟨_, g, e4, hlt⟩
    · rcases h.head r hr with ⟨a, cap, e1, e2, hle, e3⟩ | hn
      · rw [e1] at e4
        obtain ⟨rfl, _, rfl⟩ := Value.slice.inj e4
        exact .inl ⟨_, _, e5, e2, by omega, e3⟩
      · refine .inr fun g hv e => hn g hv ?_
        rw [e5] at e; rw [e4]
        cases b <;> first | exact e | (simp [Value.ownBlock] at e)
    · refine .inr fun g' hv e => ?_
      rw [e4] at e; cases e
      have := (h.ents r hr).lt hv
      omega
  · refine h.only.trans (S' := fun q => lv.ownBlock = some q) (Only.of_grown hg fun q e => e) fun q hq => ?_
    rcases h.fl q hq with h' | h'
    · exact .inl (.inr (.inr h'))
    · exact .inr h'
  · rcases hM.blk hv with h' | h'
    · exact h.fl g h'
    · exact .inr (Nat.le_trans h.only.size h')

/-- the list is marked: into the book with it -/
theorem BL.start {w0 w : World} {bb : Nat} {bx : Value → Array Value} {K : Nat → Prop} {V l : Value} {d : Kd} {k n : Nat} {rs : List En} (h : BL w0 K d V rs) (hB : Bx w0 bb 88 (bx V)) (hbb : K bb) (hO : Only w0 w (fun q => l.ownBlock = some q)) (hl : ∀ g, l.ownBlock = some g → ¬ K g) (hS : Sl w d.e d.size l n (rep (d.mrk k) n)) :
    St w0 w bb bx K V l d k V l n rs :=
  ⟨hB.kept hO fun e => hl bb e hbb, h.row.kept fun g hg => hO.block g (h.row.lt hg) fun e => hl g e (h.fv g hg), fun r hr => (h.ents r hr).kept fun g hg => hO.block g ((h.ents r hr).lt hg) fun e => hl g e (h.fe r hr g hg), hS, fun r hr => .inr fun g hg e => hl g e (h.fe r hr g hg), hO.mono fun _ hq => .inr (.inr hq), fun _ hg => .inl hg, fun _ hg => .inl hg, fun r hr g hg => .inl (h.fe r hr g hg), h.sm⟩
/-- the blocks of the book behind that -/
def KL (K : Nat → Prop) (l : Value) (w w' : World) : Nat → Prop := fun q => K q ∨ l.ownBlock = some q ∨ (w.heap.size ≤ q ∧ q < w'.heap.size)
theorem St.done {w0 w : World} {bb : Nat} {bx : Value → Array Value} {K : Nat → Prop} {V0 l0 : Value} {d : Kd} {k : Nat} {V lv : Value} {n : Nat} {rs : List En} (h : St w0 w bb bx K V0 l0 d k V lv n rs) (hV : ∀ g, V0.ownBlock = some g → K g) : BL w (KL K l0 w0 w) d V rs :=
  ⟨h.row, h.ents, fun g hg => by
    rcases h.fv g hg with h' | h'
    · exact .inl (hV g h')
    · exact .inr (.inr ⟨h', h.row.lt hg⟩), fun r hr g hg => by
    rcases h.fe r hr g hg with h' | h' | h'
    · exact .inl h'
    · exact .inr (.inl h')
    · exact .inr (.inr ⟨h', (h.ents r hr).lt hg⟩), h.sm⟩
/-- the book's other lists -/
theorem St.other {w0 w : World} {m : Nat} {xs : List Value} {cs : Array Value} {bb : Nat} {bx : Value → Array Value} {K : Nat → Prop} {V0 l0 : Value} {d : Kd} {k : Nat} {V lv : Value} {n : Nat} {rs : List En} (h : St w0 w bb bx K V0 l0 d k V lv n rs) {d' : Kd} {V' : Value} {rs' : List En} (h' : BL w0 K d' V' rs') (hl : ∀ g, l0.ownBlock = some g → ¬ K g)
    (h0 : Sl w0 d.o 2 V0 m xs) (hB : Bx w0 bb 88 cs) (hne : d'.o ≠ d.o ∧ d'.e ≠ d.o ∧ d'.o ≠ 88 ∧ d'.e ≠ 88) : BL w (KL K l0 w0 w) d' V' rs' := by
  refine (BL.mono (K := K) ⟨h'.row.kept fun g hg => h.only.block g (h'.row.lt hg) ?_, fun r hr => (h'.ents r hr).kept fun g hg => h.only.block g ((h'.ents r hr).lt hg) ?_, h'.fv, h'.fe, h'.sm⟩) fun _ _ h => .inl h
  · rintro (e | e | e)
    · exact h'.row.ne hB hne.2.2.1 (by rw [hg, e])
    · exact h'.row.apart h0 hne.1 hg e
    · exact hl g e (h'.fv g hg)
  · rintro (e | e | e)
    · exact (h'.ents r hr).ne hB hne.2.2.2 (by rw [hg, e])
    · exact (h'.ents r hr).apart h0 hne.2.1 hg e
    · exact hl g e (h'.fe r hr g hg)
end Go.Proofs.YtgamgomepdfgdaaGreat
