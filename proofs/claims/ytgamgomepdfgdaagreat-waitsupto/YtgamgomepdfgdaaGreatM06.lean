import Derived.Test.YtgamgomepdfgdaaGreatProg
import Derived.Test.YtgamgomepdfgdaaGreatM05
import Derived.WalkLawsBesides
import Derived.Deep.RegionHeldLaw
import Derived.Deep.RegionLaw
import Derived.Maps.AppendAt
import Derived.Laws.OwnMore
namespace Go.Proofs.YtgamgomepdfgdaaGreat
open Go.RowKit

/-- only blocks of S, and new ones, are written -/
structure Only (w w' : World) (S : Nat → Prop) : Prop where
  os : w'.os = w.os
  tape : w'.tape = w.tape
  output : w'.output = w.output
  size : w.heap.size ≤ w'.heap.size
  block : ∀ k, k < w.heap.size → ¬ S k → w'.heap[k]? = w.heap[k]?
theorem Only.refl (w : World) (S : Nat → Prop) : Only w w S := ⟨rfl, rfl, rfl, Nat.le_refl _, fun _ _ _ => rfl⟩
theorem Only.trans {w w1 w2 : World} {S S' : Nat → Prop} (h : Only w w1 S) (h2 : Only w1 w2 S') (hS : ∀ k, S' k → S k ∨ w.heap.size ≤ k) : Only w w2 S :=
  ⟨h2.os.trans h.os, h2.tape.trans h.tape, h2.output.trans h.output, Nat.le_trans h.size h2.size, fun k hk hs => (h2.block k (Nat.lt_of_lt_of_le hk h.size) (fun e => by
    rcases hS k e with h1 | h1
    · exact hs h1
    · omega)).trans (h.block k hk hs)⟩
theorem Only.of_grown {w w' : World} {row : Option Nat} {S : Nat → Prop} (h : w.grownBy w' row) (hS : ∀ k, row = some k → S k) : Only w w' S :=
  ⟨h.os, h.tape, h.output, h.size, fun k hk hs => h.block k hk (fun e => hs (hS k e.symm))⟩
theorem Only.of_below {w w' : World} {S : Nat → Prop} (h : Below w.heap.size w w') : Only w w' S := ⟨h.os, h.tape, h.output, h.size, fun k hk _ => h.block k hk⟩

set_option maxRecDepth 100000 in
set_option maxHeartbeats 1000000 in
/-- the lane that counts -/
theorem reflane (nb id ln passed age : Nat) (ea : Option Addr) (en ec : Nat) (cs : Array Value) (w : World) (hB : Bx w nb 163 cs) (hage : cs[1]? = some (.int .i64 age)) (ha : 1 ≤ age ∧ age < 9) (hl : ln < 1000) (hp : passed < 4611686018427387904) :
    Calls Tryz.prog 220 #[.pointer (some ⟨nb, 0, none⟩), .agg #[.int .i64 id, .int .i64 ln, .int .i64 passed, .slice ea en ec]] w fun e w' => e = .returned (.int .i64 ((ln - passed / age : Nat) : Int)) ∧ Below w.heap.size w w' := by
  have c1 := hB.cell hage
  have hne : ((age : Int) == 0) = false := by simp; omega
  obtain ⟨d, hd⟩ : ∃ d, d = passed / age := ⟨_, rfl⟩
  have hq : Int.tdiv (passed : Int) (age : Int) = (d : Int) := by rw [hd, Int.ofNat_tdiv]
  have hq2 : (passed : Int) / (age : Int) = (d : Int) := by rw [hd, Int.natCast_ediv]
  have hb : d ≤ passed := by rw [hd]; exact Nat.div_le_self _ _
  rw [← hd]
  clear hd
  have hw : IntKind.i64.wrap ((ln : Int) - d) = (ln : Int) - d := wrap_i64 (by omega) (by omega)
  have hw2 : wrap64 ((ln : Int) - d) = (ln : Int) - d := by unfold wrap64; omega
  go_enter Tryz.func220, Tryz.ntmps220
  go_wp2
  go_region_held_law (fun w' => w'.cell? ⟨w.heap.size, 1, none⟩ = some (.int .i64 ln) ∧ w'.cell? ⟨w.heap.size, 2, none⟩ = some (.int .i64 passed) ∧ w'.cell? ⟨nb, 1, none⟩ = some (.int .i64 age)) (go_keep) (fail)
  have hbl : Below w.heap.size w (w.alloc (.cells #[.int .i64 id, .int .i64 ln, .int .i64 passed, .slice ea en ec] 165)).drew := ⟨rfl, rfl, rfl, by simp, fun k hk => Below.heap_alloc _ _ _ hk⟩
  by_cases h : ln < d
  · have hlt : (ln : Int) - d < 0 := by omega
    have e0 : ((ln - d : Nat) : Int) = 0 := by omega
    go_wp2
    go_ret
    exact ⟨by first | rfl | (rw [e0]; rfl), hbl⟩
  · have hlt : ¬ ((ln : Int) - d < 0) := by omega
    have e0 : ((ln - d : Nat) : Int) = (ln : Int) - d := by omega
    go_wp2
    go_ret
    exact ⟨by first | rfl | (rw [e0]; rfl), hbl⟩

theorem step_append_tells {P : Program} {ops : Array Oper} {o : Oper} {a : Act} {w : World} {K : Act → World → Prop} {Q : Exit → Act → World → Prop} {E : Prop}
    (hg : o.guard = none) (s x : Operand) (t : TypeId) (ho : o.op = Op.call { callee := Callee.builtin Builtin.append, args := #[s, x], argTypes := #[t, t] })
    (base : Nat) (e : TypeId) (i : TypeInfo) (z : Value) (size bytes : Nat) (ht : P.underlying t = some (.slice e)) (hi : P.info? e = some i) (hz : i.zero = some z)
    (hsize : i.size = size) (hby : i.bytes = bytes) (hzs : z.cells.size = size) (hsz : 0 < size)
    (v : Value) (n : Nat) (xs : List Value) (hs : a.eval s = v) (hown : w.ownsRow base e size v n xs)
    (ad : Addr) (m c : Nat) (news : List Value) (hx : a.eval x = .slice (some ad) m c) (hl : news.length = m * size) (hnews : ∀ j u, news[j]? = some u → w.cell? (ad.add j) = some u) (h1 : ∀ u ∈ news, u.oneCell' = true)
    (h63 : n + m ≤ maxLen) (hbytes : (n + m) * bytes ≤ 140737488355328) (hbase : base ≤ w.heap.size)
    (hK : ∀ v' w', w'.ownsRow base e size v' (n + m) (xs ++ news) → w.grownBy w' v.ownBlock → (v'.ownBlock = v.ownBlock ∨ v'.ownBlock = some w.heap.size) → K (a.put o.dst v') w') :
    if Region.wanted o (yielded ops a.tmps) = true then Oper.wp P o a w K Q else E := by
  have hw : Region.wanted o (yielded ops a.tmps) = true := by simp [Region.wanted, hg]
  rw [if_pos hw]
  obtain ⟨v', w', hr, h2, h3, _, h5⟩ := run_append_own_at (P := P) w base t o.type e i z size bytes ht hi hz hsize hby hzs hsz v n xs hown ad m c news hl hnews h1 h63 hbytes hbase
  unfold Oper.wp execOp
  simp only [ho, resolve, invoke, builtin, Sem.run_bind, Sem.run_pure, Result.andThen_ok, List.map_toArray, List.map_cons, List.map_nil, hs, hx, hr]
  exact hK v' w' h2 h3 h5

theorem below_new_drew (w : World) (o : Obj) : Below w.heap.size w (w.alloc o).drew := ⟨rfl, rfl, rfl, by simp, fun k hk => Below.heap_alloc _ _ _ hk⟩
theorem Bx.mkd {w : World} {b : Nat} {t : TypeId} {cs : Array Value} (h : Bx w b t cs) (o : Obj) : Bx (w.alloc o).drew b t cs := h.mk o
theorem row_shape3 {w : World} {base : Nat} {e : TypeId} {size n : Nat} {v : Value} {xs : List Value} (h : w.ownsRow base e size v n xs) : ∃ a cap, v = .slice a n cap := by
  rcases h.2 with ⟨rfl, rfl⟩ | ⟨g', cap, cur, rfl, _, hh, _⟩
  · exact ⟨_, _, rfl⟩
  · exact ⟨_, _, rfl⟩
theorem le_mkd (w : World) (o : Obj) : w.heap.size ≤ (w.alloc o).drew.heap.size := by simp
theorem info_out : (Tryz.prog.info? 99).map (fun i => (i.zero, i.size, i.bytes)) = some (some (.agg #[.int .i64 0, .int .i64 0, .int .i64 0]), 3, 24) := by kernel_rfl
theorem cells_new (w : World) (cs : List Value) (t : TypeId) : ∀ j u, cs[j]? = some u → (w.alloc (.cells cs.toArray t)).cell? ((⟨w.heap.size, 0, none⟩ : Addr).add j) = some u := by
  intro j u h
  rw [addr_add, Nat.zero_add]
  have hb : Bx (w.alloc (.cells cs.toArray t)) w.heap.size t cs.toArray := Bx.new w _ t
  exact hb.cell (by simpa using h)

set_option maxRecDepth 100000 in
set_option maxHeartbeats 1000000 in
/-- one more outcome -/
theorem refout (nb id kind n base : Nat) (oa : Option Addr) (ocap : Nat) (cs : Array Value) (xs : List Value) (w : World) (hB : Bx w nb 163 cs) (hv : cs[12]? = some (.slice oa n ocap)) (hrow : w.ownsRow base 99 3 (.slice oa n ocap) n xs) (hne : (Value.slice oa n ocap).ownBlock ≠ some nb) (hb : base ≤ w.heap.size) (hn : n < 1048576000) :
    Calls Tryz.prog 177 #[.pointer (some ⟨nb, 0, none⟩), .int .i64 id, .int .i64 kind] w fun e w' => e = .returned (.tuple #[]) ∧ ∃ v', Bx w' nb 163 (cs.setIfInBounds 12 v') ∧ w'.ownsRow base 99 3 v' (n + 1) (xs ++ [.int .i64 ((n : Int) + 1), .int .i64 id, .int .i64 kind]) ∧ (v'.ownBlock = (Value.slice oa n ocap).ownBlock ∨ ∃ g, v'.ownBlock = some g ∧ w.heap.size ≤ g) ∧ Only w w' (fun k => k = nb ∨ (Value.slice oa n ocap).ownBlock = some k) := by
  obtain ⟨i0, hi, hz0, hz1, hz2⟩ := info_parts info_out
  have c12 := hB.cell hv
  have f12 := hB.fr 12
  have c12' : ∀ o, (w.alloc o).cell? ⟨nb, 12, none⟩ = some (.slice oa n ocap) := fun o => (hB.mk o).cell hv
  have HB : Hid (Bx w nb 163 cs) := hB
  have q1 : Hid (n + 1 ≤ maxLen) := by show _ ≤ _; unfold maxLen; omega
  have q2 : Hid ((n + 1) * 24 ≤ 140737488355328) := Nat.le_trans (Nat.mul_le_mul_right 24 (show n + 1 ≤ 1048576000 by omega)) (by decide)
  have q3 : Hid (∀ o, base ≤ (w.alloc o).heap.size) := fun o => by show base ≤ _; simp; omega
  have hw : IntKind.i64.wrap ((n : Int) + 1) = (n : Int) + 1 := wrap_i64 (by omega) (by omega)
  clear hB
  go_enter Tryz.func177, Tryz.ntmps177
  go_region_law ((refine step_append_tells rfl _ _ 161 rfl base _ i0 _ 3 24 Tryz.underlying161 hi hz0 hz1 hz2 rfl (by decide) (.slice oa n ocap) _ _ rfl (World.ownsRow.alloc hrow _) ⟨w.heap.size, 0, none⟩ 1 1 [.int .i64 ((n : Int) + 1), .int .i64 id, .int .i64 kind] rfl rfl (cells_new w _ _) (by simp [Value.oneCell']) q1.out q2.out (q3.out _) ?_; intro v3 w3 hown3 hg3 hloc3; obtain ⟨a3, c3, rfl⟩ := row_shape3 hown3; have HB3 : Hid (Bx w3 nb 163 cs) := Bx.grown (HB.out.mkd _) hg3 (fun e => hne e.symm); have d12 := HB3.out.cell hv; have f3 := HB3.out.fr 12; have O3 : Hid (w3.ownsRow base 99 3 (.slice a3 (n + 1) c3) (n + 1) (xs ++ [.int .i64 ((n : Int) + 1), .int .i64 id, .int .i64 kind])) := hown3; have G3 : Hid (w.grownBy w3 (Value.slice oa n ocap).ownBlock) := (World.grownBy_alloc w _ _).trans ⟨hg3.os, hg3.tape, hg3.output, hg3.size, hg3.block⟩; have L3 : Hid ((Value.slice a3 (n + 1) c3).ownBlock = (Value.slice oa n ocap).ownBlock ∨ ∃ g, (Value.slice a3 (n + 1) c3).ownBlock = some g ∧ w.heap.size ≤ g) := hloc3.imp (fun h => h) (fun h => ⟨_, h, le_mkd w _⟩); clear hown3 hg3 hloc3))
  all_goals
    have nnb : (Value.slice a3 (n + 1) c3).ownBlock ≠ some nb := by
      rcases L3.out with h | ⟨g, h, hg⟩
      · rw [h]; exact hne
      · rw [h]; intro e; cases e
        have := HB.out.lt; omega
    refine bodyPost_end (v := .tuple #[]) (results_none (by kernel_rfl) _ _ _) rfl ⟨rfl, _, HB3.out.set 12 _, World.ownsRow.kept O3.out (grown_set _ _ _ _) (.inr nnb), L3.out, ?_⟩
    exact Only.trans (Only.of_grown G3.out fun k h => .inr h) (Only.of_grown (grown_set _ _ _ _) (S := fun k => k = nb) fun k h => by cases h; rfl) fun k h => .inl (.inl h)
end Go.Proofs.YtgamgomepdfgdaaGreat

namespace Go.Proofs.YtgamgomepdfgdaaGreat
open Go.RowKit

/-- a slice that holds these cells, at whatever place of its row; the row is ours -/
def Sl (w : World) (e : TypeId) (size : Nat) (v : Value) (n : Nat) (xs : List Value) : Prop :=
  xs.length = n * size ∧ ((v = .slice none 0 0 ∧ n = 0) ∨ ∃ g off cap cur, v = .slice (some ⟨g, off, none⟩) n cap ∧ w.heap[g]? = some (.cells cur e (0, 0)) ∧ n ≤ cap ∧ cap ≤ maxLen ∧ off + cap * size ≤ cur.size ∧ ∀ j u, xs[j]? = some u → cur[off + j]? = some u)

theorem Sl.nil (w : World) (e : TypeId) (size : Nat) : Sl w e size (.slice none 0 0) 0 [] := ⟨by simp, .inl ⟨rfl, rfl⟩⟩
theorem Sl.form {w : World} {e : TypeId} {size n : Nat} {v : Value} {xs : List Value} (h : Sl w e size v n xs) : ∃ a cap, v = .slice a n cap := by
  rcases h.2 with ⟨rfl, rfl⟩ | ⟨g, off, cap, cur, rfl, _⟩
  · exact ⟨_, _, rfl⟩
  · exact ⟨_, _, rfl⟩
theorem Sl.of_row {w : World} {base : Nat} {e : TypeId} {size n : Nat} {v : Value} {xs : List Value} (h : w.ownsRow base e size v n xs) : Sl w e size v n xs := by
  refine ⟨h.1, ?_⟩
  rcases h.2 with h' | ⟨g, cap, cur, rfl, hb, hg, hn, hc, hs, ht⟩
  · exact .inl h'
  · refine .inr ⟨g, 0, cap, cur, rfl, hg, hn, hc, by omega, fun j u hu => ?_⟩
    rw [← ht] at hu
    have hj := (List.getElem?_eq_some_iff.1 hu).1
    rw [List.length_take] at hj
    rw [List.getElem?_take_of_lt (by omega)] at hu
    simpa using hu
theorem Sl.kept {w w' : World} {e : TypeId} {size n : Nat} {v : Value} {xs : List Value} (h : Sl w e size v n xs) (hk : ∀ g, v.ownBlock = some g → w'.heap[g]? = w.heap[g]?) : Sl w' e size v n xs := by
  refine ⟨h.1, ?_⟩
  rcases h.2 with h' | ⟨g, off, cap, cur, rfl, hg, hr⟩
  · exact .inl h'
  · exact .inr ⟨g, off, cap, cur, rfl, (hk g rfl).trans hg, hr⟩
theorem Sl.lt {w : World} {e : TypeId} {size n : Nat} {v : Value} {xs : List Value} (h : Sl w e size v n xs) {g : Nat} (hg : v.ownBlock = some g) : g < w.heap.size := by
  rcases h.2 with ⟨rfl, _⟩ | ⟨g', off, cap, cur, rfl, hh, hr⟩
  · cases hg
  · cases hg
    exact (Array.getElem?_eq_some_iff.1 hh).1
theorem Sl.typed {w : World} {e : TypeId} {size n : Nat} {v : Value} {xs : List Value} (h : Sl w e size v n xs) {g : Nat} (hg : v.ownBlock = some g) : ∃ cur, w.heap[g]? = some (.cells cur e (0, 0)) := by
  rcases h.2 with ⟨rfl, _⟩ | ⟨g', off, cap, cur, rfl, hh, hr⟩
  · cases hg
  · cases hg
    exact ⟨_, hh⟩
theorem Sl.grown {w w' : World} {e : TypeId} {size n : Nat} {v : Value} {xs : List Value} {row : Option Nat} (h : Sl w e size v n xs) (hg : w.grownBy w' row) (hne : ∀ g, v.ownBlock = some g → row ≠ some g) : Sl w' e size v n xs :=
  h.kept fun g hv => hg.block g (h.lt hv) (fun x => hne g hv x.symm)
theorem Sl.mk {w : World} {e : TypeId} {size n : Nat} {v : Value} {xs : List Value} (h : Sl w e size v n xs) (o : Obj) : Sl (w.alloc o) e size v n xs := h.grown (World.grownBy_alloc w o none) (by simp)
theorem Sl.later {w w' : World} {e : TypeId} {size n : Nat} {v : Value} {xs : List Value} (h : Sl w e size v n xs) (hb : Below w.heap.size w w') : Sl w' e size v n xs := h.kept fun g hv => hb.block g (h.lt hv)
theorem Sl.cell {w : World} {e : TypeId} {size n : Nat} {xs : List Value} {g off cap : Nat} (h : Sl w e size (.slice (some ⟨g, off, none⟩) n cap) n xs) {j : Nat} {u : Value} (hu : xs[j]? = some u) : w.cell? ⟨g, off + j, none⟩ = some u := by
  rcases h.2 with ⟨h', _⟩ | ⟨g', off', cap', cur, h', hh, _, _, _, hr⟩
  · cases h'
  · cases h'
    have := hr j u hu
    simp [World.cell?, hh, this]
theorem Sl.fr {w : World} {e : TypeId} {size n : Nat} {xs : List Value} {g off cap : Nat} (h : Sl w e size (.slice (some ⟨g, off, none⟩) n cap) n xs) (j : Nat) : w.frozen? ⟨g, j, none⟩ = false := by
  rcases h.2 with ⟨h', _⟩ | ⟨g', off', cap', cur, h', hh, _, _, _, hr⟩
  · cases h'
  · cases h'
    simp [World.frozen?, hh]
/-- there is an address where there is an element -/
theorem Sl.addr {w : World} {e : TypeId} {size n : Nat} {v : Value} {xs : List Value} (h : Sl w e size v n xs) (hn : 0 < n) : ∃ g off cap, v = .slice (some ⟨g, off, none⟩) n cap ∧ n ≤ cap ∧ cap ≤ maxLen := by
  rcases h.2 with ⟨_, h0⟩ | ⟨g, off, cap, cur, rfl, _, h1, h2, _⟩
  · omega
  · exact ⟨g, off, cap, rfl, h1, h2⟩
/-- a cell is written -/
theorem Sl.set {w : World} {e : TypeId} {size n : Nat} {xs : List Value} {g off cap : Nat} (h : Sl w e size (.slice (some ⟨g, off, none⟩) n cap) n xs) (j : Nat) (u : Value) : Sl (w.setCell ⟨g, off + j, none⟩ u) e size (.slice (some ⟨g, off, none⟩) n cap) n (xs.set j u) := by
  refine ⟨by rw [List.length_set]; exact h.1, ?_⟩
  rcases h.2 with ⟨h', _⟩ | ⟨g', off', cap', cur, h', hh, h1, h2, h3, hr⟩
  · cases h'
  · cases h'
    refine .inr ⟨g, off, cap, cur.setIfInBounds (off + j) u, rfl, ?_, h1, h2, by simpa using h3, fun i x hx => ?_⟩
    · simp [World.setCell, Array.getElem?_modify, hh]
    · rw [List.getElem?_set] at hx
      by_cases e' : j = i
      · subst e'
        rw [if_pos rfl] at hx
        by_cases hl : j < xs.length
        · rw [if_pos hl] at hx
          have hc := hr j xs[j] (by simp [hl])
          have hlt := (Array.getElem?_eq_some_iff.1 hc).1
          rw [Array.getElem?_setIfInBounds]
          simpa [hlt] using hx
        · rw [if_neg hl] at hx; cases hx
      · rw [if_neg e'] at hx
        rw [Array.getElem?_setIfInBounds_ne (by omega)]
        exact hr i x hx
/-- the first ones -/
theorem Sl.cut {w : World} {e : TypeId} {size n : Nat} {xs : List Value} {a : Option Addr} {cap : Nat} (h : Sl w e size (.slice a n cap) n xs) {k : Nat} (hk : k ≤ n) : Sl w e size (.slice a k cap) k (xs.take (k * size)) := by
  have h0 := h.1
  refine ⟨by rw [List.length_take, h0]; exact Nat.min_eq_left (Nat.mul_le_mul_right _ hk), ?_⟩
  rcases h.2 with ⟨h', h0⟩ | ⟨g', off', cap', cur, h', hh, h1, h2, h3, hr⟩
  · cases h'
    obtain rfl : k = 0 := by omega
    exact .inl ⟨rfl, rfl⟩
  · cases h'
    refine .inr ⟨g', off', cap, cur, rfl, hh, by omega, h2, h3, fun j u hu => ?_⟩
    have hj := (List.getElem?_eq_some_iff.1 hu).1
    rw [List.length_take] at hj
    rw [List.getElem?_take_of_lt (by omega)] at hu
    exact hr j u hu
/-- all but the first ones -/
theorem Sl.tail {w : World} {e : TypeId} {size n : Nat} {xs : List Value} {g off cap : Nat} (h : Sl w e size (.slice (some ⟨g, off, none⟩) n cap) n xs) {k : Nat} (hk : k ≤ n) {off' : Nat} (ho : off' = off + k * size ∨ cap - k = 0) : Sl w e size (.slice (some ⟨g, if cap - k = 0 then off else off', none⟩) (n - k) (cap - k)) (n - k) (xs.drop (k * size)) := by
  have h0 := h.1
  refine ⟨by rw [List.length_drop, h0, Nat.sub_mul], ?_⟩
  rcases h.2 with ⟨h', _⟩ | ⟨g', off1, cap', cur, h', hh, h1, h2, h3, hr⟩
  · cases h'
  · cases h'
    by_cases hc : cap - k = 0
    · rw [if_pos hc]
      refine .inr ⟨g, off, cap - k, cur, rfl, hh, by omega, by omega, by rw [hc, Nat.zero_mul]; omega, fun j u hu => ?_⟩
      have : xs.drop (k * size) = [] := by
        apply List.drop_eq_nil_of_le
        rw [h0]; exact Nat.mul_le_mul_right _ (by omega)
      rw [this] at hu; simp at hu
    · rw [if_neg hc]
      obtain rfl : off' = off + k * size := by omega
      refine .inr ⟨g, _, cap - k, cur, rfl, hh, by omega, by omega, ?_, fun j u hu => ?_⟩
      · rw [Nat.add_assoc, ← Nat.add_mul, Nat.add_sub_of_le (by omega)]; exact h3
      · rw [List.getElem?_drop] at hu
        rw [Nat.add_assoc]
        exact hr _ u hu

/-- append, at a row of ours, at whatever place -/
theorem run_append_sl {P : Program} (w : World) (t ty e : TypeId) (i : TypeInfo) (z : Value) (size bytes : Nat) (ht : P.underlying t = some (.slice e)) (hi : P.info? e = some i) (hz : i.zero = some z)
    (hsize : i.size = size) (hby : i.bytes = bytes) (hzs : z.cells.size = size) (hsz : 0 < size)
    (v : Value) (n : Nat) (xs : List Value) (hown : Sl w e size v n xs)
    (a : Addr) (m c : Nat) (news : List Value) (hl : news.length = m * size) (hnews : ∀ j u, news[j]? = some u → w.cell? (a.add j) = some u) (h1 : ∀ u ∈ news, u.oneCell' = true)
    (h63 : n + m ≤ maxLen) (hbytes : (n + m) * bytes ≤ 140737488355328) :
    ∃ v' w', (Builtin.append_ #[t, t] ty #[v, .slice (some a) m c]).run P w = .ok v' w' ∧ Sl w' e size v' (n + m) (xs ++ news) ∧ w.grownBy w' v.ownBlock ∧ (v'.ownBlock = v.ownBlock ∨ ∃ g, v'.ownBlock = some g ∧ w.heap.size ≤ g) := by
  rcases hown.2 with ⟨rfl, rfl⟩ | ⟨g, off, cap, cur, rfl, hg, hnc, hcm, hcs, hr⟩
  · obtain rfl : xs = [] := List.eq_nil_of_length_eq_zero (by simpa using hown.1)
    obtain ⟨v', w', r, r1, r2, _, r4⟩ := run_append_own_at (P := P) w w.heap.size t ty e i z size bytes ht hi hz hsize hby hzs hsz (.slice none 0 0) 0 [] (World.ownsRow_nil w _ e size) a m c news hl hnews h1 h63 hbytes (Nat.le_refl _)
    exact ⟨v', w', r, Sl.of_row r1, r2, r4.imp (fun h => h) (fun h => ⟨_, h, Nat.le_refl _⟩)⟩
  · by_cases hroom : n + m ≤ cap
    · subst hsize
      have hfit : off + n * i.size + news.length ≤ cur.size := by
        have : (n + m) * i.size ≤ cap * i.size := Nat.mul_le_mul_right _ hroom
        rw [Nat.add_mul] at this
        omega
      have hf := run_firstCells_some (P := P) w i.size m a m c news hl hnews
      have hst := run_storeCells_at P g (off + n * i.size) e news 0 cur w hg (by simpa using hfit) h1
      simp only [Nat.add_zero] at hst
      refine ⟨.slice (some ⟨g, off, none⟩) (n + m) cap, w.setRow g (cur.toList.take (off + n * i.size) ++ news ++ cur.toList.drop (off + n * i.size + news.length)).toArray, ?_, ⟨?_, ?_⟩, ?_, .inl rfl⟩
      · simp [Builtin.append_, run_underlying ht, sizeOf, typeInfo, hi, Builtin.lenOf, hroom, hf, Addr.add_lit, hst]
      · rw [List.length_append, hown.1, hl, Nat.add_mul]
      · refine .inr ⟨g, off, cap, _, rfl, setRow_heap w g cur _ e _ hg, hroom, hcm, ?_, fun j u hu => ?_⟩
        · simp only [List.size_toArray, List.length_append, List.length_take, List.length_drop, Array.length_toList]
          omega
        · have hxl := hown.1
          have hlt : off + n * i.size ≤ cur.toList.length := by rw [Array.length_toList]; omega
          have htl : (cur.toList.take (off + n * i.size)).length = off + n * i.size := by rw [List.length_take]; omega
          rw [List.getElem?_toArray, List.append_assoc]
          by_cases hj : j < xs.length
          · rw [List.getElem?_append_left hj] at hu
            rw [List.getElem?_append_left (by rw [htl]; omega), List.getElem?_take_of_lt (by omega)]
            simpa using hr j u hu
          · rw [List.getElem?_append_right (by omega)] at hu
            have hjn := (List.getElem?_eq_some_iff.1 hu).1
            rw [List.getElem?_append_right (by rw [htl]; omega), htl, List.getElem?_append_left (by omega)]
            rw [← hu]; congr 1; omega
      · exact ⟨rfl, rfl, rfl, by simp, fun k _ hk => setRow_other w g k _ (fun e => hk (by simp [Value.ownBlock, e]))⟩
    · obtain ⟨v', w', r, r1, r2⟩ := run_append_arg_grows (P := P) w t ty e i z size bytes ht hi hz hsize hby hzs hsz ⟨g, off, none⟩ n cap xs hown.1 (fun j u hu => by
        have : (⟨g, off, none⟩ : Addr).add j = ⟨g, off + j, none⟩ := by
          unfold Addr.add
          by_cases h : j = 0
          · subst h; simp
          · simp [h]
        rw [this]; exact hown.cell hu) a m c news hl hnews (by omega) h63 hbytes
      refine ⟨v', w', r, Sl.of_row r1, ⟨r2.os, r2.tape, r2.output, r2.size, fun k hk _ => r2.block k hk (by simp)⟩, ?_⟩
      rcases r1.2 with ⟨rfl, h0⟩ | ⟨g', cap', cur', rfl, hb, _⟩
      · omega
      · exact .inr ⟨g', rfl, hb⟩

theorem step_append_sl {P : Program} {ops : Array Oper} {o : Oper} {a : Act} {w : World} {K : Act → World → Prop} {Q : Exit → Act → World → Prop} {E : Prop}
    (hg : o.guard = none) (s x : Operand) (t : TypeId) (ho : o.op = Op.call { callee := Callee.builtin Builtin.append, args := #[s, x], argTypes := #[t, t] })
    (e : TypeId) (i : TypeInfo) (z : Value) (size bytes : Nat) (ht : P.underlying t = some (.slice e)) (hi : P.info? e = some i) (hz : i.zero = some z)
    (hsize : i.size = size) (hby : i.bytes = bytes) (hzs : z.cells.size = size) (hsz : 0 < size)
    (v : Value) (n : Nat) (xs : List Value) (hs : a.eval s = v) (hown : Sl w e size v n xs)
    (ad : Addr) (m c : Nat) (news : List Value) (hx : a.eval x = .slice (some ad) m c) (hl : news.length = m * size) (hnews : ∀ j u, news[j]? = some u → w.cell? (ad.add j) = some u) (h1 : ∀ u ∈ news, u.oneCell' = true)
    (h63 : n + m ≤ maxLen) (hbytes : (n + m) * bytes ≤ 140737488355328)
    (hK : ∀ v' w', Sl w' e size v' (n + m) (xs ++ news) → w.grownBy w' v.ownBlock → (v'.ownBlock = v.ownBlock ∨ ∃ g, v'.ownBlock = some g ∧ w.heap.size ≤ g) → K (a.put o.dst v') w') :
    if Region.wanted o (yielded ops a.tmps) = true then Oper.wp P o a w K Q else E := by
  have hw : Region.wanted o (yielded ops a.tmps) = true := by simp [Region.wanted, hg]
  rw [if_pos hw]
  obtain ⟨v', w', hr, h2, h3, h5⟩ := run_append_sl (P := P) w t o.type e i z size bytes ht hi hz hsize hby hzs hsz v n xs hown ad m c news hl hnews h1 h63 hbytes
  unfold Oper.wp execOp
  simp only [ho, resolve, invoke, builtin, Sem.run_bind, Sem.run_pure, Result.andThen_ok, List.map_toArray, List.map_cons, List.map_nil, hs, hx, hr]
  exact hK v' w' h2 h3 h5

theorem wpList_append_sl {P : Program} (w : World) {ops : Array Oper} {rest : List Oper} {o : Oper} {a : Act} {Q : Exit → Act → World → Prop} (hgd : o.guard = none) (s x : Operand) (t : TypeId)
    (ho : o.op = .call { callee := .builtin .append, args := #[s, x], argTypes := #[t, t] })
    (e : TypeId) (i : TypeInfo) (z : Value) (size bytes : Nat) (ht : P.underlying t = some (.slice e)) (hi : P.info? e = some i) (hz : i.zero = some z)
    (hsize : i.size = size) (hby : i.bytes = bytes) (hzs : z.cells.size = size) (hsz : 0 < size)
    (v : Value) (n : Nat) (xs : List Value) (hs : a.eval s = v) (hown : Sl w e size v n xs)
    (ad : Addr) (m c : Nat) (news : List Value) (hx : a.eval x = .slice (some ad) m c) (hl : news.length = m * size) (hnews : ∀ j u, news[j]? = some u → w.cell? (ad.add j) = some u) (h1 : ∀ u ∈ news, u.oneCell' = true)
    (h63 : n + m ≤ maxLen) (hbytes : (n + m) * bytes ≤ 140737488355328)
    (h : ∀ v' w', Sl w' e size v' (n + m) (xs ++ news) → w.grownBy w' v.ownBlock → (v'.ownBlock = v.ownBlock ∨ ∃ g, v'.ownBlock = some g ∧ w.heap.size ≤ g) → wpList P ops Q rest (a.put o.dst v') w') : wpList P ops Q (o :: rest) a w := by
  refine wpList_plain hgd fun K hK => ?_
  obtain ⟨v', w', hr, h2, h3, h5⟩ := run_append_sl (P := P) w t o.type e i z size bytes ht hi hz hsize hby hzs hsz v n xs hown ad m c news hl hnews h1 h63 hbytes
  unfold Oper.wp execOp
  simp only [ho, resolve, invoke, builtin, Sem.run_bind, Sem.run_pure, Result.andThen_ok, List.map_toArray, List.map_cons, List.map_nil, hs, hx, hr]
  exact hK _ _ (h v' w' h2 h3 h5)
end Go.Proofs.YtgamgomepdfgdaaGreat
