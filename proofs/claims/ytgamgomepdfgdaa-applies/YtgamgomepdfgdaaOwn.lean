import Derived.Test.YtgamgomepdfgdaaFileOf
import Derived.Test.YtgamgomepdfgdaaCopy
import Derived.WalkLawsBesides
import Derived.ArgAppend
namespace Go.Proofs.Ytgamgomepdfgdaa
open Go.RowKit

/-- a list that came out: the slice, its length, its mark -/
abbrev En := Value × Nat × Nat
def cN (r : En) : List Value := [r.1, .int .i64 r.2.2]
def marks (n k : Nat) : List Value := (List.replicate n (mark k)).flatMap cF

theorem marks_len (n k : Nat) : (marks n k).length = n * 2 := by rw [marks, flat_len cF 2 (fun _ => rfl), List.length_replicate]
theorem marks_succ (n k : Nat) : marks (n + 1) k = marks n k ++ cF (mark k) := by
  rw [marks, List.replicate_succ', List.flatMap_append]; rfl
theorem marks_take {m n : Nat} (k : Nat) (h : m ≤ n) : (marks n k).take (m * 2) = marks m k := by
  have e : marks n k = marks m k ++ marks (n - m) k := by
    rw [marks, marks, marks, ← List.flatMap_append, List.replicate_append_replicate]; congr 2; omega
  rw [e, ← marks_len m k, List.take_left]

/-- the list still reads as its marks -/
def Ent (w : World) (r : En) : Prop :=
  (r.2.1 = 0 ∧ ∃ a cap, r.1 = .slice a 0 cap) ∨
  ∃ g cap cur, r.1 = .slice (some ⟨g, 0, none⟩) r.2.1 cap ∧ w.heap[g]? = some (.cells cur 47 (0, 0)) ∧ cur.toList.take (r.2.1 * 2) = marks r.2.1 r.2.2
/-- it shares no row with v, or is a head of v -/
def Sep (v : Value) (n k : Nat) (r : En) : Prop := ∀ g, r.1.ownBlock = some g → v.ownBlock = some g → r.2.1 = 0 ∨ (r.2.1 ≤ n ∧ r.2.2 = k)

theorem Ent.of_row {w : World} {base n k : Nat} {v : Value} (h : w.ownsRow base 47 2 v n (marks n k)) : Ent w (v, n, k) := by
  rcases h.2 with ⟨rfl, rfl⟩ | ⟨g, cap, cur, rfl, _, hg, _, _, _, ht⟩
  · exact .inl ⟨rfl, _, _, rfl⟩
  · exact .inr ⟨g, cap, cur, rfl, hg, ht⟩
theorem Sep.self (v : Value) (n k : Nat) : Sep v n k (v, n, k) := fun _ _ _ => .inr ⟨Nat.le_refl _, rfl⟩

theorem Ent.block {w : World} {r : En} (h : Ent w r) (hn : r.2.1 ≠ 0) : ∃ g cur, r.1.ownBlock = some g ∧ w.heap[g]? = some (.cells cur 47 (0, 0)) := by
  rcases h with ⟨h0, _⟩ | ⟨g, cap, cur, h1, h2, _⟩
  · exact absurd h0 hn
  · exact ⟨g, cur, by rw [h1]; rfl, h2⟩

theorem lt_of_heap {w : World} {g : Nat} {o : Obj} (h : w.heap[g]? = some o) : g < w.heap.size := (Array.getElem?_eq_some_iff.1 h).1

/-- a row of another kind was written -/
theorem Ent.kept {w w' : World} {r : En} {row : Option Nat} (h : Ent w r) (hg : w.grownBy w' row) (hne : ∀ g cur, row = some g → w.heap[g]? ≠ some (.cells cur 47 (0, 0))) : Ent w' r := by
  rcases h with h | ⟨g, cap, cur, h1, h2, h3⟩
  · exact .inl h
  · refine .inr ⟨g, cap, cur, h1, ?_, h3⟩
    rw [hg.block g (lt_of_heap h2) (fun e => hne g cur e.symm h2), h2]

/-- behind an append to v -/
theorem Ent.appended {w w' : World} {r : En} {v v' : Value} {base n k : Nat} (h : Ent w r) (hs : Sep v n k r) (hg : w.grownBy w' v.ownBlock) (hrow : w'.ownsRow base 47 2 v' (n + 1) (marks (n + 1) k))
    (hv : v'.ownBlock = v.ownBlock ∨ (w.grownBy w' none ∧ ∃ g, v'.ownBlock = some g ∧ w.heap.size ≤ g)) : Ent w' r ∧ Sep v' (n + 1) k r := by
  by_cases h0 : r.2.1 = 0
  · refine ⟨?_, fun _ _ _ => .inl h0⟩
    rcases h with h | ⟨g, cap, cur, h1, _, _⟩
    · exact .inl h
    · exact .inl ⟨h0, _, cap, by rw [h1, h0]⟩
  · obtain ⟨g, cur, hb, hc⟩ := h.block h0
    rcases hv with hv | ⟨hn, g', hg', hlt⟩
    · by_cases hvg : v.ownBlock = some g
      · have hsg := (hs g hb hvg).resolve_left h0
        refine ⟨?_, fun _ _ _ => .inr ⟨by omega, hsg.2⟩⟩
        rcases h with h | ⟨g1, cap, cur1, h1, _, _⟩
        · exact .inl h
        · have : g1 = g := by rw [h1] at hb; simpa [Value.ownBlock] using hb
          subst this
          rcases hrow.2 with ⟨hnil, _⟩ | ⟨g2, cap2, cur2, hv2, _, hh, _, _, _, ht⟩
          · rw [hnil, hvg] at hv; simp [Value.ownBlock] at hv
          · have : g2 = g1 := by rw [hv2, hvg] at hv; simpa [Value.ownBlock] using hv
            subst this
            refine .inr ⟨g2, cap, cur2, h1, hh, ?_⟩
            have := marks_take k (show r.2.1 ≤ n + 1 by omega)
            rw [← ht, List.take_take, Nat.min_eq_left (by omega)] at this
            rw [this, hsg.2]
      · refine ⟨?_, fun g1 e1 e2 => ?_⟩
        · rcases h with h | ⟨g1, cap, cur1, h1, h2, h3⟩
          · exact .inl h
          · have : g1 = g := by rw [h1] at hb; simpa [Value.ownBlock] using hb
            subst this
            exact .inr ⟨g1, cap, cur1, h1, by rw [hg.block g1 (lt_of_heap h2) (fun e => hvg e.symm), h2], h3⟩
        · rw [hb] at e1; cases e1
          exact absurd (hv ▸ e2) hvg
    · refine ⟨h.kept hn (fun _ _ e => by cases e), fun g1 e1 e2 => ?_⟩
      rw [hb] at e1; cases e1
      rw [hg'] at e2; cases e2
      exact absurd (lt_of_heap hc) (by omega)

/-- only blocks of S, and new ones, are written -/
structure KeptBut (w w' : World) (S : Nat → Prop) : Prop where
  os : w'.os = w.os
  tape : w'.tape = w.tape
  output : w'.output = w.output
  size : w.heap.size ≤ w'.heap.size
  block : ∀ k, k < w.heap.size → ¬ S k → w'.heap[k]? = w.heap[k]?
theorem KeptBut.refl (w : World) (S : Nat → Prop) : KeptBut w w S := ⟨rfl, rfl, rfl, Nat.le_refl _, fun _ _ _ => rfl⟩
theorem KeptBut.grown {w wr w' : World} {S : Nat → Prop} {row : Option Nat} (h : KeptBut w wr S) (hg : wr.grownBy w' row) (hr : ∀ k, row = some k → S k ∨ w.heap.size ≤ k) : KeptBut w w' S :=
  ⟨hg.os.trans h.os, hg.tape.trans h.tape, hg.output.trans h.output, Nat.le_trans h.size hg.size, fun k hk hs => (hg.block k (Nat.lt_of_lt_of_le hk h.size) (fun e => by
    rcases hr k e.symm with h1 | h1
    · exact hs h1
    · omega)).trans (h.block k hk hs)⟩
theorem KeptBut.below {w w' : World} {S : Nat → Prop} {B : Nat} (h : KeptBut w w' S) (hB : B ≤ w.heap.size) (hs : ∀ k, S k → B ≤ k) : Below B w w' :=
  ⟨h.os, h.tape, h.output, h.size, fun k hk => h.block k (by omega) (fun e => by have := hs k e; omega)⟩
theorem below_grown {w w' : World} (h : Below w.heap.size w w') : w.grownBy w' none := ⟨h.os, h.tape, h.output, h.size, fun k hk _ => h.block k hk⟩

/-- append at a row of the call's own: the row is the old one, or a new one and the old one is as it was -/
theorem wp_append_tells {P : Program} (w : World) {o : Oper} {a : Act} {K : Act → World → Prop} {Q : Exit → Act → World → Prop} (s x : Operand) (t : TypeId)
    (ho : o.op = .call { callee := .builtin .append, args := #[s, x], argTypes := #[t, t] })
    (base : Nat) (e : TypeId) (i : TypeInfo) (z : Value) (size bytes : Nat) (ht : P.underlying t = some (.slice e)) (hi : P.info? e = some i) (hz : i.zero = some z)
    (hsize : i.size = size) (hby : i.bytes = bytes) (hzs : z.cells.size = size) (hsz : 0 < size)
    (v : Value) (n : Nat) (xs : List Value) (hs : a.eval s = v) (hown : w.ownsRow base e size v n xs)
    (ad : Addr) (m c : Nat) (news : List Value) (hx : a.eval x = .slice (some ad) m c) (hl : news.length = m * size) (hnews : ∀ j u, news[j]? = some u → w.cell? (ad.add j) = some u) (h1 : ∀ u ∈ news, u.oneCell' = true)
    (hm : 0 < m) (h63 : n + m ≤ maxLen) (hbytes : (n + m) * bytes ≤ 140737488355328) (hbase : base ≤ w.heap.size)
    (h : ∀ v' w', w'.ownsRow base e size v' (n + m) (xs ++ news) → w.grownBy w' v.ownBlock → (v'.ownBlock = v.ownBlock ∨ (w.grownBy w' none ∧ ∃ g, v'.ownBlock = some g ∧ w.heap.size ≤ g)) → K (a.put o.dst v') w') : o.wp P a w K Q := by
  have key : ∃ v' w', (Builtin.append_ #[t, t] o.type #[v, .slice (some ad) m c]).run P w = .ok v' w' ∧ w'.ownsRow base e size v' (n + m) (xs ++ news) ∧ w.grownBy w' v.ownBlock ∧ (v'.ownBlock = v.ownBlock ∨ (w.grownBy w' none ∧ ∃ g, v'.ownBlock = some g ∧ w.heap.size ≤ g)) := by
    have grows : ∀ v' w', w'.ownsRow w.heap.size e size v' (n + m) (xs ++ news) → w.grownBy w' none → w'.ownsRow base e size v' (n + m) (xs ++ news) ∧ w.grownBy w' v.ownBlock ∧ (v'.ownBlock = v.ownBlock ∨ (w.grownBy w' none ∧ ∃ g, v'.ownBlock = some g ∧ w.heap.size ≤ g)) := by
      intro v' w' r1 r2
      refine ⟨⟨r1.1, ?_⟩, ⟨r2.os, r2.tape, r2.output, r2.size, fun k hk _ => r2.block k hk (by simp)⟩, .inr ⟨r2, ?_⟩⟩
      · rcases r1.2 with h | ⟨g, cap, cur, e1, e2, e3⟩
        · exact .inl h
        · exact .inr ⟨g, cap, cur, e1, Nat.le_trans hbase e2, e3⟩
      · rcases r1.2 with ⟨_, h0⟩ | ⟨g, cap, cur, e1, e2, e3⟩
        · omega
        · exact ⟨g, by rw [e1]; rfl, e2⟩
    rcases hown.2 with ⟨rfl, rfl⟩ | ⟨g, cap, cur, rfl, hbg, hg, hnc, hcm, hcs, htake⟩
    · obtain rfl : xs = [] := List.eq_nil_of_length_eq_zero (by simpa using hown.1)
      obtain ⟨v', w', hrun, r1, r2, _⟩ := run_append_own (P := P) w w.heap.size t o.type e i z size bytes ht hi hz hsize hby hzs hsz (.slice none 0 0) 0 [] (World.ownsRow_nil w _ e size) ad m c news hl hnews h1 h63 hbytes (Nat.le_refl _)
      exact ⟨v', w', hrun, grows v' w' r1 r2⟩
    · by_cases hr : n + m ≤ cap
      · subst hsize
        have hfit : n * i.size + news.length ≤ cur.size := by rw [hl, hcs, ← Nat.add_mul]; exact Nat.mul_le_mul_right _ hr
        have hrun := run_append_room (P := P) w t o.type e i ht hi g n cap cur hg ad m c news hl hnews h1 hr hfit
        have hlen : (xs ++ news).length = (n + m) * i.size := by rw [List.length_append, hown.1, hl, Nat.add_mul]
        refine ⟨_, _, hrun, ⟨hlen, .inr ⟨g, cap, _, rfl, hbg, setRow_heap w g cur _ e _ hg, hr, hcm, ?_, ?_⟩⟩, ⟨rfl, rfl, rfl, by simp, fun k _ hk => setRow_other w g k _ (fun e => hk (by simp [Value.ownBlock, e]))⟩, .inl rfl⟩
        · simp only [List.size_toArray, List.length_append, List.length_take, List.length_drop, Array.length_toList]
          omega
        · rw [htake, ← hlen]
          exact List.take_left
      · obtain ⟨v', w', hrun, r1, r2⟩ := run_append_arg_grows (P := P) w t o.type e i z size bytes ht hi hz hsize hby hzs hsz ⟨g, 0, none⟩ n cap xs hown.1 (hown.cells (g := g) rfl) ad m c news hl hnews (by omega) h63 hbytes
        exact ⟨v', w', hrun, grows v' w' r1 r2⟩
  obtain ⟨v', w', hr, h2, h3, h4⟩ := key
  unfold Oper.wp execOp
  simp only [ho, resolve, invoke, builtin, Sem.run_bind, Sem.run_pure, Result.andThen_ok, List.map_toArray, List.map_cons, List.map_nil, hs, hx, hr]
  exact h v' w' h2 h3 h4

theorem wpList_append_tells {P : Program} (w : World) {ops : Array Oper} {rest : List Oper} {o : Oper} {a : Act} {Q : Exit → Act → World → Prop} (hgd : o.guard = none) (s x : Operand) (t : TypeId)
    (ho : o.op = .call { callee := .builtin .append, args := #[s, x], argTypes := #[t, t] })
    (base : Nat) (e : TypeId) (i : TypeInfo) (z : Value) (size bytes : Nat) (ht : P.underlying t = some (.slice e)) (hi : P.info? e = some i) (hz : i.zero = some z)
    (hsize : i.size = size) (hby : i.bytes = bytes) (hzs : z.cells.size = size) (hsz : 0 < size)
    (v : Value) (n : Nat) (xs : List Value) (hs : a.eval s = v) (hown : w.ownsRow base e size v n xs)
    (ad : Addr) (m c : Nat) (news : List Value) (hx : a.eval x = .slice (some ad) m c) (hl : news.length = m * size) (hnews : ∀ j u, news[j]? = some u → w.cell? (ad.add j) = some u) (h1 : ∀ u ∈ news, u.oneCell' = true)
    (hm : 0 < m) (h63 : n + m ≤ maxLen) (hbytes : (n + m) * bytes ≤ 140737488355328) (hbase : base ≤ w.heap.size)
    (h : ∀ v' w', w'.ownsRow base e size v' (n + m) (xs ++ news) → w.grownBy w' v.ownBlock → (v'.ownBlock = v.ownBlock ∨ (w.grownBy w' none ∧ ∃ g, v'.ownBlock = some g ∧ w.heap.size ≤ g)) → wpList P ops Q rest (a.put o.dst v') w') : wpList P ops Q (o :: rest) a w :=
  wpList_plain hgd fun _ hK => wp_append_tells w s x t ho base e i z size bytes ht hi hz hsize hby hzs hsz v n xs hs hown ad m c news hx hl hnews h1 hm h63 hbytes hbase fun v' w' h2 h3 h4 => hK _ _ (h v' w' h2 h3 h4)
end Go.Proofs.Ytgamgomepdfgdaa
