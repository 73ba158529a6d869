import Derived.Test.YtgamgomepdfgdaaGreatM09
import Derived.Maps.AppendAt
import Derived.Deep.CutRange
import Derived.Deep.CutBlock
import Derived.Test.YtgamgomepdfgdaaGreatM17
namespace Go.Proofs.YtgamgomepdfgdaaGreat
open Go.RowKit

/-- a record as it stands in the list that was read -/
def RecIn (W : World) (B : Nat) (r : Rc) (cs : List Value) : Prop := ∃ (l : Nat) (ea : Option Addr) (en ec i : Nat) (p : Bool) (q : Nat), cs = [.int .i64 r.kind, .int .i64 l, .slice ea en ec, .int .i64 i, .bool p, .int .i64 q] ∧ RecQ r B W l (.slice ea en ec) i p q

theorem Half.kept {W W' : World} {g n k : Nat} {es : List Ed} (h : Half W g n k es) (hn : es.length = n) (hk : k = n) (hs : W.heap.size ≤ W'.heap.size) (hb : ∀ g s, W.cell? ⟨g, 0, none⟩ = some (.string s) → W'.heap[g]? = W.heap[g]?) : Half W' g n k es := by
  subst hk
  by_cases h0 : k = 0
  · subst h0
    exact ⟨Nat.lt_of_lt_of_le h.1 hs, fun j hj => by omega, fun i _ h => by omega⟩
  · have e := hb g _ (by simpa using (h.2.2 0 (by omega) (by omega)).1)
    refine ⟨Nat.lt_of_lt_of_le h.1 hs, fun j hj => ⟨?_, ?_⟩, fun i hi hik => ?_⟩
    · obtain ⟨v, hv⟩ := (h.2.1 j hj).1
      exact ⟨v, (World.cell?_of_block (w := W) e).trans hv⟩
    · rw [← (h.2.1 j hj).2]; simp [World.frozen?, e]
    · obtain ⟨a0, a1, a2⟩ := h.2.2 i hi hik
      exact ⟨(World.cell?_of_block (w := W) e).trans a0, (World.cell?_of_block (w := W) e).trans a1, (World.cell?_of_block (w := W) e).trans a2⟩
theorem RecQ.low {r : Rc} {B B' : Nat} {W : World} {l : Nat} {ev : Value} {i : Nat} {p : Bool} {q : Nat} (h : RecQ r B W l ev i p q) (hB : B' ≤ B) : RecQ r B' W l ev i p q := by
  obtain ⟨hp, ⟨h1, h2, h3, h4, g, h5, h6, h7⟩ | h⟩ := h
  · exact ⟨hp, .inl ⟨h1, h2, h3, h4, g, h5, Nat.le_trans hB h6, h7⟩⟩
  · exact ⟨hp, .inr h⟩
theorem RecQ.kept {r : Rc} {B : Nat} {W W' : World} {l : Nat} {ev : Value} {i : Nat} {p : Bool} {q : Nat} (h : RecQ r B W l ev i p q) (hs : W.heap.size ≤ W'.heap.size) (hb : ∀ g s, W.cell? ⟨g, 0, none⟩ = some (.string s) → W'.heap[g]? = W.heap[g]?) : RecQ r B W' l ev i p q := by
  obtain ⟨hp, ⟨h1, h2, h3, h4, g, h5, h6, h7⟩ | h⟩ := h
  · exact ⟨hp, .inl ⟨h1, h2, h3, h4, g, h5, h6, h7.kept rfl rfl hs hb⟩⟩
  · exact ⟨hp, .inr h⟩
theorem RecIn.kept {r : Rc} {B : Nat} {W W' : World} {cs : List Value} (h : RecIn W B r cs) (hs : W.heap.size ≤ W'.heap.size) (hb : ∀ g s, W.cell? ⟨g, 0, none⟩ = some (.string s) → W'.heap[g]? = W.heap[g]?) : RecIn W' B r cs := by
  obtain ⟨l, ea, en, ec, i, p, q, e, h⟩ := h
  exact ⟨l, ea, en, ec, i, p, q, e, h.kept hs hb⟩

/-- the records that were read, each with its six cells -/
structure Recs (W : World) (B : Nat) (rs : List Rc) (css : List (List Value)) : Prop where
  len : css.length = rs.length
  each : ∀ j (h : j < rs.length) (h' : j < css.length), RecIn W B rs[j] css[j]
theorem Recs.kept {B : Nat} {W W' : World} {rs : List Rc} {css : List (List Value)} (h : Recs W B rs css) (hs : W.heap.size ≤ W'.heap.size) (hb : ∀ g s, W.cell? ⟨g, 0, none⟩ = some (.string s) → W'.heap[g]? = W.heap[g]?) : Recs W' B rs css :=
  ⟨h.len, fun j h1 h2 => (h.each j h1 h2).kept hs hb⟩
theorem Recs.nil (W : World) (B : Nat) : Recs W B [] [] := ⟨rfl, fun j h => by simp at h⟩
theorem Recs.snoc {B : Nat} {W : World} {rs : List Rc} {css : List (List Value)} {r : Rc} {cs : List Value} (h : Recs W B rs css) (hr : RecIn W B r cs) : Recs W B (rs ++ [r]) (css ++ [cs]) := by
  refine ⟨by rw [List.length_append, List.length_append, h.len]; rfl, fun j h1 h2 => ?_⟩
  by_cases hj : j < rs.length
  · rw [List.getElem_append_left hj, List.getElem_append_left (by rw [h.len]; exact hj)]
    exact h.each j hj (by rw [h.len]; exact hj)
  · have e : j = rs.length := by rw [List.length_append] at h1; simp at h1; omega
    subst e
    have e2 : (css ++ [cs])[rs.length]'h2 = cs := by
      rw [List.getElem_append_right (by rw [h.len]; exact Nat.le_refl _)]; simp [h.len]
    rw [e2]
    simpa using hr
theorem Recs.flat {B : Nat} {W : World} {rs : List Rc} {css : List (List Value)} (h : Recs W B rs css) : ∀ cs ∈ css, cs.length = 6 := by
  intro cs hc
  obtain ⟨j, hj, rfl⟩ := List.mem_iff_getElem.1 hc
  obtain ⟨l, ea, en, ec, i, p, q, e, _⟩ := h.each j (by rw [← h.len]; exact hj) hj
  rw [e]; rfl

theorem info_rec : (Tryz.prog.info? 140).map (fun i => (i.zero, i.size, i.bytes)) = some (some (.agg zeroR), 6, 64) := by kernel_rfl

/-- a journal: whole records, and what is torn behind them -/
def TornOf (T : List UInt8) : Prop := ∃ (r : Rc) (m : Nat), r.ok ∧ m < 9 + r.body.length ∧ T = (recB r.kind r.body).take m

/-- the bytes of records -/
def allB (rs : List Rc) : List UInt8 := rs.flatMap Rc.bytes
theorem allB_take {rs : List Rc} {k : Nat} (h : k < rs.length) : allB (rs.take (k + 1)) = allB (rs.take k) ++ rs[k].bytes := by
  rw [allB, List.take_succ_eq_append_getElem h, List.flatMap_append]; simp [allB]
theorem allB_drop (rs : List Rc) (k : Nat) (T : List UInt8) : (allB rs ++ T).drop (allB (rs.take k)).length = allB (rs.drop k) ++ T := by
  have e : allB rs = allB (rs.take k) ++ allB (rs.drop k) := by
    rw [allB, allB, allB, ← List.flatMap_append, List.take_append_drop]
  rw [e, List.append_assoc, List.drop_left' rfl]
theorem allB_le (rs : List Rc) (k : Nat) (T : List UInt8) : (allB (rs.take k)).length ≤ (allB rs ++ T).length := by
  have e : allB rs = allB (rs.take k) ++ allB (rs.drop k) := by
    rw [allB, allB, allB, ← List.flatMap_append, List.take_append_drop]
  rw [e, List.length_append, List.length_append]; omega

theorem BV.tail {w : World} {a : Option Addr} {c : Nat} {R : List UInt8} (h : BV w (.slice a R.length c) R) {n o : Nat} (hn : n ≤ R.length) (g off : Nat) (ha : a = some ⟨g, off, none⟩) (ho : o = off + n ∨ c - n = 0) : BV w (.slice (some ⟨g, o, none⟩) (R.length - n) (c - n)) (R.drop n) := by
  subst ha
  rcases h with ⟨_, h⟩ | ⟨g', off', cap, h1, h2, h3, h4, h5⟩
  · cases h
  · cases h1
    refine .inr ⟨g, o, c - n, by rw [List.length_drop], by rw [List.length_drop]; omega, ⟨by omega, by rw [List.length_drop]; omega⟩, h4, fun i hi => ?_⟩
    rw [List.length_drop] at hi
    rcases ho with rfl | ho
    · rw [List.getElem_drop, Nat.add_assoc]; exact h5 (n + i) (by omega)
    · omega

theorem row_apart {W : World} {base : Nat} {t : TypeId} {n : Nat} {v : Value} {xs : List Value} (h : W.ownsRow base t 6 v n xs) (hf : n = 0 → v = .slice none 0 0) (h1 : 0 < n → ∃ x, xs[0]? = some (.int .i64 x)) {g : Nat} {s : ByteArray} (hc : W.cell? ⟨g, 0, none⟩ = some (.string s)) : v.ownBlock ≠ some g := fun e => by
  by_cases h0 : n = 0
  · rw [hf h0] at e; simp [Value.ownBlock] at e
  · obtain ⟨x, hx⟩ := h1 (by omega)
    rcases h.2 with ⟨rfl, _⟩ | ⟨g', cap, cur, rfl, _⟩
    · simp [Value.ownBlock] at e
    · have e' : g' = g := by simpa [Value.ownBlock] using e
      subst e'
      have := h.cells (g := g') rfl 0 _ hx
      rw [addr_add] at this
      rw [this] at hc
      cases hc
theorem Recs.first {B : Nat} {W : World} {rs : List Rc} {css : List (List Value)} (h : Recs W B rs css) (h0 : 0 < rs.length) : ∃ x, css.flatten[0]? = some (.int .i64 x) := by
  have hl := h.len
  cases css with
  | nil => simp at hl; omega
  | cons cs css =>
    obtain ⟨l, ea, en, ec, i, p, q, e, _⟩ := h.each 0 h0 (by simp)
    have e' : cs = _ := e
    subst e'
    exact ⟨_, rfl⟩
theorem cells_at (w : World) (cs : List Value) (t : TypeId) : ∀ j u, cs[j]? = some u → (w.alloc (.cells cs.toArray t)).cell? ((⟨w.heap.size, 0, none⟩ : Addr).add j) = some u := by
  intro j u h
  rw [addr_add, Nat.zero_add]
  have hb : Bx (w.alloc (.cells cs.toArray t)) w.heap.size t cs.toArray := Bx.new w _ t
  exact hb.cell (by simpa using h)
theorem cells_at2 (w : World) (o : Obj) (cs : List Value) (t : TypeId) : ∀ j u, cs[j]? = some u → ((w.alloc o).alloc (.cells cs.toArray t)).cell? ((⟨w.heap.size + 1, 0, none⟩ : Addr).add j) = some u := by
  intro j u h
  have := cells_at (w.alloc o) cs t j u h
  simpa using this
theorem cell_alloc2 {w : World} {b o : Nat} {v : Value} (h : w.cell? ⟨b, o, none⟩ = some v) (o1 o2 : Obj) : ((w.alloc o1).alloc o2).cell? ⟨b, o, none⟩ = some v := jcell_after (below_new _ _) (jcell_after (below_new _ _) h)
theorem grown_string {w w' : World} {row : Option Nat} (hg : w.grownBy w' row) {g : Nat} {s : ByteArray} (hc : w.cell? ⟨g, 0, none⟩ = some (.string s)) (hne : row ≠ some g) : w'.heap[g]? = w.heap[g]? := hg.block g (jcell_lt hc) (fun e => hne e.symm)
theorem below_at_new' {w wr w2 : World} {b : Nat} (h : Below w.heap.size w wr) (hg : wr.grownBy w2 (some b)) (hb : w.heap.size ≤ b) : Below w.heap.size w w2 := below_at_new h hg hb
theorem room64 {k : Nat} (h : k < 1099511627776) : (k + 1) * 64 ≤ 140737488355328 := Nat.le_trans (Nat.mul_le_mul_right 64 (show k + 1 ≤ 1099511627776 by omega)) (by decide)

set_option maxRecDepth 100000 in
set_option maxHeartbeats 4000000 in
theorem read_walk (rs : List Rc) (T L : List UInt8) (v : Value) (w : World) (hok : ∀ r ∈ rs, r.ok) (hT : TornOf T) (hL : L = allB rs ++ T) (hV : BV w v L) (hn : rs.length < 1099511627776) :
    Calls Tryz.prog 74 #[v] w fun e w' => (∃ rv css, e = .returned (.tuple #[rv, .int .i64 (allB rs).length]) ∧ Recs w' w.heap.size rs css ∧ w'.ownsRow w.heap.size 140 6 rv rs.length css.flatten) ∧ Below w.heap.size w w' := by
  obtain ⟨i0, hi, hz0, hz1, hz2⟩ := info_parts info_rec
  obtain ⟨a, c, rfl, hc1, hc2, hc3⟩ := hV.len
  have HV : Hid (BV w (.slice a L.length c) L) := hV
  have HL : Hid (L = allB rs ++ T) := hL
  clear hV hL
  go_enter Tryz.func74, Tryz.ntmps74
  go_wp2_with fail
  go_loopw [2, 3, 4, 5, 6] (fun rv sv _ _ _ wr => ∃ (k : Nat) (css : List (List Value)), k ≤ rs.length ∧ sv = .int .i64 (allB (rs.take k)).length ∧ Hid (k = 0 → rv = .slice none 0 0) ∧ Hid (Recs wr w.heap.size (rs.take k) css) ∧ Hid (wr.ownsRow w.heap.size 140 6 rv k css.flatten) ∧ Hid (Below w.heap.size w wr)) (fun _ sv _ _ _ _ => (allB rs).length + 1 - (intOf sv).toNat)
  case atStart => exact ⟨0, [], Nat.zero_le _, rfl, fun _ => rfl, Recs.nil _ _, World.ownsRow_nil _ _ _ _, Below.refl _ _⟩
  case round =>
    obtain ⟨k, css, hk, rfl, hnil, hR, hrow, hB⟩ := hrel
    have hnL : (allB (rs.take k)).length ≤ L.length := by rw [HL.out]; exact allB_le rs k T
    have hdr : Hid (L.drop (allB (rs.take k)).length = allB (rs.drop k) ++ T) := by
      show _ = _
      rw [HL.out]; exact allB_drop rs k T
    generalize hnn : (allB (rs.take k)).length = n at hnL hdr
    have HN : Hid ((allB (rs.take k)).length = n) := hnn
    have HVr : Hid (BV wr (.slice a L.length c) L) := by
      have h := HV.out
      rcases h with h | ⟨g, off, cap, h1, h2, h3, h4, h5⟩
      · exact .inl h
      · exact .inr ⟨g, off, cap, h1, h2, h3, Nat.lt_of_lt_of_le h4 hB.out.size, fun i hi => (World.cell?_of_block (w := w) (hB.out.block g h4)).trans (h5 i hi)⟩
    clear hnn
    go_upto_region 1 with fail
    go_cut [4] from 7 to 28 (fun s4 wz => s4 = .pointer (some ⟨wr.heap.size, 0, none⟩) ∧ ∃ v1, wz = wr.alloc (.cells #[v1, .bool false] 205) ∧ Hid (BV wr v1 (L.drop n)))
    case first =>
      rcases HVr.out with ⟨rfl, h'⟩ | ⟨g, off, cap, h1, h2, h3, h4, h5⟩
      · simp only [List.length_nil, Value.slice.injEq, true_and] at h'
        obtain ⟨rfl, rfl⟩ := h'
        obtain rfl : n = 0 := by simpa using hnL
        go_wp2_with fail
        go_meet
        case rel => exact ⟨rfl, _, rfl, .inl ⟨rfl, rfl⟩⟩
      · cases h1
        have K : Hid (∀ o, (o = off + n ∨ c - n = 0) → BV wr (.slice (some ⟨g, o, none⟩) (L.length - n) (c - n)) (L.drop n)) := fun o ho => BV.tail HVr.out hnL g off rfl ho
        clear h4 h5
        by_cases hcn : c = n
        · subst hcn
          go_wp2_with fail
          go_meet
          case rel =>
            have hL0 : L.length - c = 0 := by omega
            have := K.out off (.inr (Nat.sub_self c))
            rw [hL0, Nat.sub_self] at this
            exact ⟨rfl, _, rfl, this⟩
        · go_wp2_with fail
          go_meet
          case rel => exact ⟨rfl, _, rfl, K.out _ (.inl rfl)⟩
    case rest =>
      obtain ⟨rfl, v1, rfl, hV1⟩ := hcut
      rw [hdr.out] at hV1
      have C1 : Cur (wr.alloc (.cells #[v1, .bool false] 205)) wr.heap.size v1 false := Bx.new wr #[v1, .bool false] 205
      have V1 : BV (wr.alloc (.cells #[v1, .bool false] 205)) v1 (allB (rs.drop k) ++ T) := hV1.out.grown (World.grownBy_alloc _ _ _)
      have hBs := hB.out.size
      by_cases hlk : k < rs.length
      · have hro := hok _ (List.getElem_mem hlk)
        have hdk : allB (rs.drop k) ++ T = recB rs[k].kind rs[k].body ++ (allB (rs.drop (k + 1)) ++ T) := by
          rw [List.drop_eq_getElem_cons hlk, allB, List.flatMap_cons, Rc.bytes_eq, List.append_assoc]; rfl
        have hW := record_whole wr.heap.size v1 rs[k].kind rs[k].body (allB (rs.drop (k + 1)) ++ T) _ (RecQ rs[k]) _ C1 V1 (Rc.kind_lt hro) (Rc.body_lt hro) hdk (back_rec rs[k] hro)
        have htk : Hid (allB (rs.take (k + 1)) = allB (rs.take k) ++ rs[k].bytes ∧ rs.take (k + 1) = rs.take k ++ [rs[k]]) := ⟨allB_take hlk, List.take_succ_eq_append_getElem hlk⟩
        have hdl : Hid (L.length - (allB (rs.drop (k + 1)) ++ T).length = (allB (rs.take (k + 1))).length ∧ (allB (rs.drop (k + 1)) ++ T).length ≤ L.length ∧ n < (allB (rs.take (k + 1))).length ∧ (allB (rs.take (k + 1))).length ≤ (allB rs).length) := by
          have a1 := allB_le rs (k + 1) T
          have a2 := congrArg List.length (allB_drop rs (k + 1) T)
          have a3 := allB_le rs (k + 1) []
          rw [List.length_drop] at a2
          rw [← HL.out] at a1 a2
          rw [List.append_nil] at a3
          have a4 : (allB (rs.take (k + 1))).length = n + (9 + rs[k].body.length) := by
            rw [allB_take hlk, List.length_append, HN.out, Rc.bytes_eq, recB_len']
          refine ⟨?_, ?_, ?_, a3⟩
          · omega
          · omega
          · omega
        clear C1 V1 hV1 hdk
        go_wp2_with fail
        go_fit hW
        rintro e w2 ⟨⟨l, ea, en, ec, i, p, q, B, rfl, hBl, hQ⟩, ⟨v2, hC2, hV2, hO2⟩, hg2⟩
        obtain ⟨a2, c2, rfl, _, _, _⟩ := hV2.len
        generalize hD : allB (rs.drop (k + 1)) ++ T = D at *
        generalize hrk : rs[k] = r at *
        have G2 : Hid (wr.grownBy w2 (some wr.heap.size)) := (World.grownBy_alloc wr _ _).trans hg2
        have C2 : Hid (Cur w2 wr.heap.size (.slice a2 D.length c2) false) := hC2
        have hBw : w.heap.size ≤ B := by
          have e1 : (wr.alloc (.cells #[v1, .bool false] 205)).heap.size = wr.heap.size + 1 := by simp
          omega
        have Q2 : Hid (RecQ r w.heap.size w2 l (.slice ea en ec) i p q) := RecQ.low hQ hBw
        have R2 : Hid (w2.ownsRow w.heap.size 140 6 u2 k css.flatten) := World.ownsRow.kept hrow.out G2.out (by
            cases hb : u2.ownBlock with
            | none => exact .inl rfl
            | some g => exact .inr (fun e => by
                have := (World.ownsRow.lt hrow.out g hb).2
                cases e; omega))
        have N2 : Hid (u2.ownBlock ≠ some wr.heap.size) := fun e => by
          have := (World.ownsRow.lt hrow.out _ e).2
          omega
        have c20 := hC2.c0
        have q1 : Hid (k + 1 ≤ maxLen) := by show _ ≤ _; unfold maxLen; omega
        have q2 : Hid ((k + 1) * 64 ≤ 140737488355328) := room64 (by omega)
        have q3 : Hid (∀ o1 o2, w.heap.size ≤ ((w2.alloc o1).alloc o2).heap.size) := fun o1 o2 => by
          have := G2.out.size
          show w.heap.size ≤ _
          simp; omega
        have hsubI : (L.length : Int) - (D.length : Int) = ((allB (rs.take (k + 1))).length : Int) := by
          have := hdl.out; omega
        have hw2 : wr.heap.size < w2.heap.size := (Array.getElem?_eq_some_iff.1 hC2).1
        clear hW hC2 hV2 hO2 hg2 hQ hBl hro hok
        go_wp2_with (at_builtin; refine wpList_append_own_at _ rfl (.tmp 19) (.tmp 21) _ rfl w.heap.size _ i0 _ 6 64 Tryz.underlying141 hi hz0 hz1 hz2 rfl (by decide) u2 _ _ rfl (World.ownsRow.alloc (World.ownsRow.alloc R2.out _) _) ⟨w2.heap.size + 1, 0, none⟩ 1 1 [.int .i64 r.kind, .int .i64 l, .slice ea en ec, .int .i64 i, .bool p, .int .i64 q] rfl rfl (cells_at2 w2 _ _ _) (by simp [Value.oneCell']) q1.out q2.out (q3.out _ _) ?_; intro v3 w3 hown3 hg3 hnil3 hloc3; have c30 : w3.cell? ⟨wr.heap.size, 0, none⟩ = some (.slice a2 D.length c2) := hg3.cell (cell_alloc2 c20 _ _) (fun e => N2.out e.symm); have O3 : Hid _ := hown3; have G3 : Hid _ := hg3; clear hown3 hg3 hnil3 hloc3)
        have hkl : (rs.take k).length = k := by rw [List.length_take, Nat.min_eq_left hk]
        have hfirst : 0 < k → ∃ x, css.flatten[0]? = some (.int .i64 x) := fun h => Recs.first hR.out (by rw [hkl]; exact h)
        have keep : ∀ g s, w2.cell? ⟨g, 0, none⟩ = some (.string s) → w3.heap[g]? = w2.heap[g]? := fun g s hc => by
          have hlt := jcell_lt hc
          have hne := row_apart R2.out hnil.out hfirst hc
          rw [World.grownBy.block G3.out g (by simp; omega) (fun e => hne e.symm), Below.heap_alloc _ _ _ (by simp; omega), Below.heap_alloc _ _ _ hlt]
        have hs3 : w2.heap.size ≤ w3.heap.size := Nat.le_trans (by simp; omega) (World.grownBy.size G3.out)
        refine ⟨⟨k + 1, css ++ [[.int .i64 r.kind, .int .i64 l, .slice ea en ec, .int .i64 i, .bool p, .int .i64 q]], hlk, rfl, fun h => by omega, ?_, ?_, ?_⟩, by have := hdl.out; simp [intOf]; omega⟩
        · show Recs w3 w.heap.size (rs.take (k + 1)) _
          rw [htk.out.2]
          refine Recs.snoc (Recs.kept hR.out (Nat.le_trans G2.out.size hs3) fun g s hc => ?_) ⟨l, ea, en, ec, i, p, q, rfl, RecQ.kept Q2.out hs3 keep⟩
          have hlt := jcell_lt hc
          have e2 := grown_string G2.out hc (fun e => by cases e; omega)
          rw [keep g s ((World.cell?_of_block (w := wr) e2).trans hc), e2]
        · show w3.ownsRow _ _ _ _ _ _
          rw [List.flatten_append, List.flatten_singleton]
          exact O3.out
        · have hb2 : Below w.heap.size w w2 := below_at_new hB.out G2.out hBs
          exact ((hb2.alloc hb2.size _).alloc (by have := hb2.size; simp; omega) _).grown G3.out (by have := hb2.size; simp; omega) (fun j hj => (World.ownsRow.lt R2.out j hj).1)
      · obtain rfl : k = rs.length := by omega
        obtain ⟨r0, m, hr0, hm, hTe⟩ := hT
        have V1' : BV (wr.alloc (.cells #[v1, .bool false] 205)) v1 T := by
          have := V1
          rw [List.drop_length] at this
          simpa [allB] using this
        have hW := record_torn wr.heap.size v1 r0.kind m r0.body T _ C1 V1' (Rc.body_lt hr0) hm hTe
        clear C1 V1 V1' hV1 hTe
        go_wp2_with fail
        go_fit hW
        rintro e w2 ⟨rfl, hg2⟩
        have G2 : Hid (wr.grownBy w2 (some wr.heap.size)) := (World.grownBy_alloc wr _ _).trans hg2
        clear hW hg2
        unfold zeroR
        go_wp2_with fail
        refine bodyPost_ret (v := .tuple #[u2, .int .i64 n]) (by simp [results, Tryz.results74, go_sem]) rfl ⟨⟨u2, css, ?_, ?_, ?_⟩, ?_⟩
        · rw [← HN.out, List.take_length]
        · have h1 := hR.out
          rw [List.take_length] at h1
          refine h1.kept (Nat.le_trans G2.out.size (by simp)) fun g s hc => ?_
          have hlt := jcell_lt hc
          rw [Below.heap_alloc _ _ _ (Nat.lt_of_lt_of_le hlt G2.out.size)]
          exact grown_string G2.out hc (fun e => by cases e; omega)
        · exact World.ownsRow.alloc (World.ownsRow.kept hrow.out G2.out (by
            cases hb : u2.ownBlock with
            | none => exact .inl rfl
            | some g => exact .inr (fun e => by
                have := (World.ownsRow.lt hrow.out g hb).2
                cases e; omega))) _
        · exact (below_at_new' hB.out G2.out hBs).alloc (Nat.le_trans hBs G2.out.size) _
end Go.Proofs.YtgamgomepdfgdaaGreat

namespace Go.Proofs.YtgamgomepdfgdaaGreat
open Go.RowKit

/-- append of what is a row itself, or nothing -/
theorem wpList_append_bytes {P : Program} (w : World) {ops : Array Oper} {rest : List Oper} {o : Oper} {a : Act} {Q : Exit → Act → World → Prop} (hgd : o.guard = none) (s x : Operand) (t : TypeId)
    (ho : o.op = .call { callee := .builtin .append, args := #[s, x], argTypes := #[t, t] })
    (e : TypeId) (i : TypeInfo) (z : Value) (ht : P.underlying t = some (.slice e)) (hi : P.info? e = some i) (hz : i.zero = some z)
    (hsize : i.size = 1) (hby : i.bytes = 1) (hzs : z.cells.size = 1)
    (v : Value) (n : Nat) (xs : List Value) (hs : a.eval s = v) (hown : Sl w e 1 v n xs)
    (u : Value) (m : Nat) (news : List Value) (hx : a.eval x = u) (hsrc : Sl w e 1 u m news) (h1 : ∀ y ∈ news, y.oneCell' = true)
    (h63 : n + m ≤ maxLen) (hbytes : (n + m) * 1 ≤ 140737488355328)
    (h : ∀ v' w', Sl w' e 1 v' (n + m) (xs ++ news) → w.grownBy w' v.ownBlock → (v'.ownBlock = v.ownBlock ∨ ∃ g, v'.ownBlock = some g ∧ w.heap.size ≤ g) → wpList P ops Q rest (a.put o.dst v') w') : wpList P ops Q (o :: rest) a w := by
  rcases Nat.eq_zero_or_pos m with rfl | hm
  · obtain rfl : news = [] := List.eq_nil_of_length_eq_zero (by simpa using hsrc.1)
    obtain ⟨ua, uc, rfl⟩ := hsrc.form
    obtain ⟨va, vc, rfl⟩ := hown.form
    refine wpList_plain hgd fun K hK => ?_
    have hl : ∀ a, Sem.run P (loadCells a 0) w = .ok #[] w := fun a => run_loadCells_list (P := P) w a [] (by simp)
    have hr : (Builtin.append_ #[t, t] o.type #[.slice va n vc, .slice ua 0 uc]).run P w = .ok (.slice va n vc) w := by
      rcases hown.2 with ⟨e1, e2⟩ | ⟨g, off, cap, cur, e1, hh, hnc, _⟩
      · cases e1
        cases ua <;> simp [Builtin.append_, run_underlying ht, sizeOf, typeInfo, hi, Builtin.lenOf, Builtin.firstCells, hl]
      · cases e1
        cases ua <;> simp [Builtin.append_, run_underlying ht, sizeOf, typeInfo, hi, Builtin.lenOf, Builtin.firstCells, hnc, storeCells, hl]
    unfold Oper.wp execOp
    simp only [ho, resolve, invoke, builtin, Sem.run_bind, Sem.run_pure, Result.andThen_ok, List.map_toArray, List.map_cons, List.map_nil, hs, hx, hr]
    exact hK _ _ (h _ w (by simpa using hown) (World.grownBy.refl _ _) (.inl rfl))
  · obtain ⟨g, off, cap, rfl, _⟩ := hsrc.addr hm
    refine wpList_append_sl w hgd s x t ho e i z 1 1 ht hi hz hsize hby hzs (by decide) v n xs hs hown ⟨g, off, none⟩ m cap news hx (by simpa using hsrc.1) (fun j y hy => ?_) h1 h63 hbytes h
    have : (⟨g, off, none⟩ : Addr).add j = ⟨g, off + j, none⟩ := by
      unfold Addr.add
      by_cases h : j = 0
      · subst h; simp
      · simp [h]
    rw [this]
    exact hsrc.cell hy

def machCells (c : Cfg) (mb : Nat) (lv up : Value) : Array Value :=
  #[.int .i64 c.lanes, .int .i64 c.age, .int .i64 c.batch, .int .i64 c.window, .int .i64 c.retries, .int .i64 c.deadline, .int .i64 c.queue, .map (some mb), lv, up]
def runCells (yb : Nat) (br : Bool) (keep : Int) : Array Value := #[.pointer (some ⟨yb, 0, none⟩), .bool br, .int .i64 keep]

/-- what writing leaves -/
structure Wrote (w w' : World) (xb mb : Nat) (c : Cfg) (lv up : Value) (L : List UInt8) (lv' : Value) : Prop where
  box : Bx w' xb 135 (machCells c mb lv' up)
  log : Sl w' 5 1 lv' L.length (bc L)
  blk : lv'.ownBlock = lv.ownBlock ∨ ∃ g, lv'.ownBlock = some g ∧ w.heap.size ≤ g
  only : Only w w' (fun k => k = xb ∨ lv.ownBlock = some k)

set_option maxRecDepth 100000 in
set_option maxHeartbeats 2000000 in
theorem mWrite (xb mb rb yb : Nat) (c : Cfg) (keep : Int) (lv v : Value) (L l : List UInt8) (w : World) (hB : Bx w xb 135 (machCells c mb lv (.pointer (some ⟨rb, 0, none⟩)))) (hR : Bx w rb 137 (runCells yb false keep)) (hL : Sl w 5 1 lv L.length (bc L)) (hl : Sl w 5 1 v l.length (bc l)) (hn : L.length < 1099511627776) (hm : l.length < 1099511627776) :
    Calls Tryz.prog 111 #[.pointer (some ⟨xb, 0, none⟩), v] w fun e w' => e = .returned (.tuple #[]) ∧ ∃ lv', Wrote w w' xb mb c lv (.pointer (some ⟨rb, 0, none⟩)) (L ++ l) lv' := by
  obtain ⟨i0, hi, hz0, hz1, hz2⟩ := info_parts info_u8
  obtain ⟨la, lc, rfl⟩ := hL.form
  obtain ⟨va, vc, rfl⟩ := hl.form
  have c8 : w.cell? ⟨xb, 8, none⟩ = some (.slice la L.length lc) := hB.cell (i := 8) rfl
  have c9 : w.cell? ⟨xb, 9, none⟩ = some (.pointer (some ⟨rb, 0, none⟩)) := hB.cell (i := 9) rfl
  have r1 : w.cell? ⟨rb, 1, none⟩ = some (.bool false) := hR.cell (i := 1) rfl
  have hne := hL.ne hB (by decide)
  have HB : Hid (Bx w xb 135 (machCells c mb (.slice la L.length lc) (.pointer (some ⟨rb, 0, none⟩)))) := hB
  have HL : Hid (Sl w 5 1 (.slice la L.length lc) L.length (bc L)) := hL
  have Hl : Hid (Sl w 5 1 (.slice va l.length vc) l.length (bc l)) := hl
  have q1 : Hid (L.length + l.length ≤ maxLen) := by show _ ≤ _; unfold maxLen; omega
  have q2 : Hid ((L.length + l.length) * 1 ≤ 140737488355328) := by show _ ≤ _; omega
  clear hB hR hL hl
  go_enter Tryz.func111, Tryz.ntmps111
  go_wp2_with (at_builtin; refine wpList_append_bytes _ rfl _ _ 114 rfl _ i0 _ Tryz.underlying114 hi hz0 hz1 hz2 rfl (.slice la L.length lc) _ _ rfl HL.out (.slice va l.length vc) _ _ rfl Hl.out (bc_one l) q1.out q2.out ?_; intro v3 w3 hown3 hg3 hloc3; obtain ⟨a3, c3, rfl⟩ := hown3.form; have HB3 : Hid (Bx w3 xb 135 (machCells c mb (.slice la L.length lc) (.pointer (some ⟨rb, 0, none⟩)))) := HB.out.grown hg3 (fun e => hne e.symm); have d8 : w3.cell? ⟨xb, 8, none⟩ = some (.slice la L.length lc) := HB3.out.cell (i := 8) rfl; have f8 := HB3.out.fr 8; have HO3 : Hid (Sl w3 5 1 (.slice a3 (L.length + l.length) c3) (L.length + l.length) (bc L ++ bc l)) := hown3; have HG3 : Hid (w.grownBy w3 (Value.slice la L.length lc).ownBlock) := hg3; have HL3 : Hid ((Value.slice a3 (L.length + l.length) c3).ownBlock = (Value.slice la L.length lc).ownBlock ∨ ∃ g, (Value.slice a3 (L.length + l.length) c3).ownBlock = some g ∧ w.heap.size ≤ g) := hloc3; clear hown3 hg3 hloc3)
  have hxl := HB.out.lt
  have nnb : (Value.slice a3 (L.length + l.length) c3).ownBlock ≠ some xb := by
    rcases HL3.out with h | ⟨g, h, hg⟩
    · rw [h]; exact hne
    · rw [h]; intro e; cases e; omega
  refine bodyPost_end (v := .tuple #[]) (results_none (by kernel_rfl) _ _ _) rfl ⟨rfl, .slice a3 (L.length + l.length) c3, HB3.out.set 8 _, ?_, HL3.out, ?_⟩
  · rw [List.length_append, bc_append]
    exact Sl.grown HO3.out (grown_set _ _ _ _) (fun g hg e => nnb (by rw [hg]; exact e.symm))
  · exact (Only.of_grown HG3.out (S := fun k => k = xb ∨ (Value.slice la L.length lc).ownBlock = some k) fun k h => .inr h).set (.inl (.inl rfl))
end Go.Proofs.YtgamgomepdfgdaaGreat
