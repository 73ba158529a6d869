import Derived.Test.YtgamgomepdfgdaaGreatM10
import Derived.Test.YtgamgomepdfgdaaGreatM06
import Derived.Maps.OwnSet
import Derived.Maps.OwnOps
import Derived.Test.YtgamgomepdfgdaaGreatProg
import Derived.Test.YtgamgomepdfgdaaGreatM01
import Derived.WalkLawsBesides
import Derived.Lib.Strings
import Derived.Lib.Walk
import Derived.Lib.BufferWrite
import Derived.Lib.UnsafeStr
import Derived.Laws.MakeOwn
import Derived.Laws.CopyRow
namespace Go.Proofs.YtgamgomepdfgdaaGreat
open Go.RowKit

theorem grown_of_below' {w w' : World} (hb : Below w.heap.size w w') (row : Option Nat) : w.grownBy w' row := ⟨hb.os, hb.tape, hb.output, hb.size, fun k hk _ => hb.block k hk⟩
theorem zero_pw (w : World) : (zeroValue 193).run Tryz.prog w = .ok (.agg #[.int .i64 0, .int .i64 0, .int .i64 0, .int .i64 0, .int .i64 0, .slice none 0 0]) w := by kernel_rfl
theorem Sl.row {w : World} {e : TypeId} {size n : Nat} {xs : List Value} {g off cap : Nat} (h : Sl w e size (.slice (some ⟨g, off, none⟩) n cap) n xs) : ∃ cur, w.heap[g]? = some (.cells cur e (0, 0)) ∧ n ≤ cap ∧ cap ≤ maxLen ∧ off + cap * size ≤ cur.size ∧ ∀ j u, xs[j]? = some u → cur[off + j]? = some u := by
  rcases h.2 with ⟨h', _⟩ | ⟨g', off', cap', cur, h', hh, h1, h2, h3, hr⟩
  · cases h'
  · cases h'
    exact ⟨cur, hh, h1, h2, h3, hr⟩

set_option maxRecDepth 100000 in
set_option maxHeartbeats 4000000 in
theorem delete_row (q : List Pw) (age id g off cap bk : Nat) (w : World) (hS : Sl w 193 6 (.slice (some ⟨g, off, none⟩) q.length cap) q.length (q.flatMap (cP age))) (hsl : ∀ x ∈ q, IsSl x.2) (hq : w.cell? ⟨bk, 0, none⟩ = some (.int .i64 id)) (hbg : bk ≠ g) (hn : q.length ≤ 16) :
    Calls Tryz.prog 168 #[.slice (some ⟨g, off, none⟩) q.length cap, .func (.func 169) #[] #[.pointer (some ⟨bk, 0, none⟩)]] w fun e w' => e = .returned (.slice (some ⟨g, off, none⟩) (woP id q).length cap) ∧ Sl w' 193 6 (.slice (some ⟨g, off, none⟩) (woP id q).length cap) (woP id q).length ((woP id q).flatMap (cP age)) ∧ w.grownBy w' (some g) := by
  have hI := index_withdraw q age id g off cap bk w hS hsl hq hn
  have HS : Hid (Sl w 193 6 (.slice (some ⟨g, off, none⟩) q.length cap) q.length (q.flatMap (cP age))) := hS
  have hgl : g < w.heap.size := hS.lt rfl
  obtain ⟨cur0, hx1, hnc, hcm, hx2⟩ := hS.row
  clear hx1 hx2 cur0
  have hbk := jcell_lt hq
  clear hS
  go_enter Tryz.func168, Tryz.ntmps168
  go_wp2_with fail
  go_fit hI
  rintro e w1 ⟨⟨r, rfl, hr⟩, hb1⟩
  have HB1 : Hid (Below w.heap.size w w1) := hb1
  have q1 := jcell_after hb1 hq
  rcases hr with ⟨rfl, hno⟩ | ⟨k, rfl, hk, hk1, hk2⟩
  · have hw : Hid (woP id q = q) := woP_all hno
    clear hb1 hno hI
    go_wp2_with fail
    go_ret
    rw [hw.out]
    exact ⟨rfl, Sl.later HS.out HB1.out, grown_of_below' HB1.out _⟩
  · obtain ⟨hd0, hd1⟩ := DelAt.start hk hk1 hk2
    have HD0 : Hid (DelAt id q (k + 1) q) := hd0
    have HD1 : Hid ((woP id (q.take (k + 1))).length = k) := hd1
    have hkne : ((k : Int) == -1) = false := by simp
    have hkne2 : ¬ ((k : Int) = -1) := by omega
    clear hd0 hd1 hk1 hk2 hb1 hI
    go_wp2_with fail
    go_loopw [5, 6, 7] (fun iv jv _ wr => ∃ (i j : Nat) (R : List Pw), iv = .int .i64 i ∧ jv = .int .i64 j ∧ j ≤ q.length ∧ Hid (i = (woP id (q.take j)).length) ∧ i < j ∧ Hid (DelAt id q j R) ∧ Hid (Sl wr 193 6 (.slice (some ⟨g, off, none⟩) q.length cap) q.length (R.flatMap (cP age))) ∧ Hid (w.grownBy wr (some g))) (fun _ j _ _ => q.length - (intOf j).toNat)
    case atStart => exact ⟨k, k + 1, q, rfl, by go_num, hk, HD1.out.symm, by omega, HD0.out, Sl.later HS.out HB1.out, grown_of_below' HB1.out _⟩
    case round =>
      obtain ⟨i, j, R, rfl, rfl, hj, hi, hij, hD, hSr, hG⟩ := hrel
      have hgr : g < wr.heap.size := Nat.lt_of_lt_of_le hgl hG.out.size
      have qr : wr.cell? ⟨bk, 0, none⟩ = some (.int .i64 id) := World.grownBy.cell hG.out hq (by simpa using hbg)
      have bkr := jcell_lt qr
      by_cases hlj : j < q.length
      · have hRl := hD.out.len
        have hRj := hD.out.get hlj
        obtain ⟨d0, d1, d2, d3, d4, d5⟩ := hSr.out.elems (i := j) (by omega)
        obtain ⟨y0, y1, y2, y3, y4, y5⟩ := hSr.out.elems (i := i) (by omega)
        rw [hRj] at d0 d1 d2 d4 d5
        obtain ⟨ea, en, ec, he⟩ := hsl _ (List.getElem_mem hlj)
        have hc := cl_withdraw age id bk q[j].1.id q[j].1.lane q[j].1.passed q[j].1.ord ea en ec (wr.alloc (.cells #[.int .i64 q[j].1.id, .int .i64 q[j].1.lane, .int .i64 q[j].1.passed, .int .i64 age, .int .i64 q[j].1.ord, .slice ea en ec] 193)) ((jcell_after (below_new _ _) qr)) (Nat.lt_of_lt_of_le bkr (by simp))
        have Hhit : Hid (q[j].1.id = id → DelAt id q (j + 1) R ∧ i = (woP id (q.take (j + 1))).length) := fun h => ⟨hD.out.hit hlj h, by rw [woP_hit hlj h]; exact hi.out⟩
        have Hmiss : Hid (q[j].1.id ≠ id → DelAt id q (j + 1) (R.set i q[j]) ∧ i + 1 = (woP id (q.take (j + 1))).length) := fun h => ⟨by rw [hi.out]; exact hD.out.miss hlj h, by rw [woP_miss hlj h, List.length_append, ← hi.out]; rfl⟩
        have Hput : Hid (∀ W, Sl W 193 6 (.slice (some ⟨g, off, none⟩) q.length cap) q.length (R.flatMap (cP age)) → Sl ((((((W.setCell ⟨g, off + i * 6, none⟩ (.int .i64 q[j].1.id)).setCell ⟨g, off + i * 6 + 1, none⟩ (.int .i64 q[j].1.lane)).setCell ⟨g, off + i * 6 + 2, none⟩ (.int .i64 q[j].1.passed)).setCell ⟨g, off + i * 6 + 3, none⟩ (.int .i64 age)).setCell ⟨g, off + i * 6 + 4, none⟩ (.int .i64 q[j].1.ord)).setCell ⟨g, off + i * 6 + 5, none⟩ (.slice ea en ec)) 193 6 (.slice (some ⟨g, off, none⟩) q.length cap) q.length ((R.set i q[j]).flatMap (cP age))) := fun W hW => by
          have := hW.put6 (i := i) (by omega) q[j]
          rwa [he] at this
        rw [he] at d5
        generalize q[j].1.id = a0 at *
        generalize q[j].1.lane = a1 at *
        generalize q[j].1.passed = a2 at *
        generalize q[j].1.ord = a3 at *
        have HWs : Hid (Sl (wr.alloc (.cells #[.int .i64 a0, .int .i64 a1, .int .i64 a2, .int .i64 age, .int .i64 a3, .slice ea en ec] 193)) 193 6 (.slice (some ⟨g, off, none⟩) q.length cap) q.length (R.flatMap (cP age))) := hSr.out.mk _
        have hij' : i < q.length := by omega
        have hRi : i < R.length := by omega
        generalize R[i] = xi at *
        clear he hRj hi hD HD0 HD1
        by_cases hid : a0 = id
        · subst hid
          go_wp2_with fail
          go_fit hc
          rintro e w2 ⟨rfl, hb2⟩
          have G2 : Hid (w.grownBy w2 (some g)) := (hG.out.trans (World.grownBy_alloc _ _ _)).trans (grown_of_below' hb2 _)
          have S2 : Hid (Sl w2 193 6 (.slice (some ⟨g, off, none⟩) q.length cap) q.length (R.flatMap (cP age))) := HWs.out.later hb2
          have HH : Hid (DelAt a0 q (j + 1) R ∧ i = (woP a0 (q.take (j + 1))).length) := by first | exact Hhit.out rfl | exact Hhit.out trivial
          clear hb2 hc hSr HWs Hput Hhit Hmiss d0 d1 d2 d3 d4 d5 y0 y1 y2 y3 y4 y5
          go_wp2_with fail
          exact ⟨⟨i, j + 1, R, rfl, by go_num, hlj, HH.out.2, by omega, HH.out.1, S2.out, G2.out⟩, by simp [intOf]; omega⟩
        · have hne : ((a0 : Int) == (id : Int)) = false := by simp; omega
          rw [hne] at hc
          go_wp2_with fail
          go_fit hc
          rintro e w2 ⟨rfl, hb2⟩
          have G2 : Hid (w.grownBy w2 (some g)) := (hG.out.trans (World.grownBy_alloc _ _ _)).trans (grown_of_below' hb2 _)
          have S2 : Hid (Sl w2 193 6 (.slice (some ⟨g, off, none⟩) q.length cap) q.length (R.flatMap (cP age))) := HWs.out.later hb2
          have HH : Hid (DelAt id q (j + 1) (R.set i q[j]) ∧ i + 1 = (woP id (q.take (j + 1))).length) := Hmiss.out hid
          have t0 : w2.cell? ⟨wr.heap.size, 0, none⟩ = some (.int .i64 a0) := jcell_after hb2 (by simp)
          have t1 : w2.cell? ⟨wr.heap.size, 1, none⟩ = some (.int .i64 a1) := jcell_after hb2 (by simp)
          have t2 : w2.cell? ⟨wr.heap.size, 2, none⟩ = some (.int .i64 a2) := jcell_after hb2 (by simp)
          have t3 : w2.cell? ⟨wr.heap.size, 3, none⟩ = some (.int .i64 age) := jcell_after hb2 (by simp)
          have t4 : w2.cell? ⟨wr.heap.size, 4, none⟩ = some (.int .i64 a3) := jcell_after hb2 (by simp)
          have t5 : w2.cell? ⟨wr.heap.size, 5, none⟩ = some (.slice ea en ec) := jcell_after hb2 (by simp)
          have fr := fun o => Sl.fr S2.out o
          obtain ⟨v0, v1, v2, v3, v4, v5⟩ := Sl.elems S2.out (i := i) hRi
          have hgw : g ≠ wr.heap.size := by omega
          clear hb2 hc hSr HWs Hhit Hmiss d0 d1 d2 d3 d4 d5 y0 y1 y2 y3 y4 y5
          generalize R[i] = xi at *
          go_wp2_with fail
          refine ⟨⟨i + 1, j + 1, R.set i q[j], by go_num, by go_num, hlj, HH.out.2, by omega, HH.out.1, Hput.out _ S2.out, G2.out.trans (grown6 _ _ _ _ _ _ _ _ _ _ _ _ _ _)⟩, by simp [intOf]; omega⟩
      · obtain rfl : j = q.length := by omega
        have hi' : Hid (i = (woP id q).length) := by
          have := hi.out
          rw [List.take_length] at this
          exact this
        have hk' : Hid (R.take i = woP id q) := by
          have h1 := hD.out.kept
          rw [← hi.out, List.take_length] at h1
          exact h1
        obtain ⟨cur, hcur, _, _, hfit, hcells⟩ := Sl.row hSr.out
        have hfit2 : Hid (off + i * 6 + (q.length - i) * 6 ≤ cur.size) := by
          show _ ≤ _
          omega
        have HC : Hid (∀ j u, (R.flatMap (cP age))[j]? = some u → cur[off + j]? = some u) := hcells
        have hRl := hD.out.len
        have HF : Hid (off + cap * 6 ≤ cur.size) := hfit
        have hpos : 0 < q.length - i := by omega
        have hic : ¬ cap - i = 0 := by omega
        clear hi hD hcells hfit HD0 HD1
        go_wp2_with (refine wpList_clear_sl _ rfl _ _ rfl _ _ 6 Tryz.underlying190 zero_pw rfl (by simp [Value.cells, Value.oneCell']) g (off + i * 6) (q.length - i) (cap - i) hpos rfl cur hcur hfit2.out ?_; intro w3 cur3 h3 h4 h5 h6)
        go_ret
        have hflat : (R.flatMap (cP age)).take (i * 6) = (woP id q).flatMap (cP age) := by
          rw [← hk'.out, ← List.take_append_drop i R, List.flatMap_append, List.take_append_drop]
          rw [List.take_append_of_le_length (by rw [flat_len (cP age) 6 (fun _ => rfl), List.length_take]; omega), List.take_of_length_le (by rw [flat_len (cP age) 6 (fun _ => rfl), List.length_take]; omega)]
        rw [← hi'.out]
        refine ⟨rfl, ⟨by rw [flat_len (cP age) 6 (fun _ => rfl), ← hi'.out], .inr ⟨g, off, cap, cur3, rfl, h3, by omega, hcm, by rw [h4]; exact HF.out, fun x u hu => ?_⟩⟩, hG.out.trans h6⟩
        rw [← hflat] at hu
        have hx := (List.getElem?_eq_some_iff.1 hu).1
        rw [List.length_take] at hx
        rw [List.getElem?_take_of_lt (by omega)] at hu
        rw [h5 _ (by omega)]
        exact HC.out x u hu
end Go.Proofs.YtgamgomepdfgdaaGreat

namespace Go.Proofs.YtgamgomepdfgdaaGreat
open Go.RowKit Go.Maps

theorem lawI : Keyed Tryz.prog 3 := int_keyed Tryz.underlying3
theorem underS : Tryz.prog.underlying 194 = some (.map 3 258) := Tryz.underlying194
theorem keyI {n : Nat} (h : n < 9223372036854775808) : keyOf Tryz.prog 3 (.int .i64 n) = some (.int .i64 n) := keyOf_int_mk Tryz.underlying3 (by simp [Lit.wf, IntKind.min, IntKind.max, IntKind.signed, IntKind.bits]; omega)
theorem zeroU (w : World) : (zeroValue 258).run Tryz.prog w = .ok (.agg #[]) w := by kernel_rfl

/-- the ids that were submitted -/
def Subm (w : World) (sb : Nat) (ids : List Nat) : Prop := ∃ D : DataW Unit, w.ownsMap Tryz.prog 3 unitElem sb ids.length D ∧ Maps.size D = ids.length ∧ ∀ i : Nat, Maps.has D (.int .i64 i) = ids.contains i
theorem Subm.kept {w w' : World} {sb : Nat} {ids : List Nat} (h : Subm w sb ids) {row : Option Nat} (hg : w.grownBy w' row) (hne : some sb ≠ row) : Subm w' sb ids := by
  obtain ⟨D, h1, h2, h3⟩ := h
  exact ⟨D, h1.kept hg hne, h2, h3⟩
theorem Subm.lt {w : World} {sb : Nat} {ids : List Nat} (h : Subm w sb ids) : sb < w.heap.size := by
  obtain ⟨D, h1, h2, h3⟩ := h
  exact h1.lt
theorem Subm.same {w w' : World} {sb : Nat} {ids : List Nat} (h : Subm w sb ids) (hb : w'.heap[sb]? = w.heap[sb]?) : Subm w' sb ids := by
  obtain ⟨D, h1, h2, h3⟩ := h
  refine ⟨D, ?_, h2, h3⟩
  obtain ⟨es, clock, hh, hr⟩ := h1
  exact ⟨es, clock, hb.trans hh, hr⟩
theorem Subm.made (w : World) : Subm (w.alloc (.map #[] 0)) w.heap.size [] := ⟨.map [], World.ownsMap_made _ _ _ _, rfl, fun _ => rfl⟩
theorem Subm.put {w' : World} {sb n : Nat} {ids : List Nat} {D : DataW Unit} (hD : IsMap D) (hT : Tidy D) (hs : Maps.size D = ids.length) (hh : ∀ i : Nat, Maps.has D (.int .i64 i) = ids.contains i) (hn : n ∉ ids) (h : w'.ownsMap Tryz.prog 3 unitElem sb (ids.length + 1) (D.put (.int .i64 n) (.agg []))) : Subm w' sb (ids ++ [n]) := by
  have h0 : Maps.has D (.int .i64 n) = false := by rw [hh n]; simpa using hn
  refine ⟨_, by rw [List.length_append]; exact h, ?_, fun i => ?_⟩
  · rw [Maps.size_put hT, h0]; simp [hs]
  · by_cases e : i = n
    · subst e
      rw [has_put_same hD (show WideAt.IsKeyLit (Lit.int .i64 (i : Int)) from trivial)]; simp
    · rw [has_put_other (fun x => e (by injection x with _ x; omega)), hh i]
      simp [e]
end Go.Proofs.YtgamgomepdfgdaaGreat

namespace Go.Proofs.YtgamgomepdfgdaaGreat
open Go.RowKit

theorem info_byte : (Tryz.prog.info? 5).map (fun i => (i.zero, i.size, i.bytes)) = some (some (.int .u8 0), 1, 1) := by kernel_rfl

set_option maxHeartbeats 4000000 in
set_option maxRecDepth 100000 in
/-- a fresh text of the same bytes: what was there stays -/
theorem clone_in (s : ByteArray) (w : World) (hlim : s.size ≤ 281474976710656) :
    Calls Tryz.prog 175 #[.string s] w fun e w' => e = .returned (.string s) ∧ Below w.heap.size w w' := by
  by_cases h0 : s.size = 0
  · obtain rfl : s = ⟨#[]⟩ := ByteArray.ext (Array.eq_empty_of_size_eq_zero h0)
    go_enter Tryz.func175, Tryz.ntmps175
    go_wp2
    go_ret
    exact ⟨rfl, Below.refl _ _⟩
  · obtain ⟨i0, hi, hz0, hz1, hz2⟩ := info_parts info_byte
    have hinfo : (Tryz.prog.info? 5).map (·.size) = some 1 := by rw [hi]; simp [hz1]
    have hco : Tryz.prog.cellsOf 5 = 1 := by simp [Program.cellsOf, hi, hz1]
    obtain ⟨M, hM⟩ : ∃ M, M = madeCells (Value.int .u8 0).cells (((s.size : Nat) : Int).toNat * i0.size) := ⟨_, rfl⟩
    have hMs : M.size = s.size := by rw [hM, size_madeCells, hz1]; simp
    have hmk : ∀ W : World, (Instr.makeSlice 114 (.int .i64 (s.size : Int)) (.int .i64 (s.size : Int))).run Tryz.prog W = .ok (.slice (some ⟨W.heap.size, 0, none⟩) s.size s.size) (W.alloc (.cells M 5)) := fun W => by
      have h := run_make (P := Tryz.prog) W 114 5 i0 (.int .u8 0) Tryz.underlying114 hi hz0 .i64 .i64 (s.size : Int) (s.size : Int) (by omega) (by omega) (by rw [hz2]; omega) (by omega)
      rw [← hM] at h
      simpa using h
    clear hM
    have hcp := Lib.run_copy_row_string (P := Tryz.prog) (w.alloc (.cells M 5)) 114 9 3 5 w.heap.size 0 s.size s.size s M 5 Tryz.underlying114 hinfo (heap_alloc_new w _) (Nat.le_refl _) (by omega)
    obtain ⟨Y, hY⟩ : ∃ Y, Y = (M.toList.take 0 ++ Lib.byteCells s.data.toList ++ M.toList.drop (0 + s.size)).toArray := ⟨_, rfl⟩
    rw [← hY] at hcp
    have hYl : Y.toList = Lib.byteCells s.data.toList := by
      rw [hY, List.toList_toArray, List.take_zero, List.nil_append, List.drop_of_length_le (by rw [Array.length_toList]; omega), List.append_nil]
    have hYs : Y.size = s.size := by rw [← Array.length_toList, hYl, Lib.byteCells_length, ← Lib.size_eq]
    have hgY : ((w.alloc (.cells M 5)).setRow w.heap.size Y).heap[w.heap.size]? = some (.cells Y 5 (0, 0)) := setRow_heap _ _ M _ 5 (0, 0) (heap_alloc_new w _)
    have hne : s.data.toList ≠ [] := fun e => h0 (by rw [Lib.size_eq, e]; rfl)
    have hUS := Lib.run_unsafeString_row (P := Tryz.prog) ((w.alloc (.cells M 5)).setRow w.heap.size Y) 296 3 9 5 Tryz.underlying296 hco w.heap.size Y.size (by unfold World.shape?; rw [hgY]) s.data.toList hne (by rw [← Lib.size_eq]; omega) (by rw [← Lib.size_eq]; omega)
      (fun j x hx => Lib.cells_of_row hgY Y.size j _ (by rw [List.take_of_length_le (by rw [Array.length_toList]; exact Nat.le_refl _), hYl]; simp [Lib.byteCells, hx]))
    rw [← Lib.size_eq] at hUS
    clear hY
    go_enter Tryz.func175, Tryz.ntmps175
    go_wp2
    go_ret
    have hb1 : Below w.heap.size w (w.alloc (.cells M 5)) := (Below.refl _ w).alloc (Nat.le_refl _) _
    have hb2 : Below w.heap.size (w.alloc (.cells M 5)) ((w.alloc (.cells M 5)).setRow w.heap.size Y) := ⟨rfl, rfl, rfl, by simp, fun k hk => setRow_other _ _ _ _ (by omega)⟩
    exact ⟨rfl, Lib.below_freeze (hb1.trans hb2) (p := ⟨w.heap.size, 0, none⟩) (Nat.le_refl _) _⟩

set_option maxHeartbeats 400000 in
theorem clone_any (s : ByteArray) (w : World) (hlim : s.size ≤ 281474976710656) :
    Calls Tryz.prog 129 #[.string s] w fun e w' => e = .returned (.string s) ∧ Below w.heap.size w w' := by
  have hc := clone_in s w hlim
  go_enter Tryz.func129, Tryz.ntmps129
  go_wp2_with (go_at_call 175; refine hc.mono ?_; rintro e w' ⟨rfl, hb⟩)
  go_ret
  exact ⟨rfl, hb⟩
end Go.Proofs.YtgamgomepdfgdaaGreat

namespace Go.Proofs.YtgamgomepdfgdaaGreat
open Go.RowKit

theorem run_copy_rowK {P : Program} (w : World) (dT sT ty elem : TypeId) (size : Nat) (g dLen dCap : Nat) (a : Addr) (sLen sCap : Nat) (cur : Array Value) (t : TypeId) (cs : List Value)
    (hu : P.underlying dT = some (.slice elem)) (hs : (P.info? elem).map (·.size) = some size)
    (hg : w.heap[g]? = some (.cells cur t (0, 0))) (hle : sLen ≤ dLen) (hn : cs.length = sLen * size)
    (hsrc : ∀ j v, cs[j]? = some v → w.cell? (a.add j) = some v) (hfit : cs.length ≤ cur.size) (h1 : ∀ v ∈ cs, v.oneCell' = true) :
    (Builtin.copy_ #[dT, sT] ty #[.slice (some ⟨g, 0, none⟩) dLen dCap, .slice (some a) sLen sCap]).run P w =
      .ok (goInt sLen) (w.setRow g (cs ++ cur.toList.drop cs.length).toArray) := by
  have hl := run_loadCells_list (P := P) w a cs hsrc
  have hst := run_storeCells_at P g 0 t cs 0 cur w hg (by simpa using hfit) h1
  have hmin : Nat.min sLen dLen = sLen := Nat.min_eq_left hle
  cases hq : P.info? elem with
  | none => simp [hq] at hs
  | some i =>
    have hi : i.size = size := by simpa [hq] using hs
    simp [Builtin.copy_, run_underlying hu, Builtin.lenOf, Builtin.firstCells, sizeOf, typeInfo, hq, hi, hmin]
    rw [← hn, hl]
    simp at hst
    simp [hst]

theorem run_copy_zeroK {P : Program} (w : World) (dT sT ty elem : TypeId) (size : Nat) (d a : Option Addr) (dLen dCap sCap : Nat)
    (hu : P.underlying dT = some (.slice elem)) (hs : (P.info? elem).map (·.size) = some size) :
    (Builtin.copy_ #[dT, sT] ty #[.slice d dLen dCap, .slice a 0 sCap]).run P w = .ok (goInt 0) w := by
  have hl : ∀ a, Sem.run P (loadCells a 0) w = .ok #[] w := fun a => run_loadCells_list (P := P) w a [] (by simp)
  cases hq : P.info? elem with
  | none => simp [hq] at hs
  | some i => cases d <;> cases a <;> simp [Builtin.copy_, run_underlying hu, Builtin.lenOf, Builtin.firstCells, sizeOf, typeInfo, hq, storeCells, hl]

/-- copy into a row of the call's own, from its head on; the source is no longer -/
theorem wpList_copyK {P : Program} (w : World) {ops : Array Oper} {rest : List Oper} {o : Oper} {a : Act} {Q : Exit → Act → World → Prop} (hgd : o.guard = none) (d s : Operand) (dT sT : TypeId)
    (ho : o.op = .call { callee := .builtin .copy, args := #[d, s], argTypes := #[dT, sT] }) (elem : TypeId) (size base : Nat) (hu : P.underlying dT = some (.slice elem)) (hs : (P.info? elem).map (·.size) = some size)
    (g m : Nat) (sp : Option Addr) (n sCap : Nat) (hd : a.eval d = .slice (some ⟨g, 0, none⟩) m m) (hsv : a.eval s = .slice sp n sCap) (hle : n ≤ m)
    (xs : List Value) (hown : w.ownsRow base elem size (.slice (some ⟨g, 0, none⟩) m m) m xs) (cs : List Value) (hn : cs.length = n * size)
    (hsrc : 0 < n → ∃ ad, sp = some ad ∧ ∀ j v, cs[j]? = some v → w.cell? (ad.add j) = some v) (h1 : ∀ v ∈ cs, v.oneCell' = true)
    (h : ∀ w', w'.ownsRow base elem size (.slice (some ⟨g, 0, none⟩) m m) m (cs ++ xs.drop cs.length) → w.grownBy w' (some g) → wpList P ops Q rest (a.put o.dst (goInt n)) w') : wpList P ops Q (o :: rest) a w := by
  refine wpList_plain hgd fun K hK => ?_
  by_cases h0 : n = 0
  · subst h0
    obtain rfl : cs = [] := List.eq_nil_of_length_eq_zero (by simpa using hn)
    have hrun := run_copy_zeroK (P := P) w dT sT o.type elem size (some ⟨g, 0, none⟩) sp m m sCap hu hs
    unfold Oper.wp
    simp [execOp, ho, resolve, invoke, builtin, hd, hsv, hrun, Result.andThen]
    exact hK _ _ (h w (by simpa using hown) (World.grownBy.refl _ _))
  · obtain ⟨ad, rfl, hc⟩ := hsrc (by omega)
    rcases hown.2 with ⟨hnil, _⟩ | ⟨g', cap', cur, hv, hb, hg, hnc, hcm, hcs, htk⟩
    · cases hnil
    cases hv
    have hlen : cs.length ≤ cur.size := by rw [hn, hcs]; exact Nat.mul_le_mul_right size hle
    have hrun := run_copy_rowK (P := P) w dT sT o.type elem size g m m ad n sCap cur elem cs hu hs hg hle hn hc hlen h1
    unfold Oper.wp
    simp [execOp, ho, resolve, invoke, builtin, hd, hsv, hrun, Result.andThen]
    have hxs : cur.toList = xs := by rw [← htk, List.take_of_length_le (by rw [Array.length_toList, hcs]; exact Nat.le_refl _)]
    rw [hxs]
    refine hK _ _ (h _ ⟨?_, .inr ⟨g, m, _, rfl, hb, setRow_heap w g cur _ elem _ hg, Nat.le_refl _, hcm, ?_, ?_⟩⟩ ⟨rfl, rfl, rfl, by simp [World.setRow], fun k hk hne => setRow_other w g k _ (fun e => hne (by rw [e]))⟩)
    · have hx := hown.1
      rw [List.length_append, List.length_drop]; have : cs.length ≤ xs.length := by rw [← hxs, Array.length_toList]; exact hlen
      omega
    · have hx := hown.1
      have : cs.length ≤ xs.length := by rw [← hxs, Array.length_toList]; exact hlen
      simp; omega
    · have hx := hown.1
      have : cs.length ≤ xs.length := by rw [← hxs, Array.length_toList]; exact hlen
      rw [List.take_of_length_le (by simp; omega)]

theorem take_seg {L cs : List Value} {off N : Nat} (hl : (L.take off).length = off) (hN : off + cs.length ≤ N) :
    (L.take off ++ cs ++ L.drop (off + cs.length)).take N = (L.take N).take off ++ cs ++ (L.take N).drop (off + cs.length) := by
  rw [List.append_assoc, List.append_assoc, List.take_append, List.take_append, hl, List.take_of_length_le (show (L.take off).length ≤ N by omega), List.take_of_length_le (show cs.length ≤ N - off by omega), List.take_take, Nat.min_eq_left (show off ≤ N by omega), List.drop_take, Nat.sub_sub]

/-- a value of several cells stored into a row of the call's own -/
theorem wpList_store_elem {P : Program} (w : World) {ops : Array Oper} {rest : List Oper} {o : Oper} {a : Act} {Q : Exit → Act → World → Prop} (hgd : o.guard = none) (ty : TypeId) (x y : Operand) (ho : o.op = .store ty x y)
    (base : Nat) (e : TypeId) (size g n cap off : Nat) (xs : List Value) (hown : w.ownsRow base e size (.slice (some ⟨g, 0, none⟩) n cap) n xs) (hx : a.eval x = .pointer (some ⟨g, off, none⟩))
    (cs : List Value) (hy : a.eval y = .agg cs.toArray) (hi : (P.info? ty).map (·.size) = some cs.length) (hfit : off + cs.length ≤ xs.length) (h1 : ∀ v ∈ cs, v.oneCell' = true)
    (h : ∀ w', w'.ownsRow base e size (.slice (some ⟨g, 0, none⟩) n cap) n (xs.take off ++ cs ++ xs.drop (off + cs.length)) → w.grownBy w' (some g) → wpList P ops Q rest (a.put o.dst undef) w') : wpList P ops Q (o :: rest) a w := by
  rcases hown.2 with ⟨hnil, _⟩ | ⟨g', cap', cur, hv, hb, hg, hnc, hcm, hcs, htk⟩
  · cases hnil
  cases hv
  have hx1 := hown.1
  have hxl : xs.length ≤ cur.size := by rw [← htk, List.length_take, Array.length_toList]; exact Nat.min_le_right _ _
  have hst := run_storeCells_at (P := P) g off e cs 0 cur w hg (by omega) h1
  have hrun : (storeVar ty ⟨g, off, none⟩ (.agg cs.toArray)).run P w = .ok () (w.setRow g (cur.toList.take off ++ cs ++ cur.toList.drop (off + cs.length)).toArray) := by
    cases hq : P.info? ty with
    | none => simp [hq] at hi
    | some i =>
      have hs : i.size = cs.length := by simpa [hq] using hi
      simp only [Nat.add_zero] at hst
      simp [storeVar, sizeOf, typeInfo, hq, hs, Value.cells, hst]
  refine wpList_plain hgd fun _ hK => ?_
  unfold Oper.wp execOp
  simp only [ho, hx, hy, Instr.storeAt, Instr.sureAddr, Sem.run_bind, Sem.run_pure, Result.andThen_ok, hrun]
  refine hK _ _ (h _ ⟨?_, .inr ⟨g, cap, _, rfl, hb, setRow_heap w g cur _ e _ hg, hnc, hcm, ?_, ?_⟩⟩ ⟨rfl, rfl, rfl, by simp [World.setRow], fun k hk hne => setRow_other w g k _ (fun e => hne (by rw [e]))⟩)
  · simp; omega
  · simp; omega
  · have hN : off + cs.length ≤ n * size := by rw [hx1] at hfit; exact hfit
    have hl : (cur.toList.take off).length = off := by rw [List.length_take, Array.length_toList]; omega
    rw [← htk]
    exact take_seg hl hN

theorem two_stores {A T cs : List Value} {k : Nat} (hA : A.length = k) (hT : T.length = cs.length + cs.length) :
    ((A ++ T).take k ++ cs ++ (A ++ T).drop (k + cs.length)).take (k + cs.length) ++ cs ++ ((A ++ T).take k ++ cs ++ (A ++ T).drop (k + cs.length)).drop (k + cs.length + cs.length) = A ++ (cs ++ cs) := by
  subst hA
  have e : (A ++ T).take A.length ++ cs ++ (A ++ T).drop (A.length + cs.length) = A ++ (cs ++ T.drop cs.length) := by
    rw [List.take_left, List.drop_append, Nat.add_sub_cancel_left, List.drop_of_length_le (by omega), List.nil_append, List.append_assoc]
  rw [e, List.take_append, Nat.add_sub_cancel_left, List.take_of_length_le (show A.length ≤ _ by omega), List.take_left, Nat.add_assoc, List.drop_append, Nat.add_sub_cancel_left, List.drop_of_length_le (show A.length ≤ _ by omega), List.nil_append, List.drop_append, Nat.add_sub_cancel_left, List.drop_of_length_le (show cs.length ≤ _ by omega), List.nil_append, List.drop_drop, List.drop_of_length_le (show T.length ≤ _ by omega), List.append_nil, List.append_assoc]
end Go.Proofs.YtgamgomepdfgdaaGreat
