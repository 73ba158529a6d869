import Derived.Test.YtgamgomepdfgdaaUnd
import Derived.Test.YtgamgomepdfgdaaTold
import Derived.Deep.RegionHeldLaw
namespace Go.Proofs.Ytgamgomepdfgdaa
open Go.RowKit

/-- those that stand elsewhere -/
def but (p : ByteArray) (l : List Fl) : List Fl := l.filter fun f => !(f.1.toList == p.toList)
/-- one edit done, in no order -/
def withOne (l : List Fl) (e : Ed) : List Fl := but e.1 l ++ if e.2.2.toList.isEmpty then [] else [(e.1, e.2.2)]
def withL (l : List Fl) (es : List Ed) : List Fl := es.foldl withOne l

theorem withL_snoc (l : List Fl) (es : List Ed) (e : Ed) : withL l (es ++ [e]) = withOne (withL l es) e := by simp [withL, List.foldl_append]
theorem but_len (p : ByteArray) (l : List Fl) : (but p l).length ≤ l.length := List.length_filter_le _ _
theorem withOne_len (l : List Fl) (e : Ed) : (withOne l e).length ≤ l.length + 1 := by
  unfold withOne
  have := but_len e.1 l
  rw [List.length_append]
  split <;> simp <;> omega
theorem withL_len (l : List Fl) (es : List Ed) : (withL l es).length ≤ l.length + es.length := by
  induction es generalizing l with
  | nil => simp [withL]
  | cons e es ih =>
    have h1 := ih (withOne l e)
    have h2 := withOne_len l e
    show (withL (withOne l e) es).length ≤ _
    simp only [List.length_cons]; omega

theorem but_hit (p : ByteArray) {l : List Fl} {j : Nat} (hj : j < l.length) (h : (!(l[j].1.toList == p.toList)) = true) : but p (l.take (j + 1)) = but p (l.take j) ++ [l[j]] := by
  unfold but
  rw [List.take_succ_eq_append_getElem hj, List.filter_append, List.filter_cons, if_pos h, List.filter_nil]
theorem but_miss (p : ByteArray) {l : List Fl} {j : Nat} (hj : j < l.length) (h : (!(l[j].1.toList == p.toList)) = false) : but p (l.take (j + 1)) = but p (l.take j) := by
  unfold but
  rw [List.take_succ_eq_append_getElem hj, List.filter_append, List.filter_cons, if_neg (by rw [h]; exact Bool.false_ne_true), List.filter_nil, List.append_nil]

theorem room32 {n : Nat} (h : n ≤ 1000) : (n + 1) * 32 ≤ 140737488355328 := Nat.le_trans (Nat.mul_le_mul_right 32 (show n + 1 ≤ 1001 by omega)) (by decide)
theorem room48 {n : Nat} (h : n ≤ 1000) : (n + 1) * 48 ≤ 140737488355328 := Nat.le_trans (Nat.mul_le_mul_right 48 (show n + 1 ≤ 1001 by omega)) (by decide)
theorem roomlen {n : Nat} (h : n ≤ 1000) : n + 1 ≤ maxLen := by unfold maxLen; omega

/-- append at a row of the call's own, as one step of a region that draws -/
theorem step_append_own {P : Program} {ops : Array Oper} {o : Oper} {a : Act} {w : World} {K : Act → World → Prop} {Q : Exit → Act → World → Prop} {E : Prop}
    (hg : o.guard = none) (s x : Operand) (t : TypeId) (ho : o.op = Op.call { callee := Callee.builtin Builtin.append, args := #[s, x], argTypes := #[t, t] })
    (base : Nat) (e : TypeId) (i : TypeInfo) (z : Value) (size bytes : Nat) (ht : P.underlying t = some (.slice e)) (hi : P.info? e = some i) (hz : i.zero = some z)
    (hsize : i.size = size) (hby : i.bytes = bytes) (hzs : z.cells.size = size) (hsz : 0 < size)
    (v : Value) (n : Nat) (xs : List Value) (hs : a.eval s = v) (hown : w.ownsRow base e size v n xs)
    (ad : Addr) (m c : Nat) (news : List Value) (hx : a.eval x = .slice (some ad) m c) (hl : news.length = m * size) (hnews : ∀ j u, news[j]? = some u → w.cell? (ad.add j) = some u) (h1 : ∀ u ∈ news, u.oneCell' = true)
    (h63 : n + m ≤ maxLen) (hbytes : (n + m) * bytes ≤ 140737488355328) (hbase : base ≤ w.heap.size)
    (hK : ∀ v' w', w'.ownsRow base e size v' (n + m) (xs ++ news) → w.grownBy w' v.ownBlock → K (a.put o.dst v') w') :
    if Region.wanted o (yielded ops a.tmps) = true then Oper.wp P o a w K Q else E := by
  have hw : Region.wanted o (yielded ops a.tmps) = true := by simp [Region.wanted, hg]
  rw [if_pos hw]
  exact wp_append_own w s x t ho base e i z size bytes ht hi hz hsize hby hzs hsz v n xs hs hown ad m c news hx hl hnews h1 h63 hbytes hbase fun v' w' h2 h3 _ => hK v' w' h2 h3

theorem below_app {wo wr w3 : World} {nq n size : Nat} {e : TypeId} {o : Obj} {v : Value} {xs : List Value} (hb : Below wo.heap.size wo wr) (hrow : wr.ownsRow wo.heap.size e size v n xs) (hg : ((wr.alloc o).drewN nq).grownBy w3 v.ownBlock) : Below wo.heap.size wo w3 :=
  (drew_below (.one _ nq) (hb.alloc hb.size o)).grown hg (by show wo.heap.size ≤ (wr.alloc o).heap.size; have := hb.size; simp; omega) (fun j hj => (hrow.lt j hj).1)

theorem cells_app {wo wr w3 : World} {n size b o1 o2 : Nat} {e : TypeId} {o : Obj} {v u1 u2 : Value} {xs : List Value} (hlt : b < wo.heap.size) (hrow : wr.ownsRow wo.heap.size e size v n xs) (hg : (wr.alloc o).drew.grownBy w3 v.ownBlock)
    (h1 : wr.cell? ⟨b, o1, none⟩ = some u1) (h2 : wr.cell? ⟨b, o2, none⟩ = some u2) : w3.cell? ⟨b, o1, none⟩ = some u1 ∧ w3.cell? ⟨b, o2, none⟩ = some u2 := by
  have hne : some b ≠ v.ownBlock := fun h => by have := (hrow.lt b h.symm).1; omega
  have g := World.grownBy_alloc wr o none
  have k1 : (wr.alloc o).drew.cell? ⟨b, o1, none⟩ = some u1 := g.cell h1 (by simp)
  have k2 : (wr.alloc o).drew.cell? ⟨b, o2, none⟩ = some u2 := g.cell h2 (by simp)
  exact ⟨hg.cell k1 hne, hg.cell k2 hne⟩

set_option maxRecDepth 100000 in
set_option maxHeartbeats 1000000 in
theorem with_any (l : List Fl) (es : List Ed) (v : Value) (b off cap : Nat) (w : World) (hl : FilesAt w v l) (hlt : b < w.heap.size)
    (h0 : ∀ i (h : i < es.length), w.cell? ⟨b, off + i * 3, none⟩ = some (.string es[i].1)) (h1 : ∀ i (h : i < es.length), w.cell? ⟨b, off + i * 3 + 1, none⟩ = some (.string es[i].2.1)) (h2 : ∀ i (h : i < es.length), w.cell? ⟨b, off + i * 3 + 2, none⟩ = some (.string es[i].2.2))
    (hn : l.length ≤ 100) (hm : es.length ≤ 100) (hall : ∀ i (h : i < es.length), standsL l es[i].1 = es[i].2.1) :
    Calls Try.prog 16 #[v, .slice (some ⟨b, off, none⟩) es.length cap] w fun e w' => (∃ v', e = .returned (.tuple #[v', .bool true]) ∧ FilesAt w' v' (withL l es)) ∧ Below w.heap.size w w' := by
  obtain ⟨i0, hi, hz0, hz1, hz2⟩ := info_parts info47
  have Hall : Hid (∀ i (h : i < es.length), standsL l es[i].1 = es[i].2.1) := hall
  clear hall
  go_enter Try.func16, Try.ntmps16
  go_wp2
  go_loopw [6, 7] (fun ov i wr => ∃ k : Nat, k ≤ es.length ∧ i = .int .i64 k ∧ FilesAt wr ov (withL l (es.take k)) ∧ Below w.heap.size w wr) (fun _ i _ => es.length - (intOf i).toNat)
  case atStart => exact ⟨0, Nat.zero_le _, rfl, hl, Below.refl _ _⟩
  case round =>
    obtain ⟨k, hk, rfl, hout, hb⟩ := hrel
    obtain ⟨wo, hwo⟩ : ∃ x, x = wr := ⟨wr, rfl⟩
    subst hwo
    by_cases hlk : k < es.length
    · obtain ⟨g0, g1, g2, gb⟩ := edits_cells hb hlt h0 h1 h2
      have hst : ∀ n, Calls Try.prog 15 #[v, .string es[k].1] (wo.drewN n) fun e w'' => e = .returned (.string es[k].2.1) ∧ w'' = wo.drewN n := fun n => by
        have := law_stands l es[k].1 v (wo.drewN n) (hl.later (drew_below (.one _ _) hb)) (by omega)
        rw [Hall.out k hlk] at this
        exact this
      have hol := withL_len l (es.take k)
      have htl : (es.take k).length ≤ k := by rw [List.length_take]; omega
      have Hw : Hid (withL l (es.take (k + 1)) = withOne (withL l (es.take k)) es[k]) := by
        rw [List.take_succ_eq_append_getElem hlk]; exact withL_snoc _ _ _
      clear h0 h1 h2 hl
      generalize withL l (es.take k) = ol at hout hol Hw
      go_wp2
      go_quiet ((go_at_call 15; exact Calls.quiet_of_same (hst _)))
      have hdr := Drew.one wo nq
      generalize wo.drewN nq = w1 at hdr ⊢
      rcases hout with ⟨rfl, a, c, rfl⟩ | ⟨bo, oo, co, rfl, hbo, r0, r1⟩
      · go_wp2
        go_loopw [8, 9] (fun lv jv wr' => jv = .int .i64 0 ∧ lv = .slice none 0 0 ∧ Below wo.heap.size wo wr') (fun _ _ _ => 0)
        case atStart => exact ⟨rfl, rfl, hdr.below⟩
        case round =>
          obtain ⟨rfl, rfl, hb2⟩ := hrel
          obtain ⟨e0, e1, e2, eb⟩ := edits_cells hb2 gb g0 g1 g2
          have hw2 := hb2.size
          clear g0 g1 g2
          have hrow : wr.ownsRow wo.heap.size 47 2 (.slice none 0 0) (but es[k].1 []).length ((but es[k].1 []).flatMap cF) := World.ownsRow_nil _ _ _ _
          cases hem : es[k].2.2.toList.isEmpty
          · have He : Hid (withOne [] es[k] = but es[k].1 [] ++ [(es[k].1, es[k].2.2)]) := by show _ = _; unfold withOne; rw [hem]; rfl
            have hb3 : Below w.heap.size w wr := hb.trans (hb2.mono hb.size)
            have hbl : (but es[k].1 []).length ≤ 0 := but_len es[k].1 []
            have q1 : Hid ((but es[k].1 []).length + 1 ≤ maxLen) := roomlen (by omega)
            have q2 : Hid (((but es[k].1 []).length + 1) * 32 ≤ 140737488355328) := room32 (by omega)
            have q3 : Hid (wo.heap.size ≤ (wr.alloc (.cells #[.string es[k].1, .string es[k].2.2] 47)).heap.size) := room_base hw2 _
            have c0 := e0 k hlk
            have c2 := e2 k hlk
            have hrow1 := hrow.alloc (.cells #[.string es[k].1, .string es[k].2.2] 47)
            generalize but es[k].1 [] = bl at hrow hrow1 q1 q2 He
            clear hbl e1
            go_wp2
            go_region_held_law (fun w' => w'.cell? ⟨b, off + k * 3, none⟩ = some (.string es[k].1) ∧ w'.cell? ⟨b, off + k * 3 + 2, none⟩ = some (.string es[k].2.2)) (go_keep) ((refine step_append_own rfl _ _ _ rfl wo.heap.size _ i0 _ 2 32 Try.underlying22 hi hz0 hz1 hz2 rfl (by decide) (.slice none 0 0) _ _ rfl hrow1 ⟨wr.heap.size, 0, none⟩ 1 1 [.string es[k].1, .string es[k].2.2] rfl rfl (cell_two_new wr _ _ _) (by simp [Value.oneCell']) q1.out q2.out q3.out ?_; intro v' w3 hown' hg3; obtain ⟨d0, d2⟩ := cells_app gb hrow hg3 c0 c2))
            go_wp2
            exact ⟨⟨k + 1, hlk, by go_num, by rw [Hw.out, He.out]; exact FilesAt.of_row (row_snoc rfl (by assumption)), hb.trans ((below_app (nq := 1) hb2 hrow (by assumption)).mono hb.size)⟩, by simp [intOf]; omega⟩
          · have He : Hid (withOne [] es[k] = but es[k].1 []) := by show _ = _; unfold withOne; rw [hem]; exact List.append_nil _
            have hb3 : Below w.heap.size w wr := hb.trans (hb2.mono hb.size)
            have hfin := FilesAt.of_row hrow
            clear hrow
            go_wp2
            go_roundw
            case rel => exact ⟨k + 1, hlk, by go_num, by rw [Hw.out, He.out]; exact hfin, hb3⟩
            case measure => simp [intOf]; omega
      · go_wp2
        go_loopw [8, 9] (fun lv jv wr' => ∃ j : Nat, j ≤ ol.length ∧ jv = .int .i64 j ∧ wr'.ownsRow wo.heap.size 47 2 lv (but es[k].1 (ol.take j)).length ((but es[k].1 (ol.take j)).flatMap cF) ∧ Below wo.heap.size wo wr') (fun _ jv _ => ol.length - (intOf jv).toNat)
        case atStart => exact ⟨0, Nat.zero_le _, rfl, World.ownsRow_nil _ _ _ _, hdr.below⟩
        case round =>
          obtain ⟨j, hj, rfl, hrow, hb2⟩ := hrel
          obtain ⟨e0, e1, e2, eb⟩ := edits_cells hb2 gb g0 g1 g2
          obtain ⟨f0, f1, fb⟩ := files_cells hb2 hbo r0 r1
          have hw2 := hb2.size
          clear g0 g1 g2 r0 r1
          by_cases hjl : j < ol.length
          · have hbl := but_len es[k].1 (ol.take j)
            have htj : (ol.take j).length ≤ j := by rw [List.length_take]; omega
            have q1 : Hid ((but es[k].1 (ol.take j)).length + 1 ≤ maxLen) := roomlen (by omega)
            have q2 : Hid (((but es[k].1 (ol.take j)).length + 1) * 32 ≤ 140737488355328) := room32 (by omega)
            have q3 : Hid (wo.heap.size ≤ (wr.alloc (.cells #[.string ol[j].1, .string ol[j].2] 47)).heap.size) := room_base hw2 _
            have H1 := but_hit es[k].1 hjl
            have H2 := but_miss es[k].1 hjl
            have HH1 : Hid ((!(ol[j].1.toList == es[k].1.toList)) = true → but es[k].1 (ol.take (j + 1)) = but es[k].1 (ol.take j) ++ [ol[j]]) := H1
            have HH2 : Hid ((!(ol[j].1.toList == es[k].1.toList)) = false → but es[k].1 (ol.take (j + 1)) = but es[k].1 (ol.take j)) := H2
            clear H1 H2 hbl htj
            generalize but es[k].1 (ol.take j) = bl at hrow q1 q2 HH1 HH2
            go_wp2
            go_quiet (fail)
            go_wp2_with (at_builtin; go_must (refine wpList_append_own _ rfl _ _ _ rfl wo.heap.size _ i0 _ 2 32 Try.underlying22 hi hz0 hz1 hz2 rfl (by decide) _ _ _ rfl ((drew_row (.one _ nq) hrow).alloc (.cells #[.string ol[j].1, .string ol[j].2] 47)) ⟨wr.heap.size, 0, none⟩ 1 1 [.string ol[j].1, .string ol[j].2] rfl rfl (cell_two_new wr _ _ _) (by simp [Value.oneCell']) q1.out q2.out q3.out ?_); intro v' w3 hown' hg3 hnil3; go_frame)
            · refine ⟨⟨j + 1, hjl, by go_num, by rw [HH1.out ‹_›]; exact row_snoc rfl hown', below_app hb2 hrow hg3⟩, by simp [intOf]; omega⟩
            · exact ⟨⟨j + 1, hjl, by go_num, by rw [HH2.out ‹_›]; exact hrow, drew_below (.one _ _) hb2⟩, by simp [intOf]; omega⟩
          · have e : ol.take j = ol := List.take_of_length_le (by omega)
            rw [e] at hrow
            clear e
            cases hem : es[k].2.2.toList.isEmpty
            · have He : Hid (withOne ol es[k] = but es[k].1 ol ++ [(es[k].1, es[k].2.2)]) := by show _ = _; unfold withOne; rw [hem]; rfl
              have hb3 : Below w.heap.size w wr := hb.trans (hb2.mono hb.size)
              have hbl := but_len es[k].1 ol
              have q1 : Hid ((but es[k].1 ol).length + 1 ≤ maxLen) := roomlen (by omega)
              have q2 : Hid (((but es[k].1 ol).length + 1) * 32 ≤ 140737488355328) := room32 (by omega)
              have q3 : Hid (wo.heap.size ≤ (wr.alloc (.cells #[.string es[k].1, .string es[k].2.2] 47)).heap.size) := room_base hw2 _
              have c0 := e0 k hlk
              have c2 := e2 k hlk
              have hrow1 := hrow.alloc (.cells #[.string es[k].1, .string es[k].2.2] 47)
              generalize but es[k].1 ol = bl at hrow hrow1 q1 q2 He
              clear hbl f0 f1 e1
              go_wp2
              go_region_held_law (fun w' => w'.cell? ⟨b, off + k * 3, none⟩ = some (.string es[k].1) ∧ w'.cell? ⟨b, off + k * 3 + 2, none⟩ = some (.string es[k].2.2)) (go_keep) ((refine step_append_own rfl _ _ _ rfl wo.heap.size _ i0 _ 2 32 Try.underlying22 hi hz0 hz1 hz2 rfl (by decide) u8 _ _ rfl hrow1 ⟨wr.heap.size, 0, none⟩ 1 1 [.string es[k].1, .string es[k].2.2] rfl rfl (cell_two_new wr _ _ _) (by simp [Value.oneCell']) q1.out q2.out q3.out ?_; intro v' w3 hown' hg3; obtain ⟨d0, d2⟩ := cells_app gb hrow hg3 c0 c2))
              go_wp2
              exact ⟨⟨k + 1, hlk, by go_num, by rw [Hw.out, He.out]; exact FilesAt.of_row (row_snoc rfl (by assumption)), hb.trans ((below_app (nq := 1) hb2 hrow (by assumption)).mono hb.size)⟩, by simp [intOf]; omega⟩
            · have He : Hid (withOne ol es[k] = but es[k].1 ol) := by show _ = _; unfold withOne; rw [hem]; exact List.append_nil _
              have hb3 : Below w.heap.size w wr := hb.trans (hb2.mono hb.size)
              have hfin := FilesAt.of_row hrow
              clear hrow
              go_wp2
              go_roundw
              case rel => exact ⟨k + 1, hlk, by go_num, by rw [Hw.out, He.out]; exact hfin, hb3⟩
              case measure => simp [intOf]; omega
    · have e : es.take k = es := List.take_of_length_le (by omega)
      rw [e] at hout
      go_wp2
      go_ret2
      exact ⟨⟨_, rfl, hout⟩, hb⟩
end Go.Proofs.Ytgamgomepdfgdaa
