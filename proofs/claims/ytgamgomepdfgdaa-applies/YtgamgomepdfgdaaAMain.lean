import Derived.Test.YtgamgomepdfgdaaAOwn
import Derived.Test.YtgamgomepdfgdaaLent
import Derived.Deep.RegionHeldLaw
import Derived.Deep.CutRange
import Derived.Deep.CutBlock
namespace Go.Proofs.Ytgamgomepdfgdaa
open Go.RowKit

def beyF : Fl := (beyB, ⟨#[]⟩)
def beyE : Ed := (beyB, ⟨#[]⟩, ⟨#[]⟩)

theorem allF {w : World} {base g n : Nat} {l : List Fl} (h : w.ownsRow base 47 2 (.slice (some ⟨g, 0, none⟩) (l.length + 2) n) (l.length + 2) ((l ++ [beyF, beyF]).flatMap cF)) : FilesAt w (.slice (some ⟨g, 0, none⟩) (l.length + 2) n) (l ++ [beyF, beyF]) := by
  have h2 : (l ++ [beyF, beyF]).length = l.length + 2 := by simp
  rw [← h2] at h ⊢
  exact FilesAt.of_row h
theorem allE {w : World} {base g n : Nat} {l : List Ed} (h : w.ownsRow base 49 3 (.slice (some ⟨g, 0, none⟩) (l.length + 2) n) (l.length + 2) ((l ++ [beyE, beyE]).flatMap cE)) : EditsAt w (.slice (some ⟨g, 0, none⟩) (l.length + 2) n) (l ++ [beyE, beyE]) := by
  have h2 : (l ++ [beyE, beyE]).length = l.length + 2 := by simp
  rw [← h2] at h ⊢
  exact EditsAt.of_row h

/-- what one Apply has given -/
def Ans (w3 wz : World) (base N : Nat) (L : List Fl) (C : Nat) (s t : Value) : Prop :=
  L.length ≤ N ∧ ∃ fa fcap, s = .slice fa L.length fcap ∧ t = .int .i64 C ∧ (C ≠ 0 → fa = none ∧ fcap = 0 ∧ L = []) ∧ wz.ownsRow base 47 2 (.slice fa L.length fcap) L.length (L.flatMap cF) ∧ Below w3.heap.size w3 wz

theorem Ans.drew {w3 wz : World} {N C : Nat} {L : List Fl} {s t : Value} (h : Ans w3.drew wz w3.drew.heap.size N L C s t) : Ans w3 wz w3.heap.size N L C s t := by
  obtain ⟨hN, fa, fcap, h1, h2, h3, h4, h5⟩ := h
  exact ⟨hN, fa, fcap, h1, h2, h3, h4, ⟨h5.os, h5.tape, h5.output, h5.size, h5.block⟩⟩

/-- all that stands ahead of the two calls -/
structure Lie (w : World) (l : List Fl) (es : List Ed) (a a' : Option Addr) (cap cap' gx gy : Nat) : Prop where
  fs : FilesAt w (.slice a l.length cap) l
  ed : EditsAt w (.slice a' es.length cap') es
  x : FilesAt w (.slice (some ⟨gx, 0, none⟩) (l.length + 2) (l.length + 2)) (l ++ [beyF, beyF])
  y : EditsAt w (.slice (some ⟨gy, 0, none⟩) (es.length + 2) (es.length + 2)) (es ++ [beyE, beyE])
theorem Lie.later {w w' : World} {l : List Fl} {es : List Ed} {a a' : Option Addr} {cap cap' gx gy : Nat} (h : Lie w l es a a' cap cap' gx gy) (hb : Below w.heap.size w w') : Lie w' l es a a' cap cap' gx gy :=
  ⟨h.fs.later hb, h.ed.later hb, h.x.later hb, h.y.later hb⟩

theorem below_from {w3 w w' : World} (h : Below w3.heap.size w3 w) (hb : Below w.heap.size w w') : Below w3.heap.size w3 w' := h.trans (hb.mono h.size)
theorem below_at {w3 w w' : World} (h : Below w3.heap.size w3 w) (hb : Below w3.heap.size w w') : Below w3.heap.size w3 w' := h.trans hb

theorem ready2 {w w9 : World} {B B4 bb n fcap gcap : Nat} {fa ga : Option Addr} {xs : List Value} {rs : List En} (hrow : w.ownsRow B4 47 2 (.slice ga n gcap) n xs) (hB : B ≤ B4) (hbb : ∀ g, (Value.slice ga n gcap).ownBlock = some g → g ≠ bb)
    (hD : ∀ g, (Value.slice fa n fcap).ownBlock = some g → (Value.slice ga n gcap).ownBlock = some g → False) (hkp : ∀ k, k < w.heap.size → k ≠ bb → (Value.slice fa n fcap).ownBlock ≠ some k → w9.heap[k]? = w.heap[k]?)
    (heb : ∀ r ∈ rs, ∀ q, r.1.ownBlock = some q → q = bb ∨ (Value.slice fa n fcap).ownBlock = some q ∨ w.heap.size ≤ q) (hBb : B ≤ bb) (hBw : B ≤ w.heap.size) (hfB : ∀ g, (Value.slice fa n fcap).ownBlock = some g → B ≤ g) :
    w9.ownsRow B 47 2 (.slice ga n gcap) n xs ∧ (∀ r ∈ rs, Elsewhere (.slice ga n gcap) r) ∧ ∀ r ∈ rs, ∀ q, r.1.ownBlock = some q → B ≤ q := by
  refine ⟨ownsRow_base (row_same hrow fun g h => hkp g (row_lo hrow h).2 (hbb g h) (fun e => hD g e h)) hB, fun r hr g h1 h2 => ?_, fun r hr q hq => ?_⟩
  · rcases heb r hr g h1 with h | h | h
    · exact absurd h (hbb g h2)
    · exact (hD g h h2).elim
    · have := (row_lo hrow h2).2; omega
  · rcases heb r hr q hq with h | h | h
    · omega
    · exact hfB q h
    · omega

set_option maxRecDepth 100000 in
set_option maxHeartbeats 16000000 in
theorem applies_walk (l : List Fl) (es : List Ed) (a a' : Option Addr) (cap cap' : Nat) (w : World) (hl : FilesAt w (.slice a l.length cap) l) (he : EditsAt w (.slice a' es.length cap') es)
    (hn : Hid ((l.length + 110) * 32 ≤ 140737488355328)) (hn1 : Hid ((l.length + 100) * 32 ≤ 140737488355328)) (hn2 : Hid ((l.length + 4) * 32 ≤ 140737488355328)) (hm : Hid ((es.length + 80) * 48 ≤ 140737488355328)) (hln : l.length < 4398046511004) (hlm : es.length < 4398046511004) (hsz : Hid (∀ f ∈ l, f.1.size ≤ maxLen)) :
    Calls Try.prog 3 #[.slice a l.length cap, .slice a' es.length cap'] w fun e w' => e = .returned (.bool true) ∧ Below w.heap.size w w' := by
  have Hl : Hid _ := hl
  have He : Hid _ := he
  have hx1 := lentFiles_walk l a cap w hl hn1 (by omega)
  have hlm1 : es.length < 8796093022208 := by omega
  clear hl he
  go_enter Try.func3, Try.ntmps3
  go_upto_region 4 with (first
    | (go_at_call 5; refine hx1.mono ?_; rintro e w1 ⟨⟨gx, rfl, hrx⟩, hb1⟩; have Hx : Hid _ := hrx; have B1 : Hid _ := hb1; clear hrx hb1)
    | (go_at_call 6; refine (lent_walk es a' cap' w1 (EditsAt.later He.out B1.out) hm hlm1).mono ?_; rintro e w2 ⟨⟨gy, rfl, hry⟩, hb2⟩; have Hy : Hid _ := hry; have B2 : Hid _ := hb2; clear hry hb2)
    | (go_at_call 7; refine (ref_out l es _ _ w2 (FilesAt.later (FilesAt.later Hl.out B1.out) B2.out) (EditsAt.later (EditsAt.later He.out B1.out) B2.out) hn1.out hlm1).mono ?_; rintro e w3 ⟨⟨u, rfl, hu⟩, hb3⟩; have Hu : Hid _ := hu; have B3 : Hid _ := hb3; clear hu hb3))
  have HI : Hid (Lie w3 l es a a' cap cap' gx gy) := ⟨FilesAt.later (FilesAt.later (FilesAt.later Hl.out B1.out) B2.out) B3.out, EditsAt.later (EditsAt.later (EditsAt.later He.out B1.out) B2.out) B3.out, FilesAt.later (FilesAt.later (allF (base := w.heap.size) Hx.out) B2.out) B3.out, EditsAt.later (allE (base := w1.heap.size) Hy.out) B3.out⟩
  have BW : Hid (Below w.heap.size w w3) := (B1.out.trans (B2.out.mono B1.out.size)).trans (B3.out.mono (Nat.le_trans B1.out.size B2.out.size))
  have hT : Hid (∀ W, Below w3.heap.size w3 W → Calls Try.prog 8 #[.slice (some ⟨gx, 0, none⟩) l.length (l.length + 2), .slice (some ⟨gy, 0, none⟩) es.length (es.length + 2)] W fun e w' => ∃ s t, e = .returned (.tuple #[s, t]) ∧ Ans W w' W.heap.size (l.length + 4) (outL l es) (outC l es) s t) := fun W hW => by
    refine (tree_out l es _ _ W (HI.out.later hW).x.cut (HI.out.later hW).y.cut (show es.length ≤ es.length + 2 by omega) hn2.out hlm1 hsz.out).mono ?_
    rintro e w' ⟨⟨fa, fcap, rfl, h0, hN, hr⟩, hb⟩
    exact ⟨_, _, rfl, hN, fa, fcap, rfl, rfl, h0, hr, hb⟩
  have Hu3 : Hid (FilesAt w3 u (outL l es)) := Hu.out
  clear Hu Hx Hy B1 B2 B3 Hl He hx1
  generalize outL l es = L at hT Hu3
  generalize outC l es = C at hT
  have hT3 := hT.out w3.drew ⟨rfl, rfl, rfl, Nat.le_refl _, fun _ _ => rfl⟩
  go_cut [9, 10] from 19 (fun s t wz => Ans w3 wz w3.heap.size (l.length + 4) L C s t)
  case first =>
    go_region_held_law (fun _ => True) (go_keep) ((go_at_call 8; go_loud (refine hT3.mono ?_); rintro e w4 ⟨s, t, rfl, hA⟩))
    all_goals
      go_wp2_with fail
      go_meet
      case rel => exact hA.drew
  case rest =>
    obtain ⟨hN, fa, fcap, rfl, rfl, hZ, hR1, hB4⟩ := hcut
    have R1 : Hid (wc.ownsRow w3.heap.size 47 2 (.slice fa L.length fcap) L.length (L.flatMap cF)) := hR1
    have B4 : Hid (Below w3.heap.size w3 wc) := hB4
    have hT4 := hT.out wc.drew ⟨hB4.os, hB4.tape, hB4.output, hB4.size, hB4.block⟩
    have Z : Hid (C ≠ 0 → fa = none ∧ fcap = 0 ∧ L = []) := hZ
    have q1 : Hid ((L.length + 100) * 32 ≤ 140737488355328) := Nat.le_trans (Nat.mul_le_mul_right 32 (show L.length + 100 ≤ l.length + 110 by omega)) hn.out
    have q2 : L.length < 8796093022208 := by omega
    clear hZ hR1 hB4 hT hT3 hn2 hsz hN hn
    rename World => w4
    go_upto_region 5 with fail
    go_cut [11, 12] from 19 (fun s t wz => Ans w4 wz w4.heap.size (l.length + 4) L C s t)
    case first =>
      go_region_held_law (fun _ => True) (go_keep) ((go_at_call 8; refine hT4.mono ?_; rintro e w5 ⟨s, t, rfl, hA⟩))
      all_goals
        go_wp2_with fail
        go_meet
        case rel => exact hA.drew
    case rest =>
      obtain ⟨hN, ga, gcap, rfl, rfl, hZ, hR2, hB5⟩ := hcut
      rename World => w5
      have B5 : Hid (Below w3.heap.size w3 w5) := below_from B4.out hB5
      have r1 : Hid (w5.ownsRow w3.heap.size 47 2 (.slice fa L.length fcap) L.length (L.flatMap cF)) := row_same R1.out (fun g h => hB5.block g (row_lo R1.out h).2)
      have r2 : Hid (w5.ownsRow w4.heap.size 47 2 (.slice ga L.length gcap) L.length (L.flatMap cF)) := hR2
      have hs34 : Hid (w3.heap.size ≤ w4.heap.size) := B4.out.size
      have D : Hid (∀ g, (Value.slice fa L.length fcap).ownBlock = some g → (Value.slice ga L.length gcap).ownBlock = some g → False) := fun g h1 h2 => by
        have := (row_lo R1.out h1).2
        have := (row_lo hR2 h2).1
        omega
      clear hZ hN hT4 hR2 hB5 R1 B4
      have hS1 := same_yes L (.slice fa L.length fcap) u w5 (FilesAt.of_row r1.out) (FilesAt.later Hu3.out B5.out) q2
      have hS2 : Hid (∀ w6, Below w5.heap.size w5 w6 → Calls Try.prog 9 #[.slice ga L.length gcap, u] w6 fun e w' => e = .returned (.bool true) ∧ Below w6.heap.size w6 w') := fun w6 h6 => same_yes L _ u w6 (FilesAt.later (FilesAt.of_row r2.out) h6) (FilesAt.later (FilesAt.later Hu3.out B5.out) h6) q2
      go_upto_region 8 with fail
      refine hS1.mono ?_
      rintro e w6 ⟨rfl, hb6⟩
      have B6 : Hid (Below w5.heap.size w5 w6) := hb6
      clear hb6 hS1
      go_upto_region 8 with fail
      refine (hS2.out w6 B6.out).mono ?_
      rintro e w7 ⟨rfl, hb7⟩
      have B7 : Hid (Below w6.heap.size w6 w7) := hb7
      clear hb7 hS2
      go_upto_region 8 with fail
      have B57 : Hid (Below w5.heap.size w5 w7) := B6.out.trans (B7.out.mono B6.out.size)
      have p1 : Hid (w7.ownsRow w3.heap.size 47 2 (.slice fa L.length fcap) L.length (L.flatMap cF)) := row_same r1.out (fun g h => B57.out.block g (row_lo r1.out h).2)
      have p2 : Hid (w7.ownsRow w4.heap.size 47 2 (.slice ga L.length gcap) L.length (L.flatMap cF)) := row_same r2.out (fun g h => B57.out.block g (row_lo r2.out h).2)
      have B37 : Hid (Below w3.heap.size w3 w7) := below_from B5.out B57.out
      clear r1 r2 B5 B6 B7 B57 Hu3
      go_cut [82] from 19 (fun s wz => s = .bool false ∧ wz = w7)
      case first =>
        by_cases hC : C = 0
        · subst hC
          go_wp2_with fail
          go_meet
          case rel => exact ⟨rfl, rfl⟩
        · obtain ⟨rfl, rfl, rfl⟩ := Z.out hC
          have hCb : ((C : Int) == 0) = false := by simp; omega
          go_wp2_with fail
          go_meet
          case rel => exact ⟨rfl, rfl⟩
      case rest =>
        obtain ⟨rfl, rfl⟩ := hcut
        have hBb : Hid (w3.heap.size ≤ wc.heap.size) := B37.out.size
        have hO1 : Hid (∀ o, (wc.alloc o).heap[wc.heap.size]? = some (.cells (boxOf nilS) 38 (0, 0)) → Calls Try.prog 10 #[.pointer (some ⟨wc.heap.size, 0, none⟩), .slice fa L.length fcap] (wc.alloc o) fun e w' => e = .returned (.tuple #[]) ∧
            ∃ rs : List En, rs.length = 4 ∧ Fit 0 (L.length + 3) rs ∧ Booked (wc.alloc o) w' w3.heap.size wc.heap.size rs ∧ w'.ownsRow w3.heap.size 47 2 (.slice ga L.length gcap) L.length (L.flatMap cF) ∧ (∀ r ∈ rs, Elsewhere (.slice ga L.length gcap) r) ∧ ∀ r ∈ rs, ∀ q, r.1.ownBlock = some q → w3.heap.size ≤ q) := fun o ho => by
          refine (own_first (L.flatMap cF) fa L.length fcap wc.heap.size w3.heap.size (wc.alloc o) ho hBb.out (World.ownsRow.alloc p1.out o) q1 q2).mono ?_
          rintro e w' ⟨rfl, rs, hl4, hf, hbk, hkp, heb⟩
          exact ⟨rfl, rs, hl4, hf, hbk, ready2 (World.ownsRow.alloc p2.out o) hs34.out (fun g h => by have := (row_lo p2.out h).2; omega) D.out hkp heb hBb.out (by have := hBb.out; simp; omega) (fun g h => (row_lo p1.out h).1)⟩
        have HI7 : Hid (Lie wc l es a a' cap cap' gx gy) := HI.out.later B37.out
        clear p1 p2 D hs34
        go_upto_region 11 with fail
        have hO1' := hO1.out _ (heap_alloc_new wc (.cells (boxOf nilS) 38))
        clear hO1
        go_upto_region 12 with fail
        refine hO1'.mono ?_
        rintro e w9 ⟨rfl, rs, hl4, hf1, hbk, hrw, hel, heB⟩
        have B9 : Hid (Below w3.heap.size w3 w9) := (B37.out.alloc B37.out.size _).trans hbk.below
        have hO2 := own_second (L.flatMap cF) ga L.length gcap wc.heap.size w3.heap.size rs _ w9 hbk hl4 hBb.out B9.out.size hel heB hrw q1 q2
        have F1 : Hid (rs.length = 4 ∧ Fit 0 (L.length + 3) rs) := ⟨hl4, hf1⟩
        clear hO1' hbk hrw hel heB hl4 hf1
        go_upto_region 13 with fail
        refine hO2.mono ?_
        rintro e w10 ⟨rfl, new, hl5, hf2, hbk2⟩
        have B10 : Hid (Below w3.heap.size w3 w10) := B9.out.trans hbk2.below
        have hK := looks_booked L.length wc.heap.size w3.heap.size rs new w9 w10 hbk2 F1.out.1 hl5 F1.out.2 hf2 q2
        clear hO2 hbk2 hl5 hf2 F1 B9
        go_upto_region 14 with fail
        refine hK.mono ?_
        rintro e w11 ⟨rfl, hb11⟩
        have B11 : Hid (Below w3.heap.size w3 w11) := below_from B10.out hb11
        have HI11 : Hid (Lie w11 l es a a' cap cap' gx gy) := HI.out.later B11.out
        have hF := lentFiles_walk l a cap w11 HI11.out.fs hn1 (by omega)
        clear hK hb11 B10 HI7 HI B37
        go_upto_region 15 with fail
        refine hF.mono ?_
        rintro e w12 ⟨⟨g12, rfl, hr12⟩, hb12⟩
        have HI12 : Hid (Lie w12 l es a a' cap cap' gx gy) := HI11.out.later hb12
        have B12 : Hid (Below w3.heap.size w3 w12) := below_from B11.out hb12
        have hS := same_yes (l ++ [beyF, beyF]) _ _ w12 HI12.out.x (allF hr12) (by rw [List.length_append]; show l.length + 2 < _; omega)
        clear hF hr12 hb12 HI11 B11
        go_upto_region 15 with fail
        refine hS.mono ?_
        rintro e w13 ⟨rfl, hb13⟩
        have HI13 : Hid (Lie w13 l es a a' cap cap' gx gy) := HI12.out.later hb13
        have B13 : Hid (Below w3.heap.size w3 w13) := below_from B12.out hb13
        have hE := lent_walk es a' cap' w13 HI13.out.ed hm hlm1
        clear hS hb13 HI12 B12
        go_upto_region 16 with fail
        refine hE.mono ?_
        rintro e w14 ⟨⟨g14, rfl, hr14⟩, hb14⟩
        have HI14 : Hid (Lie w14 l es a a' cap cap' gx gy) := HI13.out.later hb14
        have B14 : Hid (Below w3.heap.size w3 w14) := below_from B13.out hb14
        have hS := sameE_yes (es ++ [beyE, beyE]) _ _ w14 HI14.out.y (allE hr14) (by rw [List.length_append]; show es.length + 2 < _; omega)
        clear hE hr14 hb14 HI13 B13
        go_upto_region 16 with fail
        refine hS.mono ?_
        rintro e w15 ⟨rfl, hb15⟩
        have B15 : Hid (Below w.heap.size w w15) := BW.out.trans ((below_from B14.out hb15).mono BW.out.size)
        clear hS hb15 HI14 B14
        go_wp2
        go_ret
        exact ⟨rfl, B15.out⟩
end Go.Proofs.Ytgamgomepdfgdaa
