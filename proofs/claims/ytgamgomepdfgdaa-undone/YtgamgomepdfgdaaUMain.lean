import Derived.Test.YtgamgomepdfgdaaUPure
import Derived.Test.YtgamgomepdfgdaaTreeA
import Derived.Maps.AppendAt
import Derived.Deep.CutRange
import Derived.Deep.CutBlock
namespace Go.Proofs.Ytgamgomepdfgdaa
open Go.RowKit

theorem info49 : (Try.prog.info? 49).map (fun i => (i.zero, i.size, i.bytes)) = some (some (.agg #[.string ⟨#[]⟩, .string ⟨#[]⟩, .string ⟨#[]⟩]), 3, 48) := by kernel_rfl

/-- a slice value that reads as a list of texts -/
def StrsAt (w : World) (v : Value) (l : List ByteArray) : Prop :=
  (l = [] ∧ ∃ a cap, v = .slice a 0 cap) ∨
  ∃ b off cap, v = .slice (some ⟨b, off, none⟩) l.length cap ∧ b < w.heap.size ∧ ∀ i (h : i < l.length), w.cell? ⟨b, off + i, none⟩ = some (.string l[i])

theorem strs_cells {w wr : World} {b off : Nat} {l : List ByteArray} (hb : Below w.heap.size w wr) (hlt : b < w.heap.size)
    (h0 : ∀ i (h : i < l.length), w.cell? ⟨b, off + i, none⟩ = some (.string l[i])) : (∀ i (h : i < l.length), wr.cell? ⟨b, off + i, none⟩ = some (.string l[i])) ∧ b < wr.heap.size :=
  ⟨fun i h => (hb.cell (by exact hlt)).trans (h0 i h), Nat.lt_of_lt_of_le hlt hb.size⟩

theorem cell_app1 {B : Nat} {wr wx w3 : World} {n size b o1 : Nat} {e : TypeId} {v u1 : Value} {xs : List Value} (hlt : b < B) (hrow : wr.ownsRow B e size v n xs) (hw : wx.cell? ⟨b, o1, none⟩ = some u1) (hg : wx.grownBy w3 v.ownBlock) : w3.cell? ⟨b, o1, none⟩ = some u1 := by
  have hne : some b ≠ v.ownBlock := fun h => by have := (hrow.lt b h.symm).1; omega
  exact hg.cell hw hne

theorem cell_two_alloc {w : World} {a : Addr} {v : Value} (h : w.cell? a = some v) (o o' : Obj) : ((w.alloc o).alloc o').cell? a = some v :=
  (World.grownBy_alloc _ o' none).cell ((World.grownBy_alloc w o none).cell h (by simp)) (by simp)

theorem below_app2 {wo wr w3 : World} {n size : Nat} {e : TypeId} {o o' : Obj} {v : Value} {xs : List Value} (hb : Below wo.heap.size wo wr) (hrow : wr.ownsRow wo.heap.size e size v n xs) (hg : ((wr.alloc o).alloc o').drew.grownBy w3 v.ownBlock) : Below wo.heap.size wo w3 := by
  have h1 := hb.size
  have h2 := (hb.alloc hb.size o).alloc (by simp; omega) o'
  exact (drew_below (.one _ 1) h2).grown hg h2.size (fun j hj => (hrow.lt j hj).1)

theorem exit_or {k n : Nat} (h : ¬ (k < n ∧ k < 26)) : ¬ k < n ∨ (k < n ∧ ¬ k < 26) := by omega
theorem exit_or3 {k n : Nat} (h : ¬ (k < n ∧ k < 3)) : ¬ k < n ∨ (k < n ∧ ¬ k < 3) := by omega

theorem ownsRow_built {base : Nat} (w : World) (a b c : Value) (e : TypeId) (hb : base ≤ w.heap.size) : (w.alloc (.cells #[a, b, c] e)).ownsRow base e 3 (.slice (some ⟨w.heap.size, 0, none⟩) 1 1) 1 [a, b, c] :=
  ⟨rfl, .inr ⟨w.heap.size, 1, _, rfl, hb, heap_alloc_new w _, Nat.le_refl _, by unfold maxLen; omega, rfl, rfl⟩⟩
theorem ownsRow_built1 {base : Nat} (w : World) (o : Obj) (a b c : Value) (e : TypeId) (hb : base ≤ w.heap.size) : ((w.alloc o).alloc (.cells #[a, b, c] e)).ownsRow base e 3 (.slice (some ⟨w.heap.size + 1, 0, none⟩) 1 1) 1 [a, b, c] := by
  have := ownsRow_built (base := base) (w.alloc o) a b c e (by simp; omega)
  simpa using this

/-- an edit in a box of its own -/
def BoxF (wr wz : World) (bx : Nat) (p o n : ByteArray) : Prop :=
  Below wr.heap.size wr wz ∧ wr.heap.size ≤ bx ∧ bx < wz.heap.size ∧ wz.cell? ⟨bx, 0, none⟩ = some (.string p) ∧ wz.cell? ⟨bx, 1, none⟩ = some (.string o) ∧ wz.cell? ⟨bx, 2, none⟩ = some (.string n)

theorem below_three (w : World) (o1 o2 o3 : Obj) : Below w.heap.size w (((w.alloc o1).alloc o2).alloc o3).drew :=
  ((((Below.refl _ _).alloc (Nat.le_refl _) _).alloc (by simp) _).alloc (by simp; omega) _).drew

theorem box_at (w : World) (a b c : Value) (t : TypeId) : (w.alloc (.cells #[a, b, c] t)).cell? ⟨w.heap.size, 0, none⟩ = some a ∧ (w.alloc (.cells #[a, b, c] t)).cell? ⟨w.heap.size, 1, none⟩ = some b ∧ (w.alloc (.cells #[a, b, c] t)).cell? ⟨w.heap.size, 2, none⟩ = some c := ⟨by simp, by simp, by simp⟩
theorem cell_alloc {w : World} {a : Addr} {v : Value} (h : w.cell? a = some v) (o : Obj) : (w.alloc o).cell? a = some v := (World.grownBy_alloc w o none).cell h (by simp)

theorem boxF1 (w : World) (o1 o2 : Obj) (p o n : ByteArray) (t : TypeId) : BoxF w (((w.alloc o1).alloc o2).alloc (.cells #[.string p, .string o, .string n] t)).drew (w.heap.size + 1 + 1) p o n := by
  have h := box_at ((w.alloc o1).alloc o2) (.string p) (.string o) (.string n) t
  have e : ((w.alloc o1).alloc o2).heap.size = w.heap.size + 1 + 1 := by simp
  rw [e] at h
  exact ⟨below_three _ _ _ _, by omega, by simp, h.1, h.2.1, h.2.2⟩
theorem boxF2 (w : World) (o1 o2 : Obj) (p o n : ByteArray) (t : TypeId) : BoxF w (((w.alloc o1).alloc (.cells #[.string p, .string o, .string n] t)).alloc o2).drew (w.heap.size + 1) p o n := by
  have h := box_at (w.alloc o1) (.string p) (.string o) (.string n) t
  have e : (w.alloc o1).heap.size = w.heap.size + 1 := by simp
  rw [e] at h
  exact ⟨below_three _ _ _ _, by omega, by simp, cell_alloc h.1 _, cell_alloc h.2.1 _, cell_alloc h.2.2 _⟩
theorem boxF3 (w : World) (o1 o2 : Obj) (p o n : ByteArray) (t : TypeId) : BoxF w (((w.alloc (.cells #[.string p, .string o, .string n] t)).alloc o1).alloc o2).drew w.heap.size p o n := by
  have h := box_at w (.string p) (.string o) (.string n) t
  exact ⟨below_three _ _ _ _, by omega, by simp; omega, cell_alloc (cell_alloc h.1 _) _, cell_alloc (cell_alloc h.2.1 _) _, cell_alloc (cell_alloc h.2.2 _) _⟩

theorem einv_mono {fs : List Fl} {j : Nat} {E : List Ed} (h : EInv fs j E) (hj : j ≤ 3) : EInv fs 3 E :=
  ⟨fun e he => ⟨(h.1 e he).1, (h.1 e he).2.1, by
    rcases (h.1 e he).2.2 with c | ⟨i, hi, c⟩
    · exact .inl c
    · exact .inr ⟨i, by omega, c⟩⟩, h.2.1, h.2.2.1, by have := h.2.2.2; omega⟩

theorem row_snocE {w : World} {base : Nat} {e : TypeId} {v : Value} {n : Nat} {ss : List Ed} {f : Ed} (hn : n = ss.length) (h : w.ownsRow base e 3 v (n + 1) (ss.flatMap cE ++ [.string f.1, .string f.2.1, .string f.2.2])) : w.ownsRow base e 3 v (ss ++ [f]).length ((ss ++ [f]).flatMap cE) := by
  subst hn
  have e1 : (ss ++ [f]).length = ss.length + 1 := by simp
  have e2 : (ss ++ [f]).flatMap cE = ss.flatMap cE ++ [.string f.1, .string f.2.1, .string f.2.2] := by simp [cE]
  rw [e1, e2]; exact h

theorem cell_three_new (w : World) (a b c : Value) (t : TypeId) : ∀ j u, [a, b, c][j]? = some u → (w.alloc (.cells #[a, b, c] t)).cell? ((⟨w.heap.size, 0, none⟩ : Addr).add j) = some u := by
  intro j u h
  match j, h with
  | 0, h => simp at h; subst h; simp [Addr.add]
  | 1, h => simp at h; subst h; simp [Addr.add]
  | 2, h => simp at h; subst h; simp [Addr.add]

theorem row_lt {w : World} {base : Nat} {e : TypeId} {size : Nat} {v : Value} {n : Nat} {xs : List Value} (h : w.ownsRow base e size v n xs) {k : Nat} (hk : w.heap.size ≤ k) : some k ≠ v.ownBlock := fun e1 => by
  have := (h.lt k e1.symm).2; omega

theorem capOK_row {w : World} {base : Nat} {e : TypeId} {size : Nat} {v : Value} {n : Nat} {xs : List Value} (h : w.ownsRow base e size v n xs) : CapOK v := by
  rcases h.2 with ⟨rfl, _⟩ | ⟨g, cap, cur, rfl, _, _, h1, _⟩
  · exact Nat.le_refl _
  · exact h1

theorem row_below {w w' : World} {base : Nat} {e : TypeId} {size : Nat} {v : Value} {n : Nat} {xs : List Value} (h : w.ownsRow base e size v n xs) (hb : Below w.heap.size w w') : w'.ownsRow base e size v n xs := by
  refine h.kept (grown_of_below hb none) ?_
  cases v.ownBlock with
  | none => exact .inl rfl
  | some k => exact .inr (by simp)

theorem alike_any (l m : List Fl) (va vb : Value) (w : World) (ha : FilesAt w va l) (hb : FilesAt w vb m) (he : m.length = l.length) (hn : l.length < 8796093022208) (hall : ∀ i (h : i < l.length), standsL m l[i].1 = l[i].2) :
    Calls Try.prog 17 #[va, vb] w fun e w' => e = .returned (.bool true) ∧ Drew w w' := by
  have hv : ∃ a' cap', vb = .slice a' l.length cap' := by
    rcases hb with ⟨rfl, a, cap, rfl⟩ | ⟨b, off, cap, rfl, _⟩
    · exact ⟨_, _, by rw [← he]; rfl⟩
    · exact ⟨_, _, by rw [he]⟩
  obtain ⟨a', cap', rfl⟩ := hv
  rcases ha with ⟨rfl, a, cap, rfl⟩ | ⟨b, off, cap, rfl, _, h0, h1⟩
  · exact alike_none a a' cap cap' w
  · exact alike_row l m b off cap cap' a' w hb he hn h0 h1 hall

set_option maxRecDepth 100000 in
set_option maxHeartbeats 4000000 in
theorem undone_walk (bs ns : List ByteArray) (a a' : Option Addr) (b off cap b' off' cap' : Nat) (w : World) (ha : Hid (0 < bs.length → a = some ⟨b, off, none⟩ ∧ b < w.heap.size)) (ha' : Hid (0 < ns.length → a' = some ⟨b', off', none⟩ ∧ b' < w.heap.size))
    (h0 : ∀ i (h : i < bs.length), w.cell? ⟨b, off + i, none⟩ = some (.string bs[i])) (h1 : ∀ i (h : i < ns.length), w.cell? ⟨b', off' + i, none⟩ = some (.string ns[i])) :
    Calls Try.prog 4 #[.slice a bs.length cap, .slice a' ns.length cap'] w fun e w' => e = .returned (.bool true) ∧ Below w.heap.size w w' := by
  obtain ⟨i0, hi, hz0, hz1, hz2⟩ := info_parts info47
  obtain ⟨j0, ji, jz0, jz1, jz2⟩ := info_parts info49
  go_enter Try.func4, Try.ntmps4
  go_upto_block 0 with fail
  go_cut [5] from 19 to 44 (fun fv wc => ∃ k : Nat, k ≤ 26 ∧ wc.ownsRow w.heap.size 47 2 fv (filesTo bs k).length ((filesTo bs k).flatMap cF) ∧ Below w.heap.size w wc)
  case rest =>
    obtain ⟨k, hk26, hrow, hb⟩ := hcut
    have hF := finv bs k hk26
    generalize filesTo bs k = fs at hrow hF
    obtain ⟨wo, hwo⟩ : ∃ x, x = wc := ⟨wc, rfl⟩
    subst hwo
    have hfa := FilesAt.of_row hrow
    have HF : Hid (FInv k fs) := hF
    have hfl : fs.length ≤ 26 := by have := hF.2.2.2; omega
    have hwo := hb.size
    have hst1 : Hid (0 < ns.length → a' = some ⟨b', off', none⟩ ∧ (∀ i (h : i < ns.length), wo.cell? ⟨b', off' + i, none⟩ = some (.string ns[i])) ∧ b' < wo.heap.size) := fun h => ⟨(ha'.out h).1, strs_cells hb (ha'.out h).2 h1⟩
    clear hF hrow h0 h1 ha ha'
    go_upto_block 2 with fail
    go_cut [7, 8] from 49 to 89 (fun ev bv wx => ∃ E : List Ed, EInv fs 3 E ∧ wx.ownsRow wo.heap.size 49 3 ev E.length (E.flatMap cE) ∧ wx.ownsRow wo.heap.size 49 3 bv (E.map swapE).length ((E.map swapE).flatMap cE) ∧ Below wo.heap.size wo wx)
    case rest =>
      obtain ⟨E, hE, hev, hbv, hb2⟩ := hcut
      have hFI := HF.out
      have hG := rising_good hFI
      have hOK := einv_ok hE
      have hSW := swap_ok hE
      have hst : ∀ x ∈ E, standsL fs x.1 = x.2.1 := fun x hx => (hE.1 x hx).2.1
      have hfx := hfa.later hb2
      have hex := EditsAt.of_row hev
      have hbx := EditsAt.of_row hbv
      have hce := capOK_row hev
      have hcb := capOK_row hbv
      have hszf : ∀ f ∈ fs, f.1.size ≤ maxLen := fun f hf => by
        have := ((okFl_iff f).1 (hFI.2.1 f hf)).1.2; unfold maxLen; omega
      have hEl := hOK.2.1
      have hn32 : (fs.length + 4) * 32 ≤ 140737488355328 := Nat.le_trans (Nat.mul_le_mul_right 32 (show fs.length + 4 ≤ 30 by omega)) (by decide)
      have hT1 := tree_any fs E u5 u7 wc hfx hex hce hn32 (by omega) hszf
      have HH : Hid (EInv fs 3 E ∧ EditsOK E ∧ EditsOK (E.map swapE) ∧ (∀ x ∈ E, standsL fs x.1 = x.2.1) ∧ Good okFl Prod.fst fs) := ⟨hE, hOK, hSW, hst, hG⟩
      have hBw : Below w.heap.size w wc := hb.trans (hb2.mono hb.size)
      clear hE hFI hG hOK hSW hst hev hbv
      go_wp2_with fail
      refine hT1.mono ?_
      rintro e w1 ⟨hR, hb1⟩
      rcases hR with ⟨_, made, b1, c1, rfl, htold, hle, hrow1⟩ | ⟨hbad, _⟩ | ⟨⟨_, _, hbad⟩, _⟩
      rotate_left
      · exact absurd ⟨HH.out.2.2.2.2, HH.out.2.1⟩ hbad
      · exact absurd HH.out.2.2.2.1 hbad
      have hb1' : Below wc.heap.size wc w1 := hb1
      clear hT1
      rcases hex with ⟨h, _⟩ | ⟨be, oe, ce, rfl, hbe, e0, e1, e2⟩
      · exact absurd HH.out.2.1.1 (by rw [h]; decide)
      obtain ⟨e0', e1', e2', hbe'⟩ := edits_cells hb1' hbe e0 e1 e2
      have hW := with_any fs E u5 be oe ce w1 (hfx.later hb1') hbe' e0' e1' e2' (by omega) (by omega) (fun i h => HH.out.2.2.2.1 _ (List.getElem_mem h))
      clear e0 e1 e2 e0' e1' e2'
      go_wp2_with fail
      refine hW.mono ?_
      rintro e w2 ⟨⟨vw, rfl, hwant⟩, hb2w⟩
      have hB2 : Below wc.heap.size wc w2 := hb1'.trans (hb2w.mono hb1'.size)
      obtain ⟨hal1, hal2⟩ := want_alike HF.out htold
      have hmade2 := (FilesAt.of_row hrow1).later hb2w
      have hA := alike_any made (withL fs E) _ vw w2 hmade2 hwant hal1 (by omega) hal2
      clear hW
      go_wp2_with fail
      refine hA.mono ?_
      rintro e w3 ⟨rfl, hd3⟩
      have hB3 : Below wc.heap.size wc w3 := drew_below hd3 hB2
      have hmade3 := hmade2.later hd3.below
      have hml : made.length ≤ 30 := by omega
      have hn32' : (made.length + 4) * 32 ≤ 140737488355328 := Nat.le_trans (Nat.mul_le_mul_right 32 (show made.length + 4 ≤ 34 by omega)) (by decide)
      have hszm : ∀ f ∈ made, f.1.size ≤ maxLen := fun f hf => by
        have := ((okFl_iff f).1 ((made_good HF.out HH.out.1 htold).1 f hf)).1.2; unfold maxLen; omega
      have hT2 := tree_any made (E.map swapE) _ u8 w3 hmade3 (hbx.later hB3) hcb hn32' (by rw [List.length_map]; omega) hszm
      clear hA
      go_wp2_with fail
      refine hT2.mono ?_
      rintro e w4 ⟨hR, hb4⟩
      rcases hR with ⟨_, again, b4, c4, rfl, htold4, hle4, hrow4⟩ | ⟨hbad, _⟩ | ⟨⟨_, _, hbad⟩, _⟩
      rotate_left
      · exact absurd ⟨made_good HF.out HH.out.1 htold, HH.out.2.2.1⟩ hbad
      · exact absurd (made_stands HH.out.1 htold) hbad
      have hB4 : Below wc.heap.size wc w4 := hB3.trans (hb4.mono hB3.size)
      have Hsame : Hid (again = fs) := back_again HF.out HH.out.1 htold htold4
      have hal4 : again.length < 8796093022208 := by rw [Hsame.out]; omega
      have hS := sameFiles_any again fs _ u5 w4 (FilesAt.of_row hrow4) (hfx.later hB4) hal4
      clear hT2 hal1 hal2
      go_wp2_with fail
      refine hS.mono ?_
      rintro e w5 ⟨⟨r, rfl, hr⟩, hd5⟩
      have hr1 := hr.2 Hsame.out
      subst hr1
      have hB5 : Below wc.heap.size wc w5 := drew_below hd5 hB4
      have hT3 := tree_any fs (E.map swapE) u5 u8 w5 (hfx.later hB5) (hbx.later hB5) hcb hn32 (by rw [List.length_map]; omega) hszf
      clear hS hr Hsame
      go_wp2_with fail
      refine hT3.mono ?_
      rintro e w6 ⟨hR, hb6⟩
      rcases hR with ⟨⟨_, _, hbad⟩, _⟩ | ⟨hbad, _⟩ | ⟨_, rfl⟩
      · exact absurd hbad (back_not hk26 HF.out HH.out.1)
      · exact absurd ⟨HH.out.2.2.2.2, HH.out.2.2.1⟩ hbad
      clear hT3
      go_wp2
      go_ret
      exact ⟨rfl, hBw.trans ((hB5.trans (hb6.mono hB5.size)).mono hBw.size)⟩
    case first =>
      go_wp2_with fail
      go_loopw [7, 8, 9] (fun ev bv jv wx => ∃ j : Nat, j ≤ ns.length ∧ j ≤ 3 ∧ jv = .int .i64 j ∧ wx.ownsRow wo.heap.size 49 3 ev (editTo fs ns j).length ((editTo fs ns j).flatMap cE) ∧ wx.ownsRow wo.heap.size 49 3 bv ((editTo fs ns j).map swapE).length (((editTo fs ns j).map swapE).flatMap cE) ∧ ev.ownBlock ≠ bv.ownBlock ∧ Below wo.heap.size wo wx) (fun _ _ jv _ => ns.length - (intOf jv).toNat)
      case atStart => exact ⟨0, Nat.zero_le _, Nat.zero_le _, rfl, (ownsRow_built _ _ _ _ _ (Nat.le_refl _)).alloc _, ownsRow_built1 _ _ _ _ _ _ (Nat.le_refl _), by simp [Value.ownBlock], ((Below.refl _ _).alloc (Nat.le_refl _) _).alloc (by simp) _⟩
      case round =>
        obtain ⟨j, hj, hj3, rfl, hev, hbv, hne, hb2⟩ := hrel
        by_cases hjl : j < ns.length ∧ j < 3
        · obtain ⟨hjl, hj2⟩ := hjl
          obtain ⟨rfl, g1, gb⟩ := hst1.out (by omega)
          obtain ⟨f1, fb⟩ := strs_cells hb2 gb g1
          have c0 := f1 j hjl
          have hfx := hfa.later hb2
          have hfa2 : Hid (∀ o1 o2, FilesAt ((wr.alloc o1).alloc o2) u5 fs) := fun o1 o2 => hfx.kept (by simp; omega) (fun q _ hq => (Below.heap_alloc _ _ _ (by simp; omega)).trans (Below.heap_alloc _ _ _ hq))
          have hfa3 : Hid (∀ o1 o2 o3, FilesAt (((wr.alloc o1).alloc o2).alloc o3) u5 fs) := fun o1 o2 o3 => (hfa2.out o1 o2).kept (by simp) (fun q _ hq => Below.heap_alloc _ _ _ hq)
          have c1 : ∀ o1, (wr.alloc o1).cell? ⟨b', off' + j, none⟩ = some (.string ns[j]) := fun o1 => cell_alloc c0 o1
          have c2 : ∀ o1 o2, ((wr.alloc o1).alloc o2).cell? ⟨b', off' + j, none⟩ = some (.string ns[j]) := fun o1 o2 => cell_two_alloc c0 o1 o2
          have c3 : ∀ o1 o2 o3, (((wr.alloc o1).alloc o2).alloc o3).cell? ⟨b', off' + j, none⟩ = some (.string ns[j]) := fun o1 o2 o3 => cell_alloc (c2 o1 o2) o3
          have hEl : (editTo fs ns j).length ≤ 4 := by have := (einv hk26 HF.out ns j hj3).2.2.2; omega
          have Hhit : Hid ((!((standsL fs (pathB j)).toList == (shortB ns[j]).toList)) = true → editTo fs ns (j + 1) = editTo fs ns j ++ [(pathB j, standsL fs (pathB j), shortB ns[j])]) := editTo_hit hjl
          have Hmiss : Hid ((!((standsL fs (pathB j)).toList == (shortB ns[j]).toList)) = false → editTo fs ns (j + 1) = editTo fs ns j) := editTo_miss hjl
          clear f1 g1 hfx
          generalize editTo fs ns j = E at hev hbv hEl Hhit Hmiss
          go_upto_region 12 with fail
          go_cut [10] from 49 to 89 (fun s10 wz => ∃ bx : Nat, s10 = .pointer (some ⟨bx, 0, none⟩) ∧ BoxF wr wz bx (pathB j) (standsL fs (pathB j)) (shortB ns[j]))
          case first =>
            go_region_held_law (fun w' => w'.cell? ⟨b', off' + j, none⟩ = some (.string ns[j])) (go_keep) (first
              | (go_at_call 13; refine (path_any j (by omega) _).mono ?_; rintro e w' ⟨rfl, rfl⟩)
              | (go_at_call 14; refine (short_any _ _).mono ?_; rintro e w' ⟨rfl, rfl⟩)
              | (go_at_call 15; refine (law_stands fs (pathB j) u5 _ (by first | exact hfa2.out _ _ | exact hfa3.out _ _ _) (by omega)).mono ?_; rintro e w' ⟨rfl, rfl⟩))
            all_goals
              go_wp2
              go_meet
              case rel => first | exact ⟨_, rfl, boxF1 _ _ _ _ _ _ _⟩ | exact ⟨_, rfl, boxF2 _ _ _ _ _ _ _⟩ | exact ⟨_, rfl, boxF3 _ _ _ _ _ _ _⟩
          case rest =>
            obtain ⟨bx, rfl, hbz, hbx1, hbx2, m0, m1, m2⟩ := hcut
            have hevz := row_below hev hbz
            have hbvz := row_below hbv hbz
            have hwz := hbz.size
            have hw2 := hb2.size
            have hbB : Below wo.heap.size wo wc := hb2.trans (hbz.mono hb2.size)
            have hml : (E.map swapE).length = E.length := List.length_map _
            rw [hml] at hbvz
            clear c0 c1 c2 c3 hfa2 hfa3
            cases hnq : (!((standsL fs (pathB j)).toList == (shortB ns[j]).toList))
            · have HM : Hid (editTo fs ns (j + 1) = E) := Hmiss.out hnq
              clear hml hbv
              go_wp2
              go_roundw
              case rel => exact ⟨j + 1, hjl, by omega, by go_num, by rw [HM.out]; exact hevz, by rw [HM.out, List.length_map]; exact hbvz, hne, hbB⟩
              case measure => simp [intOf]; omega
            · have HM : Hid (editTo fs ns (j + 1) = E ++ [(pathB j, standsL fs (pathB j), shortB ns[j])]) := Hhit.out hnq
              have q1 : Hid (E.length + 1 ≤ maxLen) := roomlen (by omega)
              have q2 : Hid ((E.length + 1) * 48 ≤ 140737488355328) := room48 (by omega)
              have q3 : Hid (∀ o, wo.heap.size ≤ (wc.alloc o).heap.size) := fun o => room_base hbB.size o
              have hbx7 := row_lt hev hbx1
              clear hml hbv Hmiss Hhit
              go_wp2_with (first
                | (at_builtin; refine wpList_append_own_at _ rfl (.tmp 76) (.tmp 78) _ rfl wo.heap.size _ j0 _ 3 48 Try.underlying23 ji jz0 jz1 jz2 rfl (by decide) u7 _ _ rfl (hevz.alloc _) ⟨wc.heap.size, 0, none⟩ 1 1 [.string (pathB j), .string (standsL fs (pathB j)), .string (shortB ns[j])] rfl rfl (cell_three_new wc _ _ _ _) (by simp [Value.oneCell']) q1.out q2.out (q3.out _) ?_; intro v1 w1 hown1 hg1 hnil1 hloc1; have d0 := hg1.cell (cell_alloc m0 _) hbx7; have d1 := hg1.cell (cell_alloc m1 _) hbx7; have d2 := hg1.cell (cell_alloc m2 _) hbx7; have hbv1 := (hbvz.alloc _).kept hg1 (Or.inr hne.symm); have hs1 := hg1.size; have q3' : Hid (∀ o, wo.heap.size ≤ (w1.alloc o).heap.size) := fun o => room_base (Nat.le_trans (q3.out _) hs1) o; clear hnil1)
                | (at_builtin; refine wpList_append_own_at _ rfl (.tmp 80) (.tmp 88) _ rfl wo.heap.size _ j0 _ 3 48 Try.underlying23 ji jz0 jz1 jz2 rfl (by decide) u8 _ _ rfl (hbv1.alloc _) ⟨w1.heap.size, 0, none⟩ 1 1 [.string (pathB j), .string (shortB ns[j]), .string (standsL fs (pathB j))] rfl rfl (cell_three_new w1 _ _ _ _) (by simp [Value.oneCell']) q1.out q2.out (q3'.out _) ?_; intro v2 w2 hown2 hg2 hnil2 hloc2; clear hnil2))
              have hv18 : v1.ownBlock ≠ u8.ownBlock := by
                rcases hloc1 with h | h
                · rw [h]; exact hne
                · rw [h]; exact row_lt hbvz (by simp)
              have hv12 : v1.ownBlock ≠ v2.ownBlock := by
                rcases hloc2 with h | h
                · rw [h]; exact hv18
                · rw [h]; exact (row_lt hown1 (by simp)).symm
              have hB1 : Below wo.heap.size wo w1 := (hbB.alloc hbB.size _).grown hg1 (q3.out _) (fun i hi => (hevz.lt i hi).1)
              have hB2 : Below wo.heap.size wo w2 := (hB1.alloc hB1.size _).grown hg2 (q3'.out _) (fun i hi => (hbv1.lt i hi).1)
              have hev2 := (hown1.alloc _).kept hg2 (Or.inr hv18)
              go_roundw
              case rel => exact ⟨j + 1, hjl, by omega, by go_num, by rw [HM.out]; exact row_snocE rfl hev2, by rw [HM.out, List.map_append]; exact row_snocE (by rw [List.length_map]) hown2, hv12, hB2⟩
              case measure => simp [intOf]; omega
        · have hEI : Hid (EInv fs 3 (editTo fs ns j)) := einv_mono (einv hk26 HF.out ns j hj3) hj3
          rcases exit_or3 hjl with hx | ⟨hx, hx'⟩
          all_goals
            clear hjl
            go_wp2
            go_meet
            case rel => exact ⟨_, hEI.out, hev, hbv, hb2⟩
  case first =>
    go_wp2_with fail
    go_loopw [5, 6] (fun fv kv wr => ∃ k : Nat, k ≤ bs.length ∧ k ≤ 26 ∧ kv = .int .i64 k ∧ wr.ownsRow w.heap.size 47 2 fv (filesTo bs k).length ((filesTo bs k).flatMap cF) ∧ Below w.heap.size w wr) (fun _ kv _ => bs.length - (intOf kv).toNat)
    case atStart => exact ⟨0, Nat.zero_le _, Nat.zero_le _, rfl, World.ownsRow_nil _ _ _ _, Below.refl _ _⟩
    case round =>
      obtain ⟨k, hk, hk26, rfl, hrow, hb⟩ := hrel
      by_cases hlk : k < bs.length ∧ k < 26
      · obtain ⟨hlk, hk2⟩ := hlk
        obtain ⟨rfl, hlt⟩ := ha.out (by omega)
        obtain ⟨g0, gb⟩ := strs_cells hb hlt h0
        have c0 := g0 k hlk
        have hfl := (finv bs k hk26).2.2.2
        have hw2 := hb.size
        clear g0 h0 h1
        cases hem : bs[k].toList.isEmpty
        · have q1 : Hid ((filesTo bs k).length + 1 ≤ maxLen) := roomlen (by omega)
          have q2 : Hid (((filesTo bs k).length + 1) * 32 ≤ 140737488355328) := room32 (by omega)
          have Hf := filesTo_hit hlk hem
          have HF : Hid (filesTo bs (k + 1) = filesTo bs k ++ [(pathB k, shortB bs[k])]) := Hf
          clear Hf hfl
          generalize filesTo bs k = fl at hrow q1 q2 HF
          have hrow1 := (hrow.alloc (.cells #[.int .u8 (97 + (k : Int) % 26), .int .u8 (97 + (k : Int) / 26 % 26), .int .u8 (97 + (k : Int) / 676)] 5)).alloc (.cells #[.string (pathB k), .string (shortB bs[k])] 47)
          have q3 : Hid (w.heap.size ≤ ((wr.alloc (.cells #[.int .u8 (97 + (k : Int) % 26), .int .u8 (97 + (k : Int) / 26 % 26), .int .u8 (97 + (k : Int) / 676)] 5)).alloc (.cells #[.string (pathB k), .string (shortB bs[k])] 47)).heap.size) := room_base (room_base hw2 _) _
          have c1 := cell_two_alloc c0 (.cells #[.int .u8 (97 + (k : Int) % 26), .int .u8 (97 + (k : Int) / 26 % 26), .int .u8 (97 + (k : Int) / 676)] 5) (.cells #[.string (pathB k), .string (shortB bs[k])] 47)
          go_wp2
          go_region_held_law (fun w' => w'.cell? ⟨b, off + k, none⟩ = some (.string bs[k])) (go_keep) (first
            | (go_at_call 13; refine (path_any k hk2 _).mono ?_; rintro e w' ⟨rfl, rfl⟩)
            | (go_at_call 14; refine (short_any _ _).mono ?_; rintro e w' ⟨rfl, rfl⟩)
            | (refine step_append_own rfl _ _ _ rfl w.heap.size _ i0 _ 2 32 Try.underlying22 hi hz0 hz1 hz2 rfl (by decide) u5 _ _ rfl hrow1 ⟨wr.heap.size + 1, 0, none⟩ 1 1 [.string (pathB k), .string (shortB bs[k])] rfl rfl (cell_two_box wr _ _ _ _) (by simp [Value.oneCell']) q1.out q2.out q3.out ?_; intro v' w3 hown' hg3; have c0' := cell_app1 (wx := _) (by exact hlt) hrow (by exact c1) hg3))
          go_wp2
          exact ⟨⟨k + 1, hlk, by omega, by go_num, by rw [HF.out]; exact row_snoc rfl (by assumption), below_app2 hb hrow (by assumption)⟩, by simp [intOf]; omega⟩
        · have HF : Hid (filesTo bs (k + 1) = filesTo bs k) := filesTo_miss hlk hem
          clear hfl
          go_wp2
          go_roundw
          case rel => exact ⟨k + 1, hlk, by omega, by go_num, by rw [HF.out]; exact hrow, hb⟩
          case measure => simp [intOf]; omega
      · clear h0 h1
        rcases exit_or hlk with hx | ⟨hx, hx'⟩
        all_goals
          clear hlk
          go_wp2
          go_meet
          case rel => exact ⟨k, hk26, hrow, hb⟩
end Go.Proofs.Ytgamgomepdfgdaa
