import Derived.Test.YtgamgomepdfgdaaClone
import Derived.Test.YtgamgomepdfgdaaHalf
import Derived.Test.YtgamgomepdfgdaaCopy
import Derived.Test.YtgamgomepdfgdaaMayE
import Derived.OwnWalk
import Derived.Deep.RegionHeldLaw
namespace Go.Proofs.Ytgamgomepdfgdaa
open Go.RowKit

theorem info49c : (Try.prog.info? 49).map (fun i => (i.zero, i.size, i.bytes)) = some (some (.agg #[.string ⟨#[]⟩, .string ⟨#[]⟩, .string ⟨#[]⟩]), 3, 48) := by kernel_rfl

theorem below_draw {wr w1 w2 : World} {o : Obj} (h : Below w1.heap.size w1 w2) (e : w1.heap = (wr.alloc o).heap) (e1 : w1.os = wr.os) (e2 : w1.tape = wr.tape) (e3 : w1.output = wr.output) : Below wr.heap.size wr w2 := by
  have h' : Below (wr.alloc o).heap.size (wr.alloc o) w2 := ⟨h.os.trans e1, h.tape.trans e2, h.output.trans e3, by rw [← e]; exact h.size, fun k hk => by rw [← e] at hk ⊢; exact h.block k hk⟩
  exact ((Below.refl _ _).alloc (Nat.le_refl _) o).trans (h'.mono (by simp))

set_option maxRecDepth 100000 in
set_option maxHeartbeats 400000 in
/-- edits of their own -/
theorem copyEdits_row (es : List Ed) (b off cap : Nat) (w : World) (hlt : b < w.heap.size)
    (h0 : ∀ i (h : i < es.length), w.cell? ⟨b, off + i * 3, none⟩ = some (.string es[i].1)) (h1 : ∀ i (h : i < es.length), w.cell? ⟨b, off + i * 3 + 1, none⟩ = some (.string es[i].2.1)) (h2 : ∀ i (h : i < es.length), w.cell? ⟨b, off + i * 3 + 2, none⟩ = some (.string es[i].2.2))
    (hn : es.length ≤ 4) (hsz : ∀ x ∈ es, x.1.size ≤ 281474976710656 ∧ x.2.1.size ≤ 281474976710656 ∧ x.2.2.size ≤ 281474976710656) :
    Calls Try.prog 25 #[.slice (some ⟨b, off, none⟩) es.length cap] w fun e w' => (∃ g, e = .returned (.slice (some ⟨g, 0, none⟩) es.length es.length) ∧ Half w' g es.length es.length es) ∧ Below w.heap.size w w' := by
  obtain ⟨i0, hi, hz0, hz1, hz2⟩ := info_parts info49c
  have q2 : i0.bytes * es.length ≤ 281474976710656 := by rw [hz2]; omega
  have q3 : es.length ≤ maxLen := by unfold maxLen; omega
  go_enter Try.func25, Try.ntmps25
  go_wp2_with (at_make; refine wpList_make_full _ rfl _ _ _ rfl w.heap.size _ i0 _ 3 Try.underlying23 hi hz0 hz1 _ _ _ _ es.length rfl rfl (by omega) (by omega) q2 q3 (Nat.le_refl _) ?_; intro w1 hrow1 hg1)
  have H1 : Half w1 w.heap.size es.length 0 es := Half.made hrow1
  have hb1 : Below w.heap.size w w1 := (Below.refl _ _).grown hg1 (Nat.le_refl _) (by simp)
  clear hrow1 hg1 q2 q3
  go_loopw [11] (fun i wr => ∃ k : Nat, k ≤ es.length ∧ i = .int .i64 k ∧ Half wr w.heap.size es.length k es ∧ Below w.heap.size w wr) (fun i _ => es.length - (intOf i).toNat)
  case atStart => exact ⟨0, Nat.zero_le _, rfl, H1, hb1⟩
  case round =>
    obtain ⟨k, hk, rfl, hH, hb⟩ := hrel
    clear H1 hb1
    by_cases hlk : k < es.length
    · obtain ⟨g0, g1, g2, gb⟩ := edits_cells hb hlt h0 h1 h2
      obtain ⟨s0, s1, s2⟩ := hsz _ (List.getElem_mem hlk)
      have e0 := g0 k hlk
      have e1 := g1 k hlk
      have e2 := g2 k hlk
      have hset : Hid (∀ w', Half w' w.heap.size es.length k es → Half (((w'.setCell ⟨w.heap.size, k * 3, none⟩ (.string es[k].1)).setCell ⟨w.heap.size, k * 3 + 1, none⟩ (.string es[k].2.1)).setCell ⟨w.heap.size, k * 3 + 2, none⟩ (.string es[k].2.2)) w.heap.size es.length (k + 1) es) := fun w' h => h.set hlk rfl
      have hbs := hb.size
      have hH0 : Hid (Half wr w.heap.size es.length k es) := hH
      have Hb : Hid (Below w.heap.size w wr) := hb
      have hgne : w.heap.size ≠ wr.heap.size := Nat.ne_of_lt hH.1
      have hgne' : wr.heap.size ≠ w.heap.size := hgne.symm
      clear h0 h1 h2 hsz g0 g1 g2 hH hb
      generalize es[k].1 = p at s0 e0 hset
      generalize es[k].2.1 = o at s1 e1 hset
      generalize es[k].2.2 = n at s2 e2 hset
      go_wp2
      go_region_held_law (fun w' => w'.cell? ⟨wr.heap.size, 0, none⟩ = some (.string p) ∧ w'.cell? ⟨wr.heap.size, 1, none⟩ = some (.string o) ∧ w'.cell? ⟨wr.heap.size, 2, none⟩ = some (.string n)) (go_keep) (first
        | (go_at_call 33; refine (clone_any p _ s0).mono ?_; rintro e w2 ⟨rfl, hb2⟩; have k0 : w2.cell? ⟨wr.heap.size, 0, none⟩ = some (.string p) := cell_after hb2 (by simp); have k1 : w2.cell? ⟨wr.heap.size, 1, none⟩ = some (.string o) := cell_after hb2 (by simp); have k2 : w2.cell? ⟨wr.heap.size, 2, none⟩ = some (.string n) := cell_after hb2 (by simp); have B2 : Hid (Below wr.heap.size wr w2) := below_draw hb2 rfl rfl rfl rfl; have H2 : Hid (Half w2 w.heap.size es.length k es) := hH0.out.later B2.out)
        | (go_at_call 33; refine (clone_any o _ s1).mono ?_; rintro e w3 ⟨rfl, hb3⟩; have k3 := cell_after hb3 k0; have k4 := cell_after hb3 k1; have k5 := cell_after hb3 k2)
        | (go_at_call 33; refine (clone_any n _ s2).mono ?_; rintro e w4 ⟨rfl, hb4⟩; have k6 := cell_after hb4 k3; have k7 := cell_after hb4 k4; have k8 := cell_after hb4 k5; have hH4 : Half w4 w.heap.size es.length k es := Half.later (Half.later H2.out hb3) hb4; have B4 : Hid (Below wr.heap.size wr w4) := (B2.out.trans (hb3.mono B2.out.size)).trans (hb4.mono (Nat.le_trans B2.out.size hb3.size)); have z0 := (hH4.2.1 (k * 3) (by omega)).2; have z1 := (hH4.2.1 (k * 3 + 1) (by omega)).2; have z2 := (hH4.2.1 (k * 3 + 2) (by omega)).2; obtain ⟨u0, y0⟩ := (hH4.2.1 (k * 3) (by omega)).1; obtain ⟨u1, y1⟩ := (hH4.2.1 (k * 3 + 1) (by omega)).1; obtain ⟨u2, y2⟩ := (hH4.2.1 (k * 3 + 2) (by omega)).1))
      have hN := hset.out _ (by assumption)
      have hB4 : Below w.heap.size w w4 := Hb.out.trans (B4.out.mono Hb.out.size)
      have h2 : w.heap.size ≤ w.heap.size := Nat.le_refl _
      go_wp2
      go_roundw
      case rel => exact ⟨k + 1, hlk, by go_num, hN, ((hB4.setCell h2 _).setCell h2 _).setCell h2 _⟩
      case measure => simp [intOf]; omega
    · go_wp2
      go_ret
      have hkl : k = es.length := by omega
      subst hkl
      exact ⟨⟨_, rfl, hH⟩, hb⟩
end Go.Proofs.Ytgamgomepdfgdaa
