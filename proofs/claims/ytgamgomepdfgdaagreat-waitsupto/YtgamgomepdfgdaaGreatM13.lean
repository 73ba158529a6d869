import Derived.Test.YtgamgomepdfgdaaGreatM12
import Derived.Test.YtgamgomepdfgdaaGreatM11
import Derived.Test.YtgamgomepdfgdaaGreatM03
import Derived.OwnWalk
import Derived.Deep.RegionHeldLaw
import Derived.Test.YtgamgomepdfgdaaGreatM06
import Derived.Test.YtgamgomepdfgdaaGreatM07
namespace Go.Proofs.YtgamgomepdfgdaaGreat
open Go.RowKit

theorem edits_cells {w wr : World} {b off : Nat} {l : List Ed} (hb : Below w.heap.size w wr) (hlt : b < w.heap.size)
    (h0 : ∀ i (h : i < l.length), w.cell? ⟨b, off + i * 3, none⟩ = some (.string l[i].1)) (h1 : ∀ i (h : i < l.length), w.cell? ⟨b, off + i * 3 + 1, none⟩ = some (.string l[i].2.1)) (h2 : ∀ i (h : i < l.length), w.cell? ⟨b, off + i * 3 + 2, none⟩ = some (.string l[i].2.2)) :
    (∀ i (h : i < l.length), wr.cell? ⟨b, off + i * 3, none⟩ = some (.string l[i].1)) ∧ (∀ i (h : i < l.length), wr.cell? ⟨b, off + i * 3 + 1, none⟩ = some (.string l[i].2.1)) ∧ (∀ i (h : i < l.length), wr.cell? ⟨b, off + i * 3 + 2, none⟩ = some (.string l[i].2.2)) ∧ b < wr.heap.size :=
  ⟨fun i h => (hb.cell (by exact hlt)).trans (h0 i h), fun i h => (hb.cell (by exact hlt)).trans (h1 i h), fun i h => (hb.cell (by exact hlt)).trans (h2 i h), Nat.lt_of_lt_of_le hlt hb.size⟩

theorem files_cells {w wr : World} {b off : Nat} {l : List Fl} (hb : Below w.heap.size w wr) (hlt : b < w.heap.size)
    (h0 : ∀ i (h : i < l.length), w.cell? ⟨b, off + i * 2, none⟩ = some (.string l[i].1)) (h1 : ∀ i (h : i < l.length), w.cell? ⟨b, off + i * 2 + 1, none⟩ = some (.string l[i].2)) :
    (∀ i (h : i < l.length), wr.cell? ⟨b, off + i * 2, none⟩ = some (.string l[i].1)) ∧ (∀ i (h : i < l.length), wr.cell? ⟨b, off + i * 2 + 1, none⟩ = some (.string l[i].2)) ∧ b < wr.heap.size :=
  ⟨fun i h => (hb.cell (by exact hlt)).trans (h0 i h), fun i h => (hb.cell (by exact hlt)).trans (h1 i h), Nat.lt_of_lt_of_le hlt hb.size⟩

theorem below_box {w wr : World} (hb : Below w.heap.size w wr) (o : Obj) (m : Nat) : Below w.heap.size w ((wr.alloc o).drewN m) :=
  (hb.alloc hb.size o).trans ⟨rfl, rfl, rfl, Nat.le_refl _, fun _ _ => rfl⟩

set_option maxHeartbeats 2000000 in
theorem editsMay_row (l : List Ed) (b off cap : Nat) (w : World) (hlt : b < w.heap.size)
    (h0 : ∀ i (h : i < l.length), w.cell? ⟨b, off + i * 3, none⟩ = some (.string l[i].1)) (h1 : ∀ i (h : i < l.length), w.cell? ⟨b, off + i * 3 + 1, none⟩ = some (.string l[i].2.1)) (h2 : ∀ i (h : i < l.length), w.cell? ⟨b, off + i * 3 + 2, none⟩ = some (.string l[i].2.2))
    (hn1 : 1 ≤ l.length) (hn4 : l.length ≤ 4) :
    Calls Tryz.prog 130 #[.slice (some ⟨b, off, none⟩) l.length cap] w fun e w' => RetIff e (Good okEd Prod.fst l) ∧ Below w.heap.size w w' := by
  go_enter Tryz.func130, Tryz.ntmps130
  go_wp2
  go_loopw [3] (fun i wr => ∃ k : Nat, k ≤ l.length ∧ i = .int .i64 k ∧ Below w.heap.size w wr ∧ Hid (Good okEd Prod.fst (l.take k))) (fun i _ => l.length - (intOf i).toNat)
  case atStart => exact ⟨0, Nat.zero_le _, rfl, Below.refl _ _, Good.nil _ _⟩
  case round =>
    obtain ⟨k, hk, rfl, hb, hs⟩ := hrel
    obtain ⟨g0, g1, g2, gb⟩ := edits_cells hb hlt h0 h1 h2
    clear h0 h1 h2
    by_cases hlk : k < l.length
    · by_cases hok : okEd l[k] = true
      · have H := good_succ (ok := okEd) (key := Prod.fst) hlk
        have HS : Hid ((∀ j (h : j < k), (l[j]'(by omega)).1 ≠ l[k].1) → Good okEd Prod.fst (l.take (k + 1))) := fun h => H.2 ⟨hs.out, hok, h⟩
        obtain ⟨⟨q1, q2⟩, q3, q4, q5⟩ := (okEd_iff _).1 hok
        have q6 : (l[k].2.1.toList == l[k].2.2.toList) = false := (beq_false_iff _ _).2 q5
        clear H hok q5
        go_wp2
        go_loopw [5] (fun i wr' => ∃ j m : Nat, j ≤ k ∧ i = .int .i64 j ∧ wr' = (wr.alloc (.cells #[.string l[k].1, .string l[k].2.1, .string l[k].2.2] 49)).drewN m ∧ Hid (∀ x (h : x < j) (h' : x < l.length), l[x].1 ≠ l[k].1)) (fun i _ => k - (intOf i).toNat)
        case atStart => exact ⟨0, 0, Nat.zero_le _, rfl, rfl, fun x h => by omega⟩
        case round =>
          obtain ⟨j, m, hj, rfl, rfl, hi⟩ := hrel
          by_cases hjk : j < k
          · have hjl : j < l.length := by omega
            go_wp2
            go_quiet (fail)
            go_wp2
            · go_ret
              refine ⟨.no (good_twice hlk hjk ((beq_true_iff _ _).1 ‹_›)), ?_⟩
              simp only [World.drewN_drewN]
              exact below_box hb _ _
            · go_roundw
              case rel => exact ⟨j + 1, _, hjk, by go_num, rfl, fun x hx hx' => by
                  by_cases e : x = j
                  · subst e; exact (beq_false_iff _ _).1 ‹_›
                  · exact hi.out x (by omega) hx'⟩
              case measure => simp [intOf]; omega
          · go_wp2
            go_roundw
            case rel => exact ⟨k + 1, hlk, by go_num, below_box hb _ _, HS.out fun x hx => hi.out x (by omega) (by omega)⟩
            case measure => simp [intOf]; omega
      · have hB : Hid (¬ Good okEd Prod.fst l) := good_stop hlk hok
        have hok' : ¬ ((1 ≤ l[k].1.size ∧ l[k].1.size ≤ 8) ∧ l[k].2.1.size ≤ 8 ∧ l[k].2.2.size ≤ 8 ∧ l[k].2.1 ≠ l[k].2.2) := fun h => hok ((okEd_iff _).2 h)
        have hd : (l[k].2.1.toList == l[k].2.2.toList) = true ∨ l[k].2.1 ≠ l[k].2.2 := by
          by_cases e : l[k].2.1 = l[k].2.2
          · exact .inl ((beq_true_iff _ _).2 e)
          · exact .inr e
        have hc : l[k].1.size < 1 ∨ (1 ≤ l[k].1.size ∧ 8 < l[k].1.size) ∨ (1 ≤ l[k].1.size ∧ l[k].1.size ≤ 8 ∧ 8 < l[k].2.1.size) ∨ (1 ≤ l[k].1.size ∧ l[k].1.size ≤ 8 ∧ l[k].2.1.size ≤ 8 ∧ 8 < l[k].2.2.size) ∨
            (1 ≤ l[k].1.size ∧ l[k].1.size ≤ 8 ∧ l[k].2.1.size ≤ 8 ∧ l[k].2.2.size ≤ 8 ∧ (l[k].2.1.toList == l[k].2.2.toList) = true) := by
          rcases hd with h | h
          · have : l[k].1.size < 1 ∨ (1 ≤ l[k].1.size ∧ 8 < l[k].1.size) ∨ (1 ≤ l[k].1.size ∧ l[k].1.size ≤ 8 ∧ 8 < l[k].2.1.size) ∨ (1 ≤ l[k].1.size ∧ l[k].1.size ≤ 8 ∧ l[k].2.1.size ≤ 8 ∧ 8 < l[k].2.2.size) ∨ (1 ≤ l[k].1.size ∧ l[k].1.size ≤ 8 ∧ l[k].2.1.size ≤ 8 ∧ l[k].2.2.size ≤ 8) := by omega
            rcases this with c | c | c | c | ⟨c, d, e, f⟩
            · exact .inl c
            · exact .inr (.inl c)
            · exact .inr (.inr (.inl c))
            · exact .inr (.inr (.inr (.inl c)))
            · exact .inr (.inr (.inr (.inr ⟨c, d, e, f, h⟩)))
          · have : l[k].1.size < 1 ∨ (1 ≤ l[k].1.size ∧ 8 < l[k].1.size) ∨ (1 ≤ l[k].1.size ∧ l[k].1.size ≤ 8 ∧ 8 < l[k].2.1.size) ∨ (1 ≤ l[k].1.size ∧ l[k].1.size ≤ 8 ∧ l[k].2.1.size ≤ 8 ∧ 8 < l[k].2.2.size) ∨ (1 ≤ l[k].1.size ∧ l[k].1.size ≤ 8 ∧ l[k].2.1.size ≤ 8 ∧ l[k].2.2.size ≤ 8) := by omega
            rcases this with c | c | c | c | ⟨c, d, e, f⟩
            · exact .inl c
            · exact .inr (.inl c)
            · exact .inr (.inr (.inl c))
            · exact .inr (.inr (.inr (.inl c)))
            · exact absurd ⟨⟨c, d⟩, e, f, h⟩ hok'
        clear hok' hd hok
        rcases hc with c | ⟨c, d⟩ | ⟨c, d, e⟩ | ⟨c, d, e, f⟩ | ⟨c, d, e, f, g⟩
        all_goals
          go_wp2
          go_ret
          exact ⟨.no hB.out, hb.alloc hb.size _⟩
    · go_wp2
      go_ret
      refine ⟨.yes ?_, hb⟩
      have := hs.out
      rwa [List.take_of_length_le (by omega)] at this

theorem editsMay_any (l : List Ed) (v : Value) (w : World) (hl : EditsAt w v l) (hn : l.length < 8796093022208) :
    Calls Tryz.prog 130 #[v] w fun e w' => RetIff e (EditsOK l) ∧ Below w.heap.size w w' := by
  by_cases h : l.length < 1 ∨ 4 < l.length
  · have hv : ∃ a cap, v = .slice a l.length cap := by
      rcases hl with ⟨rfl, a, cap, rfl⟩ | ⟨b, off, cap, rfl, _⟩
      · exact ⟨_, _, rfl⟩
      · exact ⟨_, _, rfl⟩
    obtain ⟨a, cap, rfl⟩ := hv
    refine (editsMay_len l.length cap a w h hn).mono ?_
    rintro e w' ⟨rfl, rfl⟩
    exact ⟨.no fun hg => by unfold EditsOK at hg; omega, Below.refl _ _⟩
  · rcases hl with ⟨rfl, _⟩ | ⟨b, off, cap, rfl, hlt, h0, h1, h2⟩
    · simp at h
    · refine (editsMay_row l b off cap w hlt h0 h1 h2 (by omega) (by omega)).mono ?_
      rintro e w' ⟨⟨r, rfl, hr⟩, hb⟩
      exact ⟨⟨r, rfl, hr.trans ⟨fun hg => ⟨by omega, by omega, hg⟩, fun hg => hg.2.2⟩⟩, hb⟩
end Go.Proofs.YtgamgomepdfgdaaGreat

namespace Go.Proofs.YtgamgomepdfgdaaGreat
open Go.RowKit

theorem info49c : (Tryz.prog.info? 49).map (fun i => (i.zero, i.size, i.bytes)) = some (some (.agg #[.string ⟨#[]⟩, .string ⟨#[]⟩, .string ⟨#[]⟩]), 3, 48) := by kernel_rfl

theorem below_draw {wr w1 w2 : World} {o : Obj} (h : Below w1.heap.size w1 w2) (e : w1.heap = (wr.alloc o).heap) (e1 : w1.os = wr.os) (e2 : w1.tape = wr.tape) (e3 : w1.output = wr.output) : Below wr.heap.size wr w2 := by
  have h' : Below (wr.alloc o).heap.size (wr.alloc o) w2 := ⟨h.os.trans e1, h.tape.trans e2, h.output.trans e3, by rw [← e]; exact h.size, fun k hk => by rw [← e] at hk ⊢; exact h.block k hk⟩
  exact ((Below.refl _ _).alloc (Nat.le_refl _) o).trans (h'.mono (by simp))

set_option maxRecDepth 100000 in
set_option maxHeartbeats 400000 in
/-- edits of their own -/
theorem copyEdits_row (es : List Ed) (b off cap : Nat) (w : World) (hlt : b < w.heap.size)
    (h0 : ∀ i (h : i < es.length), w.cell? ⟨b, off + i * 3, none⟩ = some (.string es[i].1)) (h1 : ∀ i (h : i < es.length), w.cell? ⟨b, off + i * 3 + 1, none⟩ = some (.string es[i].2.1)) (h2 : ∀ i (h : i < es.length), w.cell? ⟨b, off + i * 3 + 2, none⟩ = some (.string es[i].2.2))
    (hn : es.length ≤ 4) (hsz : ∀ x ∈ es, x.1.size ≤ 281474976710656 ∧ x.2.1.size ≤ 281474976710656 ∧ x.2.2.size ≤ 281474976710656) :
    Calls Tryz.prog 167 #[.slice (some ⟨b, off, none⟩) es.length cap] w fun e w' => (∃ g, e = .returned (.slice (some ⟨g, 0, none⟩) es.length es.length) ∧ Half w' g es.length es.length es) ∧ Below w.heap.size w w' := by
  obtain ⟨i0, hi, hz0, hz1, hz2⟩ := info_parts info49c
  have q2 : i0.bytes * es.length ≤ 281474976710656 := by rw [hz2]; omega
  have q3 : es.length ≤ maxLen := by unfold maxLen; omega
  go_enter Tryz.func167, Tryz.ntmps167
  go_wp2_with (at_make; refine wpList_make_full _ rfl _ _ _ rfl w.heap.size _ i0 _ 3 Tryz.underlying27 hi hz0 hz1 _ _ _ _ es.length rfl rfl (by omega) (by omega) q2 q3 (Nat.le_refl _) ?_; intro w1 hrow1 hg1)
  have H1 : Half w1 w.heap.size es.length 0 es := Half.made hrow1
  have hb1 : Below w.heap.size w w1 := (Below.refl _ _).grown hg1 (Nat.le_refl _) (by simp)
  clear hrow1 hg1 q2 q3
  go_loopw [11] (fun i wr => ∃ k : Nat, k ≤ es.length ∧ i = .int .i64 k ∧ Half wr w.heap.size es.length k es ∧ Below w.heap.size w wr) (fun i _ => es.length - (intOf i).toNat)
  case atStart => exact ⟨0, Nat.zero_le _, rfl, H1, hb1⟩
  case round =>
    obtain ⟨k, hk, rfl, hH, hb⟩ := hrel
    clear H1 hb1
    by_cases hlk : k < es.length
    · obtain ⟨g0, g1, g2, gb⟩ := edits_cells hb hlt h0 h1 h2
      obtain ⟨s0, s1, s2⟩ := hsz _ (List.getElem_mem hlk)
      have e0 := g0 k hlk
      have e1 := g1 k hlk
      have e2 := g2 k hlk
      have hset : Hid (∀ w', Half w' w.heap.size es.length k es → Half (((w'.setCell ⟨w.heap.size, k * 3, none⟩ (.string es[k].1)).setCell ⟨w.heap.size, k * 3 + 1, none⟩ (.string es[k].2.1)).setCell ⟨w.heap.size, k * 3 + 2, none⟩ (.string es[k].2.2)) w.heap.size es.length (k + 1) es) := fun w' h => h.set hlk rfl
      have hbs := hb.size
      have hH0 : Hid (Half wr w.heap.size es.length k es) := hH
      have Hb : Hid (Below w.heap.size w wr) := hb
      have hgne : w.heap.size ≠ wr.heap.size := Nat.ne_of_lt hH.1
      have hgne' : wr.heap.size ≠ w.heap.size := hgne.symm
      clear h0 h1 h2 hsz g0 g1 g2 hH hb
      generalize es[k].1 = p at s0 e0 hset
      generalize es[k].2.1 = o at s1 e1 hset
      generalize es[k].2.2 = n at s2 e2 hset
      go_wp2
      go_region_held_law (fun w' => w'.cell? ⟨wr.heap.size, 0, none⟩ = some (.string p) ∧ w'.cell? ⟨wr.heap.size, 1, none⟩ = some (.string o) ∧ w'.cell? ⟨wr.heap.size, 2, none⟩ = some (.string n)) (go_keep) (first
        | (go_at_call 129; refine (clone_any p _ s0).mono ?_; rintro e w2 ⟨rfl, hb2⟩; have k0 : w2.cell? ⟨wr.heap.size, 0, none⟩ = some (.string p) := cell_after hb2 (by simp); have k1 : w2.cell? ⟨wr.heap.size, 1, none⟩ = some (.string o) := cell_after hb2 (by simp); have k2 : w2.cell? ⟨wr.heap.size, 2, none⟩ = some (.string n) := cell_after hb2 (by simp); have B2 : Hid (Below wr.heap.size wr w2) := below_draw hb2 rfl rfl rfl rfl; have H2 : Hid (Half w2 w.heap.size es.length k es) := hH0.out.later B2.out)
        | (go_at_call 129; refine (clone_any o _ s1).mono ?_; rintro e w3 ⟨rfl, hb3⟩; have k3 := cell_after hb3 k0; have k4 := cell_after hb3 k1; have k5 := cell_after hb3 k2)
        | (go_at_call 129; refine (clone_any n _ s2).mono ?_; rintro e w4 ⟨rfl, hb4⟩; have k6 := cell_after hb4 k3; have k7 := cell_after hb4 k4; have k8 := cell_after hb4 k5; have hH4 : Half w4 w.heap.size es.length k es := Half.later (Half.later H2.out hb3) hb4; have B4 : Hid (Below wr.heap.size wr w4) := (B2.out.trans (hb3.mono B2.out.size)).trans (hb4.mono (Nat.le_trans B2.out.size hb3.size)); have z0 := (hH4.2.1 (k * 3) (by omega)).2; have z1 := (hH4.2.1 (k * 3 + 1) (by omega)).2; have z2 := (hH4.2.1 (k * 3 + 2) (by omega)).2; obtain ⟨u0, y0⟩ := (hH4.2.1 (k * 3) (by omega)).1; obtain ⟨u1, y1⟩ := (hH4.2.1 (k * 3 + 1) (by omega)).1; obtain ⟨u2, y2⟩ := (hH4.2.1 (k * 3 + 2) (by omega)).1))
      have hN := hset.out _ (by assumption)
      have hB4 : Below w.heap.size w w4 := Hb.out.trans (B4.out.mono Hb.out.size)
      have h2 : w.heap.size ≤ w.heap.size := Nat.le_refl _
      go_wp2
      go_roundw
      case rel => exact ⟨k + 1, hlk, by go_num, hN, ((hB4.setCell h2 _).setCell h2 _).setCell h2 _⟩
      case measure => simp [intOf]; omega
    · go_wp2
      go_ret
      have hkl : k = es.length := by omega
      subst hkl
      exact ⟨⟨_, rfl, hH⟩, hb⟩
end Go.Proofs.YtgamgomepdfgdaaGreat

namespace Go.Proofs.YtgamgomepdfgdaaGreat
open Go.RowKit

/-- a block of this type -/
def Typed (w : World) (g : Nat) (e : TypeId) : Prop := ∃ cur, w.heap[g]? = some (.cells cur e (0, 0))
theorem Typed.lt {w : World} {g : Nat} {e : TypeId} (h : Typed w g e) : g < w.heap.size := by
  obtain ⟨cur, h⟩ := h
  exact (Array.getElem?_eq_some_iff.1 h).1
theorem Typed.later {w w' : World} {g : Nat} {e : TypeId} (h : Typed w g e) (hb : Below w.heap.size w w') : Typed w' g e := by
  have hl := h.lt
  obtain ⟨cur, h⟩ := h
  exact ⟨cur, (hb.block g hl).trans h⟩
theorem Typed.set {w : World} {g : Nat} {e : TypeId} (h : Typed w g e) (o : Nat) (u : Value) : Typed (w.setCell ⟨g, o, none⟩ u) g e := by
  obtain ⟨cur, h⟩ := h
  exact ⟨cur.setIfInBounds o u, by simp [World.setCell, Array.getElem?_modify, h]⟩
theorem Typed.of_row {w : World} {base : Nat} {e : TypeId} {size n g m : Nat} {xs : List Value} (h : w.ownsRow base e size (.slice (some ⟨g, 0, none⟩) n m) n xs) : Typed w g e := by
  rcases h.2 with ⟨h', _⟩ | ⟨g', cap', cur, h', hb, hg, _⟩
  · cases h'
  · cases h'
    exact ⟨cur, hg⟩
theorem Sl.of_half {w : World} {g n : Nat} {e : TypeId} {es : List Ed} (h : Half w g es.length es.length es) (ht : Typed w g e) (hn : es.length ≤ n) (hm : n ≤ maxLen := by decide) : Sl w e 3 (.slice (some ⟨g, 0, none⟩) es.length es.length) es.length (es.flatMap cE) := by
  obtain ⟨cur, hc⟩ := ht
  have key : ∀ j v, w.cell? ⟨g, j, none⟩ = some v → cur[j]? = some v := fun j v hv => by
    simpa [World.cell?, hc] using hv
  refine ⟨flat_len cE 3 (fun _ => rfl) es, .inr ⟨g, 0, es.length, cur, rfl, hc, Nat.le_refl _, Nat.le_trans hn hm, ?_, fun j u hu => ?_⟩⟩
  · rcases Nat.eq_zero_or_pos es.length with h0 | h0
    · omega
    · obtain ⟨v, hv⟩ := (h.2.1 (es.length * 3 - 1) (by omega)).1
      have := (Array.getElem?_eq_some_iff.1 (key _ _ hv)).1
      omega
  · have hj := (List.getElem?_eq_some_iff.1 hu).1
    rw [flat_len cE 3 (fun _ => rfl)] at hj
    have hi : j / 3 < es.length := by omega
    have e' : j = j / 3 * 3 + j % 3 := by omega
    have hg := flat_get cE 3 (fun _ => rfl) es (j / 3) (j % 3) hi (by omega)
    rw [← e', hu] at hg
    obtain ⟨h0, h1, h2⟩ := h.2.2 (j / 3) hi hi
    rw [Nat.zero_add]
    rcases (show j % 3 = 0 ∨ j % 3 = 1 ∨ j % 3 = 2 by omega) with hr | hr | hr
    · rw [hr] at hg
      have hv : u = .string es[j / 3].1 := by simpa [cE] using hg
      rw [hv, ← key _ _ h0]; congr 1; omega
    · rw [hr] at hg
      have hv : u = .string es[j / 3].2.1 := by simpa [cE] using hg
      rw [hv, ← key _ _ h1]; congr 1; omega
    · rw [hr] at hg
      have hv : u = .string es[j / 3].2.2 := by simpa [cE] using hg
      rw [hv, ← key _ _ h2]; congr 1; omega

set_option maxRecDepth 100000 in
set_option maxHeartbeats 400000 in
/-- edits of their own -/
theorem copyEdits_sl (es : List Ed) (b off cap : Nat) (w : World) (hlt : b < w.heap.size)
    (h0 : ∀ i (h : i < es.length), w.cell? ⟨b, off + i * 3, none⟩ = some (.string es[i].1)) (h1 : ∀ i (h : i < es.length), w.cell? ⟨b, off + i * 3 + 1, none⟩ = some (.string es[i].2.1)) (h2 : ∀ i (h : i < es.length), w.cell? ⟨b, off + i * 3 + 2, none⟩ = some (.string es[i].2.2))
    (hn : es.length ≤ 4) (hsz : ∀ x ∈ es, x.1.size ≤ 281474976710656 ∧ x.2.1.size ≤ 281474976710656 ∧ x.2.2.size ≤ 281474976710656) :
    Calls Tryz.prog 167 #[.slice (some ⟨b, off, none⟩) es.length cap] w fun e w' => e = .returned (.slice (some ⟨w.heap.size, 0, none⟩) es.length es.length) ∧ Sl w' 49 3 (.slice (some ⟨w.heap.size, 0, none⟩) es.length es.length) es.length (es.flatMap cE) ∧ Below w.heap.size w w' := by
  obtain ⟨i0, hi, hz0, hz1, hz2⟩ := info_parts info49c
  have q2 : i0.bytes * es.length ≤ 281474976710656 := by rw [hz2]; omega
  have q3 : es.length ≤ maxLen := by unfold maxLen; omega
  go_enter Tryz.func167, Tryz.ntmps167
  go_wp2_with (at_make; refine wpList_make_full _ rfl _ _ _ rfl w.heap.size _ i0 _ 3 Tryz.underlying27 hi hz0 hz1 _ _ _ _ es.length rfl rfl (by omega) (by omega) q2 q3 (Nat.le_refl _) ?_; intro w1 hrow1 hg1)
  have H1 : Half w1 w.heap.size es.length 0 es := Half.made hrow1
  have hb1 : Below w.heap.size w w1 := (Below.refl _ _).grown hg1 (Nat.le_refl _) (by simp)
  have T1 : Typed w1 w.heap.size 49 := Typed.of_row hrow1
  clear hrow1 hg1 q2 q3
  go_loopw [11] (fun i wr => ∃ k : Nat, k ≤ es.length ∧ i = .int .i64 k ∧ Half wr w.heap.size es.length k es ∧ Below w.heap.size w wr ∧ Hid (Typed wr w.heap.size 49)) (fun i _ => es.length - (intOf i).toNat)
  case atStart => exact ⟨0, Nat.zero_le _, rfl, H1, hb1, T1⟩
  case round =>
    obtain ⟨k, hk, rfl, hH, hb, hT⟩ := hrel
    clear H1 hb1 T1
    by_cases hlk : k < es.length
    · obtain ⟨g0, g1, g2, gb⟩ := edits_cells hb hlt h0 h1 h2
      obtain ⟨s0, s1, s2⟩ := hsz _ (List.getElem_mem hlk)
      have e0 := g0 k hlk
      have e1 := g1 k hlk
      have e2 := g2 k hlk
      have hset : Hid (∀ w', Half w' w.heap.size es.length k es → Half (((w'.setCell ⟨w.heap.size, k * 3, none⟩ (.string es[k].1)).setCell ⟨w.heap.size, k * 3 + 1, none⟩ (.string es[k].2.1)).setCell ⟨w.heap.size, k * 3 + 2, none⟩ (.string es[k].2.2)) w.heap.size es.length (k + 1) es) := fun w' h => h.set hlk rfl
      have hbs := hb.size
      have hH0 : Hid (Half wr w.heap.size es.length k es) := hH
      have Hb : Hid (Below w.heap.size w wr) := hb
      have hgne : w.heap.size ≠ wr.heap.size := Nat.ne_of_lt hH.1
      have hgne' : wr.heap.size ≠ w.heap.size := hgne.symm
      clear h0 h1 h2 hsz g0 g1 g2 hH hb
      generalize es[k].1 = p at s0 e0 hset
      generalize es[k].2.1 = o at s1 e1 hset
      generalize es[k].2.2 = n at s2 e2 hset
      go_wp2
      go_region_held_law (fun w' => w'.cell? ⟨wr.heap.size, 0, none⟩ = some (.string p) ∧ w'.cell? ⟨wr.heap.size, 1, none⟩ = some (.string o) ∧ w'.cell? ⟨wr.heap.size, 2, none⟩ = some (.string n)) (go_keep) (first
        | (go_at_call 129; refine (clone_any p _ s0).mono ?_; rintro e w2 ⟨rfl, hb2⟩; have k0 : w2.cell? ⟨wr.heap.size, 0, none⟩ = some (.string p) := cell_after hb2 (by simp); have k1 : w2.cell? ⟨wr.heap.size, 1, none⟩ = some (.string o) := cell_after hb2 (by simp); have k2 : w2.cell? ⟨wr.heap.size, 2, none⟩ = some (.string n) := cell_after hb2 (by simp); have B2 : Hid (Below wr.heap.size wr w2) := below_draw hb2 rfl rfl rfl rfl; have H2 : Hid (Half w2 w.heap.size es.length k es) := hH0.out.later B2.out)
        | (go_at_call 129; refine (clone_any o _ s1).mono ?_; rintro e w3 ⟨rfl, hb3⟩; have k3 := cell_after hb3 k0; have k4 := cell_after hb3 k1; have k5 := cell_after hb3 k2)
        | (go_at_call 129; refine (clone_any n _ s2).mono ?_; rintro e w4 ⟨rfl, hb4⟩; have k6 := cell_after hb4 k3; have k7 := cell_after hb4 k4; have k8 := cell_after hb4 k5; have hH4 : Half w4 w.heap.size es.length k es := Half.later (Half.later H2.out hb3) hb4; have B4 : Hid (Below wr.heap.size wr w4) := (B2.out.trans (hb3.mono B2.out.size)).trans (hb4.mono (Nat.le_trans B2.out.size hb3.size)); have z0 := (hH4.2.1 (k * 3) (by omega)).2; have z1 := (hH4.2.1 (k * 3 + 1) (by omega)).2; have z2 := (hH4.2.1 (k * 3 + 2) (by omega)).2; obtain ⟨u0, y0⟩ := (hH4.2.1 (k * 3) (by omega)).1; obtain ⟨u1, y1⟩ := (hH4.2.1 (k * 3 + 1) (by omega)).1; obtain ⟨u2, y2⟩ := (hH4.2.1 (k * 3 + 2) (by omega)).1))
      have hN := hset.out _ (by assumption)
      have hB4 : Below w.heap.size w w4 := Hb.out.trans (B4.out.mono Hb.out.size)
      have h2 : w.heap.size ≤ w.heap.size := Nat.le_refl _
      have T4 : Hid (Typed w4 w.heap.size 49) := hT.out.later B4.out
      go_wp2
      go_roundw
      case rel => exact ⟨k + 1, hlk, by go_num, hN, ((hB4.setCell h2 _).setCell h2 _).setCell h2 _, ((T4.out.set _ _).set _ _).set _ _⟩
      case measure => simp [intOf]; omega
    · go_wp2
      go_ret
      have hkl : k = es.length := by omega
      subst hkl
      exact ⟨rfl, Sl.of_half hH hT.out hn, hb⟩
end Go.Proofs.YtgamgomepdfgdaaGreat

namespace Go.Proofs.YtgamgomepdfgdaaGreat
open Go.RowKit

set_option maxRecDepth 100000 in
set_option maxHeartbeats 1000000 in
/-- all but the first one -/
theorem outDrop (yb i n : Nat) (t : TypeId) (v : Value) (cs : Array Value) (x0 x1 x2 : Int) (xs : List Value) (w : World) (hB : Bx w yb t cs) (hv : cs[i]? = some v) (hS : Sl w 99 3 v (n + 1) (.int .i64 x0 :: .int .i64 x1 :: .int .i64 x2 :: xs)) (hne : v.ownBlock ≠ some yb) :
    Calls Tryz.prog 121 #[.pointer (some ⟨yb, i, none⟩)] w fun e w' => e = .returned (.tuple #[]) ∧ ∃ v', Bx w' yb t (cs.setIfInBounds i v') ∧ Sl w' 99 3 v' n xs ∧ v'.ownBlock = v.ownBlock ∧ Only w w' (fun k => k = yb ∨ v.ownBlock = some k) := by
  obtain ⟨g, off, cap, rfl, hnc, hcm⟩ := hS.addr (by omega)
  have c0 := hB.cell hv
  have f0 := hB.fr i
  have d0 : w.cell? ⟨g, off, none⟩ = some (.int .i64 x0) := hS.cell (j := 0) rfl
  have d1 : w.cell? ⟨g, off + 1, none⟩ = some (.int .i64 x1) := hS.cell (j := 1) rfl
  have d2 : w.cell? ⟨g, off + 2, none⟩ = some (.int .i64 x2) := hS.cell (j := 2) rfl
  have z0 := hS.fr off
  have z1 := hS.fr (off + 1)
  have z2 := hS.fr (off + 2)
  have hl := hB.lt
  have hg : g < w.heap.size := hS.lt rfl
  have hn0 : ((n : Int) + 1 == 0) = false := by simp; omega
  have hgy : g ≠ yb := fun e => hne (by rw [e]; rfl)
  have hyg : yb ≠ g := hgy.symm
  have hgw : g ≠ w.heap.size := by omega
  have hyw : yb ≠ w.heap.size := by omega
  have HB : Hid (Bx w yb t cs) := hB
  have HS : Hid (Sl w 99 3 (.slice (some ⟨g, off, none⟩) (n + 1) cap) (n + 1) (.int .i64 x0 :: .int .i64 x1 :: .int .i64 x2 :: xs)) := hS
  clear hB hS
  go_enter Tryz.func121, Tryz.ntmps121
  go_upto_region 2 with fail
  have e0 : ∀ o, (w.alloc o).cell? ⟨yb, i, none⟩ = some (.slice (some ⟨g, off, none⟩) (n + 1) cap) := fun o => (HB.out.mk o).cell hv
  have a0 : ∀ o, (w.alloc o).cell? ⟨g, off, none⟩ = some (.int .i64 x0) := fun o => (HS.out.mk o).cell (j := 0) rfl
  have a1 : ∀ o, (w.alloc o).cell? ⟨g, off + 1, none⟩ = some (.int .i64 x1) := fun o => (HS.out.mk o).cell (j := 1) rfl
  have a2 : ∀ o, (w.alloc o).cell? ⟨g, off + 2, none⟩ = some (.int .i64 x2) := fun o => (HS.out.mk o).cell (j := 2) rfl
  have b0 : ∀ o j, (w.alloc o).frozen? ⟨g, j, none⟩ = false := fun o j => (HS.out.mk o).fr j
  have b1 : ∀ o j, (w.alloc o).frozen? ⟨yb, j, none⟩ = false := fun o j => (HB.out.mk o).fr j
  have hfin : Hid (∀ o' c', c' = cap - 1 → o' = (if cap - 1 = 0 then off else off + 3) → ∀ W, W = (((((w.setCell ⟨g, off, none⟩ (.int .i64 0)).setCell ⟨g, off + 1, none⟩ (.int .i64 0)).setCell ⟨g, off + 2, none⟩ (.int .i64 0)).setCell ⟨yb, i, none⟩ (.slice (some ⟨g, o', none⟩) n c')).alloc (.cells #[.int .i64 0, .int .i64 0, .int .i64 0] 99)).drew → ∃ v', Bx W yb t (cs.setIfInBounds i v') ∧ Sl W 99 3 v' n xs ∧ v'.ownBlock = some g ∧ Only w W (fun k => k = yb ∨ some g = some k)) := fun o' c' hc ho W hW => by
    subst hc ho hW
    have hW := drop_world (i := i) HB.out (drop_sl HS.out (.int .i64 0) (.int .i64 0) (.int .i64 0)) (grown3 _ _ _ _ _ _ _ _) hgy rfl (.cells #[.int .i64 0, .int .i64 0, .int .i64 0] 99)
    exact ⟨_, hW.1, hW.2.1, rfl, hW.2.2⟩
  by_cases hc1 : cap = 1
  · subst hc1
    obtain rfl : n = 0 := by omega
    go_region_law (fail)
    all_goals go_wp2_with fail
    all_goals
      refine bodyPost_end (v := .tuple #[]) (results_none (by kernel_rfl) _ _ _) rfl ⟨rfl, ?_⟩
      exact hfin.out off 0 rfl rfl _ rfl
  · have hs3 : Hid ((some ⟨g, off + 3, none⟩ : Option Addr) = some ⟨g, if cap - 1 = 0 then off else off + 3, none⟩) := by
      have hc2 : ¬ cap - 1 = 0 := by omega
      show _ = _
      rw [if_neg hc2]
    go_region_law (fail)
    all_goals go_wp2_with fail
    all_goals
      refine bodyPost_end (v := .tuple #[]) (results_none (by kernel_rfl) _ _ _) rfl ⟨rfl, ?_⟩
      refine hfin.out (off + 3) (cap - 1) rfl (by have := hs3.out; injection this with this; injection this) _ ?_
      rfl
end Go.Proofs.YtgamgomepdfgdaaGreat
