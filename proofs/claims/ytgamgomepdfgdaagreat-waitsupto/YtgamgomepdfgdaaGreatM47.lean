import Derived.Test.YtgamgomepdfgdaaGreatM46
namespace Go.Proofs.YtgamgomepdfgdaaGreat
open Go.RowKit

set_option maxRecDepth 100000 in
set_option maxHeartbeats 4000000 in
theorem lMade_yes (n0 n1 n2 n3 n4 n5 n6 k : Int) (c : Cfg) (l : List Fl) (fa : Option Addr) (fc : Nat) (w : World) (hl : FilesAt w (.slice fa l.length fc) l) (hc : c.Ok) (hn : (l.length + 100) * 64 ≤ 140737488355328)
    (hy : ∀ (w : World) (fa : Option Addr) (fn fc : Nat), FilesAt w (.slice fa fn fc) l → Calls Tryz.prog 35 #[cfgV n0 n1 n2 n3 n4 n5 n6, .slice fa fn fc] w fun e w' => RMade w w' e c l k true ∧ Below w.heap.size w w')
    (hx : ∀ (w : World) (fa : Option Addr) (fn fc : Nat), FilesAt w (.slice fa fn fc) l → Calls Tryz.prog 37 #[cfgV n0 n1 n2 n3 n4 n5 n6, .slice fa fn fc] w fun e w' => PMade w w' e c l k true ∧ Below w.heap.size w w') :
    Calls Tryz.prog 12 #[cfgV n0 n1 n2 n3 n4 n5 n6, .slice fa l.length fc] w fun e w' => PlayMade w w' e l true ∧ Below w.heap.size w w' := by
  unfold RMade at hy
  unfold PMade at hx
  unfold PlayMade
  unfold cfgV at *
  have HB0 : Hid (Below w.heap.size w (w.alloc (.cells #[.int .i64 n0, .int .i64 n1, .int .i64 n2, .int .i64 n3, .int .i64 n4, .int .i64 n5, .int .i64 n6] 23))) := below_new _ _
  have X0 := Bx.new w #[.int .i64 n0, .int .i64 n1, .int .i64 n2, .int .i64 n3, .int .i64 n4, .int .i64 n5, .int .i64 n6] 23
  have hy0 := hy _ fa l.length fc (hl.later HB0.out)
  have x0 := X0.cell (i := 0) (v := .int .i64 n0) rfl
  have x1 := X0.cell (i := 1) (v := .int .i64 n1) rfl
  have x2 := X0.cell (i := 2) (v := .int .i64 n2) rfl
  have x3 := X0.cell (i := 3) (v := .int .i64 n3) rfl
  have x4 := X0.cell (i := 4) (v := .int .i64 n4) rfl
  have x5 := X0.cell (i := 5) (v := .int .i64 n5) rfl
  have x6 := X0.cell (i := 6) (v := .int .i64 n6) rfl
  have HL : Hid (FilesAt w (.slice fa l.length fc) l) := hl
  clear hl hy
  go_enter Tryz.func12, Tryz.ntmps12
  go_wp2_with fail
  go_fit hy0
  rintro e w1 ⟨⟨yb, fv, ss, rfl, hR, hT⟩, hb1⟩
  have HB1 : Hid (Below w.heap.size w w1) := below_trans HB0.out hb1
  have X1 := X0.later hb1
  have HRF : Hid (RefPk w1 (News (w.alloc (.cells #[.int .i64 n0, .int .i64 n1, .int .i64 n2, .int .i64 n3, .int .i64 n4, .int .i64 n5, .int .i64 n6] 23)) w1) yb c Sg.start fv ss) := hR
  have HT : Hid (Told ss (standsL l)) := hT
  clear hR hT
  have hL := lentFiles_walk l fa fc w1 (FilesAt.later HL.out HB1.out) (by show _ ≤ _; omega) (n_lt hn)
  have HX1 : Hid (Bx w1 w.heap.size 23 #[.int .i64 n0, .int .i64 n1, .int .i64 n2, .int .i64 n3, .int .i64 n4, .int .i64 n5, .int .i64 n6]) := X1
  have HX : Hid (∀ (w : World) (fa : Option Addr) (fn fc : Nat), FilesAt w (.slice fa fn fc) l → Calls Tryz.prog 37 #[.agg #[.int .i64 n0, .int .i64 n1, .int .i64 n2, .int .i64 n3, .int .i64 n4, .int .i64 n5, .int .i64 n6], .slice fa fn fc] w fun e w' => (∃ xb, e = .returned (.tuple #[.pointer (some ⟨xb, 0, none⟩), .int .i64 k]) ∧ ProgIs w' (News w w') xb c Sg.start l.length (standsL l)) ∧ Below w.heap.size w w') := hx
  clear hy0 hb1 X0 X1 x0 x1 x2 x3 x4 x5 x6 hx HB0
  go_wp2_with fail
  go_fit hL
  rintro e w2 ⟨⟨g, rfl, hrow⟩, hb2⟩
  have hX2 := HX1.out.later hb2
  have x0 := hX2.cell (i := 0) (v := .int .i64 n0) rfl
  have x1 := hX2.cell (i := 1) (v := .int .i64 n1) rfl
  have x2 := hX2.cell (i := 2) (v := .int .i64 n2) rfl
  have x3 := hX2.cell (i := 3) (v := .int .i64 n3) rfl
  have x4 := hX2.cell (i := 4) (v := .int .i64 n4) rfl
  have x5 := hX2.cell (i := 5) (v := .int .i64 n5) rfl
  have x6 := hX2.cell (i := 6) (v := .int .i64 n6) rfl
  have hgl := World.ownsRow.lt hrow g rfl
  have hx2 := HX.out w2.drew (some ⟨g, 0, none⟩) l.length (l.length + 2) (FilesAt.later (FilesAt.head (ms := [((beyB, ⟨#[]⟩) : Fl), ((beyB, ⟨#[]⟩) : Fl)]) (by rw [List.length_append]; exact hrow)) ⟨rfl, rfl, rfl, Nat.le_refl _, fun _ _ => rfl⟩)
  have HRow : Hid (w2.ownsRow w1.heap.size 80 2 (.slice (some ⟨g, 0, none⟩) (l.length + 2) (l.length + 2)) (l.length + 2) ((l ++ [((beyB, ⟨#[]⟩) : Fl), ((beyB, ⟨#[]⟩) : Fl)]).flatMap cF)) := hrow
  have HB2 : Hid (Below w1.heap.size w1 w2) := hb2
  have hln := n_lt hn
  clear hL hrow hb2 hX2 HX HX1
  go_wp2_with fail
  go_cut [10, 11] from 12 (fun t u wz => ∃ xb, t = .pointer (some ⟨xb, 0, none⟩) ∧ u = .int .i64 k ∧ ProgIs wz (News w2 wz) xb c Sg.start l.length (standsL l) ∧ Below w2.heap.size w2 wz)
  case first =>
    go_region_held_law (fun w' => w'.cell? ⟨w.heap.size, 0, none⟩ = some (.int .i64 n0) ∧ w'.cell? ⟨w.heap.size, 1, none⟩ = some (.int .i64 n1) ∧ w'.cell? ⟨w.heap.size, 2, none⟩ = some (.int .i64 n2) ∧ w'.cell? ⟨w.heap.size, 3, none⟩ = some (.int .i64 n3) ∧ w'.cell? ⟨w.heap.size, 4, none⟩ = some (.int .i64 n4) ∧ w'.cell? ⟨w.heap.size, 5, none⟩ = some (.int .i64 n5) ∧ w'.cell? ⟨w.heap.size, 6, none⟩ = some (.int .i64 n6)) (go_keep) ((go_at_call 37; refine hx2.mono ?_; rintro e w3 ⟨⟨xb, rfl, hXp⟩, hb3⟩; have y0 := jcell_after hb3 x0; have y1 := jcell_after hb3 x1; have y2 := jcell_after hb3 x2; have y3 := jcell_after hb3 x3; have y4 := jcell_after hb3 x4; have y5 := jcell_after hb3 x5; have y6 := jcell_after hb3 x6; have HXP : Hid (ProgIs w3 (News w2 w3) xb c Sg.start l.length (standsL l)) := hXp; clear hXp; have HB3 : Hid (Below w2.heap.size w2 w3) := ⟨hb3.os, hb3.tape, hb3.output, hb3.size, hb3.block⟩; clear hb3))
    all_goals
      go_wp2_with fail
      go_meet
      case rel => exact ⟨xb, rfl, rfl, HXP.out, HB3.out⟩
  case rest =>
    obtain ⟨xb, rfl, rfl, hXp, hb3⟩ := hcut
    rename World => w3
    have hb23 : Below w1.heap.size w1 w3 := below_trans HB2.out hb3
    have hL2 := lentFiles_walk l fa fc w3 (FilesAt.later HL.out (below_trans HB1.out hb23)) (by show _ ≤ _; omega) hln
    have HR3 : Hid (w3.ownsRow w1.heap.size 80 2 (.slice (some ⟨g, 0, none⟩) (l.length + 2) (l.length + 2)) (l.length + 2) ((l ++ [((beyB, ⟨#[]⟩) : Fl), ((beyB, ⟨#[]⟩) : Fl)]).flatMap cF)) := World.ownsRow.kept HRow.out (below_grown hb3) (Classical.em _)
    have HB3 : Hid (Below w2.heap.size w2 w3) := hb3
    have HXP : Hid (ProgIs w3 (News w2 w3) xb c Sg.start l.length (standsL l)) := hXp
    clear hXp
    clear hx2 hb3 x0 x1 x2 x3 x4 x5 x6 hb23
    go_wp2_with fail
    go_fit hL2
    rintro e w4 ⟨⟨g2, rfl, hrow2⟩, hb4⟩
    have hlen : (l ++ [((beyB, ⟨#[]⟩) : Fl), ((beyB, ⟨#[]⟩) : Fl)]).length = l.length + 2 := by rw [List.length_append]; rfl
    have E1 : FilesAt w3 (.slice (some ⟨g, 0, none⟩) (l.length + 2) (l.length + 2)) (l ++ [((beyB, ⟨#[]⟩) : Fl), ((beyB, ⟨#[]⟩) : Fl)]) := FilesAt.of_row (base := w1.heap.size) (e := 80) (by rw [hlen]; exact HR3.out)
    have E2 : FilesAt w4 (.slice (some ⟨g2, 0, none⟩) (l.length + 2) (l.length + 2)) (l ++ [((beyB, ⟨#[]⟩) : Fl), ((beyB, ⟨#[]⟩) : Fl)]) := FilesAt.of_row (base := w3.heap.size) (e := 80) (by rw [hlen]; exact hrow2)
    have hS := sameFiles_any _ _ _ _ w4 (E1.later hb4) E2 (by rw [hlen]; omega)
    have HB4 : Hid (Below w3.heap.size w3 w4) := hb4
    clear hL2 hrow2 hb4 E1 E2 hlen
    go_wp2_with fail
    go_fit hS
    rintro e w5 ⟨⟨r, rfl, hr⟩, m, rfl⟩
    obtain rfl : r = true := hr.2 (by first | rfl | trivial)
    have HB5 : Hid (Below w3.heap.size w3 (w4.drewN m)) := ⟨HB4.out.os, HB4.out.tape, HB4.out.output, HB4.out.size, HB4.out.block⟩
    generalize w4.drewN m = w5 at *
    have HR5 : Hid (w5.ownsRow w1.heap.size 80 2 (.slice (some ⟨g, 0, none⟩) (l.length + 2) (l.length + 2)) (l.length + 2) ((l ++ [((beyB, ⟨#[]⟩) : Fl), ((beyB, ⟨#[]⟩) : Fl)]).flatMap cF)) := World.ownsRow.kept HR3.out (below_grown HB5.out) (Classical.em _)
    obtain ⟨i0, hi, hz0, hz1, hz2⟩ := info_parts info47b
    have hsz : (Tryz.prog.info? 80).map (·.size) = some 2 := by rw [hi]; simp [hz1]
    clear hS hr HRow HR3 HB4
    go_wp2_with fail
    go_loopw [13] (fun iv wr => ∃ i : Nat, i ≤ l.length ∧ iv = .int .i64 i ∧ Hid (∃ xs, wr.ownsRow w1.heap.size 80 2 (.slice (some ⟨g, 0, none⟩) (l.length + 2) (l.length + 2)) (l.length + 2) xs) ∧ Hid (Only w5 wr (fun q => q = g))) (fun i _ => l.length - (intOf i).toNat)
    case atStart => exact ⟨0, Nat.zero_le _, rfl, ⟨_, HR5.out⟩, Only.refl _ _⟩
    case round =>
      obtain ⟨i, hin, rfl, ⟨xs, hrow⟩, hO⟩ := hrel
      by_cases hlt : i < l.length
      · have Hrow : Hid (wr.ownsRow w1.heap.size 80 2 (.slice (some ⟨g, 0, none⟩) (l.length + 2) (l.length + 2)) (l.length + 2) xs) := hrow
        have Hfit : Hid (i * 2 + 2 ≤ xs.length) := by show _ ≤ _; rw [hrow.1]; omega
        clear hrow
        go_wp2_with (refine wpList_store_elem _ rfl _ _ _ rfl w1.heap.size _ 2 _ _ _ _ _ Hrow.out rfl [.string ⟨#[111, 116, 104, 101, 114]⟩, .string ⟨#[]⟩] rfl hsz Hfit.out (by simp [Value.oneCell']) ?_; intro w6 hrow6 hg6)
        exact ⟨⟨i + 1, hlt, by go_num, ⟨_, hrow6⟩, hO.out.trans (Only.of_grown (S := fun q => q = g) hg6 fun q e => by cases e; rfl) fun _ h => .inl h⟩, by simp [intOf]; omega⟩
      · have HBw : Hid (Below w.heap.size w wr) := by
          have h1 := HB1.out
          have h5 : Below w.heap.size w w5 := below_trans h1 (below_trans HB2.out (below_trans HB3.out HB5.out))
          have hs1 := h1.size
          have hs5 := h5.size
          exact h5.trans ⟨hO.out.os, hO.out.tape, hO.out.output, hO.out.size, fun k hk => hO.out.block k (by omega) (by omega)⟩
        go_wp2_with fail
        have hsW : (w.alloc (.cells #[.int .i64 n0, .int .i64 n1, .int .i64 n2, .int .i64 n3, .int .i64 n4, .int .i64 n5, .int .i64 n6] 23)).heap.size = w.heap.size + 1 := by simp
        have hRF := HRF.out
        generalize w.alloc (.cells #[.int .i64 n0, .int .i64 n1, .int .i64 n2, .int .i64 n3, .int .i64 n4, .int .i64 n5, .int .i64 n6] 23) = W0 at hsW hRF
        have s1 := HB1.out.size
        have s2 := HB2.out.size
        have s3 := HB3.out.size
        have s5 := HB5.out.size
        have sr := hO.out.size
        have b15 : Below w1.heap.size w1 w5 := below_trans HB2.out (below_trans HB3.out HB5.out)
        have hrl := hRF.rl
        have hR : RefPk wr (News W0 w1) yb c Sg.start fv ss := (hRF.later b15).only hO.out fun q hq e => by
          have := hrl q hq; omega
        have hX : ProgIs wr (News w2 w3) xb c Sg.start l.length (standsL l) := (HXP.out.later HB5.out).only hO.out fun q hq e => by
          have : w2.heap.size ≤ q := hq.1
          omega
        have hsz1 : (wr.alloc (.cells #[.slice none 0 0, .slice none 0 0, .slice none 0 0, .slice none 0 0, .slice none 0 0, .slice none 0 0] 88)).heap.size = wr.heap.size + 1 := by simp
        have hBk := Bx.new wr #[.slice none 0 0, .slice none 0 0, .slice none 0 0, .slice none 0 0, .slice none 0 0, .slice none 0 0] 88
        have hb1 := below_new wr (.cells #[.slice none 0 0, .slice none 0 0, .slice none 0 0, .slice none 0 0, .slice none 0 0, .slice none 0 0] 88)
        generalize wr.alloc (.cells #[.slice none 0 0, .slice none 0 0, .slice none 0 0, .slice none 0 0, .slice none 0 0, .slice none 0 0] 88) = wb1 at *
        have hWd := Bx.new wb1 #[.pointer (some ⟨xb, 0, none⟩), .pointer (some ⟨yb, 0, none⟩), .pointer (some ⟨wr.heap.size, 0, none⟩)] 38
        rw [hsz1] at hWd
        have hb2 := below_new wb1 (.cells #[.pointer (some ⟨xb, 0, none⟩), .pointer (some ⟨yb, 0, none⟩), .pointer (some ⟨wr.heap.size, 0, none⟩)] 38)
        have hsz2 : (wb1.alloc (.cells #[.pointer (some ⟨xb, 0, none⟩), .pointer (some ⟨yb, 0, none⟩), .pointer (some ⟨wr.heap.size, 0, none⟩)] 38)).heap.size = wr.heap.size + 1 + 1 := by rw [← hsz1]; simp
        have hbn : Below wr.heap.size wr (wb1.alloc (.cells #[.pointer (some ⟨xb, 0, none⟩), .pointer (some ⟨yb, 0, none⟩), .pointer (some ⟨wr.heap.size, 0, none⟩)] 38)) := below_trans hb1 hb2
        have hBk2 := hBk.later hb2
        generalize wb1.alloc (.cells #[.pointer (some ⟨xb, 0, none⟩), .pointer (some ⟨yb, 0, none⟩), .pointer (some ⟨wr.heap.size, 0, none⟩)] 38) = wn at *
        refine bodyPost_ret (v := .tuple #[.pointer (some ⟨wr.heap.size + 1, 0, none⟩), .bool true]) (by simp [results, Tryz.results12, go_sem]) rfl ⟨⟨⟨wr.heap.size + 1, xb, yb, wr.heap.size, c, fv, l.length, standsL l, ss⟩, ⟨hc, HT.out, hn⟩, rfl, rfl, ?_, ⟨News w2 w3, News W0 w1, fun k => k = wr.heap.size, ⟨hWd, hX.later hbn, hR.later hbn, ?_, ?_, ?_, ?_, ?_, .inr rfl, Sg.start_ok _, Sg.start_ok _⟩⟩⟩, ?_⟩
        · show w.heap.size ≤ wr.heap.size + 1
          omega
        · exact ⟨[], [], [], [], [], .slice none 0 0, .slice none 0 0, .slice none 0 0, .slice none 0 0, .slice none 0 0, ⟨hBk2, rfl, fun k hk => by rw [hk, hsz2]; omega, BL.nil _ _ _, BL.nil _ _ _, BL.nil _ _ _, BL.nil _ _ _, BL.nil _ _ _⟩, Nat.le_refl _, Nat.le_refl _, Nat.le_refl _, Nat.le_refl _, Nat.le_refl _⟩
        · intro k hk hk'
          have h1 : w2.heap.size ≤ k := hk.1
          have h2 : k < w1.heap.size := hk'.2
          omega
        · intro k hk hk'
          have h1 : k < w3.heap.size := hk.2
          have h2 : k = wr.heap.size := hk'
          omega
        · intro k hk hk'
          have h1 : k < w1.heap.size := hk.2
          have h2 : k = wr.heap.size := hk'
          omega
        · intro k hk
          have hk : k < w.heap.size ∨ k = wr.heap.size + 1 := hk
          refine ⟨fun h => ?_, fun h => ?_, fun h => ?_, by omega⟩
          · have h1 : w2.heap.size ≤ k := h.1
            have h2 : k < w3.heap.size := h.2
            omega
          · have h1 : W0.heap.size ≤ k := h.1
            have h2 : k < w1.heap.size := h.2
            omega
          · have h1 : k = wr.heap.size := h
            omega
        · exact HBw.out.trans (hbn.mono (by omega))
end Go.Proofs.YtgamgomepdfgdaaGreat

namespace Go.Proofs.YtgamgomepdfgdaaGreat
open Go.RowKit

/-- an act of a script, as it lies -/
structure Ac where
  kind : Int
  id : Int
  lane : Int
  pass : Bool
  es : List Ed
  ea : Option Addr
  ec : Nat
def cA (a : Ac) : List Value := [.int .i64 a.kind, .int .i64 a.id, .int .i64 a.lane, .bool a.pass, .slice a.ea a.es.length a.ec]
structure Ac.Ok (w : World) (a : Ac) : Prop where
  ed : EditsAt w (.slice a.ea a.es.length a.ec) a.es
  sm : (a.es.length + 80) * 48 ≤ 140737488355328
theorem Ac.Ok.later {w w' : World} {a : Ac} (h : a.Ok w) (hb : Below w.heap.size w w') : a.Ok w' := ⟨h.ed.later hb, h.sm⟩
theorem editsAt_block {w : World} {ea : Option Addr} {ec : Nat} {es : List Ed} (h : EditsAt w (.slice ea es.length ec) es) (h0 : 0 < es.length) : ∀ b, (Value.slice ea es.length ec).ownBlock = some b → b < w.heap.size := fun b hb => by
  rcases h with ⟨rfl, _⟩ | ⟨b', off, cap, e, hlt, _⟩
  · simp at h0
  · obtain ⟨rfl, _, _⟩ := Value.slice.inj e
    have : b' = b := by simpa [Value.ownBlock] using hb
    rw [← this]; exact hlt

/-- acts in a row -/
def ActsAt (w : World) (v : Value) (xs : List Ac) : Prop := ∃ a cap, v = .slice a xs.length cap ∧ (xs = [] ∨ ∃ b off, a = some ⟨b, off, none⟩ ∧ b < w.heap.size ∧ ∀ i (h : i < xs.length) j u, (cA xs[i])[j]? = some u → w.cell? ⟨b, off + i * 5 + j, none⟩ = some u)

set_option maxRecDepth 100000 in
set_option maxHeartbeats 4000000 in
theorem lPlays_no (cv : Value) (l : List Fl) (fa : Option Addr) (fc : Nat) (sv : Value) (w : World) (n0 n1 n2 n3 n4 n5 n6 : Int) (hcv : cv = cfgV n0 n1 n2 n3 n4 n5 n6) (hsv : IsSl sv)
    (hM : ∀ W, Below w.heap.size w W → Calls Tryz.prog 12 #[cv, .slice fa l.length fc] W fun e w' => PlayMade W w' e l false ∧ Below W.heap.size W w') :
    Calls Tryz.prog 11 #[cv, .slice fa l.length fc, sv] w fun e w' => e = .returned (.bool true) ∧ Below w.heap.size w w' := by
  subst hcv
  obtain ⟨sa, sn, sc, rfl⟩ := hsv
  unfold PlayMade at hM
  unfold cfgV at *
  have HB0 : Hid (Below w.heap.size w (w.alloc (.cells #[.int .i64 n0, .int .i64 n1, .int .i64 n2, .int .i64 n3, .int .i64 n4, .int .i64 n5, .int .i64 n6] 23))) := below_new _ _
  have X0 := Bx.new w #[.int .i64 n0, .int .i64 n1, .int .i64 n2, .int .i64 n3, .int .i64 n4, .int .i64 n5, .int .i64 n6] 23
  have x0 := X0.cell (i := 0) (v := .int .i64 n0) rfl
  have x1 := X0.cell (i := 1) (v := .int .i64 n1) rfl
  have x2 := X0.cell (i := 2) (v := .int .i64 n2) rfl
  have x3 := X0.cell (i := 3) (v := .int .i64 n3) rfl
  have x4 := X0.cell (i := 4) (v := .int .i64 n4) rfl
  have x5 := X0.cell (i := 5) (v := .int .i64 n5) rfl
  have x6 := X0.cell (i := 6) (v := .int .i64 n6) rfl
  have hm := hM _ HB0.out
  clear hM X0
  go_enter Tryz.func11, Tryz.ntmps11
  go_wp2_with fail
  go_fit hm
  rintro e w1 ⟨rfl, hb1⟩
  have HB1 : Hid (Below w.heap.size w w1) := below_trans HB0.out hb1
  clear hm hb1
  go_wp2_with fail
  go_ret
  exact ⟨rfl, HB1.out⟩

set_option maxRecDepth 100000 in
set_option maxHeartbeats 4000000 in
theorem lPlays_yes (cv : Value) (l : List Fl) (fa : Option Addr) (fc : Nat) (sv : Value) (xs : List Ac) (w : World) (n0 n1 n2 n3 n4 n5 n6 : Int) (hcv : cv = cfgV n0 n1 n2 n3 n4 n5 n6) (hsv : ActsAt w sv xs) (hok : ∀ a ∈ xs, a.Ok w ∧ queues a.kind) (hlen : xs.length < 400000)
    (hM : ∀ W, Below w.heap.size w W → Calls Tryz.prog 12 #[cv, .slice fa l.length fc] W fun e w' => PlayMade W w' e l true ∧ Below W.heap.size W w') :
    Calls Tryz.prog 11 #[cv, .slice fa l.length fc, sv] w fun e w' => e = .returned (.bool true) ∧ Below w.heap.size w w' := by
  subst hcv
  obtain ⟨sa, sc, rfl, hS⟩ := hsv
  unfold PlayMade at hM
  unfold cfgV at *
  have HB0 : Hid (Below w.heap.size w (w.alloc (.cells #[.int .i64 n0, .int .i64 n1, .int .i64 n2, .int .i64 n3, .int .i64 n4, .int .i64 n5, .int .i64 n6] 23))) := below_new _ _
  have X0 := Bx.new w #[.int .i64 n0, .int .i64 n1, .int .i64 n2, .int .i64 n3, .int .i64 n4, .int .i64 n5, .int .i64 n6] 23
  have x0 := X0.cell (i := 0) (v := .int .i64 n0) rfl
  have x1 := X0.cell (i := 1) (v := .int .i64 n1) rfl
  have x2 := X0.cell (i := 2) (v := .int .i64 n2) rfl
  have x3 := X0.cell (i := 3) (v := .int .i64 n3) rfl
  have x4 := X0.cell (i := 4) (v := .int .i64 n4) rfl
  have x5 := X0.cell (i := 5) (v := .int .i64 n5) rfl
  have x6 := X0.cell (i := 6) (v := .int .i64 n6) rfl
  have hm := hM _ HB0.out
  clear hM X0
  have hs0 : (w.alloc (.cells #[.int .i64 n0, .int .i64 n1, .int .i64 n2, .int .i64 n3, .int .i64 n4, .int .i64 n5, .int .i64 n6] 23)).heap.size = w.heap.size + 1 := by simp
  go_enter Tryz.func11, Tryz.ntmps11
  go_wp2_with fail
  generalize w.alloc (.cells #[.int .i64 n0, .int .i64 n1, .int .i64 n2, .int .i64 n3, .int .i64 n4, .int .i64 n5, .int .i64 n6] 23) = W0 at *
  go_fit hm
  rintro e w1 ⟨⟨Q, hQ, rfl, hQn, hwb, hP⟩, hb1⟩
  have HB1 : Hid (Below w.heap.size w w1) := below_trans HB0.out hb1
  have HP1 : Hid (PlAt w1 Q (fun k => k < W0.heap.size ∨ k = Q.wb) Sg.start Sg.start 0) := hP
  have HQ : Hid Q.Ok := hQ
  have b2 : w1.cell? ⟨Q.wb, 2, none⟩ = some (.pointer (some ⟨Q.bb, 0, none⟩)) := hP.box.cell (i := 2) rfl
  have Gsub : Hid (∀ k, k < w.heap.size → (k < W0.heap.size ∨ k = Q.wb)) := fun k hk => .inl (by omega)
  have Gw : Hid ((fun k => k < W0.heap.size ∨ k = Q.wb) Q.wb) := .inr rfl
  clear hm hb1 hP hQ x0 x1 x2 x3 x4 x5 x6 HB0 hwb hQn
  generalize hG : (fun k => k < W0.heap.size ∨ k = Q.wb) = G at *
  have HGs : Hid (∀ k, k < w.heap.size → G k) := fun k hk => by rw [← hG]; exact Gsub.out k hk
  clear hG Gsub hs0
  go_wp2_with fail
  go_loopw [8, 9] (fun _ iv wr => ∃ i : Nat, i ≤ xs.length ∧ iv = .int .i64 i ∧ Hid (∃ σ, PlAt wr Q G σ σ (4 * i) ∧ σ.rs.length ≤ i) ∧ Hid (Keeps w1 wr G)) (fun _ i _ => xs.length - (intOf i).toNat)
  case atStart => exact ⟨0, Nat.zero_le _, rfl, ⟨Sg.start, HP1.out, Nat.le_refl _⟩, Keeps.of_below (Below.refl _ _)⟩
  case round =>
    obtain ⟨i, hin, rfl, ⟨σ, hP, hl⟩, hK⟩ := hrel
    by_cases hlt : i < xs.length
    · obtain ⟨hAo, hq⟩ := hok xs[i] (List.getElem_mem hlt)
      rcases hS with rfl | ⟨b, off, rfl, hbl, hcl⟩
      · simp at hlt
      have kk : ∀ j (u : Value), (cA xs[i])[j]? = some u → wr.cell? ⟨b, off + i * 5 + j, none⟩ = some u := fun j u hu => hK.out.cell (HGs.out b hbl) (jcell_after HB1.out (hcl i hlt j u hu))
      have d0 : wr.cell? ⟨b, off + i * 5, none⟩ = some (.int .i64 xs[i].kind) := kk 0 _ rfl
      have d1 := kk 1 (.int .i64 xs[i].id) rfl
      have d2 := kk 2 (.int .i64 xs[i].lane) rfl
      have d3 := kk 3 (.bool xs[i].pass) rfl
      have d4 := kk 4 (.slice xs[i].ea xs[i].es.length xs[i].ec) rfl
      have hgl := jcell_lt d0
      have hEd : EditsAt wr (.slice xs[i].ea xs[i].es.length xs[i].ec) xs[i].es := editsAt_same (hAo.ed.later HB1.out) hK.out.size fun h0 q hq' => hK.out.block q (Nat.lt_of_lt_of_le (editsAt_block hAo.ed h0 q hq') HB1.out.size) fun hn => hn (HGs.out q (editsAt_block hAo.ed h0 q hq'))
      have hA := lAct Q HQ.out G σ (4 * i) xs[i].kind xs[i].id xs[i].lane xs[i].pass xs[i].es xs[i].ea xs[i].ec wr hP (by omega) (by omega) hq hEd (fun h0 q hq' => HGs.out q (editsAt_block hAo.ed h0 q hq')) hAo.sm
      unfold ActDone at hA
      clear kk hEd hAo hq hP
      generalize xs[i].kind = z0 at *
      generalize xs[i].id = z1 at *
      generalize xs[i].lane = z2 at *
      generalize xs[i].pass = z3 at *
      generalize xs[i].es.length = z4 at *
      generalize xs[i].ea = z5 at *
      generalize xs[i].ec = z6 at *
      go_wp2_with fail
      go_fit hA
      rintro e w2 ⟨rfl, ⟨σ2, hP2, hl2⟩, hK2⟩
      have HK2 : Hid (Keeps w1 w2 G) := hK.out.trans hK2
      have HP2 : Hid (PlAt w2 Q G σ2 σ2 (4 * i + 4)) := hP2
      have Hl2 : Hid (σ2.rs.length ≤ i + 1) := by show _ ≤ _; omega
      have c2 := HK2.out.cell Gw.out b2
      have hlk := HP2.out.askB fun K hB => looksB K Q.bb _ w2 hB
      clear hA hP2 hK2 hl2 hl d0 d1 d2 d3 d4
      go_wp2_with fail
      go_fit hlk
      rintro e w3 ⟨rfl, hb3⟩
      have HP3 : Hid (PlAt w3 Q G σ2 σ2 (4 * (i + 1))) := (HP2.out.later hb3)
      have HK3 : Hid (Keeps w1 w3 G) := HK2.out.trans (Keeps.of_below hb3)
      clear hlk hb3 c2
      go_wp2_with fail
      exact ⟨⟨i + 1, hlt, by go_num, ⟨σ2, HP3.out, Hl2.out⟩, HK3⟩, by simp [intOf]; omega⟩
    · obtain rfl : i = xs.length := by omega
      have hL := lLast Q HQ.out G σ (4 * xs.length) wr hP (by omega) (by omega)
      clear hP
      go_wp2_with fail
      go_fit hL
      rintro e w2 ⟨rfl, hK2⟩
      have HK2 : Hid (Keeps w1 w2 G) := hK.out.trans hK2
      clear hL hK2
      go_wp2_with fail
      go_ret
      have hs1 := HB1.out.size
      exact ⟨rfl, HB1.out.trans ⟨HK2.out.os, HK2.out.tape, HK2.out.output, HK2.out.size, fun k hk => HK2.out.block k (by omega) fun hn => hn (HGs.out k hk)⟩⟩
end Go.Proofs.YtgamgomepdfgdaaGreat
