import Derived.Test.YtgamgomepdfgdaaGreatM41
import Derived.Test.YtgamgomepdfgdaaGreatM32
namespace Go.Proofs.YtgamgomepdfgdaaGreat
open Go.RowKit

/-- blocks of others are written -/
theorem PlAt.other {w w' : World} {Q : Pq} {G G' S : Nat → Prop} {σ τ : Sg} {N : Nat} (h : PlAt w Q G' σ τ N) (hG : ∀ k, G k → G' k) (hw : G Q.wb) (hO : Only w w' S) (hS : ∀ k, S k → G' k ∧ ¬ G k) : PlAt w' Q G σ τ N := by
  obtain ⟨X, R, K, h⟩ := h
  have hs := hO.size
  exact ⟨X, R, K, h.box.kept hO fun e => (hS _ e).2 hw, h.p.only hO fun k hX e => (h.gg k (hS k e).1).1 hX, h.r.only hO fun k hR e => (h.gg k (hS k e).1).2.1 hR, h.b.only hO fun k hK e => (h.gg k (hS k e).1).2.2.1 hK, h.xr, h.xk, h.rk, fun k hk => ⟨(h.gg k (hG k hk)).1, (h.gg k (hG k hk)).2.1, (h.gg k (hG k hk)).2.2.1, Nat.lt_of_lt_of_le (h.gg k (hG k hk)).2.2.2 hs⟩, hw, h.okp, h.okr⟩
theorem editsAt_same {w w' : World} {v : Value} {l : List Ed} (h : EditsAt w v l) (hs : w.heap.size ≤ w'.heap.size) (hk : 0 < l.length → ∀ b, v.ownBlock = some b → w'.heap[b]? = w.heap[b]?) : EditsAt w' v l := by
  rcases h with h | ⟨b, off, cap, rfl, h1, h2, h3, h4⟩
  · exact .inl h
  · by_cases h0 : l.length = 0
    · obtain rfl := List.eq_nil_of_length_eq_zero h0
      exact .inl ⟨rfl, _, _, rfl⟩
    have e := hk (by omega) b rfl
    have hc : ∀ {o : Nat} {u : Value}, w.cell? ⟨b, o, none⟩ = some u → w'.cell? ⟨b, o, none⟩ = some u := fun hv => (World.cell?_of_block (w := w) e).trans hv
    exact .inr ⟨b, off, cap, rfl, Nat.lt_of_lt_of_le h1 hs, fun i hi => hc (h2 i hi), fun i hi => hc (h3 i hi), fun i hi => hc (h4 i hi)⟩
theorem EditsAt.head {w : World} {base g cap : Nat} {es ms : List Ed} (h : w.ownsRow base 49 3 (.slice (some ⟨g, 0, none⟩) (es ++ ms).length cap) (es ++ ms).length ((es ++ ms).flatMap cE)) : EditsAt w (.slice (some ⟨g, 0, none⟩) es.length cap) es := by
  have hS := (Sl.of_row h).cut (k := es.length) (by rw [List.length_append]; omega)
  have e : ((es ++ ms).flatMap cE).take (es.length * 3) = es.flatMap cE := by
    rw [List.flatMap_append, ← flat_len cE 3 (fun _ => rfl) es, List.take_left]
  rw [e] at hS
  by_cases h0 : es.length = 0
  · obtain rfl := List.eq_nil_of_length_eq_zero h0
    exact .inl ⟨rfl, _, _, rfl⟩
  · have kk : ∀ i (hi : i < es.length) j (u : Value), j < 3 → (cE es[i])[j]? = some u → w.cell? ⟨g, 0 + i * 3 + j, none⟩ = some u := fun i hi j u hj hu => by
      have := hS.cell (j := i * 3 + j) (u := u) (by rw [flat_get cE 3 (fun _ => rfl) es i j hi hj]; exact hu)
      rw [Nat.add_assoc]; exact this
    exact .inr ⟨g, 0, cap, rfl, hS.lt rfl, fun i hi => kk i hi 0 _ (by decide) rfl, fun i hi => kk i hi 1 _ (by decide) rfl, fun i hi => kk i hi 2 _ (by decide) rfl⟩

set_option maxRecDepth 100000 in
set_option maxHeartbeats 4000000 in
/-- Submit on both sides -/
theorem lSubmit (Q : Pq) (hQ : Q.Ok) (G : Nat → Prop) (σ : Sg) (N : Nat) (kind id lane err : Int) (pass : Bool) (es : List Ed) (ea : Option Addr) (ec : Nat) (w : World) (h : PlAt w Q G σ σ N) (hn : σ.rs.length < 1048576) (he : SubErr Q.c (Qs.all σ.rs) id lane es err) (hE : EditsAt w (.slice ea es.length ec) es) (hG : 0 < es.length → ∀ b, (Value.slice ea es.length ec).ownBlock = some b → G b) (hen : Hid ((es.length + 80) * 48 ≤ 140737488355328)) (hln : es.length < 8796093022208) :
    Calls Tryz.prog 39 #[.pointer (some ⟨Q.wb, 0, none⟩), .agg #[.int .i64 kind, .int .i64 id, .int .i64 lane, .bool pass, .slice ea es.length ec]] w fun e w' => e = .returned (.bool true) ∧ PlAt w' Q G (σ.sub id lane es err).2 (σ.sub id lane es err).2 N ∧ Keeps w w' G := by
  obtain ⟨W0, hW0⟩ : ∃ W0, W0 = w.alloc (.cells #[.int .i64 kind, .int .i64 id, .int .i64 lane, .bool pass, .slice ea es.length ec] 29) := ⟨_, rfl⟩
  have hB0 : Below w.heap.size w W0 := by rw [hW0]; exact below_new _ _
  have X0 : Bx W0 w.heap.size 29 #[.int .i64 kind, .int .i64 id, .int .i64 lane, .bool pass, .slice ea es.length ec] := by rw [hW0]; exact Bx.new _ _ _
  have hs0 : W0.heap.size = w.heap.size + 1 := by rw [hW0]; simp
  have hL := lent_walk es ea ec W0 (hE.later hB0) hen hln
  have x0 : W0.cell? ⟨w.heap.size, 4, none⟩ = some (.slice ea es.length ec) := X0.cell (i := 4) rfl
  have HP : Hid (PlAt w Q G σ σ N) := h
  have HE : Hid (EditsAt w (.slice ea es.length ec) es) := hE
  have HX0 : Hid (Bx W0 w.heap.size 29 #[.int .i64 kind, .int .i64 id, .int .i64 lane, .bool pass, .slice ea es.length ec]) := X0
  have HB0 : Hid (Below w.heap.size w W0) := hB0
  have b0 : w.cell? ⟨Q.wb, 0, none⟩ = some (.pointer (some ⟨Q.xb, 0, none⟩)) := h.box.cell (i := 0) rfl
  have b1 : w.cell? ⟨Q.wb, 1, none⟩ = some (.pointer (some ⟨Q.yb, 0, none⟩)) := h.box.cell (i := 1) rfl
  clear h hE X0 hB0
  go_enter Tryz.func39, Tryz.ntmps39
  rw [hW0] at hL x0
  go_wp2_with fail
  go_fit hL
  rintro e w1 ⟨⟨g, rfl, hrow⟩, hb1⟩
  rw [← hW0] at hrow hb1
  have hbw : Below w.heap.size w w1 := below_trans HB0.out hb1
  have X1 := HX0.out.later hb1
  have a1 : w1.cell? ⟨w.heap.size, 1, none⟩ = some (.int .i64 id) := X1.cell (i := 1) rfl
  have a2 : w1.cell? ⟨w.heap.size, 2, none⟩ = some (.int .i64 lane) := X1.cell (i := 2) rfl
  have a4 : w1.cell? ⟨w.heap.size, 4, none⟩ = some (.slice ea es.length ec) := X1.cell (i := 4) rfl
  have c0 := jcell_after hbw b0
  have c1 := jcell_after hbw b1
  have hgl := World.ownsRow.lt hrow g rfl
  have hok : (σ.sub id lane es err).2.Ok Q.c := HP.out.okp.act hQ.c fun h0 => (sub_can he h0).1
  have HW : Hid (PlAt w1 Q (Wide G w w1) σ σ N) := HP.out.widen hbw
  have HBw : Hid (Below w.heap.size w w1) := hbw
  have HRow : Hid (w1.ownsRow W0.heap.size 49 3 (.slice (some ⟨g, 0, none⟩) (es.length + 2) (es.length + 2)) (es.length + 2) ((es ++ [((beyB, ⟨#[]⟩, ⟨#[]⟩) : Ed), ((beyB, ⟨#[]⟩, ⟨#[]⟩) : Ed)]).flatMap cE)) := hrow
  have Gg : Hid (Wide G w w1 g) := .inr ⟨by omega, hgl.2⟩
  have Ga : Hid (Wide G w w1 w.heap.size) := .inr ⟨Nat.le_refl _, by have := hb1.size; omega⟩
  have Gw : Hid (Wide G w w1 Q.wb) := .inl HP.out.gw
  have HEk : Hid (∀ W, Keeps w1 W (Wide G w w1) → EditsAt W (.slice ea es.length ec) es) := fun W hk => editsAt_same (HE.out.later HBw.out) hk.size fun h0 b hb => hk.block b (Nat.lt_of_lt_of_le (HP.out.gl b (hG h0 b hb)) HBw.out.size) fun hn => hn (.inl (hG h0 b hb))
  have HY : Hid (∀ W, Below w1.heap.size w1 W → Calls Tryz.prog 87 #[.pointer (some ⟨Q.yb, 0, none⟩), .int .i64 id, .int .i64 lane, .slice ea es.length ec] W fun e w' => e = .returned (.int .i64 (σ.sub id lane es err).1) ∧ PlAt w' Q (Wide G w w1) σ (σ.sub id lane es err).2 N ∧ Keeps W w' (Wide G w w1)) := fun W hb => (HW.out.later hb).doR hok fun R hR => rSubmit R Q.yb Q.c σ Q.fv Q.ss id lane err es ea ec W hR HP.out.okr hQ.c hn he (HEk.out W (Keeps.of_below hb)) hln
  have hHead : ∀ W, Keeps w1 W (Wide G w w1) → EditsAt W (.slice (some ⟨g, 0, none⟩) es.length (es.length + 2)) es := fun W hk => editsAt_same (EditsAt.head (ms := [((beyB, ⟨#[]⟩, ⟨#[]⟩) : Ed), ((beyB, ⟨#[]⟩, ⟨#[]⟩) : Ed)]) (by rw [List.length_append]; exact HRow.out)) hk.size fun _ b hb => hk.block b (by cases hb; exact hgl.2) fun hn => hn (by cases hb; exact Gg.out)
  have HX : Hid (∀ W, Keeps w1 W (Wide G w w1) → PlAt W Q (Wide G w w1) σ (σ.sub id lane es err).2 N → Calls Tryz.prog 31 #[.pointer (some ⟨Q.xb, 0, none⟩), .int .i64 id, .int .i64 lane, .slice (some ⟨g, 0, none⟩) es.length (es.length + 2)] W fun e w' => e = .returned (.int .i64 (σ.sub id lane es err).1) ∧ PlAt w' Q (Wide G w w1) (σ.sub id lane es err).2 (σ.sub id lane es err).2 N ∧ Keeps W w' (Wide G w w1)) := fun W hk hP => hP.doP hok fun X hX hGX => pSubmit X Q.xb Q.c σ Q.n Q.g id lane err es _ _ W hX hP.okp hQ.c hn he (hHead W hk) (by omega) hln fun b hb => by cases hb; exact hGX g Gg.out
  clear hL hrow hb1 X1 x0 hW0 b0 b1 hok hHead he hG
  generalize hτ : (σ.sub id lane es err).2 = τ at *
  have Hτ : Hid ((σ.sub id lane es err).2 = τ) := hτ
  clear hτ
  generalize (σ.sub id lane es err).1 = k at *
  go_wp2_with fail
  have hy := HY.out w1.drew ⟨rfl, rfl, rfl, Nat.le_refl _, fun _ _ => rfl⟩
  generalize Q.wb = wb at *
  generalize Q.yb = yb at *
  generalize Q.xb = xb at *
  clear HY
  go_cut [7] from 8 (fun t wz => t = .int .i64 k ∧ PlAt wz Q (Wide G w w1) σ τ N ∧ Keeps w1 wz (Wide G w w1))
  case first =>
    go_region_held_law (fun w' => w'.cell? ⟨wb, 1, none⟩ = some (.pointer (some ⟨yb, 0, none⟩)) ∧ w'.cell? ⟨w.heap.size, 1, none⟩ = some (.int .i64 id) ∧ w'.cell? ⟨w.heap.size, 2, none⟩ = some (.int .i64 lane) ∧ w'.cell? ⟨w.heap.size, 4, none⟩ = some (.slice ea es.length ec)) (go_keep) ((go_at_call 87; refine hy.mono ?_; rintro e w2 ⟨rfl, hP2, hK2⟩; have c12 := hK2.cell Gw.out c1; have a12 := hK2.cell Ga.out a1; have a22 := hK2.cell Ga.out a2; have a42 := hK2.cell Ga.out a4; have HP2 : Hid (PlAt w2 Q (Wide G w w1) σ τ N) := hP2; have HK2 : Hid (Keeps w1 w2 (Wide G w w1)) := Only.drew hK2; clear hP2 hK2))
    all_goals
      go_wp2_with fail
      go_meet
      case rel => exact ⟨rfl, HP2.out, HK2.out⟩
  case rest =>
    obtain ⟨rfl, hPz, hKz⟩ := hcut
    rename World => wz
    have HKz : Hid (Keeps w1 wz (Wide G w w1)) := hKz
    have hx := HX.out wz.drew ⟨hKz.os, hKz.tape, hKz.output, hKz.size, hKz.block⟩ (hPz.later ⟨rfl, rfl, rfl, Nat.le_refl _, fun _ _ => rfl⟩)
    have d0 := hKz.cell Gw.out c0
    have e1 := hKz.cell Ga.out a1
    have e2 := hKz.cell Ga.out a2
    have e4 := hKz.cell Ga.out a4
    clear hy HX hPz hKz c0 c1 a1 a2
    go_wp2_with fail
    go_cut [8] from 9 (fun t wy => t = .int .i64 k ∧ PlAt wy Q (Wide G w w1) τ τ N ∧ Keeps w1 wy (Wide G w w1))
    case first =>
      go_region_held_law (fun w' => w'.cell? ⟨wb, 0, none⟩ = some (.pointer (some ⟨xb, 0, none⟩)) ∧ w'.cell? ⟨w.heap.size, 1, none⟩ = some (.int .i64 id) ∧ w'.cell? ⟨w.heap.size, 2, none⟩ = some (.int .i64 lane)) (go_keep) ((go_at_call 31; refine hx.mono ?_; rintro e w2 ⟨rfl, hP2, hK2⟩; have c12 := hK2.cell Gw.out d0; have a12 := hK2.cell Ga.out e1; have a22 := hK2.cell Ga.out e2; have HP2 : Hid (PlAt w2 Q (Wide G w w1) τ τ N) := hP2; have HK2 : Hid (Keeps w1 w2 (Wide G w w1)) := HKz.out.trans (Only.drew hK2); clear hP2 hK2))
      all_goals
        go_wp2_with fail
        go_meet
        case rel => exact ⟨rfl, HP2.out, HK2.out⟩
    case rest =>
      obtain ⟨rfl, hPy, hKy⟩ := hcut
      rename World => wy
      have HPy : Hid (PlAt wy Q (Wide G w w1) τ τ N) := hPy
      have HKy : Hid (Keeps w1 wy (Wide G w w1)) := hKy
      have f4 := hKy.cell Ga.out a4
      have HRy : Hid (wy.ownsRow W0.heap.size 49 3 (.slice (some ⟨g, 0, none⟩) (es.length + 2) (es.length + 2)) (es.length + 2) ((es ++ [((beyB, ⟨#[]⟩, ⟨#[]⟩) : Ed), ((beyB, ⟨#[]⟩, ⟨#[]⟩) : Ed)]).flatMap cE)) := by
        refine ⟨HRow.out.1, ?_⟩
        rcases HRow.out.2 with h' | ⟨g', cap', cur, e', hb', hh, hr'⟩
        · exact .inl h'
        · refine .inr ⟨g', cap', cur, e', hb', (hKy.block g' (Array.getElem?_eq_some_iff.1 hh).1 fun hn => hn ?_).trans hh, hr'⟩
          obtain ⟨e1, _, _⟩ := Value.slice.inj e'
          cases e1
          exact Gg.out
      have hL2 := lent_walk es ea ec wy (HEk.out wy hKy) hen hln
      clear hx hPy hKy d0 e1 e2 e4 a4
      go_wp2_with fail
      go_fit hL2
      rintro e w3 ⟨⟨g2, rfl, hrow2⟩, hb3⟩
      have hlen : (es ++ [((beyB, ⟨#[]⟩, ⟨#[]⟩) : Ed), ((beyB, ⟨#[]⟩, ⟨#[]⟩) : Ed)]).length = es.length + 2 := by rw [List.length_append]; rfl
      have E1 : EditsAt wy (.slice (some ⟨g, 0, none⟩) (es.length + 2) (es.length + 2)) (es ++ [((beyB, ⟨#[]⟩, ⟨#[]⟩) : Ed), ((beyB, ⟨#[]⟩, ⟨#[]⟩) : Ed)]) := EditsAt.of_row (base := W0.heap.size) (e := 49) (by rw [hlen]; exact HRy.out)
      have E2 : EditsAt w3 (.slice (some ⟨g2, 0, none⟩) (es.length + 2) (es.length + 2)) (es ++ [((beyB, ⟨#[]⟩, ⟨#[]⟩) : Ed), ((beyB, ⟨#[]⟩, ⟨#[]⟩) : Ed)]) := EditsAt.of_row (base := wy.heap.size) (e := 49) (by rw [hlen]; exact hrow2)
      have hS := sameEdits_any _ _ _ _ w3 (E1.later hb3) E2 (by rw [hlen]; have := hen.out; omega)
      have HB3 : Hid (Below wy.heap.size wy w3) := hb3
      clear hL2 hrow2 hb3 E1 E2 hlen
      go_wp2_with fail
      go_fit hS
      rintro e w4 ⟨⟨r, rfl, hr⟩, m, rfl⟩
      obtain rfl : r = true := hr.2 (by first | rfl | trivial)
      have HB4 : Hid (Below wy.heap.size wy (w3.drewN m)) := ⟨HB3.out.os, HB3.out.tape, HB3.out.output, HB3.out.size, HB3.out.block⟩
      generalize w3.drewN m = w4 at *
      have HR4 : Hid (w4.ownsRow W0.heap.size 49 3 (.slice (some ⟨g, 0, none⟩) (es.length + 2) (es.length + 2)) (es.length + 2) ((es ++ [((beyB, ⟨#[]⟩, ⟨#[]⟩) : Ed), ((beyB, ⟨#[]⟩, ⟨#[]⟩) : Ed)]).flatMap cE)) := World.ownsRow.kept HRy.out (below_grown HB4.out) (Classical.em _)
      obtain ⟨i0, hi, hz0, hz1, hz2⟩ := info_parts info49b
      have hsz : (Tryz.prog.info? 49).map (·.size) = some 3 := by rw [hi]; simp [hz1]
      clear hS hr f4 HRow HRy HB3
      go_wp2_with fail
      go_loopw [10] (fun iv wr => ∃ i : Nat, i ≤ es.length ∧ iv = .int .i64 i ∧ Hid (∃ xs, wr.ownsRow W0.heap.size 49 3 (.slice (some ⟨g, 0, none⟩) (es.length + 2) (es.length + 2)) (es.length + 2) xs) ∧ Hid (Only w4 wr (fun q => q = g))) (fun i _ => es.length - (intOf i).toNat)
      case atStart => exact ⟨0, Nat.zero_le _, rfl, ⟨_, HR4.out⟩, Only.refl _ _⟩
      case round =>
        obtain ⟨i, hin, rfl, ⟨xs, hrow⟩, hO⟩ := hrel
        by_cases hlt : i < es.length
        · have Hrow : Hid (wr.ownsRow W0.heap.size 49 3 (.slice (some ⟨g, 0, none⟩) (es.length + 2) (es.length + 2)) (es.length + 2) xs) := hrow
          have Hfit : Hid (i * 3 + 3 ≤ xs.length) := by show _ ≤ _; rw [hrow.1]; omega
          clear hrow
          go_wp2_with (first | (go_at_call 89; refine (beyond_any _).mono ?_; rintro e w' ⟨rfl, rfl⟩) | (refine wpList_store_elem _ rfl _ _ _ rfl W0.heap.size _ 3 _ _ _ _ _ (World.ownsRow.alloc Hrow.out _) rfl [.string beyB, .string ⟨#[]⟩, .string ⟨#[]⟩] rfl hsz Hfit.out (by simp [Value.oneCell']) ?_; intro w5 hrow5 hg5))
          refine ⟨⟨i + 1, hlt, by go_num, ⟨_, hrow5⟩, ?_⟩, by simp [intOf]; omega⟩
          exact (hO.out.trans (Only.of_below (S := fun _ => False) (below_new _ _)) fun _ h => h.elim).trans (Only.of_grown (S := fun q => q = g) hg5 fun q e => by cases e; rfl) fun _ h => .inl h
        · go_wp2_with fail
          go_ret
          have hgG : ¬ G g := fun h => by have := HP.out.gl g h; omega
          have gsub : ∀ q, G q → Wide G w w1 q := fun q hq => .inl hq
          have hPl := (HPy.out.later HB4.out).other (G := G) gsub HP.out.gw hO.out fun q hq => by rw [hq]; exact ⟨Gg.out, hgG⟩
          refine ⟨rfl, by rw [Hτ.out]; exact hPl, ?_⟩
          have k1 : Keeps w wy G := (Keeps.of_below HBw.out).trans (HKy.out.mono gsub)
          have k2 : Keeps w w4 G := k1.trans (Keeps.of_below HB4.out)
          exact k2.trans (hO.out.mono fun q hq hG => hgG (by rw [← hq]; exact hG))
end Go.Proofs.YtgamgomepdfgdaaGreat
