import Derived.Test.YtgamgomepdfgdaaGreatM43
namespace Go.Proofs.YtgamgomepdfgdaaGreat
open Go.RowKit

set_option maxRecDepth 100000 in
set_option maxHeartbeats 2000000 in
theorem lAct1 (Q : Pq) (hQ : Q.Ok) (G : Nat → Prop) (σ : Sg) (N : Nat) (id lane : Int) (pass : Bool) (es : List Ed) (ea : Option Addr) (ec : Nat) (w : World) (h : PlAt w Q G σ σ N) (hn : σ.rs.length < 1048576) (hE : EditsAt w (.slice ea es.length ec) es) (hG : 0 < es.length → ∀ b, (Value.slice ea es.length ec).ownBlock = some b → G b) (hen : (es.length + 80) * 48 ≤ 140737488355328) :
    Calls Tryz.prog 13 #[.pointer (some ⟨Q.wb, 0, none⟩), .agg #[.int .i64 1, .int .i64 id, .int .i64 lane, .bool pass, .slice ea es.length ec]] w fun e w' => ActDone w w' e Q G (σ.rs.length + 1) N := by
  obtain ⟨err, he⟩ := sub_err Q.c (Qs.all σ.rs) id lane es
  have hb := below_new w (.cells #[.int .i64 1, .int .i64 id, .int .i64 lane, .bool pass, .slice ea es.length ec] 29)
  have hS := lSubmit Q hQ G σ N 1 id lane err pass es ea ec _ (h.later hb) hn he (hE.later hb) hG hen (by omega)
  have HL : Hid ((σ.sub id lane es err).2.rs.length ≤ σ.rs.length + 1) := σ.act_len _ _
  have X0 := Bx.new w #[.int .i64 1, .int .i64 id, .int .i64 lane, .bool pass, .slice ea es.length ec] 29
  have x0 := X0.cell (i := 0) (v := .int .i64 1) rfl
  have x1 := X0.cell (i := 1) (v := .int .i64 id) rfl
  have x2 := X0.cell (i := 2) (v := .int .i64 lane) rfl
  have x3 := X0.cell (i := 3) (v := .bool pass) rfl
  have x4 := X0.cell (i := 4) (v := .slice ea es.length ec) rfl
  have HB : Hid (Below w.heap.size w (w.alloc (.cells #[.int .i64 1, .int .i64 id, .int .i64 lane, .bool pass, .slice ea es.length ec] 29))) := hb
  clear h hQ X0 hE hG hb he
  unfold ActDone
  generalize (σ.sub id lane es err).2 = τ at *
  go_enter Tryz.func13, Tryz.ntmps13
  go_wp2_with fail
  generalize w.alloc (.cells #[.int .i64 1, .int .i64 id, .int .i64 lane, .bool pass, .slice ea es.length ec] 29) = w0 at *
  go_fit hS
  rintro e w1 ⟨rfl, hP, hK⟩
  have HP : Hid (PlAt w1 Q G τ τ N) := hP
  have HK : Hid (Keeps w w1 G) := (Keeps.of_below HB.out).trans hK
  clear hP hK hS x0 x1 x2 x3 x4
  go_wp2_with fail
  go_ret
  exact ⟨rfl, ⟨τ, HP.out, HL.out⟩, HK.out⟩

set_option maxRecDepth 100000 in
set_option maxHeartbeats 2000000 in
theorem lAct8 (Q : Pq) (hQ : Q.Ok) (G : Nat → Prop) (σ : Sg) (N : Nat) (id lane : Int) (pass : Bool) (ea : Option Addr) (en ec : Nat) (w : World) (h : PlAt w Q G σ σ N) (hn : σ.rs.length < 1048576) :
    Calls Tryz.prog 13 #[.pointer (some ⟨Q.wb, 0, none⟩), .agg #[.int .i64 8, .int .i64 id, .int .i64 lane, .bool pass, .slice ea en ec]] w fun e w' => ActDone w w' e Q G (σ.rs.length + 1) N := by
  obtain ⟨err, he⟩ := ack_err (Qs.all σ.rs) (if id = 0 then σ.poll.1 else id)
  have hb := below_new w (.cells #[.int .i64 8, .int .i64 id, .int .i64 lane, .bool pass, .slice ea en ec] 29)
  have hS := lAck Q hQ G σ N id _ err _ (h.later hb) hn rfl he
  have HL : Hid ((σ.ack (if id = 0 then σ.poll.1 else id) err).2.rs.length ≤ σ.rs.length + 1) := σ.act_len _ _
  have X0 := Bx.new w #[.int .i64 8, .int .i64 id, .int .i64 lane, .bool pass, .slice ea en ec] 29
  have x0 := X0.cell (i := 0) (v := .int .i64 8) rfl
  have x1 := X0.cell (i := 1) (v := .int .i64 id) rfl
  have HB : Hid (Below w.heap.size w (w.alloc (.cells #[.int .i64 8, .int .i64 id, .int .i64 lane, .bool pass, .slice ea en ec] 29))) := hb
  clear h hQ X0 hb he
  unfold ActDone
  generalize (σ.ack (if id = 0 then σ.poll.1 else id) err).2 = τ at *
  go_enter Tryz.func13, Tryz.ntmps13
  go_wp2_with fail
  generalize w.alloc (.cells #[.int .i64 8, .int .i64 id, .int .i64 lane, .bool pass, .slice ea en ec] 29) = w0 at *
  go_fit hS
  rintro e w1 ⟨rfl, hP, hK⟩
  have HP : Hid (PlAt w1 Q G τ τ N) := hP
  have HK : Hid (Keeps w w1 G) := (Keeps.of_below HB.out).trans hK
  clear hP hK hS x0 x1
  go_wp2_with fail
  go_ret
  exact ⟨rfl, ⟨τ, HP.out, HL.out⟩, HK.out⟩

set_option maxRecDepth 100000 in
set_option maxHeartbeats 2000000 in
theorem lActQ (Q : Pq) (hQ : Q.Ok) (G : Nat → Prop) (σ : Sg) (N : Nat) (kind id lane : Int) (pass : Bool) (ea : Option Addr) (en ec : Nat) (w : World) (h : PlAt w Q G σ σ N) (hn : σ.rs.length < 1048576) (hN : N < 1048576000) (hk : kind = 7 ∨ kind = 12 ∨ kind = 14 ∨ kind = 17) :
    Calls Tryz.prog 13 #[.pointer (some ⟨Q.wb, 0, none⟩), .agg #[.int .i64 kind, .int .i64 id, .int .i64 lane, .bool pass, .slice ea en ec]] w fun e w' => ActDone w w' e Q G (σ.rs.length + 1) (N + 4) := by
  have hb := below_new w (.cells #[.int .i64 kind, .int .i64 id, .int .i64 lane, .bool pass, .slice ea en ec] 29)
  have hS := lAsks Q hQ G σ N kind _ (h.later hb) hn hN
  have X0 := Bx.new w #[.int .i64 kind, .int .i64 id, .int .i64 lane, .bool pass, .slice ea en ec] 29
  have x0 := X0.cell (i := 0) (v := .int .i64 kind) rfl
  have HB : Hid (Below w.heap.size w (w.alloc (.cells #[.int .i64 kind, .int .i64 id, .int .i64 lane, .bool pass, .slice ea en ec] 29))) := hb
  clear h hQ X0 hb
  unfold ActDone
  unfold Same at hS
  rcases hk with rfl | rfl | rfl | rfl
  all_goals
    go_enter Tryz.func13, Tryz.ntmps13
    go_wp2_with fail
    go_fit hS
    rintro e w1 ⟨rfl, hP, hK⟩
    have HP : Hid (PlAt w1 Q G σ σ (N + 4)) := hP
    have HK : Hid (Keeps w w1 G) := (Keeps.of_below HB.out).trans hK
    clear hP hK hS x0
    go_wp2_with fail
    go_ret
    exact ⟨rfl, ⟨σ, HP.out, Nat.le_succ _⟩, HK.out⟩

/-- the acts of stage 2 -/
def queues (k : Int) : Prop := k = 1 ∨ k = 2 ∨ k = 7 ∨ k = 8 ∨ k = 12 ∨ k = 14 ∨ k = 17 ∨ k = 10 ∨ k = 11 ∨ k = 9

theorem ActDone.more {w w' : World} {e : Ending} {Q : Pq} {G : Nat → Prop} {n N N' : Nat} (h : ActDone w w' e Q G n N) (hN : N ≤ N') : ActDone w w' e Q G n N' := by
  obtain ⟨h1, ⟨σ, hP, hl⟩, hK⟩ := h
  exact ⟨h1, ⟨σ, hP.more hN, hl⟩, hK⟩
theorem lAct (Q : Pq) (hQ : Q.Ok) (G : Nat → Prop) (σ : Sg) (N : Nat) (kind id lane : Int) (pass : Bool) (es : List Ed) (ea : Option Addr) (ec : Nat) (w : World) (h : PlAt w Q G σ σ N) (hn : σ.rs.length < 1048576) (hN : N < 1048576000) (hk : queues kind) (hE : EditsAt w (.slice ea es.length ec) es) (hG : 0 < es.length → ∀ b, (Value.slice ea es.length ec).ownBlock = some b → G b) (hen : (es.length + 80) * 48 ≤ 140737488355328) :
    Calls Tryz.prog 13 #[.pointer (some ⟨Q.wb, 0, none⟩), .agg #[.int .i64 kind, .int .i64 id, .int .i64 lane, .bool pass, .slice ea es.length ec]] w fun e w' => ActDone w w' e Q G (σ.rs.length + 1) (N + 4) := by
  rcases hk with rfl | rfl | rfl | rfl | rfl | rfl | rfl | rfl | rfl | rfl
  · exact (lAct1 Q hQ G σ N id lane pass es ea ec w h hn hE hG hen).mono fun e w' h => h.more (by omega)
  · exact (lAct2 Q hQ G σ N id lane pass ea es.length ec w h hn).mono fun e w' h => h.more (by omega)
  · exact lActQ Q hQ G σ N 7 id lane pass ea es.length ec w h hn hN (.inl rfl)
  · exact (lAct8 Q hQ G σ N id lane pass ea es.length ec w h hn).mono fun e w' h => h.more (by omega)
  · exact lActQ Q hQ G σ N 12 id lane pass ea es.length ec w h hn hN (.inr (.inl rfl))
  · exact lActQ Q hQ G σ N 14 id lane pass ea es.length ec w h hn hN (.inr (.inr (.inl rfl)))
  · exact lActQ Q hQ G σ N 17 id lane pass ea es.length ec w h hn hN (.inr (.inr (.inr rfl)))
  · exact (lAct10 Q G σ N id lane pass ea es.length ec w h).mono fun e w' h => h.more (by omega)
  · exact (lAct11 Q hQ G σ N id lane pass ea es.length ec w h hn).mono fun e w' h => h.more (by omega)
  · exact (lAct9 Q G σ N id lane pass ea es.length ec w h).mono fun e w' h => h.more (by omega)
end Go.Proofs.YtgamgomepdfgdaaGreat

namespace Go.Proofs.YtgamgomepdfgdaaGreat
open Go.RowKit

theorem PlAt.touch {w w' : World} {Q : Pq} {G S : Nat → Prop} {σ τ : Sg} {N : Nat} (h : PlAt w Q G σ τ N) (hO : Only w w' S) (hS : ∀ k, S k → G k ∧ k ≠ Q.wb) : PlAt w' Q G σ τ N := by
  obtain ⟨X, R, K, h⟩ := h
  have hs := hO.size
  exact ⟨X, R, K, h.box.kept hO fun e => (hS _ e).2 rfl, h.p.only hO fun k hX e => (h.gg k (hS k e).1).1 hX, h.r.only hO fun k hR e => (h.gg k (hS k e).1).2.1 hR, h.b.only hO fun k hK e => (h.gg k (hS k e).1).2.2.1 hK, h.xr, h.xk, h.rk, fun k hk => ⟨(h.gg k hk).1, (h.gg k hk).2.1, (h.gg k hk).2.2.1, Nat.lt_of_lt_of_le (h.gg k hk).2.2.2 hs⟩, h.gw, h.okp, h.okr⟩

set_option maxRecDepth 100000 in
set_option maxHeartbeats 2000000 in
/-- all that can be asked -/
theorem lAll (Q : Pq) (hQ : Q.Ok) (G : Nat → Prop) (σ : Sg) (N : Nat) (w : World) (h : PlAt w Q G σ σ N) (hn : σ.rs.length < 1048576) (hN : N < 1048575000) :
    Calls Tryz.prog 56 #[.pointer (some ⟨Q.wb, 0, none⟩)] w fun e w' => Same w w' e Q G σ (N + 44) := by
  have HA : Hid (∀ (k : Int) (M : Nat) (W : World), PlAt W Q G σ σ M → M < 1048576000 → Calls Tryz.prog 53 #[.pointer (some ⟨Q.wb, 0, none⟩), .int .i64 k] W fun e w' => e = .returned (.bool true) ∧ PlAt w' Q G σ σ (M + 4) ∧ Keeps W w' G) := fun k M W hW hM => lAsks Q hQ G σ M k W hW hn hM
  have HP : Hid (PlAt w Q G σ σ N) := h
  clear h hQ
  unfold Same
  generalize Q.wb = wb at *
  go_enter Tryz.func56, Tryz.ntmps56
  go_wp2_with fail
  go_loopw [3, 4] (fun kv _ wr => ∃ j : Nat, j ≤ 11 ∧ kv = .int .i64 (7 + j : Nat) ∧ Hid (PlAt wr Q G σ σ (N + 4 * j)) ∧ Hid (Keeps w wr G)) (fun k _ _ => 18 - (intOf k).toNat)
  case atStart => exact ⟨0, by omega, rfl, HP, Keeps.of_below (Below.refl _ _)⟩
  case round =>
    obtain ⟨j, hj, rfl, hP, hK⟩ := hrel
    by_cases hlt : j < 11
    · have hA := HA.out ((7 + j : Nat) : Int) (N + 4 * j) wr hP.out (by omega)
      have hA7 := HA.out 7 (N + 4 * j) wr hP.out (by omega)
      have HPm : Hid (PlAt wr Q G σ σ (N + 4 * (j + 1))) := hP.out.more (by omega)
      go_wp2_with fail
      all_goals first
        | exact ⟨⟨j + 1, hlt, by first | rfl | (congr 1; done) | (congr 1; omega), HPm, hK⟩, by simp [intOf]; omega⟩
        | (first | go_fit hA | go_fit hA7
           rintro e w1 ⟨rfl, hP1, hK1⟩
           have HP1 : Hid (PlAt w1 Q G σ σ (N + 4 * (j + 1))) := hP1
           have HK1 : Hid (Keeps w w1 G) := hK.out.trans hK1
           clear hA hA7 hP1 hK1 HPm
           go_wp2_with fail
           exact ⟨⟨j + 1, hlt, by first | rfl | (congr 1; done) | (congr 1; omega), HP1, HK1⟩, by simp [intOf]; omega⟩)
    · obtain rfl : j = 11 := by omega
      go_wp2_with fail
      go_ret
      exact ⟨rfl, hP.out, hK.out⟩
end Go.Proofs.YtgamgomepdfgdaaGreat

namespace Go.Proofs.YtgamgomepdfgdaaGreat
open Go.RowKit

/-- outcomes that are left -/
def Sg.left (σ : Sg) : Nat := (Qs.all σ.rs).outs.length - (Qs.all σ.rs).acked
structure Sg.Going (σ : Sg) (B : Nat) : Prop where
  up : σ.up = true
  br : σ.br = false
  len : σ.rs.length + σ.left ≤ B
theorem Sg.poll_some {σ : Sg} (hu : σ.up = true) (h : σ.poll.2.2.2 = 0) : (Qs.all σ.rs).acked < (Qs.all σ.rs).outs.length ∧ σ.poll.1 = ((Qs.all σ.rs).acked : Int) + 1 := by
  unfold Sg.poll at h ⊢
  rw [if_neg (by rw [hu]; decide)] at h ⊢
  by_cases hlt : (Qs.all σ.rs).acked < (Qs.all σ.rs).outs.length
  · rw [dif_pos hlt]; exact ⟨hlt, rfl⟩
  · rw [dif_neg hlt] at h; cases h
theorem Sg.poll_err {σ : Sg} (hu : σ.up = true) : σ.poll.2.2.2 = 0 ∨ σ.poll.2.2.2 = 5 := by
  unfold Sg.poll
  rw [if_neg (by rw [hu]; decide)]
  split
  · exact .inl rfl
  · exact .inr rfl
/-- one outcome is acknowledged -/
theorem Sg.Going.step {σ : Sg} {B : Nat} (h : σ.Going B) (hp : σ.poll.2.2.2 = 0) : AckErr (Qs.all σ.rs) σ.poll.1 0 ∧ (σ.ack σ.poll.1 0).2.Going B ∧ (σ.ack σ.poll.1 0).2.left < σ.left ∧ σ.poll.1 ≠ 0 := by
  obtain ⟨hlt, e⟩ := Sg.poll_some h.up hp
  have ea : (σ.ack σ.poll.1 0).2 = { σ with rs := σ.rs ++ [⟨6, 0, σ.poll.1.toNat, false, []⟩] } := by simp [Sg.ack, Sg.act, Sg.write, h.up, h.br]
  have el : (σ.ack σ.poll.1 0).2.left = σ.left - 1 := by
    rw [ea]
    show (Qs.all (σ.rs ++ [_])).outs.length - (Qs.all (σ.rs ++ [_])).acked = _
    rw [Qs.all_snoc, does6]
    show (Qs.all σ.rs).outs.length - ((Qs.all σ.rs).acked + 1) = (Qs.all σ.rs).outs.length - (Qs.all σ.rs).acked - 1
    omega
  have hl : 0 < σ.left := by unfold Sg.left; omega
  refine ⟨.inl ⟨⟨hlt, e⟩, rfl⟩, ⟨by rw [ea]; exact h.up, by rw [ea]; exact h.br, ?_⟩, by omega, by omega⟩
  rw [el, ea]
  have := h.len
  simp; omega
theorem Sg.going {σ : Sg} (h : σ.rs.length < 500000) : σ.crash.2.recover.2.Going 1048000 ∧ σ.crash.2.recover.2.rs.length ≤ σ.rs.length + 1 ∧ σ.crash.2.rs.length = σ.rs.length := by
  have hd : σ.crash.2.up = false ∧ σ.crash.2.rs = σ.rs := by
    unfold Sg.crash
    split
    · rename_i hu; exact ⟨hu, rfl⟩
    · exact ⟨rfl, rfl⟩
  have er : σ.crash.2.recover.2 = { σ.crash.2 with rs := σ.crash.2.rs ++ [rc7], up := true, T := [], br := false } := by unfold Sg.recover; rw [if_pos hd.1]
  have hl := (Qs.all_len (σ.rs ++ [rc7])).2
  rw [List.length_append] at hl
  have hl1 : [rc7].length = 1 := rfl
  refine ⟨⟨by rw [er], by rw [er], ?_⟩, ?_, by rw [hd.2]⟩
  · unfold Sg.left
    rw [er, hd.2]
    show (σ.rs ++ [rc7]).length + ((Qs.all (σ.rs ++ [rc7])).outs.length - (Qs.all (σ.rs ++ [rc7])).acked) ≤ 1048000
    rw [List.length_append]
    omega
  · rw [er, hd.2, List.length_append]
    exact Nat.le_refl _
end Go.Proofs.YtgamgomepdfgdaaGreat

namespace Go.Proofs.YtgamgomepdfgdaaGreat
open Go.RowKit

set_option maxRecDepth 100000 in
set_option maxHeartbeats 4000000 in
/-- all that can be asked; the same behind a crash; and all outcomes that are left -/
theorem lLast (Q : Pq) (hQ : Q.Ok) (G : Nat → Prop) (σ : Sg) (N : Nat) (w : World) (h : PlAt w Q G σ σ N) (hn : σ.rs.length < 500000) (hN : N < 1048500000) :
    Calls Tryz.prog 15 #[.pointer (some ⟨Q.wb, 0, none⟩)] w fun e w' => e = .returned (.bool true) ∧ Keeps w w' G := by
  obtain ⟨hgo, hl2, hl1⟩ := Sg.going hn
  have hA := lAll Q hQ G σ N w h (by omega) (by omega)
  have HA : Hid (∀ (τ : Sg) (M : Nat) (W : World), PlAt W Q G τ τ M → τ.rs.length < 1048576 → M < 1048575000 → Calls Tryz.prog 56 #[.pointer (some ⟨Q.wb, 0, none⟩)] W fun e w' => e = .returned (.bool true) ∧ PlAt w' Q G τ τ (M + 44) ∧ Keeps W w' G) := fun τ M W hW h1 h2 => lAll Q hQ G τ M W hW h1 h2
  have HC : Hid (∀ (M : Nat) (W : World), PlAt W Q G σ σ M → Calls Tryz.prog 50 #[.pointer (some ⟨Q.xb, 0, none⟩)] W fun e w' => e = .returned (.int .i64 σ.crash.1) ∧ PlAt w' Q G σ.crash.2 σ M ∧ Keeps W w' G) := fun M W hW => hW.doP h.okp.crash fun X hX _ => pCrash X Q.xb Q.c σ Q.n Q.g W hX
  have HD : Hid (∀ (M : Nat) (W : World), PlAt W Q G σ.crash.2 σ M → Calls Tryz.prog 51 #[.pointer (some ⟨Q.yb, 0, none⟩)] W fun e w' => e = .returned (.int .i64 σ.crash.1) ∧ PlAt w' Q G σ.crash.2 σ.crash.2 M ∧ Keeps W w' G) := fun M W hW => hW.doR h.okp.crash fun R hR => rCrash R Q.yb Q.c σ Q.fv Q.ss W hR h.okr
  have HR : Hid (∀ (τ : Sg) (M : Nat) (W : World), τ.rs.length < 1048576 → PlAt W Q G τ τ M → Calls Tryz.prog 32 #[.pointer (some ⟨Q.xb, 0, none⟩)] W fun e w' => e = .returned (.int .i64 τ.recover.1) ∧ PlAt w' Q G τ.recover.2 τ M ∧ Keeps W w' G) := fun τ M W hl hW => hW.doP hW.okp.recover fun X hX _ => pRecover X Q.xb Q.c τ Q.n Q.g W hX hW.okp hQ.c hl
  have HS : Hid (∀ (τ : Sg) (M : Nat) (W : World), τ.rs.length < 1048576 → PlAt W Q G τ.recover.2 τ M → Calls Tryz.prog 52 #[.pointer (some ⟨Q.yb, 0, none⟩)] W fun e w' => e = .returned (.int .i64 τ.recover.1) ∧ PlAt w' Q G τ.recover.2 τ.recover.2 M ∧ Keeps W w' G) := fun τ M W hl hW => hW.doR hW.okr.recover fun R hR => rRecover R Q.yb Q.c τ Q.fv Q.ss W hR hW.okr hl
  have b0 : w.cell? ⟨Q.wb, 0, none⟩ = some (.pointer (some ⟨Q.xb, 0, none⟩)) := h.box.cell (i := 0) rfl
  have b1 : w.cell? ⟨Q.wb, 1, none⟩ = some (.pointer (some ⟨Q.yb, 0, none⟩)) := h.box.cell (i := 1) rfl
  have b2 : w.cell? ⟨Q.wb, 2, none⟩ = some (.pointer (some ⟨Q.bb, 0, none⟩)) := h.box.cell (i := 2) rfl
  have Gw : Hid (G Q.wb) := h.gw
  have HQ : Hid Q.Ok := hQ
  have HG : Hid (∀ k, G k → k < w.heap.size) := h.gl
  have Hgo : Hid (σ.crash.2.recover.2.Going 1048000) := hgo
  clear h hQ hgo
  unfold Same at hA
  generalize hwb : Q.wb = wb at *
  generalize hxb : Q.xb = xb at *
  generalize hyb : Q.yb = yb at *
  generalize hbb : Q.bb = bb at *
  have Hwb : Hid (Q.wb = wb ∧ Q.xb = xb ∧ Q.yb = yb ∧ Q.bb = bb) := ⟨hwb, hxb, hyb, hbb⟩
  clear hwb hxb hyb hbb
  go_enter Tryz.func15, Tryz.ntmps15
  go_wp2_with fail
  go_fit hA
  rintro e w1 ⟨rfl, hP1, hK1⟩
  have c0 := hK1.cell Gw.out b0
  have c1 := hK1.cell Gw.out b1
  have hC := HC.out _ w1 hP1
  have HK1 : Hid (Keeps w w1 G) := hK1
  clear hA hP1 hK1 HC
  go_wp2_with fail
  go_fit hC
  rintro e w2 ⟨rfl, hP2, hK2⟩
  have hK2' := HK1.out.trans hK2
  have d1 := hK2'.cell Gw.out b1
  have hD := HD.out _ w2 hP2
  have HK2 : Hid (Keeps w w2 G) := hK2'
  clear hC hP2 hK2 hK2' HD HK1 c0 c1
  go_wp2_with fail
  go_fit hD
  rintro e w3 ⟨rfl, hP3, hK3⟩
  have HK3 : Hid (Keeps w w3 G) := HK2.out.trans hK3
  have hB := HA.out _ _ w3 hP3 (by omega) (by omega)
  clear hD hP3 hK3 HK2 d1
  generalize σ.crash.1 = ke at *
  generalize hτ : σ.crash.2 = τ at *
  clear hτ
  go_wp2_with fail
  go_fit hB
  rintro e w4 ⟨rfl, hP4, hK4⟩
  have HK4 : Hid (Keeps w w4 G) := HK3.out.trans hK4
  have e0 := HK4.out.cell Gw.out b0
  have hR := HR.out τ _ w4 (by omega) hP4
  clear hB hP4 hK4 HK3 HR
  go_wp2_with fail
  go_fit hR
  rintro e w5 ⟨rfl, hP5, hK5⟩
  have HK5 : Hid (Keeps w w5 G) := HK4.out.trans hK5
  have f1 := HK5.out.cell Gw.out b1
  have hS := HS.out τ _ w5 (by omega) hP5
  clear hR hP5 hK5 HK4 HS e0
  go_wp2_with fail
  go_fit hS
  rintro e w6 ⟨rfl, hP6, hK6⟩
  have HK6 : Hid (Keeps w w6 G) := HK5.out.trans hK6
  have hT := HA.out _ _ w6 hP6 (by omega) (by omega)
  clear hS hP6 hK6 HK5 f1 HA
  generalize τ.recover.1 = kr at *
  generalize hτ2 : τ.recover.2 = τ2 at *
  clear hτ2
  go_wp2_with fail
  go_fit hT
  rintro e w7 ⟨rfl, hP7, hK7⟩
  have HK7 : Hid (Keeps w w7 G) := HK6.out.trans hK7
  have g1 := HK7.out.cell Gw.out b1
  have HP7 : Hid (PlAt w7 Q G τ2 τ2 (N + 44 + 44 + 44)) := hP7
  have hpl := HP7.out.askR fun R hR => rPoll R Q.yb Q.c τ2 Q.fv Q.ss w7 hR HP7.out.okr HQ.out.c (by have := Hgo.out.len; omega)
  rw [Hwb.out.2.2.1] at hpl
  unfold pollV at hpl
  clear hT hP7 hK7 HK6
  obtain ⟨p0, p1, p2, p3, hp⟩ : ∃ p0 p1 p2 p3, τ2.poll = (p0, p1, p2, p3) := ⟨_, _, _, _, rfl⟩
  have Hp : Hid (τ2.poll = (p0, p1, p2, p3)) := hp
  rw [hp] at hpl
  simp only at hpl
  clear hp
  go_wp2_with fail
  go_fit hpl
  rintro e w8 ⟨rfl, hb8⟩
  have HB8 : Hid (Below w7.heap.size w7 w8) := hb8
  clear hpl hb8
  go_wp2_with fail
  have hba : Below w7.heap.size w7 (w8.alloc (.cells #[.int .i64 p0, .int .i64 p1, .int .i64 p2] 99)) := below_trans HB8.out (below_new _ _)
  have HPa : Hid (PlAt (w8.alloc (.cells #[.int .i64 p0, .int .i64 p1, .int .i64 p2] 99)) Q (Wide G w7 (w8.alloc (.cells #[.int .i64 p0, .int .i64 p1, .int .i64 p2] 99))) τ2 τ2 (N + 44 + 44 + 44)) := HP7.out.widen hba
  have HXa : Hid (Bx (w8.alloc (.cells #[.int .i64 p0, .int .i64 p1, .int .i64 p2] 99)) w8.heap.size 99 #[.int .i64 p0, .int .i64 p1, .int .i64 p2]) := Bx.new _ _ _
  have HKa : Hid (Keeps w (w8.alloc (.cells #[.int .i64 p0, .int .i64 p1, .int .i64 p2] 99)) G) := HK7.out.trans (Keeps.of_below hba)
  have hs7 := HK7.out.size
  have hs8 := HB8.out.size
  have Go : Hid (Wide G w7 (w8.alloc (.cells #[.int .i64 p0, .int .i64 p1, .int .i64 p2] 99)) w8.heap.size) := .inr ⟨hs8, by simp⟩
  have nGo : Hid (¬ G w8.heap.size) := fun hG => by have := HG.out _ hG; omega
  have nwb : Hid (w8.heap.size ≠ Q.wb) := fun e => nGo.out (by rw [e, Hwb.out.1]; exact Gw.out)
  have Gsub : Hid (∀ q, G q → Wide G w7 (w8.alloc (.cells #[.int .i64 p0, .int .i64 p1, .int .i64 p2] 99)) q) := fun _ h => .inl h
  generalize hob : w8.heap.size = ob at *
  generalize w8.alloc (.cells #[.int .i64 p0, .int .i64 p1, .int .i64 p2] 99) = wa at *
  generalize Wide G w7 wa = G1 at *
  clear hba hob HK7 HB8 g1 HP7 hs7 hs8
  go_loopw [9, 10, 11] (fun gv _ _ wr => ∃ (ρ : Sg) (p0 p1 p2 p3 : Int), gv = .int .i64 p3 ∧ Hid (ρ.poll = (p0, p1, p2, p3)) ∧ Hid (ρ.Going 1048000) ∧ Hid (Bx wr ob 99 #[.int .i64 p0, .int .i64 p1, .int .i64 p2]) ∧ Hid (PlAt wr Q G1 ρ ρ (N + 44 + 44 + 44)) ∧ Hid (Keeps w wr G)) (fun gv _ _ wr => if intOf gv = 0 then 1048577 - (intOf ((wr.cell? ⟨ob, 0, none⟩).getD undef)).toNat else 0)
  case atStart => exact ⟨τ2, p0, p1, p2, p3, rfl, Hp, Hgo, HXa, HPa, HKa⟩
  case round =>
    clear HXa HPa HKa Hp Hgo
    obtain ⟨ρ, q0, q1, q2, q3, rfl, Hp, Hgo, HX, HP, HK⟩ := hrel
    have hrl : ρ.rs.length < 1048576 := by have := Hgo.out.len; omega
    have hpoll := lPoll Q HQ.out G1 ρ _ wr HP.out hrl
    rw [Hwb.out.1] at hpoll
    by_cases hq : q3 = 0
    · subst hq
      have hz : ρ.poll.2.2.2 = 0 := by rw [Hp.out]
      have e0 : ρ.poll.1 = q0 := by rw [Hp.out]
      obtain ⟨hlt, he0⟩ := Sg.poll_some Hgo.out.up hz
      obtain ⟨hae, hgo', hlef, hne⟩ := Hgo.out.step hz
      have hol := (Qs.all_len ρ.rs).2
      rw [e0] at hae hgo' hlef hne he0
      have HAe : Hid (AckErr (Qs.all ρ.rs) q0 0) := hae
      have Hgo' : Hid ((ρ.ack q0 0).2.Going 1048000) := hgo'
      have Hq0 : Hid (q0 = ((Qs.all ρ.rs).acked : Int) + 1 ∧ (Qs.all ρ.rs).acked < (Qs.all ρ.rs).outs.length ∧ (Qs.all ρ.rs).outs.length ≤ 1048000) := ⟨he0, hlt, by have := Hgo.out.len; omega⟩
      have HAk : Hid (∀ W, Below wr.heap.size wr W → Calls Tryz.prog 48 #[.pointer (some ⟨wb, 0, none⟩), .int .i64 q0] W fun e w' => e = .returned (.bool true) ∧ PlAt w' Q G1 (ρ.ack q0 0).2 (ρ.ack q0 0).2 (N + 44 + 44 + 44) ∧ Keeps W w' G1) := fun W hb => by
        have := lAck Q HQ.out G1 ρ _ q0 q0 0 W (HP.out.later hb) hrl (by rw [if_neg hne]) HAe.out
        rw [Hwb.out.1] at this
        exact this
      have Hack : Hid ((Qs.all (ρ.ack q0 0).2.rs).acked = (Qs.all ρ.rs).acked + 1) := by
        show _ = _
        have ea : (ρ.ack q0 0).2 = { ρ with rs := ρ.rs ++ [⟨6, 0, q0.toNat, false, []⟩] } := by simp [Sg.ack, Sg.act, Sg.write, Hgo.out.up, Hgo.out.br]
        rw [ea]
        show (Qs.all (ρ.rs ++ [_])).acked = _
        rw [Qs.all_snoc, does6]
      generalize hρ' : (ρ.ack q0 0).2 = ρ' at *
      clear hlt he0 hae hgo' hlef hne hol e0 hz hρ'
      go_wp2_with fail
      go_fit hpoll
      rintro e v1 ⟨rfl, hb1⟩
      have hX1 := HX.out.later hb1
      have x0 := hX1.cell (i := 0) (v := .int .i64 q0) rfl
      have hak := HAk.out v1 hb1
      have HX1 : Hid (Bx v1 ob 99 #[.int .i64 q0, .int .i64 q1, .int .i64 q2]) := hX1
      have HK1 : Hid (Keeps w v1 G) := HK.out.trans (Keeps.of_below hb1)
      clear hpoll hb1 hX1 HAk
      go_wp2_with fail
      go_fit hak
      rintro e v2 ⟨rfl, hP2, hK2⟩
      have HP2 : Hid (PlAt v2 Q G1 ρ' ρ' (N + 44 + 44 + 44)) := hP2
      have HK2 : Hid (Keeps w v2 G) := HK1.out.trans (hK2.mono Gsub.out)
      have HX2 : Hid (Bx v2 ob 99 #[.int .i64 q0, .int .i64 q1, .int .i64 q2]) := HX1.out.kept hK2 fun hn => hn Go.out
      have c1 := HK2.out.cell Gw.out b1
      have hpl := HP2.out.askR fun R hR => rPoll R Q.yb Q.c ρ' Q.fv Q.ss v2 hR HP2.out.okr HQ.out.c (by have := Hgo'.out.len; omega)
      rw [Hwb.out.2.2.1] at hpl
      unfold pollV at hpl
      obtain ⟨r0, r1, r2, r3, hr⟩ : ∃ r0 r1 r2 r3, ρ'.poll = (r0, r1, r2, r3) := ⟨_, _, _, _, rfl⟩
      have Hr : Hid (ρ'.poll = (r0, r1, r2, r3)) := hr
      rw [hr] at hpl
      simp only at hpl
      clear hak hP2 hK2 hr x0 HX1 HK1
      go_wp2_with fail
      go_fit hpl
      rintro e v3 ⟨rfl, hb3⟩
      have hX3 := HX2.out.later hb3
      have y0 := hX3.cell (i := 0) (v := .int .i64 q0) rfl
      have y1 := hX3.cell (i := 1) (v := .int .i64 q1) rfl
      have y2 := hX3.cell (i := 2) (v := .int .i64 q2) rfl
      have z0 := hX3.fr 0
      have z1 := hX3.fr 1
      have z2 := hX3.fr 2
      have HX3 : Hid (Bx v3 ob 99 #[.int .i64 q0, .int .i64 q1, .int .i64 q2]) := hX3
      have HP3 : Hid (PlAt v3 Q G1 ρ' ρ' (N + 44 + 44 + 44)) := HP2.out.later hb3
      have HK3 : Hid (Keeps w v3 G) := HK2.out.trans (Keeps.of_below hb3)
      clear hpl hb3 hX3 HX2 c1
      go_wp2_with fail
      have hO : Only v3 (((v3.setCell ⟨ob, 0, none⟩ (.int .i64 r0)).setCell ⟨ob, 1, none⟩ (.int .i64 r1)).setCell ⟨ob, 2, none⟩ (.int .i64 r2)) (fun q => q = ob) := (((Only.refl v3 (fun q => q = ob)).set (.inl rfl)).set (.inl rfl)).set (.inl rfl)
      have hXn : Bx (((v3.setCell ⟨ob, 0, none⟩ (.int .i64 r0)).setCell ⟨ob, 1, none⟩ (.int .i64 r1)).setCell ⟨ob, 2, none⟩ (.int .i64 r2)) ob 99 #[.int .i64 r0, .int .i64 r1, .int .i64 r2] := ((HX3.out.set 0 _).set 1 _).set 2 _
      generalize ((v3.setCell ⟨ob, 0, none⟩ (.int .i64 r0)).setCell ⟨ob, 1, none⟩ (.int .i64 r1)).setCell ⟨ob, 2, none⟩ (.int .i64 r2) = vn at *
      refine ⟨⟨ρ', r0, r1, r2, r3, rfl, Hr, Hgo', hXn, HP3.out.touch hO fun q hq => by rw [hq]; exact ⟨Go.out, nwb.out⟩, HK3.out.trans (hO.mono fun q hq hG => nGo.out (by rw [← hq]; exact hG))⟩, ?_⟩
      have cn : vn.cell? ⟨ob, 0, none⟩ = some (.int .i64 r0) := hXn.cell (i := 0) rfl
      have co : wr.cell? ⟨ob, 0, none⟩ = some (.int .i64 q0) := HX.out.cell (i := 0) rfl
      rw [cn, co]
      have hq := Hq0.out
      rcases Sg.poll_err Hgo'.out.up with h3 | h3
      · obtain ⟨hlt', he'⟩ := Sg.poll_some Hgo'.out.up h3
        rw [Hr.out] at h3 he'
        have h3' : r3 = 0 := h3
        have he2 : r0 = ((Qs.all ρ'.rs).acked : Int) + 1 := he'
        rw [Hack.out] at he2
        simp [intOf, h3']
        omega
      · rw [Hr.out] at h3
        have h3' : r3 = 5 := h3
        simp [intOf, h3']
        omega
    · have hq' : (q3 == 0) = false := by simpa using hq
      go_wp2_with fail
      go_fit hpoll
      rintro e v1 ⟨rfl, hb1⟩
      have hb2 := (HK.out.trans (Keeps.of_below hb1)).cell Gw.out b2
      have hlk := (HP.out.later hb1).askB fun K hB => looksB K Q.bb _ v1 hB
      rw [Hwb.out.2.2.2] at hlk
      have HK1 : Hid (Keeps w v1 G) := HK.out.trans (Keeps.of_below hb1)
      clear hpoll hb1
      go_wp2_with fail
      go_fit hlk
      rintro e v2 ⟨rfl, hb3⟩
      have HK2 : Hid (Keeps w v2 G) := HK1.out.trans (Keeps.of_below hb3)
      clear hlk hb3
      go_wp2_with fail
      go_ret
      exact ⟨rfl, HK2.out⟩
end Go.Proofs.YtgamgomepdfgdaaGreat
