import Derived.Test.YtgamgomepdfgdaaGreatM35
import Derived.Test.YtgamgomepdfgdaaGreatM37
import Derived.Test.YtgamgomepdfgdaaGreatM38
import Derived.Test.YtgamgomepdfgdaaGreatM39
import Derived.WalkSpells
namespace Go.Proofs.YtgamgomepdfgdaaGreat
open Go.RowKit

/-- what stays as it is while a script is played -/
structure Pq where
  wb : Nat
  xb : Nat
  yb : Nat
  bb : Nat
  c : Cfg
  fv : Value
  n : Nat
  g : ByteArray → ByteArray
  ss : List Fl
structure Pq.Ok (Q : Pq) : Prop where
  c : Q.c.Ok
  told : Told Q.ss Q.g
  n : (Q.n + 100) * 64 ≤ 140737488355328

/-- both machines and the book, each with its blocks, none of them shared; G: blocks of others -/
structure Pl (w : World) (Q : Pq) (G X R K : Nat → Prop) (σ τ : Sg) (N : Nat) : Prop where
  box : Bx w Q.wb 38 #[.pointer (some ⟨Q.xb, 0, none⟩), .pointer (some ⟨Q.yb, 0, none⟩), .pointer (some ⟨Q.bb, 0, none⟩)]
  p : ProgIs w X Q.xb Q.c σ Q.n Q.g
  r : RefPk w R Q.yb Q.c τ Q.fv Q.ss
  b : BookAt w K Q.bb N
  xr : ∀ k, X k → ¬ R k
  xk : ∀ k, X k → ¬ K k
  rk : ∀ k, R k → ¬ K k
  gg : ∀ k, G k → ¬ X k ∧ ¬ R k ∧ ¬ K k ∧ k < w.heap.size
  gw : G Q.wb
  okp : σ.Ok Q.c
  okr : τ.Ok Q.c
def PlAt (w : World) (Q : Pq) (G : Nat → Prop) (σ τ : Sg) (N : Nat) : Prop := ∃ X R K, Pl w Q G X R K σ τ N
/-- the blocks of G are left as they are -/
def Keeps (w w' : World) (G : Nat → Prop) : Prop := Only w w' (fun k => ¬ G k)
theorem Keeps.of_below {w w' : World} {G : Nat → Prop} (h : Below w.heap.size w w') : Keeps w w' G := Only.of_below h
theorem Keeps.trans {w w1 w2 : World} {G : Nat → Prop} (h : Keeps w w1 G) (h2 : Keeps w1 w2 G) : Keeps w w2 G := Only.trans h h2 fun _ h => .inl h
theorem Keeps.mono {w w' : World} {G G' : Nat → Prop} (h : Keeps w w' G) (hG : ∀ k, G' k → G k) : Keeps w w' G' := Only.mono h fun k hk hG' => hk (hG k hG')
theorem Keeps.cell {w w' : World} {G : Nat → Prop} (h : Keeps w w' G) {b o : Nat} {v : Value} (hb : G b) (hc : w.cell? ⟨b, o, none⟩ = some v) : w'.cell? ⟨b, o, none⟩ = some v := only_cell h (fun hn => hn hb) hc

theorem BookAt.kl {w : World} {K : Nat → Prop} {bb n : Nat} (h : BookAt w K bb n) : ∀ k, K k → k < w.heap.size := by
  obtain ⟨fs, ws, ts, gs, js, fv, wv, tv, gv, jv, h, _⟩ := h
  exact h.kl
theorem Pl.later {w w' : World} {Q : Pq} {G X R K : Nat → Prop} {σ τ : Sg} {N : Nat} (h : Pl w Q G X R K σ τ N) (hb : Below w.heap.size w w') : Pl w' Q G X R K σ τ N :=
  ⟨h.box.later hb, h.p.later hb, h.r.later hb, h.b.later hb, h.xr, h.xk, h.rk, fun k hk => ⟨(h.gg k hk).1, (h.gg k hk).2.1, (h.gg k hk).2.2.1, Nat.lt_of_lt_of_le (h.gg k hk).2.2.2 hb.size⟩, h.gw, h.okp, h.okr⟩
theorem PlAt.later {w w' : World} {Q : Pq} {G : Nat → Prop} {σ τ : Sg} {N : Nat} (h : PlAt w Q G σ τ N) (hb : Below w.heap.size w w') : PlAt w' Q G σ τ N := by
  obtain ⟨X, R, K, h⟩ := h
  exact ⟨X, R, K, h.later hb⟩
/-- what was laid meanwhile is of others -/
def Wide (G : Nat → Prop) (w w' : World) : Nat → Prop := fun k => G k ∨ (w.heap.size ≤ k ∧ k < w'.heap.size)
theorem PlAt.widen {w w' : World} {Q : Pq} {G : Nat → Prop} {σ τ : Sg} {N : Nat} (h : PlAt w Q G σ τ N) (hb : Below w.heap.size w w') : PlAt w' Q (Wide G w w') σ τ N := by
  obtain ⟨X, R, K, h⟩ := h
  have h' := h.later hb
  refine ⟨X, R, K, h'.box, h'.p, h'.r, h'.b, h.xr, h.xk, h.rk, fun k hk => ?_, .inl h.gw, h.okp, h.okr⟩
  rcases hk with hk | hk
  · exact h'.gg k hk
  · exact ⟨fun e => by have := h.p.xl k e; omega, fun e => by have := h.r.rl k e; omega, fun e => by have := h.b.kl k e; omega, hk.2⟩
theorem PlAt.fewer {w : World} {Q : Pq} {G G' : Nat → Prop} {σ τ : Sg} {N : Nat} (h : PlAt w Q G σ τ N) (hG : ∀ k, G' k → G k) (hw : G' Q.wb) : PlAt w Q G' σ τ N := by
  obtain ⟨X, R, K, h⟩ := h
  exact ⟨X, R, K, h.box, h.p, h.r, h.b, h.xr, h.xk, h.rk, fun k hk => h.gg k (hG k hk), hw, h.okp, h.okr⟩
theorem PlAt.more {w : World} {Q : Pq} {G : Nat → Prop} {σ τ : Sg} {N N' : Nat} (h : PlAt w Q G σ τ N) (hN : N ≤ N') : PlAt w Q G σ τ N' := by
  obtain ⟨X, R, K, h⟩ := h
  obtain ⟨fs, ws, ts, gs, js, fv, wv, tv, gv, jv, hb, h1, h2, h3, h4, h5⟩ := h.b
  exact ⟨X, R, K, h.box, h.p, h.r, ⟨fs, ws, ts, gs, js, fv, wv, tv, gv, jv, hb, by omega, by omega, by omega, by omega, by omega⟩, h.xr, h.xk, h.rk, h.gg, h.gw, h.okp, h.okr⟩

/-- the program does something -/
theorem PlAt.doP {w : World} {Q : Pq} {G : Nat → Prop} {σ τ : Sg} {N : Nat} {f : Nat} {args : Array Value} {a : Int × Sg} (h : PlAt w Q G σ τ N) (ha : a.2.Ok Q.c) (hf : ∀ X, ProgIs w X Q.xb Q.c σ Q.n Q.g → (∀ k, G k → ¬ X k) → Calls Tryz.prog f args w fun e w' => PDid w w' e X Q.xb Q.c Q.n Q.g a) :
    Calls Tryz.prog f args w fun e w' => e = .returned (.int .i64 a.1) ∧ PlAt w' Q G a.2 τ N ∧ Keeps w w' G := by
  obtain ⟨X, R, K, h⟩ := h
  refine (hf X h.p fun k hk => (h.gg k hk).1).mono ?_
  rintro e w' ⟨rfl, X', hP, hG⟩
  have hs := hG.only.size
  refine ⟨rfl, ⟨X', R, K, h.box.kept hG.only (h.gg _ h.gw).1, hP, h.r.only hG.only fun k hR hX => h.xr k hX hR, h.b.only hG.only fun k hK hX => h.xk k hX hK, fun k hX hR => ?_, fun k hX hK => ?_, h.rk, fun k hk => ⟨fun hX => ?_, (h.gg k hk).2.1, (h.gg k hk).2.2.1, Nat.lt_of_lt_of_le (h.gg k hk).2.2.2 hs⟩, h.gw, ha, h.okr⟩, hG.only.mono fun k hX hk => (h.gg k hk).1 hX⟩
  · rcases hG.sub k hX with h' | h'
    · exact h.xr k h' hR
    · have := h.r.rl k hR; omega
  · rcases hG.sub k hX with h' | h'
    · exact h.xk k h' hK
    · have := h.b.kl k hK; omega
  · rcases hG.sub k hX with h' | h'
    · exact (h.gg k hk).1 h'
    · have := (h.gg k hk).2.2.2; omega
/-- the document's machine does something -/
theorem PlAt.doR {w : World} {Q : Pq} {G : Nat → Prop} {σ τ : Sg} {N : Nat} {f : Nat} {args : Array Value} {a : Int × Sg} (h : PlAt w Q G σ τ N) (ha : a.2.Ok Q.c) (hf : ∀ R, RefPk w R Q.yb Q.c τ Q.fv Q.ss → Calls Tryz.prog f args w fun e w' => RDid w w' e R Q.yb Q.c Q.fv Q.ss a) :
    Calls Tryz.prog f args w fun e w' => e = .returned (.int .i64 a.1) ∧ PlAt w' Q G σ a.2 N ∧ Keeps w w' G := by
  obtain ⟨X, R, K, h⟩ := h
  refine (hf R h.r).mono ?_
  rintro e w' ⟨rfl, R', hP, hG⟩
  have hs := hG.only.size
  refine ⟨rfl, ⟨X, R', K, h.box.kept hG.only (h.gg _ h.gw).2.1, h.p.only hG.only fun k hX hR => h.xr k hX hR, hP, h.b.only hG.only fun k hK hR => h.rk k hR hK, fun k hX hR => ?_, h.xk, fun k hR hK => ?_, fun k hk => ⟨(h.gg k hk).1, fun hR => ?_, (h.gg k hk).2.2.1, Nat.lt_of_lt_of_le (h.gg k hk).2.2.2 hs⟩, h.gw, h.okp, ha⟩, hG.only.mono fun k hR hk => (h.gg k hk).2.1 hR⟩
  · rcases hG.sub k hR with h' | h'
    · exact h.xr k hX h'
    · have := h.p.xl k hX; omega
  · rcases hG.sub k hR with h' | h'
    · exact h.rk k h' hK
    · have := h.b.kl k hK; omega
  · rcases hG.sub k hR with h' | h'
    · exact (h.gg k hk).2.1 h'
    · have := (h.gg k hk).2.2.2; omega
/-- a list goes into the book -/
theorem PlAt.doB {w : World} {Q : Pq} {G G' : Nat → Prop} {σ τ : Sg} {N : Nat} {f : Nat} {args : Array Value} {l : Value} (h : PlAt w Q G' σ τ N) (hG : ∀ k, G k → G' k) (hw : G Q.wb) (hl : ∀ b, l.ownBlock = some b → G' b ∧ ¬ G b) (hf : ∀ K, BookAt w K Q.bb N → (∀ b, l.ownBlock = some b → ¬ K b) → Calls Tryz.prog f args w fun e w' => e = .returned (.tuple #[]) ∧ Owned w w' K Q.bb N l) :
    Calls Tryz.prog f args w fun e w' => e = .returned (.tuple #[]) ∧ PlAt w' Q G σ τ (N + 4) ∧ Keeps w w' G := by
  obtain ⟨X, R, K, h⟩ := h
  refine (hf K h.b fun b hb => (h.gg b (hl b hb).1).2.2.1).mono ?_
  rintro e w' ⟨rfl, K', hB, hs, hO⟩
  have hsz := hO.size
  have nG : ∀ k, G k → ¬ (K k ∨ l.ownBlock = some k) := fun k hk h' => by
    rcases h' with h' | h'
    · exact (h.gg k (hG k hk)).2.2.1 h'
    · exact (hl k h').2 hk
  refine ⟨rfl, ⟨X, R, K', h.box.kept hO (nG _ hw), h.p.only hO fun k hX h' => ?_, h.r.only hO fun k hR h' => ?_, hB, h.xr, fun k hX hK => ?_, fun k hR hK => ?_, fun k hk => ⟨(h.gg k (hG k hk)).1, (h.gg k (hG k hk)).2.1, fun hK => ?_, Nat.lt_of_lt_of_le (h.gg k (hG k hk)).2.2.2 hsz⟩, hw, h.okp, h.okr⟩, hO.mono fun k h' hk => nG k hk h'⟩
  · rcases h' with h' | h'
    · exact h.xk k hX h'
    · exact (h.gg k (hl k h').1).1 hX
  · rcases h' with h' | h'
    · exact h.rk k hR h'
    · exact (h.gg k (hl k h').1).2.1 hR
  · rcases hs k hK with h' | h' | h'
    · exact h.xk k hX h'
    · exact (h.gg k (hl k h').1).1 hX
    · have := h.p.xl k hX; omega
  · rcases hs k hK with h' | h' | h'
    · exact h.rk k hR h'
    · exact (h.gg k (hl k h').1).2.1 hR
    · have := h.r.rl k hR; omega
  · rcases hs k hK with h' | h' | h'
    · exact (h.gg k (hG k hk)).2.2.1 h'
    · exact (hl k h').2 hk
    · have := (h.gg k (hG k hk)).2.2.2; omega

/-- a question to the program -/
theorem PlAt.askP {w : World} {Q : Pq} {G : Nat → Prop} {σ τ : Sg} {N : Nat} {P : Prop} (h : PlAt w Q G σ τ N) (hf : ∀ X, ProgIs w X Q.xb Q.c σ Q.n Q.g → P) : P := by
  obtain ⟨X, R, K, h⟩ := h
  exact hf X h.p
theorem PlAt.askR {w : World} {Q : Pq} {G : Nat → Prop} {σ τ : Sg} {N : Nat} {P : Prop} (h : PlAt w Q G σ τ N) (hf : ∀ R, RefPk w R Q.yb Q.c τ Q.fv Q.ss → P) : P := by
  obtain ⟨X, R, K, h⟩ := h
  exact hf R h.r
theorem PlAt.askB {w : World} {Q : Pq} {G : Nat → Prop} {σ τ : Sg} {N : Nat} {P : Prop} (h : PlAt w Q G σ τ N) (hf : ∀ K, BookAt w K Q.bb N → P) : P := by
  obtain ⟨X, R, K, h⟩ := h
  exact hf K h.b
theorem PlAt.box {w : World} {Q : Pq} {G : Nat → Prop} {σ τ : Sg} {N : Nat} (h : PlAt w Q G σ τ N) : Bx w Q.wb 38 #[.pointer (some ⟨Q.xb, 0, none⟩), .pointer (some ⟨Q.yb, 0, none⟩), .pointer (some ⟨Q.bb, 0, none⟩)] := by
  obtain ⟨X, R, K, h⟩ := h
  exact h.box
theorem PlAt.okp {w : World} {Q : Pq} {G : Nat → Prop} {σ τ : Sg} {N : Nat} (h : PlAt w Q G σ τ N) : σ.Ok Q.c := by
  obtain ⟨X, R, K, h⟩ := h
  exact h.okp
theorem PlAt.okr {w : World} {Q : Pq} {G : Nat → Prop} {σ τ : Sg} {N : Nat} (h : PlAt w Q G σ τ N) : τ.Ok Q.c := by
  obtain ⟨X, R, K, h⟩ := h
  exact h.okr
theorem PlAt.gw {w : World} {Q : Pq} {G : Nat → Prop} {σ τ : Sg} {N : Nat} (h : PlAt w Q G σ τ N) : G Q.wb := by
  obtain ⟨X, R, K, h⟩ := h
  exact h.gw
theorem PlAt.gl {w : World} {Q : Pq} {G : Nat → Prop} {σ τ : Sg} {N : Nat} (h : PlAt w Q G σ τ N) : ∀ k, G k → k < w.heap.size := by
  obtain ⟨X, R, K, h⟩ := h
  exact fun k hk => (h.gg k hk).2.2.2
end Go.Proofs.YtgamgomepdfgdaaGreat

namespace Go.Proofs.YtgamgomepdfgdaaGreat
open Go.RowKit

theorem eqO_run (a b d : Int) (w : World) : (binOp .eql 99 (.agg #[.int .i64 a, .int .i64 b, .int .i64 d]) (.agg #[.int .i64 a, .int .i64 b, .int .i64 d])).run Tryz.prog w = .ok (.bool true) w := by
  have u9 := Tryz.underlying3
  have a9 := Tryz.isAgg3
  have z9 := Tryz.sizeOf3
  have hS : Tryz.prog.underlying 99 = some (.struct (Tryz.prog.fieldsOf 99)) := by kernel_rfl
  have hp : Tryz.prog.stoodInHeld 99 = false := by kernel_rfl
  rw [run_eql_struct, show (10000 : Nat) = 9999 + 1 from rfl, run_equalIn_agg w 9999 99 _ _ hS hp]
  simp only [Program.fieldsOf, Tryz.underlying99]
  go_simp

set_option maxRecDepth 100000 in
set_option maxHeartbeats 1000000 in
theorem lPoll (Q : Pq) (hQ : Q.Ok) (G : Nat → Prop) (σ : Sg) (N : Nat) (w : World) (h : PlAt w Q G σ σ N) (hn : σ.rs.length < 1048576) :
    Calls Tryz.prog 58 #[.pointer (some ⟨Q.wb, 0, none⟩)] w fun e w' => e = .returned (.bool true) ∧ Below w.heap.size w w' := by
  have hx := h.askP fun X hP => pPoll X Q.xb Q.c σ Q.n Q.g w hP h.okp
  have HP : Hid (PlAt w Q G σ σ N) := h
  have b0 : w.cell? ⟨Q.wb, 0, none⟩ = some (.pointer (some ⟨Q.xb, 0, none⟩)) := h.box.cell (i := 0) rfl
  have b1 : w.cell? ⟨Q.wb, 1, none⟩ = some (.pointer (some ⟨Q.yb, 0, none⟩)) := h.box.cell (i := 1) rfl
  have HQ : Hid Q.Ok := hQ
  clear h hQ
  obtain ⟨wb, xb, yb, bb, c, fv, n, g, ss⟩ := Q
  simp only at *
  unfold pollV at hx
  generalize hp : σ.poll = p at hx
  obtain ⟨p0, p1, p2, p3⟩ := p
  have hrun := eqO_run p0 p1 p2
  simp only at hx
  have Hp : Hid (σ.poll = (p0, p1, p2, p3)) := hp
  clear hp
  go_enter Tryz.func58, Tryz.ntmps58
  go_wp2_with fail
  go_fit hx
  rintro e w1 ⟨rfl, hb1⟩
  have hba : Below w.heap.size w (w1.alloc (.cells #[.int .i64 p0, .int .i64 p1, .int .i64 p2] 99)) := below_trans hb1 (below_new _ _)
  have d1 := jcell_after hba b1
  have hy := (HP.out.later hba).askR fun R hR => rPoll R yb c σ fv ss _ hR HP.out.okr HQ.out.c hn
  have X1 := Bx.new w1 #[.int .i64 p0, .int .i64 p1, .int .i64 p2] 99
  unfold pollV at hy
  rw [Hp.out] at hy
  simp only at hy
  have HB1 : Hid (Below w.heap.size w (w1.alloc (.cells #[.int .i64 p0, .int .i64 p1, .int .i64 p2] 99))) := hba
  clear hx hb1 b0 b1 hba
  go_wp2_with fail
  go_fit hy
  rintro e w2 ⟨rfl, hb2⟩
  have X2 := (X1.later hb2).mk (.cells #[.int .i64 p0, .int .i64 p1, .int .i64 p2] 99)
  have X3 := Bx.new w2 #[.int .i64 p0, .int .i64 p1, .int .i64 p2] 99
  have HB2 : Hid (Below w.heap.size w (w2.alloc (.cells #[.int .i64 p0, .int .i64 p1, .int .i64 p2] 99))) := below_trans (below_trans HB1.out hb2) (below_new _ _)
  have a0 := X2.cell (i := 0) (v := .int .i64 p0) rfl
  have a1 := X2.cell (i := 1) (v := .int .i64 p1) rfl
  have a2 := X2.cell (i := 2) (v := .int .i64 p2) rfl
  have e0 := X3.cell (i := 0) (v := .int .i64 p0) rfl
  have e1 := X3.cell (i := 1) (v := .int .i64 p1) rfl
  have e2 := X3.cell (i := 2) (v := .int .i64 p2) rfl
  clear hy hb2 X1 X2 X3 d1 HB1
  go_wp2_with fail
  go_ret
  exact ⟨rfl, HB2.out⟩

set_option maxRecDepth 100000 in
set_option maxHeartbeats 1000000 in
theorem lLog (Q : Pq) (hQ : Q.Ok) (G : Nat → Prop) (σ : Sg) (N : Nat) (w : World) (h : PlAt w Q G σ σ N) (hn : σ.rs.length < 1048576) :
    Calls Tryz.prog 99 #[.pointer (some ⟨Q.wb, 0, none⟩)] w fun e w' => e = .returned (.bool true) ∧ Below w.heap.size w w' := by
  have hx := h.askP fun X hP => pLog X Q.xb Q.c σ Q.n Q.g w hP h.okp hQ.c hn
  have hy := h.askR fun R hR => rLogX R Q.yb Q.c σ Q.fv Q.ss w hR h.okr hQ.c hn
  have b0 : w.cell? ⟨Q.wb, 0, none⟩ = some (.pointer (some ⟨Q.xb, 0, none⟩)) := h.box.cell (i := 0) rfl
  have b1 : w.cell? ⟨Q.wb, 1, none⟩ = some (.pointer (some ⟨Q.yb, 0, none⟩)) := h.box.cell (i := 1) rfl
  clear h hQ
  generalize bs (allB σ.rs ++ σ.T) = s at hx hy
  go_enter Tryz.func99, Tryz.ntmps99
  go_wp2_with fail
  go_fit hx
  rintro e w1 ⟨rfl, rfl⟩
  clear hx
  go_wp2_with fail
  go_fit hy
  rintro e w2 ⟨rfl, hb2⟩
  have HB2 : Hid (Below w1.heap.size w1 w2) := hb2
  clear hy hb2
  go_wp2_with fail
  go_ret
  exact ⟨rfl, HB2.out⟩
end Go.Proofs.YtgamgomepdfgdaaGreat

namespace Go.Proofs.YtgamgomepdfgdaaGreat
open Go.RowKit

/-- the answer of a question: nothing parts -/
def Same (w w' : World) (e : Ending) (Q : Pq) (G : Nat → Prop) (σ : Sg) (N : Nat) : Prop := e = .returned (.bool true) ∧ PlAt w' Q G σ σ N ∧ Keeps w w' G
theorem Same.of_below {w w' : World} {Q : Pq} {G : Nat → Prop} {σ : Sg} {N N' : Nat} (h : PlAt w Q G σ σ N) (hb : Below w.heap.size w w') (hN : N ≤ N') : Same w w' (.returned (.bool true)) Q G σ N' := ⟨rfl, (h.later hb).more hN, Keeps.of_below hb⟩
theorem err_or (σ : Sg) : σ.err = 0 ∨ σ.err = 8 := by
  unfold Sg.err
  split
  · exact .inr rfl
  · exact .inl rfl

set_option maxRecDepth 100000 in
set_option maxHeartbeats 1000000 in
theorem lMain (Q : Pq) (hQ : Q.Ok) (G : Nat → Prop) (σ : Sg) (N : Nat) (w : World) (h : PlAt w Q G σ σ N) (hn : σ.rs.length < 1048576) (hN : N < 1048576000) :
    Calls Tryz.prog 95 #[.pointer (some ⟨Q.wb, 0, none⟩)] w fun e w' => Same w w' e Q G σ (N + 4) := by
  have hx := h.askP fun X hP => pMain X Q.xb Q.c σ Q.n Q.g w hP
  have HY : Hid (∀ W, Below w.heap.size w W → Calls Tryz.prog 136 #[.pointer (some ⟨Q.yb, 0, none⟩)] W fun e w' => e = .returned (.tuple #[.slice none 0 0, .int .i64 σ.err]) ∧ Below W.heap.size W w') := fun W hb => (h.later hb).askR fun R hR => rMainX R Q.yb Q.c σ Q.fv Q.ss W hR h.okr hQ.c hn
  have HO : Hid (∀ W, Below w.heap.size w W → Calls Tryz.prog 137 #[.pointer (some ⟨Q.bb, 0, none⟩), .slice none 0 0] W fun e w' => e = .returned (.tuple #[]) ∧ PlAt w' Q G σ σ (N + 4) ∧ Keeps W w' G) := fun W hb => (h.later hb).doB (l := .slice none 0 0) (fun _ h => h) h.gw (fun b hb => by simp [Value.ownBlock] at hb) fun K hB _ => ownT Q.bb N K W hB hN
  have b0 : w.cell? ⟨Q.wb, 0, none⟩ = some (.pointer (some ⟨Q.xb, 0, none⟩)) := h.box.cell (i := 0) rfl
  have b1 : w.cell? ⟨Q.wb, 1, none⟩ = some (.pointer (some ⟨Q.yb, 0, none⟩)) := h.box.cell (i := 1) rfl
  have b2 : w.cell? ⟨Q.wb, 2, none⟩ = some (.pointer (some ⟨Q.bb, 0, none⟩)) := h.box.cell (i := 2) rfl
  have hnil : ∀ W : World, (binOp .neq 106 (.slice none 0 0) (.slice none 0 0)).run Tryz.prog W = .ok (.bool false) W := fun W => run_neq_slice_nil_any W _ _ _ _ _ _ _ Tryz.underlying106
  have her := err_or σ
  generalize σ.err = er at *
  clear h hQ
  unfold Same
  generalize hwb : Q.wb = wb at *
  generalize hxb : Q.xb = xb at *
  generalize hyb : Q.yb = yb at *
  generalize hbb : Q.bb = bb at *
  clear hwb hxb hyb hbb
  rcases her with rfl | rfl
  all_goals
    go_enter Tryz.func95, Tryz.ntmps95
    go_wp2_with fail
    go_fit hx
    rintro e w1 ⟨rfl, hb1⟩
    have hy := HY.out w1 hb1
    have d1 := jcell_after hb1 b1
    have HB1 : Hid (Below w.heap.size w w1) := hb1
    clear hx hb1 HY
    go_wp2_with fail
    go_fit hy
    rintro e w2 ⟨rfl, hb2⟩
    have hb3 : Below w.heap.size w w2 := below_trans HB1.out hb2
    have d2 := jcell_after hb3 b2
    have hO := HO.out w2 hb3
    have HB3 : Hid (Below w.heap.size w w2) := hb3
    clear hy hb2 hb3 HO d1 HB1 b0 b1 b2
    go_wp2_with fail
    refine wp_loop_rounds 1 ?_
    rw [rounds_succ]
    go_wp2_with fail
    go_fit hO
    rintro e w3 ⟨rfl, hP3, hK3⟩
    have HP3 : Hid (PlAt w3 Q G σ σ (N + 4)) := hP3
    have HK3 : Hid (Keeps w w3 G) := (Keeps.of_below HB3.out).trans hK3
    clear hO hP3 hK3
    go_wp2_with fail
    go_ret
    exact ⟨rfl, HP3.out, HK3.out⟩

set_option maxRecDepth 100000 in
set_option maxHeartbeats 1000000 in
theorem lTrain (Q : Pq) (hQ : Q.Ok) (G : Nat → Prop) (σ : Sg) (N : Nat) (w : World) (h : PlAt w Q G σ σ N) (hn : σ.rs.length < 1048576) (hN : N < 1048576000) :
    Calls Tryz.prog 97 #[.pointer (some ⟨Q.wb, 0, none⟩)] w fun e w' => Same w w' e Q G σ (N + 4) := by
  have hx := h.askP fun X hP => pTrain X Q.xb Q.c σ Q.n Q.g w hP
  have HY : Hid (∀ W, Below w.heap.size w W → Calls Tryz.prog 140 #[.pointer (some ⟨Q.yb, 0, none⟩)] W fun e w' => e = .returned (.tuple #[.slice none 0 0, .int .i64 σ.err]) ∧ Below W.heap.size W w') := fun W hb => (h.later hb).askR fun R hR => rTrainX R Q.yb Q.c σ Q.fv Q.ss W hR h.okr hQ.c hn
  have HO : Hid (∀ W, Below w.heap.size w W → Calls Tryz.prog 141 #[.pointer (some ⟨Q.bb, 0, none⟩), .slice none 0 0] W fun e w' => e = .returned (.tuple #[]) ∧ PlAt w' Q G σ σ (N + 4) ∧ Keeps W w' G) := fun W hb => (h.later hb).doB (l := .slice none 0 0) (fun _ h => h) h.gw (fun b hb => by simp [Value.ownBlock] at hb) fun K hB _ => ownG Q.bb N K W hB hN
  have b0 : w.cell? ⟨Q.wb, 0, none⟩ = some (.pointer (some ⟨Q.xb, 0, none⟩)) := h.box.cell (i := 0) rfl
  have b1 : w.cell? ⟨Q.wb, 1, none⟩ = some (.pointer (some ⟨Q.yb, 0, none⟩)) := h.box.cell (i := 1) rfl
  have b2 : w.cell? ⟨Q.wb, 2, none⟩ = some (.pointer (some ⟨Q.bb, 0, none⟩)) := h.box.cell (i := 2) rfl
  have hnil : ∀ W : World, (binOp .neq 115 (.slice none 0 0) (.slice none 0 0)).run Tryz.prog W = .ok (.bool false) W := fun W => run_neq_slice_nil_any W _ _ _ _ _ _ _ Tryz.underlying115
  have her := err_or σ
  generalize σ.err = er at *
  clear h hQ
  unfold Same
  generalize hwb : Q.wb = wb at *
  generalize hxb : Q.xb = xb at *
  generalize hyb : Q.yb = yb at *
  generalize hbb : Q.bb = bb at *
  clear hwb hxb hyb hbb
  rcases her with rfl | rfl
  all_goals
    go_enter Tryz.func97, Tryz.ntmps97
    go_wp2_with fail
    go_fit hx
    rintro e w1 ⟨rfl, hb1⟩
    have hy := HY.out w1 hb1
    have d1 := jcell_after hb1 b1
    have HB1 : Hid (Below w.heap.size w w1) := hb1
    clear hx hb1 HY
    go_wp2_with fail
    go_fit hy
    rintro e w2 ⟨rfl, hb2⟩
    have hb3 : Below w.heap.size w w2 := below_trans HB1.out hb2
    have d2 := jcell_after hb3 b2
    have hO := HO.out w2 hb3
    have HB3 : Hid (Below w.heap.size w w2) := hb3
    clear hy hb2 hb3 HO d1 HB1 b0 b1 b2
    go_wp2_with fail
    refine wp_loop_rounds 1 ?_
    rw [rounds_succ]
    go_wp2_with fail
    go_fit hO
    rintro e w3 ⟨rfl, hP3, hK3⟩
    have HP3 : Hid (PlAt w3 Q G σ σ (N + 4)) := hP3
    have HK3 : Hid (Keeps w w3 G) := (Keeps.of_below HB3.out).trans hK3
    clear hO hP3 hK3
    go_wp2_with fail
    go_ret
    exact ⟨rfl, HP3.out, HK3.out⟩

set_option maxRecDepth 100000 in
set_option maxHeartbeats 1000000 in
theorem lJobs (Q : Pq) (hQ : Q.Ok) (G : Nat → Prop) (σ : Sg) (N : Nat) (w : World) (h : PlAt w Q G σ σ N) (hn : σ.rs.length < 1048576) (hN : N < 1048576000) :
    Calls Tryz.prog 98 #[.pointer (some ⟨Q.wb, 0, none⟩)] w fun e w' => Same w w' e Q G σ (N + 4) := by
  have hx := h.askP fun X hP => pJobs X Q.xb Q.c σ Q.n Q.g w hP
  have HY : Hid (∀ W, Below w.heap.size w W → Calls Tryz.prog 92 #[.pointer (some ⟨Q.yb, 0, none⟩)] W fun e w' => e = .returned (.tuple #[.slice none 0 0, .int .i64 σ.err]) ∧ Below W.heap.size W w') := fun W hb => (h.later hb).askR fun R hR => rJobsX R Q.yb Q.c σ Q.fv Q.ss W hR h.okr hQ.c hn
  have HO : Hid (∀ W, Below w.heap.size w W → Calls Tryz.prog 142 #[.pointer (some ⟨Q.bb, 0, none⟩), .slice none 0 0] W fun e w' => e = .returned (.tuple #[]) ∧ PlAt w' Q G σ σ (N + 4) ∧ Keeps W w' G) := fun W hb => (h.later hb).doB (l := .slice none 0 0) (fun _ h => h) h.gw (fun b hb => by simp [Value.ownBlock] at hb) fun K hB _ => ownJ Q.bb N K W hB hN
  have b0 : w.cell? ⟨Q.wb, 0, none⟩ = some (.pointer (some ⟨Q.xb, 0, none⟩)) := h.box.cell (i := 0) rfl
  have b1 : w.cell? ⟨Q.wb, 1, none⟩ = some (.pointer (some ⟨Q.yb, 0, none⟩)) := h.box.cell (i := 1) rfl
  have b2 : w.cell? ⟨Q.wb, 2, none⟩ = some (.pointer (some ⟨Q.bb, 0, none⟩)) := h.box.cell (i := 2) rfl
  have hnil : ∀ W : World, (binOp .neq 120 (.slice none 0 0) (.slice none 0 0)).run Tryz.prog W = .ok (.bool false) W := fun W => run_neq_slice_nil_any W _ _ _ _ _ _ _ Tryz.underlying120
  have her := err_or σ
  generalize σ.err = er at *
  clear h hQ
  unfold Same
  generalize hwb : Q.wb = wb at *
  generalize hxb : Q.xb = xb at *
  generalize hyb : Q.yb = yb at *
  generalize hbb : Q.bb = bb at *
  clear hwb hxb hyb hbb
  rcases her with rfl | rfl
  all_goals
    go_enter Tryz.func98, Tryz.ntmps98
    go_wp2_with fail
    go_fit hx
    rintro e w1 ⟨rfl, hb1⟩
    have hy := HY.out w1 hb1
    have d1 := jcell_after hb1 b1
    have HB1 : Hid (Below w.heap.size w w1) := hb1
    clear hx hb1 HY
    go_wp2_with fail
    go_fit hy
    rintro e w2 ⟨rfl, hb2⟩
    have hb3 : Below w.heap.size w w2 := below_trans HB1.out hb2
    have d2 := jcell_after hb3 b2
    have hO := HO.out w2 hb3
    have HB3 : Hid (Below w.heap.size w w2) := hb3
    clear hy hb2 hb3 HO d1 HB1 b0 b1 b2
    go_wp2_with fail
    refine wp_loop_rounds 1 ?_
    rw [rounds_succ]
    go_wp2_with fail
    go_fit hO
    rintro e w3 ⟨rfl, hP3, hK3⟩
    have HP3 : Hid (PlAt w3 Q G σ σ (N + 4)) := hP3
    have HK3 : Hid (Keeps w w3 G) := (Keeps.of_below HB3.out).trans hK3
    clear hO hP3 hK3
    go_wp2_with fail
    go_ret
    exact ⟨rfl, HP3.out, HK3.out⟩
end Go.Proofs.YtgamgomepdfgdaaGreat
