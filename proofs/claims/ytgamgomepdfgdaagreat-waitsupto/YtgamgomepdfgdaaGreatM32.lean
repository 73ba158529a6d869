import Derived.Test.YtgamgomepdfgdaaGreatM31
import Derived.Test.YtgamgomepdfgdaaGreatProg
import Derived.Test.YtgamgomepdfgdaaGreatM11
import Derived.Test.YtgamgomepdfgdaaGreatM16
import Derived.WalkLawsBesides
namespace Go.Proofs.YtgamgomepdfgdaaGreat
open Go.RowKit

set_option maxRecDepth 100000 in
set_option maxHeartbeats 1000000 in
theorem mRecover_up (Y : Nat → Prop) (xb mb rb yb : Nat) (c : Cfg) (s : Qs) (L : List UInt8) (br : Bool) (keep : Int) (lv : Value) (w : World) (hU : UpIs w Y xb mb rb yb c s L br keep lv) :
    Calls Tryz.prog 32 #[.pointer (some ⟨xb, 0, none⟩)] w fun e w' => e = .returned (.int .i64 9) ∧ w' = w := by
  have c9 : w.cell? ⟨xb, 9, none⟩ = some (.pointer (some ⟨rb, 0, none⟩)) := hU.box.cell (i := 9) rfl
  clear hU
  go_enter Tryz.func32, Tryz.ntmps32
  go_wp2_with fail
  go_ret
  exact ⟨rfl, rfl⟩

theorem pBreak (X : Nat → Prop) (xb : Nat) (c : Cfg) (σ : Sg) (n : Nat) (g : ByteArray → ByteArray) (k : Int) (w : World) (hP : ProgIs w X xb c σ n g) :
    Calls Tryz.prog 29 #[.pointer (some ⟨xb, 0, none⟩), .int .i64 k] w fun e w' => PDid w w' e X xb c n g (σ.brk k) := by
  rcases hP with ⟨hu, hP⟩ | ⟨hu, hP⟩
  · have ea : σ.brk k = (0, { σ with br := true, keep := k }) := by simp [Sg.brk, hu]
    rw [ea]
    obtain ⟨mb, lv, Y, rb, yb, keep', hM, hU, hke, h1, h2, h3, h4, h5, h6, h7⟩ := hP.ex
    refine (mBreak_up Y xb mb rb yb c _ _ σ.br keep' lv k w hU).mono ?_
    rintro e w' ⟨rfl, hU', hO⟩
    have hs := hO.size
    exact ⟨rfl, X, .inl ⟨hu, ⟨⟨mb, lv, Y, rb, yb, k, hM.same (hO.block mb hM.lt h7), hU', fun _ => rfl, h1, h2, h3, h4, h5, h6, h7⟩, hP.fx, fun q hq => Nat.lt_of_lt_of_le (hP.xl q hq) hs⟩⟩, hO.mono fun q hq => by rw [hq]; exact h2, fun _ h => .inl h⟩
  · have ea : σ.brk k = (8, σ) := by simp [Sg.brk, hu]
    rw [ea]
    obtain ⟨mb, lv, hM, hD, _⟩ := hP.ex
    refine (mBreak_down xb mb c _ lv k w hD).mono ?_
    rintro e w' ⟨rfl, rfl⟩
    exact .same (.inr ⟨hu, hP⟩) (Below.refl _ _)

theorem pCrash (X : Nat → Prop) (xb : Nat) (c : Cfg) (σ : Sg) (n : Nat) (g : ByteArray → ByteArray) (w : World) (hP : ProgIs w X xb c σ n g) :
    Calls Tryz.prog 50 #[.pointer (some ⟨xb, 0, none⟩)] w fun e w' => PDid w w' e X xb c n g σ.crash := by
  rcases hP with ⟨hu, hP⟩ | ⟨hu, hP⟩
  · have ea : σ.crash = (0, { σ with up := false, T := [], br := false }) := by simp [Sg.crash, hu]
    rw [ea]
    obtain ⟨mb, lv, Y, rb, yb, keep', hM, hU, hke, h1, h2, h3, h4, h5, h6, h7⟩ := hP.ex
    refine (mCrash_up Y xb mb rb yb c _ _ σ.br keep' lv w hU).mono ?_
    rintro e w' ⟨rfl, hD', hO⟩
    have hs := hO.size
    refine ⟨rfl, X, .inr ⟨rfl, ⟨⟨mb, lv, hM.same (hO.block mb hM.lt h6), ?_, h1, h4, h6⟩, hP.fx, fun q hq => Nat.lt_of_lt_of_le (hP.xl q hq) hs⟩⟩, hO.mono fun q hq => by rw [hq]; exact hP.fx, fun _ h => .inl h⟩
    show DownIs w' xb mb c (allB σ.rs ++ []) lv
    rw [List.append_nil]; exact hD'
  · have ea : σ.crash = (8, σ) := by simp [Sg.crash, hu]
    rw [ea]
    obtain ⟨mb, lv, hM, hD, _⟩ := hP.ex
    refine (mCrash_down xb mb c _ lv w hD).mono ?_
    rintro e w' ⟨rfl, rfl⟩
    exact .same (.inr ⟨hu, hP⟩) (Below.refl _ _)

theorem torn_len {T : List UInt8} (h : TornOf T) : T.length < 1100 := by
  obtain ⟨r, m, hr, hm, rfl⟩ := h
  have := Rc.body_lt hr
  rw [List.length_take, recB_len']
  omega

theorem pRecover (X : Nat → Prop) (xb : Nat) (c : Cfg) (σ : Sg) (n : Nat) (g : ByteArray → ByteArray) (w : World) (hP : ProgIs w X xb c σ n g) (hσ : σ.Ok c) (hc : c.Ok) (hn : σ.rs.length < 1048576) :
    Calls Tryz.prog 32 #[.pointer (some ⟨xb, 0, none⟩)] w fun e w' => PDid w w' e X xb c n g σ.recover := by
  rcases hP with ⟨hu, hP⟩ | ⟨hu, hP⟩
  · have ea : σ.recover = (9, σ) := by simp [Sg.recover, hu]
    rw [ea]
    obtain ⟨mb, lv, Y, rb, yb, keep', hM, hU, _⟩ := hP.ex
    refine (mRecover_up Y xb mb rb yb c _ _ σ.br keep' lv w hU).mono ?_
    rintro e w' ⟨rfl, rfl⟩
    exact .same (.inl ⟨hu, hP⟩) (Below.refl _ _)
  · have ea : σ.recover = (0, { σ with rs := σ.rs ++ [rc7], up := true, T := [], br := false }) := by simp [Sg.recover, hu]
    rw [ea]
    obtain ⟨mb, lv, hM, hD, h1, h2, h3⟩ := hP.ex
    have hal := allB_len (hσ.fits.ok hc)
    have htl := torn_len hσ.torn
    refine (mRecover_down xb mb c σ.rs σ.T _ lv w hD rfl hσ.torn hσ.fits hc hn (by rw [List.length_append]; omega) hM.lt).mono ?_
    rintro e w' ⟨rfl, ⟨Y, rb, yb, lv', hU, hrb, hY, hls⟩, hO⟩
    have hs := hO.size
    have hml := hM.lt
    refine ⟨rfl, Upto X w w', .inl ⟨rfl, ⟨⟨mb, lv', Y, rb, yb, 0, hM.same (hO.block mb hml fun e => ?_), ?_, fun h => (by cases h), .inl h1, .inr ⟨hrb, hU.run.lt⟩, fun k hk => .inr ⟨hY k hk, hU.yl k hk⟩, fun q hq => ?_, fun h => ?_, h3, ?_⟩, .inl hP.fx, ?_⟩⟩, hO.mono fun k hk => ?_, fun k hk => hk.imp (fun h => h) (fun h => h.1)⟩
    · rcases e with e | e
      · exact h3 e
      · exact hM.ne_sl hD.log e
    · show UpIs w' Y xb mb rb yb c (Qs.all (σ.rs ++ [rc7])) (allB (σ.rs ++ [rc7])) false 0 lv'
      have e7 : (Qs.all σ.rs).does rc7 = Qs.all σ.rs := by simp [Qs.does, rc7]
      rw [Qs.all_snoc, allB_snoc, e7]; exact hU
    · rcases hls with h | ⟨q', h, hl⟩
      · rw [h] at hq; exact .inl (h2 q hq)
      · exact .inr ⟨by rw [h] at hq; cases hq; exact hl, hU.log.lt hq⟩
    · have := hY mb h; omega
    · omega
    · rintro k (hk | hk)
      · have := hP.xl k hk; omega
      · exact hk.2
    · rcases hk with hk | hk
      · rw [hk]; exact hP.fx
      · exact h2 k hk

/-- what Poll tells: the outcome, and the error -/
def Sg.poll (σ : Sg) : Int × Int × Int × Int :=
  if σ.up = false then (0, 0, 0, 8) else if h : (Qs.all σ.rs).acked < (Qs.all σ.rs).outs.length then (((Qs.all σ.rs).acked : Int) + 1, ((Qs.all σ.rs).outs[(Qs.all σ.rs).acked]'h).1, ((Qs.all σ.rs).outs[(Qs.all σ.rs).acked]'h).2, 0) else (0, 0, 0, 5)
def pollV (p : Int × Int × Int × Int) : Value := .tuple #[.agg #[.int .i64 p.1, .int .i64 p.2.1, .int .i64 p.2.2.1], .int .i64 p.2.2.2]
theorem pPoll (X : Nat → Prop) (xb : Nat) (c : Cfg) (σ : Sg) (n : Nat) (g : ByteArray → ByteArray) (w : World) (hP : ProgIs w X xb c σ n g) (hσ : σ.Ok c) :
    Calls Tryz.prog 77 #[.pointer (some ⟨xb, 0, none⟩)] w fun e w' => e = .returned (pollV σ.poll) ∧ Below w.heap.size w w' := by
  rcases hP with ⟨hu, hP⟩ | ⟨hu, hP⟩
  · obtain ⟨mb, lv, Y, rb, yb, keep', hM, hU, _⟩ := hP.ex
    by_cases h : (Qs.all σ.rs).acked < (Qs.all σ.rs).outs.length
    · refine (mPoll_some Y xb mb rb yb c _ _ σ.br keep' lv w hU h).mono ?_
      rintro e w' ⟨rfl, hb⟩
      exact ⟨by simp [Sg.poll, hu, h, pollV], hb⟩
    · refine (mPoll_none Y xb mb rb yb c _ _ σ.br keep' lv w hU (by have := hσ.fits.inv.ack; omega)).mono ?_
      rintro e w' ⟨rfl, hb⟩
      exact ⟨by simp [Sg.poll, hu, h, pollV], hb⟩
  · obtain ⟨mb, lv, hM, hD, _⟩ := hP.ex
    refine (mPoll_down xb mb c _ lv w hD).mono ?_
    rintro e w' ⟨rfl, hb⟩
    exact ⟨by simp [Sg.poll, hu, pollV], hb⟩

theorem pLog (X : Nat → Prop) (xb : Nat) (c : Cfg) (σ : Sg) (n : Nat) (g : ByteArray → ByteArray) (w : World) (hP : ProgIs w X xb c σ n g) (hσ : σ.Ok c) (hc : c.Ok) (hn : σ.rs.length < 1048576) :
    Calls Tryz.prog 28 #[.pointer (some ⟨xb, 0, none⟩)] w fun e w' => e = .returned (.string (bs (allB σ.rs ++ σ.T))) ∧ w' = w := by
  have hal := allB_len (hσ.fits.ok hc)
  have htl := torn_len hσ.torn
  rcases hP with ⟨hu, hP⟩ | ⟨hu, hP⟩
  · obtain ⟨mb, lv, Y, rb, yb, keep', hM, hU, _⟩ := hP.ex
    rw [hσ.upT hu, List.append_nil]
    exact mLog xb _ _ lv w hU.box rfl hU.log (by omega)
  · obtain ⟨mb, lv, hM, hD, _⟩ := hP.ex
    exact mLog xb _ _ lv w hD.box rfl hD.log (by rw [List.length_append]; omega)

/-- nothing has landed, no segment, no job; or the machine is down -/
def Sg.err (σ : Sg) : Int := if σ.up = false then 8 else 0
theorem pMain (X : Nat → Prop) (xb : Nat) (c : Cfg) (σ : Sg) (n : Nat) (g : ByteArray → ByteArray) (w : World) (hP : ProgIs w X xb c σ n g) :
    Calls Tryz.prog 66 #[.pointer (some ⟨xb, 0, none⟩)] w fun e w' => e = .returned (.tuple #[.slice none 0 0, .int .i64 σ.err]) ∧ Below w.heap.size w w' := by
  rcases hP with ⟨hu, hP⟩ | ⟨hu, hP⟩
  · obtain ⟨mb, lv, Y, rb, yb, keep', hM, hU, _⟩ := hP.ex
    refine (mMain_up Y xb mb rb yb c _ _ σ.br keep' lv w hU).mono ?_
    rintro e w' ⟨rfl, hb⟩
    exact ⟨by simp [Sg.err, hu], hb⟩
  · obtain ⟨mb, lv, hM, hD, _⟩ := hP.ex
    refine (mMain_down xb mb c _ lv w hD).mono ?_
    rintro e w' ⟨rfl, rfl⟩
    exact ⟨by simp [Sg.err, hu], Below.refl _ _⟩
theorem pTrain (X : Nat → Prop) (xb : Nat) (c : Cfg) (σ : Sg) (n : Nat) (g : ByteArray → ByteArray) (w : World) (hP : ProgIs w X xb c σ n g) :
    Calls Tryz.prog 69 #[.pointer (some ⟨xb, 0, none⟩)] w fun e w' => e = .returned (.tuple #[.slice none 0 0, .int .i64 σ.err]) ∧ Below w.heap.size w w' := by
  rcases hP with ⟨hu, hP⟩ | ⟨hu, hP⟩
  · obtain ⟨mb, lv, Y, rb, yb, keep', hM, hU, _⟩ := hP.ex
    refine (mTrain_up Y xb mb rb yb c _ _ σ.br keep' lv w hU).mono ?_
    rintro e w' ⟨rfl, hb⟩
    exact ⟨by simp [Sg.err, hu], hb⟩
  · obtain ⟨mb, lv, hM, hD, _⟩ := hP.ex
    refine (mTrain_down xb mb c _ lv w hD).mono ?_
    rintro e w' ⟨rfl, rfl⟩
    exact ⟨by simp [Sg.err, hu], Below.refl _ _⟩
theorem pJobs (X : Nat → Prop) (xb : Nat) (c : Cfg) (σ : Sg) (n : Nat) (g : ByteArray → ByteArray) (w : World) (hP : ProgIs w X xb c σ n g) :
    Calls Tryz.prog 70 #[.pointer (some ⟨xb, 0, none⟩)] w fun e w' => e = .returned (.tuple #[.slice none 0 0, .int .i64 σ.err]) ∧ Below w.heap.size w w' := by
  rcases hP with ⟨hu, hP⟩ | ⟨hu, hP⟩
  · obtain ⟨mb, lv, Y, rb, yb, keep', hM, hU, _⟩ := hP.ex
    refine (mJobs_up Y xb mb rb yb c _ _ σ.br keep' lv w hU).mono ?_
    rintro e w' ⟨rfl, hb⟩
    exact ⟨by simp [Sg.err, hu], hb⟩
  · obtain ⟨mb, lv, hM, hD, _⟩ := hP.ex
    refine (mJobs_down xb mb c _ lv w hD).mono ?_
    rintro e w' ⟨rfl, rfl⟩
    exact ⟨by simp [Sg.err, hu], Below.refl _ _⟩
/-- a list that is told: nothing, or a row of the call's own -/
def TellsQ (w w' : World) (e : Ending) (c : Cfg) (σ : Sg) : Prop := (σ.up = true ∧ ToldQ w w' e c.age (Qs.all σ.rs).queue) ∨ (σ.up = false ∧ e = .returned (.tuple #[.slice none 0 0, .int .i64 8]))
theorem pQueue (X : Nat → Prop) (xb : Nat) (c : Cfg) (σ : Sg) (n : Nat) (g : ByteArray → ByteArray) (w : World) (hP : ProgIs w X xb c σ n g) (hσ : σ.Ok c) (hc : c.Ok) :
    Calls Tryz.prog 27 #[.pointer (some ⟨xb, 0, none⟩)] w fun e w' => TellsQ w w' e c σ ∧ Below w.heap.size w w' := by
  rcases hP with ⟨hu, hP⟩ | ⟨hu, hP⟩
  · obtain ⟨mb, lv, Y, rb, yb, keep', hM, hU, _⟩ := hP.ex
    refine (mQueue_up Y xb mb rb yb c _ _ σ.br keep' lv w hU hσ.fits.inv hc).mono ?_
    rintro e w' ⟨h, hb⟩
    exact ⟨.inl ⟨hu, h⟩, hb⟩
  · obtain ⟨mb, lv, hM, hD, _⟩ := hP.ex
    refine (mQueue_down xb mb c _ lv w hD).mono ?_
    rintro e w' ⟨rfl, rfl⟩
    exact ⟨.inr ⟨hu, rfl⟩, Below.refl _ _⟩
def TellsF (w w' : World) (e : Ending) (σ : Sg) (n : Nat) (g : ByteArray → ByteArray) : Prop := (σ.up = true ∧ ∃ (l : List Fl) (b cap : Nat), e = .returned (.tuple #[.slice (some ⟨b, 0, none⟩) l.length cap, .int .i64 0]) ∧ Told l g ∧ l.length ≤ n ∧ w'.ownsRow w.heap.size 80 2 (.slice (some ⟨b, 0, none⟩) l.length cap) l.length (l.flatMap cF)) ∨ (σ.up = false ∧ e = .returned (.tuple #[.slice none 0 0, .int .i64 8]))
theorem pTree (X : Nat → Prop) (xb : Nat) (c : Cfg) (σ : Sg) (n : Nat) (g : ByteArray → ByteArray) (w : World) (hP : ProgIs w X xb c σ n g) (hn : n * 32 ≤ 140737488355328) :
    Calls Tryz.prog 64 #[.pointer (some ⟨xb, 0, none⟩)] w fun e w' => TellsF w w' e σ n g ∧ Below w.heap.size w w' := by
  rcases hP with ⟨hu, hP⟩ | ⟨hu, hP⟩
  · obtain ⟨mb, lv, Y, rb, yb, keep', hM, hU, _⟩ := hP.ex
    refine (mTree_up Y xb mb rb yb n g c _ _ σ.br keep' lv w hU hM hn).mono ?_
    rintro e w' ⟨h, hb⟩
    exact ⟨.inl ⟨hu, h⟩, hb⟩
  · obtain ⟨mb, lv, hM, hD, _⟩ := hP.ex
    refine (mTree_down xb mb c _ lv w hD).mono ?_
    rintro e w' ⟨rfl, rfl⟩
    exact ⟨.inr ⟨hu, rfl⟩, Below.refl _ _⟩
end Go.Proofs.YtgamgomepdfgdaaGreat

namespace Go.Proofs.YtgamgomepdfgdaaGreat
open Go.RowKit

theorem info47b : (Tryz.prog.info? 80).map (fun i => (i.zero, i.size, i.bytes)) = some (some (.agg #[.string ⟨#[]⟩, .string ⟨#[]⟩]), 2, 32) := by kernel_rfl
def beyB : ByteArray := ⟨#[98, 101, 121, 111, 110, 100]⟩

theorem addr_addN (g o n : Nat) : (⟨g, o, none⟩ : Addr).add n = ⟨g, o + n, none⟩ := by
  unfold Addr.add
  by_cases h : n = 0
  · subst h; simp
  · simp [h]

theorem src_files {w : World} {a : Option Addr} {n cap : Nat} {l : List Fl} (h : FilesAt w (.slice a n cap) l) (hn : 0 < n) : ∃ ad, a = some ad ∧ ∀ j v, (l.flatMap cF)[j]? = some v → w.cell? (ad.add j) = some v := by
  rcases h with ⟨_, a', cap', hv⟩ | ⟨b, off, cap', hv, _, h0, h1⟩
  · cases hv; omega
  · cases hv
    refine ⟨_, rfl, fun j v hj => ?_⟩
    have hjl : j < l.length * 2 := by
      have := (List.getElem?_eq_some_iff.1 hj).1
      rwa [flat_len cF 2 (fun _ => rfl)] at this
    have e : j = j / 2 * 2 + j % 2 := by omega
    have hi : j / 2 < l.length := by omega
    have hg := flat_get cF 2 (fun _ => rfl) l (j / 2) (j % 2) hi (by omega)
    rw [← e, hj] at hg
    have hadd := addr_addN b off j
    rw [hadd]
    rcases (show j % 2 = 0 ∨ j % 2 = 1 by omega) with h2 | h2
    · rw [h2] at hg
      have hv : v = .string l[j / 2].1 := by simpa [cF] using hg
      have := h0 (j / 2) hi
      rw [hv, ← this]; congr 2; omega
    · rw [h2] at hg
      have hv : v = .string l[j / 2].2 := by simpa [cF] using hg
      have := h1 (j / 2) hi
      rw [hv, ← this]; congr 2; omega

theorem one_flat (l : List Fl) : ∀ v ∈ l.flatMap cF, v.oneCell' = true := by
  intro v hv
  obtain ⟨f, _, hf⟩ := List.mem_flatMap.1 hv
  simp [cF] at hf
  rcases hf with rfl | rfl <;> rfl

set_option maxRecDepth 100000 in
set_option maxHeartbeats 1000000 in
theorem lentFiles_walk (l : List Fl) (a : Option Addr) (cap : Nat) (w : World) (hl : FilesAt w (.slice a l.length cap) l) (hn : Hid ((l.length + 100) * 32 ≤ 140737488355328)) (hln : l.length < 8796093022208) :
    Calls Tryz.prog 36 #[.slice a l.length cap] w fun e w' => (∃ g, e = .returned (.slice (some ⟨g, 0, none⟩) (l.length + 2) (l.length + 2)) ∧ w'.ownsRow w.heap.size 80 2 (.slice (some ⟨g, 0, none⟩) (l.length + 2) (l.length + 2)) (l.length + 2) ((l ++ [((beyB, ⟨#[]⟩) : Fl), ((beyB, ⟨#[]⟩) : Fl)]).flatMap cF)) ∧ Below w.heap.size w w' := by
  obtain ⟨i0, hi, hz0, hz1, hz2⟩ := info_parts info47b
  have hsz : (Tryz.prog.info? 80).map (·.size) = some 2 := by rw [hi]; simp [hz1]
  have q2 : Hid (i0.bytes * (l.length + 2) ≤ 281474976710656) := by
    show i0.bytes * (l.length + 2) ≤ 281474976710656
    have := hn.out
    rw [hz2]; omega
  have hfit1 : ∀ {w' : World} {e : TypeId} {v : Value} {xs : List Value}, w'.ownsRow w.heap.size e 2 v (l.length + 2) xs → l.length * 2 + 2 ≤ xs.length := fun h => by have := h.1; omega
  have hfit2 : ∀ {w' : World} {e : TypeId} {v : Value} {xs : List Value}, w'.ownsRow w.heap.size e 2 v (l.length + 2) xs → (l.length + 1) * 2 + 2 ≤ xs.length := fun h => by have := h.1; omega
  have hone : ∀ v ∈ l.flatMap cF, v.oneCell' = true := one_flat l
  go_enter Tryz.func36, Tryz.ntmps36
  go_wp2_with (first | (at_make; refine wpList_make_full _ rfl _ _ _ rfl w.heap.size _ i0 _ 2 Tryz.underlying24 hi hz0 hz1 _ _ _ _ (l.length + 2) rfl rfl (by omega) (by omega) q2.out (by unfold maxLen; omega) (Nat.le_refl _) ?_; intro w1 hrow1 hg1) | (refine wpList_copyK _ rfl _ _ _ _ rfl 80 2 w.heap.size Tryz.underlying24 hsz _ (l.length + 2) a l.length cap rfl rfl (by omega) _ hrow1 (l.flatMap cF) (flat_len cF 2 (fun _ => rfl) l) (fun h0 => src_files (hl.grown hg1 (Classical.em _)) h0) hone ?_; intro w2 hrow2 hg2) | (refine wpList_store_elem _ rfl _ _ _ rfl w.heap.size _ 2 _ _ _ _ _ hrow2 rfl [.string beyB, .string ⟨#[]⟩] rfl hsz (hfit1 hrow2) (by simp [Value.oneCell']) ?_; intro w3 hrow3 hg3) | (refine wpList_store_elem _ rfl _ _ _ rfl w.heap.size _ 2 _ _ _ _ _ hrow3 rfl [.string beyB, .string ⟨#[]⟩] rfl hsz (hfit2 hrow3) (by simp [Value.oneCell']) ?_; intro w4 hrow4 hg4))
  go_ret
  refine ⟨⟨_, rfl, ?_⟩, ?_⟩
  · have e := two_stores (cs := [.string beyB, .string ⟨#[]⟩]) (k := l.length * 2) (flat_len cF 2 (fun _ => rfl) l) (T := (madeCells (Value.agg #[Value.string ⟨#[]⟩, Value.string ⟨#[]⟩]).cells ((l.length + 2) * 2)).toList.drop (l.flatMap cF).length) (by have := hrow1.1; rw [List.length_drop, flat_len cF 2 (fun _ => rfl) l, this]; simp; omega)
    have e2 : (l.length + 1) * 2 = l.length * 2 + 2 := by omega
    rw [List.flatMap_append]
    rw [e2] at hrow4
    exact e ▸ hrow4
  · have hs1 := hg1.size
    exact ((((Below.refl _ _).grown hg1 (Nat.le_refl _) (by simp)).grown hg2 hs1 (by simp)).grown hg3 (Nat.le_trans hs1 hg2.size) (by simp)).grown hg4 (Nat.le_trans hs1 (Nat.le_trans hg2.size hg3.size)) (by simp)

theorem info49b : (Tryz.prog.info? 49).map (fun i => (i.zero, i.size, i.bytes)) = some (some (.agg #[.string ⟨#[]⟩, .string ⟨#[]⟩, .string ⟨#[]⟩]), 3, 48) := by kernel_rfl

theorem src_edits {w : World} {a : Option Addr} {n cap : Nat} {l : List Ed} (h : EditsAt w (.slice a n cap) l) (hn : 0 < n) : ∃ ad, a = some ad ∧ ∀ j v, (l.flatMap cE)[j]? = some v → w.cell? (ad.add j) = some v := by
  rcases h with ⟨_, a', cap', hv⟩ | ⟨b, off, cap', hv, _, h0, h1, h2⟩
  · cases hv; omega
  · cases hv
    refine ⟨_, rfl, fun j v hj => ?_⟩
    have hjl : j < l.length * 3 := by
      have := (List.getElem?_eq_some_iff.1 hj).1
      rwa [flat_len cE 3 (fun _ => rfl)] at this
    have e : j = j / 3 * 3 + j % 3 := by omega
    have hi : j / 3 < l.length := by omega
    have hg := flat_get cE 3 (fun _ => rfl) l (j / 3) (j % 3) hi (by omega)
    rw [← e, hj] at hg
    have hadd := addr_addN b off j
    rw [hadd]
    rcases (show j % 3 = 0 ∨ j % 3 = 1 ∨ j % 3 = 2 by omega) with h3 | h3 | h3
    · rw [h3] at hg
      have hv : v = .string l[j / 3].1 := by simpa [cE] using hg
      have := h0 (j / 3) hi
      rw [hv, ← this]; congr 2; omega
    · rw [h3] at hg
      have hv : v = .string l[j / 3].2.1 := by simpa [cE] using hg
      have := h1 (j / 3) hi
      rw [hv, ← this]; congr 2; omega
    · rw [h3] at hg
      have hv : v = .string l[j / 3].2.2 := by simpa [cE] using hg
      have := h2 (j / 3) hi
      rw [hv, ← this]; congr 2; omega

theorem one_flatE (l : List Ed) : ∀ v ∈ l.flatMap cE, v.oneCell' = true := by
  intro v hv
  obtain ⟨f, _, hf⟩ := List.mem_flatMap.1 hv
  simp [cE] at hf
  rcases hf with rfl | rfl | rfl <;> rfl

set_option maxRecDepth 100000 in
set_option maxHeartbeats 1000000 in
theorem lent_walk (l : List Ed) (a : Option Addr) (cap : Nat) (w : World) (hl : EditsAt w (.slice a l.length cap) l) (hn : Hid ((l.length + 80) * 48 ≤ 140737488355328)) (hln : l.length < 8796093022208) :
    Calls Tryz.prog 86 #[.slice a l.length cap] w fun e w' => (∃ g, e = .returned (.slice (some ⟨g, 0, none⟩) (l.length + 2) (l.length + 2)) ∧ w'.ownsRow w.heap.size 49 3 (.slice (some ⟨g, 0, none⟩) (l.length + 2) (l.length + 2)) (l.length + 2) ((l ++ [((beyB, ⟨#[]⟩, ⟨#[]⟩) : Ed), ((beyB, ⟨#[]⟩, ⟨#[]⟩) : Ed)]).flatMap cE)) ∧ Below w.heap.size w w' := by
  obtain ⟨i0, hi, hz0, hz1, hz2⟩ := info_parts info49b
  have hsz : (Tryz.prog.info? 49).map (·.size) = some 3 := by rw [hi]; simp [hz1]
  have q2 : Hid (i0.bytes * (l.length + 2) ≤ 281474976710656) := by
    show i0.bytes * (l.length + 2) ≤ 281474976710656
    have := hn.out
    rw [hz2]; omega
  have hfit1 : ∀ {w' : World} {e : TypeId} {v : Value} {xs : List Value}, w'.ownsRow w.heap.size e 3 v (l.length + 2) xs → l.length * 3 + 3 ≤ xs.length := fun h => by have := h.1; omega
  have hfit2 : ∀ {w' : World} {e : TypeId} {v : Value} {xs : List Value}, w'.ownsRow w.heap.size e 3 v (l.length + 2) xs → (l.length + 1) * 3 + 3 ≤ xs.length := fun h => by have := h.1; omega
  have hone : ∀ v ∈ l.flatMap cE, v.oneCell' = true := one_flatE l
  go_enter Tryz.func86, Tryz.ntmps86
  go_wp2_with (first | (at_make; refine wpList_make_full _ rfl _ _ _ rfl w.heap.size _ i0 _ 3 Tryz.underlying27 hi hz0 hz1 _ _ _ _ (l.length + 2) rfl rfl (by omega) (by omega) q2.out (by unfold maxLen; omega) (Nat.le_refl _) ?_; intro w1 hrow1 hg1) | (refine wpList_copyK _ rfl _ _ _ _ rfl 49 3 w.heap.size Tryz.underlying27 hsz _ (l.length + 2) a l.length cap rfl rfl (by omega) _ hrow1 (l.flatMap cE) (flat_len cE 3 (fun _ => rfl) l) (fun h0 => src_edits (hl.grown hg1 (Classical.em _)) h0) hone ?_; intro w2 hrow2 hg2) | (go_at_call 89; refine (beyond_any _).mono ?_; rintro e w' ⟨rfl, rfl⟩) | (refine wpList_store_elem _ rfl _ _ _ rfl w.heap.size _ 3 _ _ _ _ _ (hrow2.alloc _) rfl [.string beyB, .string ⟨#[]⟩, .string ⟨#[]⟩] rfl hsz (hfit1 hrow2) (by simp [Value.oneCell']) ?_; intro w3 hrow3 hg3) | (refine wpList_store_elem _ rfl _ _ _ rfl w.heap.size _ 3 _ _ _ _ _ (hrow3.alloc _) rfl [.string beyB, .string ⟨#[]⟩, .string ⟨#[]⟩] rfl hsz (hfit2 hrow3) (by simp [Value.oneCell']) ?_; intro w4 hrow4 hg4))
  go_ret
  refine ⟨⟨_, rfl, ?_⟩, ?_⟩
  · have e := two_stores (cs := [.string beyB, .string ⟨#[]⟩, .string ⟨#[]⟩]) (k := l.length * 3) (flat_len cE 3 (fun _ => rfl) l) (T := (madeCells (Value.agg #[Value.string ⟨#[]⟩, Value.string ⟨#[]⟩, Value.string ⟨#[]⟩]).cells ((l.length + 2) * 3)).toList.drop (l.flatMap cE).length) (by have := hrow1.1; rw [List.length_drop, flat_len cE 3 (fun _ => rfl) l, this]; simp; omega)
    have e2 : (l.length + 1) * 3 = l.length * 3 + 3 := by omega
    rw [List.flatMap_append]
    rw [e2] at hrow4
    exact e ▸ hrow4
  · have hs1 := hg1.size
    have hs2 := hg2.size
    have hs3 := hg3.size
    simp at hs3
    refine Below.grown (Below.alloc (Below.grown (Below.alloc (((Below.refl _ _).grown hg1 (Nat.le_refl _) (by simp)).grown hg2 hs1 (by simp)) (by omega) _) hg3 (by simp; omega) (by simp)) (by omega) _) hg4 (by simp; omega) (by simp)
end Go.Proofs.YtgamgomepdfgdaaGreat
