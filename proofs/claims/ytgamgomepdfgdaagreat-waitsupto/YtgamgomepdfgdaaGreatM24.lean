import Derived.Test.YtgamgomepdfgdaaGreatM21
import Derived.Test.YtgamgomepdfgdaaGreatM23
import Derived.Test.YtgamgomepdfgdaaGreatM20
import Derived.Test.YtgamgomepdfgdaaGreatM14
namespace Go.Proofs.YtgamgomepdfgdaaGreat
open Go.RowKit

/-- what both machines have in common: what was done, and how it stands -/
structure Sg where
  rs : List Rc
  up : Bool
  T : List UInt8
  br : Bool
  keep : Int
/-- a record is written -/
def Sg.write (σ : Sg) (r : Rc) : Int × Sg :=
  if σ.br = false then (0, { σ with rs := σ.rs ++ [r] })
  else (8, if (r.bytes.length : Int) ≤ σ.keep then { σ with rs := σ.rs ++ [r], up := false, T := [], br := false } else { σ with up := false, T := r.bytes.take σ.keep.toNat, br := false })
/-- a call that writes a record, if there is nothing against it -/
def Sg.act (σ : Sg) (err : Int) (r : Rc) : Int × Sg := if σ.up = false then (8, σ) else if err ≠ 0 then (err, σ) else σ.write r
structure Sg.Ok (c : Cfg) (σ : Sg) : Prop where
  fits : Fits c σ.rs
  torn : TornOf σ.T
  upT : σ.up = true → σ.T = []
  downB : σ.up = false → σ.br = false
theorem torn_nil : TornOf [] := ⟨rc7, 0, rc7_ok, by omega, by simp⟩
theorem Rc.bytes_len (r : Rc) : r.bytes.length = 9 + r.body.length := by rw [Rc.bytes_eq, recB_len']
theorem allB_snoc (rs : List Rc) (r : Rc) : allB (rs ++ [r]) = allB rs ++ r.bytes := by simp [allB]
theorem allB_len : ∀ {rs : List Rc}, (∀ r ∈ rs, r.ok) → (allB rs).length ≤ rs.length * 1009
  | [], _ => by simp [allB]
  | r :: rs, h => by
    have h1 := allB_len (rs := rs) fun x hx => h x (List.mem_cons_of_mem _ hx)
    have h2 := Rc.body_lt (h r List.mem_cons_self)
    have h3 := r.bytes_len
    rw [allB, List.flatMap_cons, List.length_append, List.length_cons]
    have : (rs.flatMap Rc.bytes).length = (allB rs).length := rfl
    omega
theorem Sg.Ok.write {c : Cfg} {σ : Sg} {r : Rc} (h : σ.Ok c) (hc : c.Ok) (hu : σ.up = true) (hr : (Qs.all σ.rs).Can c r) : (σ.write r).2.Ok c := by
  unfold Sg.write
  split
  · exact ⟨.snoc h.fits hr, h.torn, h.upT, fun h' => by rw [hu] at h'; cases h'⟩
  · show Sg.Ok c (if _ then _ else _)
    split
    · exact ⟨.snoc h.fits hr, torn_nil, fun h' => (by cases h'), fun _ => rfl⟩
    · rename_i hk
      refine ⟨h.fits, ⟨r, σ.keep.toNat, hr.ok hc, ?_, by rw [Rc.bytes_eq]⟩, fun h' => (by cases h'), fun _ => rfl⟩
      rw [r.bytes_len] at hk
      omega
theorem Sg.Ok.act {c : Cfg} {σ : Sg} {r : Rc} {err : Int} (h : σ.Ok c) (hc : c.Ok) (hr : err = 0 → (Qs.all σ.rs).Can c r) : (σ.act err r).2.Ok c := by
  unfold Sg.act
  split
  · exact h
  · split
    · exact h
    · rename_i h1 h2
      exact h.write hc (by simpa using h1) (hr (by simpa using h2))

theorem FilesMap.same {w w' : World} {mb n : Nat} {g : ByteArray → ByteArray} (h : FilesMap w mb n g) (hs : w'.heap[mb]? = w.heap[mb]?) : FilesMap w' mb n g := by
  obtain ⟨D, ⟨es, clock, hh, hr⟩, h2⟩ := h
  exact ⟨D, ⟨es, clock, hs.trans hh, hr⟩, h2⟩
theorem FilesMap.lt {w : World} {mb n : Nat} {g : ByteArray → ByteArray} (h : FilesMap w mb n g) : mb < w.heap.size := by
  obtain ⟨D, ⟨es, clock, hh, hr⟩, h2⟩ := h
  exact (Array.getElem?_eq_some_iff.1 hh).1
theorem FilesMap.ne_sl {w : World} {mb n : Nat} {g : ByteArray → ByteArray} {e : TypeId} {size m : Nat} {v : Value} {xs : List Value} (h : FilesMap w mb n g) (hS : Sl w e size v m xs) : v.ownBlock ≠ some mb := fun hv => by
  obtain ⟨D, ⟨es, clock, hh, _⟩, _⟩ := h
  obtain ⟨cur, hc⟩ := hS.typed hv
  rw [hc] at hh; cases hh

/-- only X is written into; X' is X and what is new -/
structure Grows (w w' : World) (X X' : Nat → Prop) : Prop where
  only : Only w w' X
  sub : ∀ k, X' k → X k ∨ w.heap.size ≤ k
theorem Grows.of_below {w w' : World} {X : Nat → Prop} (h : Below w.heap.size w w') : Grows w w' X X := ⟨Only.of_below h, fun _ h => .inl h⟩

/-- the program's machine, up; X: its blocks -/
structure PUp (w : World) (X : Nat → Prop) (xb : Nat) (c : Cfg) (rs : List Rc) (br : Bool) (keep : Int) (n : Nat) (g : ByteArray → ByteArray) : Prop where
  ex : ∃ mb lv Y rb yb keep', FilesMap w mb n g ∧ UpIs w Y xb mb rb yb c (Qs.all rs) (allB rs) br keep' lv ∧ (br = true → keep' = keep) ∧ X mb ∧ X rb ∧ (∀ k, Y k → X k) ∧ (∀ q, lv.ownBlock = some q → X q) ∧ ¬ Y mb ∧ mb ≠ xb ∧ mb ≠ rb
  fx : X xb
  xl : ∀ k, X k → k < w.heap.size
/-- the same, down -/
structure PDown (w : World) (X : Nat → Prop) (xb : Nat) (c : Cfg) (rs : List Rc) (T : List UInt8) (n : Nat) (g : ByteArray → ByteArray) : Prop where
  ex : ∃ mb lv, FilesMap w mb n g ∧ DownIs w xb mb c (allB rs ++ T) lv ∧ X mb ∧ (∀ q, lv.ownBlock = some q → X q) ∧ mb ≠ xb
  fx : X xb
  xl : ∀ k, X k → k < w.heap.size
def ProgIs (w : World) (X : Nat → Prop) (xb : Nat) (c : Cfg) (σ : Sg) (n : Nat) (g : ByteArray → ByteArray) : Prop :=
  (σ.up = true ∧ PUp w X xb c σ.rs σ.br σ.keep n g) ∨ (σ.up = false ∧ PDown w X xb c σ.rs σ.T n g)
theorem PUp.kept {w w' : World} {X : Nat → Prop} {xb : Nat} {c : Cfg} {rs : List Rc} {br : Bool} {keep : Int} {n : Nat} {g : ByteArray → ByteArray} (h : PUp w X xb c rs br keep n g) (hs : w.heap.size ≤ w'.heap.size) (hk : ∀ k, X k → w'.heap[k]? = w.heap[k]?) : PUp w' X xb c rs br keep n g := by
  obtain ⟨mb, lv, Y, rb, yb, keep', hM, hU, he, h1, h2, h3, h4, h5⟩ := h.ex
  exact ⟨⟨mb, lv, Y, rb, yb, keep', hM.same (hk mb h1), ⟨(hk xb h.fx).trans hU.box, (hk rb h2).trans hU.run, hU.log.kept fun q hq => hk q (h4 q hq), hU.yard.kept fun k _ hY => hk k (h3 k hY), hU.nx, hU.nr, hU.nl, fun k hY => Nat.lt_of_lt_of_le (hU.yl k hY) hs⟩, he, h1, h2, h3, h4, h5⟩, h.fx, fun k hX => Nat.lt_of_lt_of_le (h.xl k hX) hs⟩
theorem PDown.kept {w w' : World} {X : Nat → Prop} {xb : Nat} {c : Cfg} {rs : List Rc} {T : List UInt8} {n : Nat} {g : ByteArray → ByteArray} (h : PDown w X xb c rs T n g) (hs : w.heap.size ≤ w'.heap.size) (hk : ∀ k, X k → w'.heap[k]? = w.heap[k]?) : PDown w' X xb c rs T n g := by
  obtain ⟨mb, lv, hM, hD, h1, h2, h3⟩ := h.ex
  exact ⟨⟨mb, lv, hM.same (hk mb h1), ⟨(hk xb h.fx).trans hD.box, hD.log.kept fun q hq => hk q (h2 q hq)⟩, h1, h2, h3⟩, h.fx, fun k hX => Nat.lt_of_lt_of_le (h.xl k hX) hs⟩
theorem ProgIs.xl {w : World} {X : Nat → Prop} {xb : Nat} {c : Cfg} {σ : Sg} {n : Nat} {g : ByteArray → ByteArray} (h : ProgIs w X xb c σ n g) : ∀ k, X k → k < w.heap.size := by
  rcases h with ⟨_, h⟩ | ⟨_, h⟩
  · exact h.xl
  · exact h.xl
theorem ProgIs.kept {w w' : World} {X : Nat → Prop} {xb : Nat} {c : Cfg} {σ : Sg} {n : Nat} {g : ByteArray → ByteArray} (h : ProgIs w X xb c σ n g) (hs : w.heap.size ≤ w'.heap.size) (hk : ∀ k, X k → w'.heap[k]? = w.heap[k]?) : ProgIs w' X xb c σ n g := by
  rcases h with ⟨hu, h⟩ | ⟨hu, h⟩
  · exact .inl ⟨hu, h.kept hs hk⟩
  · exact .inr ⟨hu, h.kept hs hk⟩
theorem ProgIs.later {w w' : World} {X : Nat → Prop} {xb : Nat} {c : Cfg} {σ : Sg} {n : Nat} {g : ByteArray → ByteArray} (h : ProgIs w X xb c σ n g) (hb : Below w.heap.size w w') : ProgIs w' X xb c σ n g := h.kept hb.size fun k hk => hb.block k (h.xl k hk)
theorem ProgIs.only {w w' : World} {X S : Nat → Prop} {xb : Nat} {c : Cfg} {σ : Sg} {n : Nat} {g : ByteArray → ByteArray} (h : ProgIs w X xb c σ n g) (hO : Only w w' S) (hn : ∀ k, X k → ¬ S k) : ProgIs w' X xb c σ n g := h.kept hO.size fun k hk => hO.block k (h.xl k hk) (hn k hk)

/-- the program did something, and answered -/
def PDid (w w' : World) (e : Ending) (X : Nat → Prop) (xb : Nat) (c : Cfg) (n : Nat) (g : ByteArray → ByteArray) (a : Int × Sg) : Prop := e = .returned (.int .i64 a.1) ∧ ∃ X', ProgIs w' X' xb c a.2 n g ∧ Grows w w' X X'
theorem PDid.same {w w' : World} {X : Nat → Prop} {xb : Nat} {c : Cfg} {n : Nat} {g : ByteArray → ByteArray} {k : Int} {σ : Sg} (h : ProgIs w X xb c σ n g) (hb : Below w.heap.size w w') : PDid w w' (.returned (.int .i64 k)) X xb c n g (k, σ) := ⟨rfl, X, h.later hb, Grows.of_below hb⟩

set_option maxHeartbeats 1000000 in
theorem pAct (X : Nat → Prop) (xb : Nat) (c : Cfg) (σ : Sg) (n : Nat) (g : ByteArray → ByteArray) (kind lane id num : Int) (pass : Bool) (ea : Option Addr) (en ec : Nat) (r : Rc) (err : Int) (w : World) (hP : ProgIs w X xb c σ n g) (hσ : σ.Ok c) (hc : c.Ok) (hn : σ.rs.length < 1048576) (hcan : err = 0 → (Qs.all σ.rs).Can c r)
    (hC : ∀ W Y yb mb, Below w.heap.size w W → YardAt W Y yb mb c (Qs.all σ.rs) → Calls Tryz.prog 110 #[.pointer (some ⟨yb, 0, none⟩), .agg #[.int .i64 kind, .int .i64 lane, .slice ea en ec, .int .i64 id, .bool pass, .int .i64 num]] W fun e W' => e = .returned (.int .i64 err) ∧ Below W.heap.size W W')
    (hY : err = 0 → ∀ W, Below w.heap.size w W → Calls Tryz.prog 112 #[.agg #[.int .i64 kind, .int .i64 lane, .slice ea en ec, .int .i64 id, .bool pass, .int .i64 num]] W fun e W' => ∃ v', e = .returned v' ∧ Fresh W W' v' r.bytes)
    (hD : err = 0 → ∀ W Y yb mb, Only w W X → YardAt W Y yb mb c (Qs.all σ.rs) → Calls Tryz.prog 76 #[.pointer (some ⟨yb, 0, none⟩), .agg #[.int .i64 kind, .int .i64 lane, .slice ea en ec, .int .i64 id, .bool pass, .int .i64 num]] W fun e W' => e = .returned (.tuple #[]) ∧ YardAt W' (Plus Y W) yb mb c ((Qs.all σ.rs).does r) ∧ Only W W' Y) :
    Calls Tryz.prog 73 #[.pointer (some ⟨xb, 0, none⟩), .agg #[.int .i64 kind, .int .i64 lane, .slice ea en ec, .int .i64 id, .bool pass, .int .i64 num]] w fun e w' => PDid w w' e X xb c n g (σ.act err r) := by
  have hal := allB_len (hσ.fits.ok hc)
  rcases hP with ⟨hu, hP⟩ | ⟨hu, hP⟩
  · have HP : ProgIs w X xb c σ n g := .inl ⟨hu, hP⟩
    obtain ⟨mb, lv, Y, rb, yb, keep', hM, hU, hke, h1, h2, h3, h4, h5, h6, h7⟩ := hP.ex
    by_cases he : err = 0
    · subst he
      have hCan := hcan rfl
      have hbl := Rc.body_lt (hCan.ok hc)
      have hbl2 := r.bytes_len
      have keepM : ∀ {w' : World}, Only w w' (fun k => Y k ∨ k = xb ∨ lv.ownBlock = some k) → FilesMap w' mb n g := fun hO => hM.same (hO.block mb hM.lt (fun e => by
        rcases e with e | e | e
        · exact h5 e
        · exact h6 e
        · exact hM.ne_sl hU.log e))
      have hC' : ∀ W, Below w.heap.size w W → Calls Tryz.prog 110 #[.pointer (some ⟨yb, 0, none⟩), .agg #[.int .i64 kind, .int .i64 lane, .slice ea en ec, .int .i64 id, .bool pass, .int .i64 num]] W fun e W' => e = .returned (.int .i64 0) ∧ Below W.heap.size W W' := fun W hW => hC W Y yb mb hW (hU.yard.later hW)
      by_cases hb : σ.br = false
      · have ea' : σ.act 0 r = (0, { σ with rs := σ.rs ++ [r] }) := by simp [Sg.act, Sg.write, hu, hb]
        rw [ea']
        rw [hb] at hU
        refine (mAct_ok Y xb mb rb yb c _ ((Qs.all σ.rs).does r) _ r.bytes keep' lv kind lane id num pass ea en ec w hU (by omega) (by omega) hC' (hY rfl) (fun W hO hYd => hD rfl W Y yb mb (hO.mono fun k hk => ?_) hYd)).mono ?_
        · rcases hk with hk | hk
          · rw [hk]; exact hP.fx
          · exact h4 k hk
        · rintro e w' ⟨rfl, ⟨Y', lv', hU', hYs, hls⟩, hO⟩
          have hs := hO.size
          refine ⟨rfl, Upto X w w', .inl ⟨hu, ⟨⟨mb, lv', Y', rb, yb, keep', keepM hO, ?_, ?_, .inl h1, .inl h2, fun k hk => ?_, fun q hq => ?_, fun h => ?_, h6, h7⟩, .inl hP.fx, ?_⟩⟩, hO.mono fun k hk => ?_, fun k hk => ?_⟩
          · show UpIs w' Y' xb mb rb yb c (Qs.all (σ.rs ++ [r])) (allB (σ.rs ++ [r])) σ.br keep' lv'
            rw [Qs.all_snoc, allB_snoc, hb]; exact hU'
          · exact hke
          · rcases hYs k hk with h | h
            · exact .inl (h3 k h)
            · exact .inr ⟨h, hU'.yl k hk⟩
          · rcases hls with h | ⟨q', h, hl⟩
            · rw [h] at hq; exact .inl (h4 q hq)
            · exact .inr ⟨by rw [h] at hq; cases hq; exact hl, hU'.log.lt hq⟩
          · rcases hYs mb h with h | h
            · exact h5 h
            · have := hM.lt; omega
          · rintro k (hk | hk)
            · have := hP.xl k hk; omega
            · exact hk.2
          · rcases hk with hk | hk | hk
            · exact h3 k hk
            · rw [hk]; exact hP.fx
            · exact h4 k hk
          · exact hk.imp (fun h => h) (fun h => h.1)
      · have hb : σ.br = true := by simpa using hb
        have hk0 := hke hb
        rw [hb] at hU
        subst hk0
        obtain ⟨k, hk⟩ : ∃ k : Nat, (k : Int) = max 0 (min σ.keep r.bytes.length) := ⟨(max 0 (min σ.keep r.bytes.length)).toNat, by omega⟩
        refine (mAct_br Y xb mb rb yb c _ _ r.bytes σ.keep lv kind lane id num pass ea en ec w hU (by omega) (by omega) hC' (hY rfl) k hk).mono ?_
        rintro e w' ⟨rfl, ⟨lv', hD', hls⟩, hO⟩
        have hs := hO.size
        have hO' : Only w w' (fun k => Y k ∨ k = xb ∨ lv.ownBlock = some k) := hO.mono fun k hk => .inr hk
        have hO2 : Only w w' X := hO.mono fun k hk => by
          rcases hk with hk | hk
          · rw [hk]; exact hP.fx
          · exact h4 k hk
        have lvX : ∀ q, lv'.ownBlock = some q → Upto X w w' q := fun q hq => by
          rcases hls with h | ⟨q', h, hl⟩
          · rw [h] at hq; exact .inl (h4 q hq)
          · exact .inr ⟨by rw [h] at hq; cases hq; exact hl, hD'.log.lt hq⟩
        have bound : ∀ k, Upto X w w' k → k < w'.heap.size := by
          rintro k (hk | hk)
          · have := hP.xl k hk; omega
          · exact hk.2
        have sub : ∀ k, Upto X w w' k → X k ∨ w.heap.size ≤ k := fun k hk => hk.imp (fun h => h) (fun h => h.1)
        by_cases hkl : (r.bytes.length : Int) ≤ σ.keep
        · have ea' : σ.act 0 r = (8, { σ with rs := σ.rs ++ [r], up := false, T := [], br := false }) := by simp [Sg.act, Sg.write, hu, hb, hkl]
          rw [ea']
          have hkk : k = r.bytes.length := by omega
          rw [hkk, List.take_length] at hD'
          refine ⟨rfl, Upto X w w', .inr ⟨rfl, ⟨⟨mb, lv', keepM hO', ?_, .inl h1, lvX, h6⟩, .inl hP.fx, bound⟩⟩, hO2, sub⟩
          show DownIs w' xb mb c (allB (σ.rs ++ [r]) ++ []) lv'
          rw [allB_snoc, List.append_nil]; exact hD'
        · have ea' : σ.act 0 r = (8, { σ with up := false, T := r.bytes.take σ.keep.toNat, br := false }) := by simp [Sg.act, Sg.write, hu, hb, hkl]
          rw [ea']
          have hkk : k = σ.keep.toNat := by omega
          rw [hkk] at hD'
          exact ⟨rfl, Upto X w w', .inr ⟨rfl, ⟨⟨mb, lv', keepM hO', hD', .inl h1, lvX, h6⟩, .inl hP.fx, bound⟩⟩, hO2, sub⟩
    · have ea' : σ.act err r = (err, σ) := by simp [Sg.act, hu, he]
      rw [ea']
      refine (mAct_no Y xb mb rb yb c _ _ σ.br keep' lv kind lane id num pass ea en ec err he w hU (fun W hW => hC W Y yb mb hW (hU.yard.later hW))).mono ?_
      rintro e w' ⟨rfl, hb⟩
      exact .same HP hb
  · have ea' : σ.act err r = (8, σ) := by simp [Sg.act, hu]
    rw [ea']
    have HP : ProgIs w X xb c σ n g := .inr ⟨hu, hP⟩
    obtain ⟨mb, lv, hM, hDn, _⟩ := hP.ex
    refine (mAct_down xb mb c _ lv kind lane id num pass ea en ec w hDn).mono ?_
    rintro e w' ⟨rfl, hb⟩
    exact .same HP hb
end Go.Proofs.YtgamgomepdfgdaaGreat

namespace Go.Proofs.YtgamgomepdfgdaaGreat
open Go.RowKit

set_option maxRecDepth 100000 in
set_option maxHeartbeats 2000000 in
theorem mPoll_none (Y : Nat → Prop) (xb mb rb yb : Nat) (c : Cfg) (s : Qs) (L : List UInt8) (br : Bool) (keep : Int) (lv : Value) (w : World) (hU : UpIs w Y xb mb rb yb c s L br keep lv) (ha : s.acked = s.outs.length) :
    Calls Tryz.prog 77 #[.pointer (some ⟨xb, 0, none⟩)] w fun e w' => e = .returned (.tuple #[.agg #[.int .i64 0, .int .i64 0, .int .i64 0], .int .i64 5]) ∧ Below w.heap.size w w' := by
  have hO := yOldest_none Y yb mb c s (w.alloc (.cells #[.int .i64 0, .int .i64 0, .int .i64 0] 99)) (hU.yard.later (below_new _ _)) ha
  have c9 : w.cell? ⟨xb, 9, none⟩ = some (.pointer (some ⟨rb, 0, none⟩)) := hU.box.cell (i := 9) rfl
  have r0 : w.cell? ⟨rb, 0, none⟩ = some (.pointer (some ⟨yb, 0, none⟩)) := hU.run.cell (i := 0) rfl
  have hxl := hU.box.lt
  have hrl := hU.run.lt
  clear hU
  go_enter Tryz.func77, Tryz.ntmps77
  go_wp2_with fail
  go_fit hO
  rintro e w1 ⟨rfl, hb1⟩
  have B1 : Bx w1 w.heap.size 99 #[.int .i64 0, .int .i64 0, .int .i64 0] := (hb1.block _ (by simp)).trans (Bx.new w #[.int .i64 0, .int .i64 0, .int .i64 0] 99)
  have hlt : w.heap.size < w1.heap.size := B1.lt
  have fr : ∀ i, w1.frozen? ⟨w.heap.size, i, none⟩ = false := fun i => B1.fr i
  have d0 : w1.cell? ⟨w.heap.size, 0, none⟩ = some (.int .i64 0) := B1.cell (i := 0) rfl
  have d1 : w1.cell? ⟨w.heap.size, 1, none⟩ = some (.int .i64 0) := B1.cell (i := 1) rfl
  have d2 : w1.cell? ⟨w.heap.size, 2, none⟩ = some (.int .i64 0) := B1.cell (i := 2) rfl
  have HB1 : Hid (Bx w1 w.heap.size 99 #[.int .i64 0, .int .i64 0, .int .i64 0]) := B1
  have HB : Hid (Below w.heap.size w w1) := (below_new _ _).trans (hb1.mono (by simp))
  clear hb1 hO B1
  go_wp2_with fail
  have BW := ((HB1.out.set 0 (.int .i64 0)).set 1 (.int .i64 0)).set 2 (.int .i64 0)
  simp only [List.setIfInBounds_toArray, List.set_cons_zero, List.set_cons_succ] at BW
  have HW := below_set (below_set (below_set HB.out (Nat.le_refl _) 0 (.int .i64 0)) (Nat.le_refl _) 1 (.int .i64 0)) (Nat.le_refl _) 2 (.int .i64 0)
  generalize ((w1.setCell ⟨w.heap.size, 0, none⟩ (.int .i64 0)).setCell ⟨w.heap.size, 1, none⟩ (.int .i64 0)).setCell ⟨w.heap.size, 2, none⟩ (.int .i64 0) = W at *
  have BW2 := BW.mk (.cells #[.int .i64 0, .int .i64 0, .int .i64 0] 99)
  have e0 := BW2.cell (i := 0) (v := .int .i64 0) rfl
  have e1 := BW2.cell (i := 1) (v := .int .i64 0) rfl
  have e2 := BW2.cell (i := 2) (v := .int .i64 0) rfl
  have HW2 := HW.trans ((below_new W (.cells #[.int .i64 0, .int .i64 0, .int .i64 0] 99)).mono HW.size)
  exact bodyPost_ret (v := .tuple #[.agg #[.int .i64 0, .int .i64 0, .int .i64 0], .int .i64 5]) (by simp [results, Tryz.results77, go_sem, e0, e1, e2]) rfl ⟨rfl, HW2⟩

set_option maxRecDepth 100000 in
set_option maxHeartbeats 2000000 in
theorem mPoll_some (Y : Nat → Prop) (xb mb rb yb : Nat) (c : Cfg) (s : Qs) (L : List UInt8) (br : Bool) (keep : Int) (lv : Value) (w : World) (hU : UpIs w Y xb mb rb yb c s L br keep lv) (ha : s.acked < s.outs.length) :
    Calls Tryz.prog 77 #[.pointer (some ⟨xb, 0, none⟩)] w fun e w' => e = .returned (.tuple #[.agg #[.int .i64 ((s.acked : Int) + 1), .int .i64 (s.outs[s.acked]'ha).1, .int .i64 (s.outs[s.acked]'ha).2], .int .i64 0]) ∧ Below w.heap.size w w' := by
  have hO := yOldest_some Y yb mb c s (w.alloc (.cells #[.int .i64 0, .int .i64 0, .int .i64 0] 99)) (hU.yard.later (below_new _ _)) ha
  generalize s.outs[s.acked]'ha = o at hO ⊢
  have c9 : w.cell? ⟨xb, 9, none⟩ = some (.pointer (some ⟨rb, 0, none⟩)) := hU.box.cell (i := 9) rfl
  have r0 : w.cell? ⟨rb, 0, none⟩ = some (.pointer (some ⟨yb, 0, none⟩)) := hU.run.cell (i := 0) rfl
  have hxl := hU.box.lt
  have hrl := hU.run.lt
  clear hU
  go_enter Tryz.func77, Tryz.ntmps77
  go_wp2_with fail
  go_fit hO
  rintro e w1 ⟨rfl, hb1⟩
  have B1 : Bx w1 w.heap.size 99 #[.int .i64 0, .int .i64 0, .int .i64 0] := (hb1.block _ (by simp)).trans (Bx.new w #[.int .i64 0, .int .i64 0, .int .i64 0] 99)
  have hlt : w.heap.size < w1.heap.size := B1.lt
  have fr : ∀ i, w1.frozen? ⟨w.heap.size, i, none⟩ = false := fun i => B1.fr i
  have d0 : w1.cell? ⟨w.heap.size, 0, none⟩ = some (.int .i64 0) := B1.cell (i := 0) rfl
  have d1 : w1.cell? ⟨w.heap.size, 1, none⟩ = some (.int .i64 0) := B1.cell (i := 1) rfl
  have d2 : w1.cell? ⟨w.heap.size, 2, none⟩ = some (.int .i64 0) := B1.cell (i := 2) rfl
  have HB1 : Hid (Bx w1 w.heap.size 99 #[.int .i64 0, .int .i64 0, .int .i64 0]) := B1
  have HB : Hid (Below w.heap.size w w1) := (below_new _ _).trans (hb1.mono (by simp))
  clear hb1 hO B1
  go_wp2_with fail
  have BW := ((HB1.out.set 0 (.int .i64 ((s.acked : Int) + 1))).set 1 (.int .i64 o.1)).set 2 (.int .i64 o.2)
  simp only [List.setIfInBounds_toArray, List.set_cons_zero, List.set_cons_succ] at BW
  have HW := below_set (below_set (below_set HB.out (Nat.le_refl _) 0 (.int .i64 ((s.acked : Int) + 1))) (Nat.le_refl _) 1 (.int .i64 o.1)) (Nat.le_refl _) 2 (.int .i64 o.2)
  generalize ((w1.setCell ⟨w.heap.size, 0, none⟩ (.int .i64 ((s.acked : Int) + 1))).setCell ⟨w.heap.size, 1, none⟩ (.int .i64 o.1)).setCell ⟨w.heap.size, 2, none⟩ (.int .i64 o.2) = W at *
  have BW2 := BW.mk (.cells #[.int .i64 ((s.acked : Int) + 1), .int .i64 o.1, .int .i64 o.2] 99)
  have e0 := BW2.cell (i := 0) (v := .int .i64 ((s.acked : Int) + 1)) rfl
  have e1 := BW2.cell (i := 1) (v := .int .i64 o.1) rfl
  have e2 := BW2.cell (i := 2) (v := .int .i64 o.2) rfl
  have HW2 := HW.trans ((below_new W (.cells #[.int .i64 ((s.acked : Int) + 1), .int .i64 o.1, .int .i64 o.2] 99)).mono HW.size)
  exact bodyPost_ret (v := .tuple #[.agg #[.int .i64 ((s.acked : Int) + 1), .int .i64 o.1, .int .i64 o.2], .int .i64 0]) (by simp [results, Tryz.results77, go_sem, e0, e1, e2]) rfl ⟨rfl, HW2⟩
end Go.Proofs.YtgamgomepdfgdaaGreat

namespace Go.Proofs.YtgamgomepdfgdaaGreat
open Go.RowKit

def laneOf (age : Nat) (x : Pw) : Nat := x.1.lane - x.1.passed / age

set_option maxRecDepth 100000 in
set_option maxHeartbeats 1000000 in
theorem yLane (age i l p o : Nat) (ea : Option Addr) (en ec : Nat) (w : World) (ha : 1 ≤ age ∧ age < 9) (hl : l < 1000) (hp : p < 4611686018427387904) :
    Calls Tryz.prog 297 #[.agg #[.int .i64 i, .int .i64 l, .int .i64 p, .int .i64 age, .int .i64 o, .slice ea en ec]] w fun e w' => e = .returned (.int .i64 ((l - p / age : Nat) : Int)) ∧ Below w.heap.size w w' ∧ w.drawn ≤ w'.drawn := by
  have hne : ((age : Int) == 0) = false := by simp; omega
  obtain ⟨d, hd⟩ : ∃ d, d = p / age := ⟨_, rfl⟩
  have hq : Int.tdiv (p : Int) (age : Int) = (d : Int) := by rw [hd, Int.ofNat_tdiv]
  have hq2 : (p : Int) / (age : Int) = (d : Int) := by rw [hd, Int.natCast_ediv]
  have hb : d ≤ p := by rw [hd]; exact Nat.div_le_self _ _
  rw [← hd]
  clear hd
  have hw : IntKind.i64.wrap ((l : Int) - d) = (l : Int) - d := wrap_i64 (by omega) (by omega)
  have hw2 : wrap64 ((l : Int) - d) = (l : Int) - d := by unfold wrap64; omega
  have hmx : max 0 ((l : Int) - d) = ((l - d : Nat) : Int) := by omega
  have X0 := Bx.new w #[.int .i64 i, .int .i64 l, .int .i64 p, .int .i64 age, .int .i64 o, .slice ea en ec] 193
  have x1 := X0.cell (i := 1) (v := .int .i64 l) rfl
  have x2 := X0.cell (i := 2) (v := .int .i64 p) rfl
  have x3 := X0.cell (i := 3) (v := .int .i64 age) rfl
  clear X0
  go_enter Tryz.func297, Tryz.ntmps297
  go_upto_region 1 with fail
  go_region_held_law (fun w' => w'.cell? ⟨w.heap.size, 1, none⟩ = some (.int .i64 l) ∧ w'.cell? ⟨w.heap.size, 2, none⟩ = some (.int .i64 p) ∧ w'.cell? ⟨w.heap.size, 3, none⟩ = some (.int .i64 age)) (go_keep) (fail)
  all_goals
    go_wp2_with fail
    go_ret
    refine ⟨?_, below_new_drew _ _, Nat.le_succ _⟩
    first | rfl | (rw [← hmx]; rfl) | (rw [← hmx])
end Go.Proofs.YtgamgomepdfgdaaGreat
