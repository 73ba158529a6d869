import Derived.Test.YtgamgomepdfgdaaGreatM08
import Derived.Test.YtgamgomepdfgdaaGreatM05
import Derived.Test.YtgamgomepdfgdaaGreatM04
namespace Go.Proofs.YtgamgomepdfgdaaGreat
open Go.RowKit

/-- what readBody gives of a record, at worlds from the size B on -/
abbrev BackQ := Nat → World → Nat → Value → Nat → Bool → Nat → Prop
def BackTo (kind : Nat) (body : List UInt8) (Q : BackQ) : Prop :=
  (∀ W u, BV W u body → Calls Tryz.prog 166 #[.int .i64 kind, u] W fun e W' => (∃ (l : Nat) (ea : Option Addr) (en ec i : Nat) (p : Bool) (q : Nat), e = .returned (.agg #[.int .i64 kind, .int .i64 l, .slice ea en ec, .int .i64 i, .bool p, .int .i64 q]) ∧ Q W.heap.size W' l (.slice ea en ec) i p q) ∧ Below W.heap.size W W') ∧
  ∀ B W b o u l ev i p q, b < B → Q B W l ev i p q → Q B (W.setCell ⟨b, o, none⟩ u) l ev i p q

set_option maxRecDepth 100000 in
set_option maxHeartbeats 4000000 in
/-- a whole record is read back -/
theorem record_whole (cb : Nat) (v : Value) (kind : Nat) (body rest R : List UInt8) (Q : BackQ) (w : World) (hC : Cur w cb v false) (hV : BV w v R) (hk : kind < 256) (hb : body.length < 1000) (hR : R = recB kind body ++ rest) (hB : Hid (BackTo kind body Q)) :
    Calls Tryz.prog 113 #[.pointer (some ⟨cb, 0, none⟩)] w fun e w' => (∃ (l : Nat) (ea : Option Addr) (en ec i : Nat) (p : Bool) (q B : Nat), e = .returned (.tuple #[.agg #[.int .i64 kind, .int .i64 l, .slice ea en ec, .int .i64 i, .bool p, .int .i64 q], .bool true]) ∧ w.heap.size < B ∧ Q B w' l (.slice ea en ec) i p q) ∧ (∃ v', Cur w' cb v' false ∧ BV w' v' rest ∧ v'.ownBlock = v.ownBlock) ∧ w.grownBy w' (some cb) := by
  obtain ⟨a, c, rfl, hc1, hc2, hc3⟩ := hV.len
  have hcl : cb < w.heap.size := (Array.getElem?_eq_some_iff.1 hC).1
  have C0 : Cur (w.alloc (.cells zeroR 140)) cb (.slice a R.length c) false := hC.grown (World.grownBy_alloc _ _ _)
  have V0 : BV (w.alloc (.cells zeroR 140)) (.slice a R.length c) R := hV.grown (World.grownBy_alloc _ _ _)
  have c0 := hC.c0
  have h1 := num8 cb _ false R _ C0 V0
  have HR : Hid (R = recB kind body ++ rest) := hR
  have hvb : Hid (∀ b, w.heap.size ≤ b → (Value.slice a R.length c).ownBlock ≠ some b) := fun b hb => by
    rcases hV with ⟨_, h⟩ | ⟨g, off, cap, h, _, _, hg, _⟩
    · rw [h]; simp [Value.ownBlock]
    · rw [h]; intro e
      have : g = b := by simpa [Value.ownBlock] using e
      omega
  clear hR hC hV
  go_enter Tryz.func113, Tryz.ntmps113
  go_wp2_with fail
  go_fit h1
  rintro e w1 ⟨x, rfl, hr1⟩
  obtain ⟨v1, s1, R1, ⟨k1C, k1V, k1o, k1g, k1⟩, hx⟩ := hr1.next
  have A1 := V0.keep C0 ⟨_, _, _, rfl⟩ k1g
  have h2 := num32 cb v1 s1 R1 w1 k1C k1V
  clear h1 hr1
  go_wp2_with fail
  go_fit h2
  rintro e w2 ⟨y, rfl, hr2⟩
  obtain ⟨v2, s2, R2, ⟨k2C, k2V, k2o, k2g, k2⟩, hy⟩ := hr2.next
  have A2 := A1.keep k1C k1V.form k2g
  have hy32 : y < 4294967296 := by
    rcases hy with ⟨h, h'⟩ | ⟨_, h'⟩
    · rw [h']; exact val_lt 4 _ (by rw [List.length_take, Nat.min_eq_left h])
    · rw [h']; decide
  have hwy : IntKind.u64.wrap (y : Int) = y := wrap_u64 (by omega) (by omega)
  have h3 := take_any cb y v2 s2 R2 w2 k2C k2V (by omega)
  clear h2 hr2
  go_wp2_with fail
  go_fit h3
  rintro e w3 hr3
  obtain ⟨u, v3, s3, R3, rfl, ⟨ua, un, uc, rfl⟩, ⟨k3C, k3V, k3o, k3g, k3⟩, hU⟩ := hr3.next
  have A3 := A2.keep k2C k2V.form k3g
  obtain ⟨a3, c3, rfl, hd1, hd2, hd3⟩ := k3V.len
  have h4 := num32 cb _ s3 R3 w3 k3C k3V
  have l3 : R3.length ≤ R.length := by
    have i1 : R1.length ≤ R.length := by rcases k1 with ⟨_, h, _⟩ | ⟨_, h, _⟩ <;> rw [h] <;> simp
    have i2 : R2.length ≤ R1.length := by rcases k2 with ⟨_, h, _⟩ | ⟨_, h, _⟩ <;> rw [h] <;> simp
    have i3 : R3.length ≤ R2.length := by rcases k3 with ⟨_, h, _⟩ | ⟨_, h, _⟩ <;> rw [h] <;> simp
    omega
  have p0 := k3C.c0
  have hsub : ((R.length : Int) - (R3.length : Int)) = ((R.length - R3.length : Nat) : Int) := by omega
  have hne : (some w.heap.size : Option Nat) ≠ some cb := by simp; omega
  have X3 : Hid (Bx w3 w.heap.size 140 zeroR) := (((Bx.new w zeroR _).grown k1g hne).grown k2g hne).grown k3g hne
  have G3 : Hid (w.grownBy w3 (some cb)) := (((World.grownBy_alloc w _ (some cb)).trans k1g).trans k2g).trans k3g
  have K3 : Hid (Cur w3 cb (.slice a3 R3.length c3) s3) := k3C
  have V3 : Hid (BV w3 (.slice a3 R3.length c3) R3) := k3V
  have O3 : Hid ((Value.slice a3 R3.length c3).ownBlock = (Value.slice a R.length c).ownBlock) := k3o.trans (k2o.trans k1o)
  have VA : Hid (BV w3 (.slice a R.length c) R) := A3
  have VU : Hid (y ≤ R2.length → BV w3 (.slice ua un uc) (R2.take y)) := hU
  have E1 : Hid _ := k1
  have EX : Hid _ := hx
  have E2 : Hid _ := k2
  have E3 : Hid _ := k3
  have EY : Hid _ := hy
  clear h3 hr3 k1C k1V k1o k1g k2C k2V k2o k2g k3C k3V k3o k3g k1 k2 k3 hy hx A1 A2 A3 V0 C0 hU
  go_wp2_with fail
  go_fit h4
  rintro e w4 ⟨z, rfl, hr4⟩
  obtain ⟨v4, s4, R4, ⟨k4C, k4V, k4o, k4g, k4⟩, hz⟩ := hr4.next
  obtain ⟨ex, ey, hyl, eb, ez, er, rfl, el, _, et⟩ := whole_read hk hb HR.out E1.out EX.out E2.out EY.out E3.out k4 hz
  have q1 := k4C.c1
  have W4 : BV w4 (.slice a (5 + body.length) c) (be 1 kind ++ be 4 body.length ++ body) := by
    have := (VA.out.keep K3.out ⟨_, _, _, rfl⟩ k4g).cut (k := 5 + body.length) (by omega)
    rwa [et] at this
  have hS := csum_any _ _ w4 W4.at (by rw [recB_len]; omega)
  have U4 : Hid (BV w4 (.slice ua un uc) body) := by
    have := VU.out hyl
    rw [eb] at this
    exact this.keep K3.out ⟨_, _, _, rfl⟩ k4g
  have X4 : Hid (Bx w4 w.heap.size 140 zeroR) := X3.out.grown k4g hne
  have G4 : Hid (w.grownBy w4 (some cb)) := G3.out.trans k4g
  have K4 : Hid (∃ v4, Cur w4 cb v4 false ∧ BV w4 v4 rest ∧ v4.ownBlock = (Value.slice a R.length c).ownBlock) := ⟨v4, k4C, by rw [← er]; exact k4V, k4o.trans O3.out⟩
  subst ex
  subst ez
  rw [el] at *
  clear el
  have hkw : wrap64 (x : Int) = x := by unfold wrap64; omega
  have hRB := hB.out.1 w4 (.slice ua un uc) U4.out
  clear h4 hr4 k4C k4V k4o k4g k4 hz E1 EX E2 E3 EY HR VU VA V3 K3 G3 X3 O3 W4 U4
  clear ey eb er et hyl hwy hy32 hsub l3 p0 c0 hc1 hc2 hc3 hd1 hd2 hd3
  generalize adler (be 1 x ++ be 4 body.length ++ body) = S at hS ⊢
  go_wp2_with fail
  go_fit hS
  rintro e w' ⟨rfl, rfl⟩
  clear hS
  go_wp2_with fail
  go_fit hRB
  rintro e w5 ⟨⟨l, ea, en, ec, i, p, q, rfl, hQ⟩, hb5⟩
  have hg5 : w4.grownBy w5 none := ⟨hb5.os, hb5.tape, hb5.output, hb5.size, fun k hk _ => hb5.block k hk⟩
  have X5 : Bx w5 w.heap.size 140 zeroR := X4.out.grown hg5 (by simp)
  have K5 : Hid (∃ v5, Cur w5 cb v5 false ∧ BV w5 v5 rest ∧ v5.ownBlock = (Value.slice a R.length c).ownBlock) := by
    obtain ⟨v5, g1, g2, g3⟩ := K4.out
    exact ⟨v5, g1.grown hg5, g2.grown hg5, g3⟩
  have G5 : Hid (w.grownBy w5 (some cb)) := G4.out.trans ⟨hb5.os, hb5.tape, hb5.output, hb5.size, fun k hk _ => hb5.block k hk⟩
  have HQ : Hid (Q w4.heap.size w5 l (.slice ea en ec) i p q) := hQ
  have hB4 : w.heap.size < w4.heap.size := X4.out.lt
  have n0 := X5.cell (i := 0) rfl
  have n1 := X5.cell (i := 1) rfl
  have n2 := X5.cell (i := 2) rfl
  have n3 := X5.cell (i := 3) rfl
  have n4 := X5.cell (i := 4) rfl
  have n5 := X5.cell (i := 5) rfl
  have nf := X5.fr
  have HX5 : Hid (Bx w5 w.heap.size 140 zeroR) := X5
  have hcn : w.heap.size ≠ cb := by omega
  clear hQ hb5 hg5 X5 hRB G4 K4 X4
  go_wp2
  have hz := Bx.set6 HX5.out (.int .i64 x) (.int .i64 l) (.slice ea en ec) (.int .i64 i) (.bool p) (.int .i64 q)
  have z0 := hz.cell (i := 0) rfl
  have z1 := hz.cell (i := 1) rfl
  have z2 := hz.cell (i := 2) rfl
  have z3 := hz.cell (i := 3) rfl
  have z4 := hz.cell (i := 4) rfl
  have z5 := hz.cell (i := 5) rfl
  refine bodyPost_ret (v := .tuple #[.agg #[.int .i64 x, .int .i64 l, .slice ea en ec, .int .i64 i, .bool p, .int .i64 q], .bool true]) (by simp [results, Tryz.results113, go_sem, z0, z1, z2, z3, z4, z5]) rfl ⟨⟨l, ea, en, ec, i, p, q, w4.heap.size, rfl, hB4, ?_⟩, ?_, ?_⟩
  · have st := hB.out.2
    exact st _ _ _ _ _ _ _ _ _ _ hB4 (st _ _ _ _ _ _ _ _ _ _ hB4 (st _ _ _ _ _ _ _ _ _ _ hB4 (st _ _ _ _ _ _ _ _ _ _ hB4 (st _ _ _ _ _ _ _ _ _ _ hB4 (st _ _ _ _ _ _ _ _ _ _ hB4 HQ.out)))))
  · obtain ⟨v5, g1, g2, g3⟩ := K5.out
    have nv : v5.ownBlock ≠ some w.heap.size := by rw [g3]; exact hvb.out _ (Nat.le_refl _)
    exact ⟨v5, (((((g1.other hcn _ _).other hcn _ _).other hcn _ _).other hcn _ _).other hcn _ _).other hcn _ _, (((((g2.other nv _ _).other nv _ _).other nv _ _).other nv _ _).other nv _ _).other nv _ _, g3⟩
  · have h0 := Nat.le_refl w.heap.size
    exact grown_new (grown_new (grown_new (grown_new (grown_new (grown_new G5.out h0 _ _) h0 _ _) h0 _ _) h0 _ _) h0 _ _) h0 _ _
end Go.Proofs.YtgamgomepdfgdaaGreat

namespace Go.Proofs.YtgamgomepdfgdaaGreat
open Go.RowKit

theorem row_form {w : World} {base : Nat} {e : TypeId} {size n : Nat} {v : Value} {xs : List Value} (h : w.ownsRow base e size v n xs) : ∃ a cap, v = .slice a n cap := by
  rcases h.2 with ⟨rfl, rfl⟩ | ⟨g', cap, cur, rfl, _, hh, _⟩
  · exact ⟨_, _, rfl⟩
  · exact ⟨_, _, rfl⟩

theorem run_append_none {P : Program} (w : World) (t ty e : TypeId) (i : TypeInfo) (ht : P.underlying t = some (.slice e)) (hi : P.info? e = some i) (g n cap : Nat) (a : Option Addr) (c : Nat) (hn : n ≤ cap) :
    (Builtin.append_ #[t, t] ty #[.slice (some ⟨g, 0, none⟩) n cap, .slice a 0 c]).run P w = .ok (.slice (some ⟨g, 0, none⟩) n cap) w := by
  have hl : ∀ a, Sem.run P (loadCells a 0) w = .ok #[] w := fun a => run_loadCells_list (P := P) w a [] (by simp)
  cases a <;> simp [Builtin.append_, run_underlying ht, sizeOf, typeInfo, hi, Builtin.lenOf, Builtin.firstCells, hn, storeCells, hl]

/-- append of what is a row itself, or nothing -/
theorem wpList_append_any {P : Program} (w : World) {ops : Array Oper} {rest : List Oper} {o : Oper} {a : Act} {Q : Exit → Act → World → Prop} (hgd : o.guard = none) (s x : Operand) (t : TypeId)
    (ho : o.op = .call { callee := .builtin .append, args := #[s, x], argTypes := #[t, t] })
    (base : Nat) (e : TypeId) (i : TypeInfo) (z : Value) (ht : P.underlying t = some (.slice e)) (hi : P.info? e = some i) (hz : i.zero = some z)
    (hsize : i.size = 1) (hby : i.bytes = 1) (hzs : z.cells.size = 1)
    (v : Value) (n : Nat) (xs : List Value) (hs : a.eval s = v) (hown : w.ownsRow base e 1 v n xs) (hpos : 0 < n)
    (base' : Nat) (u : Value) (m : Nat) (news : List Value) (hx : a.eval x = u) (hsrc : w.ownsRow base' e 1 u m news) (h1 : ∀ y ∈ news, y.oneCell' = true)
    (h63 : n + m ≤ maxLen) (hbytes : (n + m) * 1 ≤ 140737488355328) (hbase : base ≤ w.heap.size)
    (h : ∀ v' w', w'.ownsRow base e 1 v' (n + m) (xs ++ news) → w.grownBy w' v.ownBlock → (v'.ownBlock = v.ownBlock ∨ v'.ownBlock = some w.heap.size) → wpList P ops Q rest (a.put o.dst v') w') : wpList P ops Q (o :: rest) a w := by
  rcases hsrc.2 with ⟨rfl, rfl⟩ | ⟨g', cap', cur', rfl, hb', hg', hnc', hcm', hcs', ht'⟩
  · obtain rfl : news = [] := List.eq_nil_of_length_eq_zero (by simpa using hsrc.1)
    rcases hown.2 with ⟨_, h0⟩ | ⟨g, cap, cur, rfl, hb, hg, hnc, hcm, hcs, htk⟩
    · omega
    refine wpList_plain hgd fun K hK => ?_
    have hr := run_append_none (P := P) w t o.type e i ht hi g n cap none 0 hnc
    unfold Oper.wp execOp
    simp only [ho, resolve, invoke, builtin, Sem.run_bind, Sem.run_pure, Result.andThen_ok, List.map_toArray, List.map_cons, List.map_nil, hs, hx, hr]
    exact hK _ _ (h _ w (by simpa using hown) (World.grownBy.refl _ _) (.inl rfl))
  · exact wpList_append_own_at w hgd s x t ho base e i z 1 1 ht hi hz hsize hby hzs (by decide) v n xs hs hown ⟨g', 0, none⟩ m cap' news hx (by simpa using hsrc.1) (hsrc.cells (g := g') rfl) h1 h63 hbytes hbase fun v' w' a1 a2 _ a4 => h v' w' a1 a2 a4

set_option maxRecDepth 100000 in
set_option maxHeartbeats 1000000 in
/-- a record's bytes, once its body is known -/
theorem jbytes_of (kind : Nat) (lane id num : Nat) (pass : Bool) (ea : Option Addr) (en ec : Nat) (body s : List UInt8) (w : World) (hk : kind < 256) (hbl : body.length < 1000) (hs : s = be 1 kind ++ be 4 body.length ++ body)
    (hB : Hid (∀ w', Below w.heap.size w w' → Calls Tryz.prog 159 #[.agg #[.int .i64 kind, .int .i64 lane, .slice ea en ec, .int .i64 id, .bool pass, .int .i64 num]] w' fun e w'' => ∃ v', e = .returned v' ∧ Fresh w' w'' v' body)) :
    Calls Tryz.prog 112 #[.agg #[.int .i64 kind, .int .i64 lane, .slice ea en ec, .int .i64 id, .bool pass, .int .i64 num]] w fun e w' => ∃ v', e = .returned v' ∧ Fresh w w' v' (s ++ be 4 (adler s)) := by
  obtain ⟨i0, hi, hz0, hz1, hz2⟩ := info_parts info_u8
  have hm : (kind : Int) % 256 = kind := by omega
  have hm2 : (body.length : Int) % 4294967296 = body.length := by omega
  have hsl : s.length = 5 + body.length := by rw [hs]; exact recB_len
  go_enter Tryz.func112, Tryz.ntmps112
  go_wp2_with fail
  refine (hB.out _ (below_new w _)).mono ?_
  rintro e w2 ⟨vb, rfl, hF⟩
  obtain ⟨ba, bcap, rfl⟩ := row_form hF.1
  have RB : Hid (w2.ownsRow (w.heap.size + 1) 5 1 (.slice ba body.length bcap) body.length (bc body)) := by
    have := hF.1
    show w2.ownsRow (w.heap.size + 1) 5 1 (.slice ba body.length bcap) body.length (bc body)
    simpa using this
  have B2 : Hid (Below w.heap.size w w2) := below_mk hF.2
  have c0 : w2.cell? ⟨w.heap.size, 0, none⟩ = some (.int .i64 kind) := jcell_after hF.2 (by simp)
  have hK := app8' kind hk (.slice none 0 0) [] w2.heap.size w2 (nil_row _ _) (Nat.le_refl _) (by decide)
  have nB : Hid (∀ g, (Value.slice ba body.length bcap).ownBlock = some g → g < w2.heap.size) := fun g h => (World.ownsRow.lt RB.out g h).2
  clear hF
  go_wp2_with (go_at_call 160; go_fit hK; rintro e w3 ⟨v3, rfl, h3⟩)
  have hL := app32' body.length v3 ([] ++ be 1 kind) w2.heap.size w3 (Apped.row h3) (Apped.grown h3).size (by simp [be_len])
  have H3 : Hid (App w2.heap.size w2 w3 (.slice none 0 0) v3 ([] ++ be 1 kind)) := h3
  clear h3 hK c0
  refine hL.mono ?_
  rintro e w4 ⟨v4, rfl, h4⟩
  have H4 : Hid (App w2.heap.size w2 w4 (.slice none 0 0) v4 ([] ++ be 1 kind ++ be 4 body.length)) := Apped.trans H3.out h4
  have R4 : Hid (w4.ownsRow (w.heap.size + 1) 5 1 (.slice ba body.length bcap) body.length (bc body)) := World.ownsRow.kept RB.out (Apped.grown H4.out) (by simpa [Value.ownBlock] using Classical.em _)
  have P4 : ([] ++ be 1 kind ++ be 4 body.length : List UInt8).length = 5 := by simp [be_len]
  have E5 : Hid ([] ++ be 1 kind ++ be 4 body.length ++ body = s) := by
    show _ = _
    rw [hs, List.nil_append]
  have q1 : Hid (5 + body.length ≤ maxLen) := by show _ ≤ _; unfold maxLen; omega
  have q2 : Hid ((5 + body.length) * 1 ≤ 140737488355328) := by show _ ≤ _; omega
  have q3 : Hid (w2.heap.size ≤ w4.heap.size) := (Apped.grown H4.out).size
  have r4 : Hid (w4.ownsRow w2.heap.size 5 1 v4 5 (bc ([] ++ be 1 kind ++ be 4 body.length))) := by
    have := Apped.row H4.out
    rwa [P4] at this
  have p4 : (0 : Nat) < 5 := by decide
  clear hL h4 H3 RB hs
  go_wp2_with (at_builtin; refine wpList_append_any _ rfl _ _ _ rfl w2.heap.size _ i0 _ Tryz.underlying114 hi hz0 hz1 hz2 rfl v4 5 _ rfl r4.out p4 (w.heap.size + 1) (.slice ba body.length bcap) _ _ rfl R4.out (bc_one body) q1.out q2.out q3.out ?_; intro v5 w5 ho5 hg5 hl5; have H5 : Hid (w5.ownsRow w2.heap.size 5 1 v5 (5 + body.length) (bc ([] ++ be 1 kind ++ be 4 body.length) ++ bc body)) := ho5; have G5 : Hid (w4.grownBy w5 v4.ownBlock ∧ (v5.ownBlock = v4.ownBlock ∨ v5.ownBlock = some w4.heap.size)) := ⟨hg5, hl5⟩; clear ho5 hg5 hl5; go_frame)
  have A5 : Hid (App w2.heap.size w2 w5 (.slice none 0 0) v5 s) := by
    refine Apped.trans H4.out ⟨?_, G5.out.1, ?_⟩
    · have := H5.out
      rwa [← bc_append, E5.out, ← hsl] at this
    · rcases G5.out.2 with h | h
      · exact .inl h
      · exact .inr ⟨_, h, Nat.le_refl _⟩
  have hC := csum_any s v5 w5 (BytesAt.of_row (Apped.row A5.out)) (by omega)
  have hN := app32' (adler s) v5 s w2.heap.size w5 (Apped.row A5.out) (Apped.grown A5.out).size (by omega)
  clear H4 H5 G5 r4 R4 E5
  go_wp2_with (first
    | (go_at_call 162; go_fit hC; rintro e w' ⟨rfl, rfl⟩)
    | (go_at_call 161; go_fit hN; rintro e w6 ⟨v6, rfl, h6⟩))
  go_ret
  have A6 := Apped.trans A5.out h6
  refine ⟨v6, rfl, row_low (Apped.row A6) B2.out.size, ?_⟩
  have hg := Apped.grown A6
  exact below_then B2.out ⟨hg.os, hg.tape, hg.output, hg.size, fun k hk => hg.block k hk (by simp [Value.ownBlock])⟩
end Go.Proofs.YtgamgomepdfgdaaGreat

namespace Go.Proofs.YtgamgomepdfgdaaGreat
open Go.RowKit

/-- a record that can be written (but for answers) -/
def Rc.ok (r : Rc) : Prop := (r.kind = 1 ∧ r.lane < 256 ∧ Small r.edits ∨ r.kind = 2 ∨ r.kind = 3 ∨ r.kind = 5 ∨ r.kind = 6 ∨ r.kind = 7) ∧ r.num < 9223372036854775808

theorem Rc.body1 {r : Rc} (h : r.kind = 1) : r.body = subB r.lane r.edits r.edits.length ++ be 8 r.num := by
  simp [Rc.body, h, subB]
theorem Rc.bodyN {r : Rc} (h : r.kind = 2 ∨ r.kind = 5 ∨ r.kind = 6) : r.body = be 8 r.num := by
  rcases h with h | h | h <;> simp [Rc.body, h]
theorem Rc.bodyB {r : Rc} (h : r.kind = 3 ∨ r.kind = 7) : r.body = [] := by
  rcases h with h | h <;> simp [Rc.body, h]
theorem Rc.bytes_eq (r : Rc) : r.bytes = recB r.kind r.body := rfl
theorem Rc.kind_lt {r : Rc} (h : r.ok) : r.kind < 256 := by
  rcases h.1 with h | h | h | h | h | h
  · omega
  all_goals omega
theorem Rc.body_lt {r : Rc} (h : r.ok) : r.body.length < 1000 := by
  rcases h.1 with ⟨h, _, hs⟩ | h | h | h | h | h
  · have := subB_len hs r.lane r.edits.length
    rw [Rc.body1 h, List.length_append, be_len]; omega
  · rw [Rc.bodyN (.inl h), be_len]; decide
  · rw [Rc.bodyB (.inl h)]; decide
  · rw [Rc.bodyN (.inr (.inl h)), be_len]; decide
  · rw [Rc.bodyN (.inr (.inr h)), be_len]; decide
  · rw [Rc.bodyB (.inr h)]; decide

/-- the fields of a record that was read -/
def RecQ (r : Rc) : BackQ := fun B W l ev i p q => p = false ∧
  ((r.kind = 1 ∧ l = r.lane ∧ i = r.num ∧ q = 0 ∧ ∃ g, ev = .slice (some ⟨g, 0, none⟩) r.edits.length r.edits.length ∧ B ≤ g ∧ Half W g r.edits.length r.edits.length r.edits) ∨
   (ev = .slice none 0 0 ∧ l = 0 ∧ i = (if r.kind = 2 then r.num else 0) ∧ q = (if r.kind = 5 ∨ r.kind = 6 then r.num else 0) ∧ r.kind ≠ 1))

theorem RecQ.set (r : Rc) : ∀ B W b o u l ev i p q, b < B → RecQ r B W l ev i p q → RecQ r B (W.setCell ⟨b, o, none⟩ u) l ev i p q := by
  rintro B W b o u l ev i p q hb ⟨hp, ⟨h1, h2, h3, h4, g, h5, h6, h7⟩ | h⟩
  · exact ⟨hp, .inl ⟨h1, h2, h3, h4, g, h5, h6, h7.grown (grown_set _ _ _ _) (by omega)⟩⟩
  · exact ⟨hp, .inr h⟩

/-- every record is read back -/
theorem back_rec (r : Rc) (h : r.ok) : BackTo r.kind r.body (RecQ r) := by
  refine ⟨fun W u hV => ?_, RecQ.set r⟩
  have num : (r.kind = 2 ∨ r.kind = 5 ∨ r.kind = 6) → Calls Tryz.prog 166 #[.int .i64 r.kind, u] W fun e W' => (∃ (l : Nat) (ea : Option Addr) (en ec i : Nat) (p : Bool) (q : Nat), e = .returned (.agg #[.int .i64 r.kind, .int .i64 l, .slice ea en ec, .int .i64 i, .bool p, .int .i64 q]) ∧ RecQ r W.heap.size W' l (.slice ea en ec) i p q) ∧ Below W.heap.size W W' := fun hk => by
    rw [Rc.bodyN hk] at hV
    refine (back_num r.kind r.num u W hk h.2 hV).mono ?_
    rintro e W' ⟨rfl, hb⟩
    refine ⟨⟨0, none, 0, 0, if r.kind = 2 then r.num else 0, false, if r.kind = 2 then 0 else r.num, ?_, rfl, .inr ⟨rfl, rfl, rfl, ?_, by omega⟩⟩, hb⟩
    · by_cases h2 : r.kind = 2 <;> simp [h2]
    · rcases hk with hk | hk | hk <;> simp [hk]
  have bare : (r.kind = 3 ∨ r.kind = 7) → Calls Tryz.prog 166 #[.int .i64 r.kind, u] W fun e W' => (∃ (l : Nat) (ea : Option Addr) (en ec i : Nat) (p : Bool) (q : Nat), e = .returned (.agg #[.int .i64 r.kind, .int .i64 l, .slice ea en ec, .int .i64 i, .bool p, .int .i64 q]) ∧ RecQ r W.heap.size W' l (.slice ea en ec) i p q) ∧ Below W.heap.size W W' := fun hk => by
    refine (back_bare r.kind u W hk hV.form).mono ?_
    rintro e W' ⟨rfl, hb⟩
    exact ⟨⟨0, none, 0, 0, 0, false, 0, rfl, rfl, .inr ⟨rfl, rfl, by rcases hk with hk | hk <;> simp [hk], by rcases hk with hk | hk <;> simp [hk], by omega⟩⟩, hb⟩
  rcases h.1 with ⟨hk, hl, hs⟩ | hk | hk | hk | hk | hk
  · rw [Rc.body1 hk] at hV
    rw [hk]
    refine (back_submit r.lane r.num r.edits u W hl h.2 hs hV).mono ?_
    rintro e W' ⟨⟨g, rfl, hg, hH⟩, hb⟩
    exact ⟨⟨r.lane, some ⟨g, 0, none⟩, r.edits.length, r.edits.length, r.num, false, 0, rfl, rfl, .inl ⟨hk, rfl, rfl, rfl, g, rfl, hg, hH⟩⟩, hb⟩
  · exact num (.inl hk)
  · exact bare (.inl hk)
  · exact num (.inr (.inl hk))
  · exact num (.inr (.inr hk))
  · exact bare (.inr hk)

/-- a record of the program's: its fields -/
def progR (r : Rc) (ea : Option Addr) (en ec : Nat) : Value :=
  .agg #[.int .i64 r.kind, .int .i64 r.lane, .slice ea en ec, .int .i64 (if r.kind = 1 ∨ r.kind = 2 then r.num else 0 : Nat), .bool false, .int .i64 (if r.kind = 5 ∨ r.kind = 6 then r.num else 0 : Nat)]

/-- the edits of a record in memory (only a Submit has some) -/
def EdsIn (w : World) (r : Rc) (ea : Option Addr) (en : Nat) : Prop :=
  r.kind = 1 → ∃ b off, ea = some ⟨b, off, none⟩ ∧ en = r.edits.length ∧ b < w.heap.size ∧ (∀ i (h : i < r.edits.length), w.cell? ⟨b, off + i * 3, none⟩ = some (.string r.edits[i].1)) ∧ (∀ i (h : i < r.edits.length), w.cell? ⟨b, off + i * 3 + 1, none⟩ = some (.string r.edits[i].2.1)) ∧ (∀ i (h : i < r.edits.length), w.cell? ⟨b, off + i * 3 + 2, none⟩ = some (.string r.edits[i].2.2))

/-- the program writes a record's bytes -/
theorem prog_bytes (r : Rc) (h : r.ok) (ea : Option Addr) (en ec : Nat) (w : World) (hE : EdsIn w r ea en) :
    Calls Tryz.prog 112 #[progR r ea en ec] w fun e w' => ∃ v', e = .returned v' ∧ Fresh w w' v' r.bytes := by
  refine jbytes_of r.kind r.lane _ _ false ea en ec r.body _ w (Rc.kind_lt h) (Rc.body_lt h) rfl ?_
  intro w' hb
  rcases h.1 with ⟨hk, hl, hs⟩ | hk | hk | hk | hk | hk
  · obtain ⟨b, off, rfl, rfl, hlt, e0, e1, e2⟩ := hE hk
    rw [hk]
    exact jbody_submit r.lane _ _ false r.edits b off ec w' hl hs (Nat.lt_of_lt_of_le hlt hb.size) (fun i hi => jcell_after hb (e0 i hi)) (fun i hi => jcell_after hb (e1 i hi)) (fun i hi => jcell_after hb (e2 i hi)) r.body (by rw [Rc.body1 hk]; simp)
  · rw [Rc.bodyN (.inl hk)]
    exact jbody_num r.kind r.lane _ _ false ea en ec w' (.inl hk) r.num (by simp [hk])
  · rw [Rc.bodyB (.inl hk)]
    exact jbody_bare r.kind r.lane _ _ false ea en ec w' (.inl hk)
  · rw [Rc.bodyN (.inr (.inl hk))]
    exact jbody_num r.kind r.lane _ _ false ea en ec w' (.inr (.inl hk)) r.num (by simp [hk])
  · rw [Rc.bodyN (.inr (.inr hk))]
    exact jbody_num r.kind r.lane _ _ false ea en ec w' (.inr (.inr hk)) r.num (by simp [hk])
  · rw [Rc.bodyB (.inr hk)]
    exact jbody_bare r.kind r.lane _ _ false ea en ec w' (.inr hk)

/-- so does the reference -/
theorem ref_bytes (r : Rc) (h : r.ok) (ea : Option Addr) (en ec : Nat) (w : World) (hE : EdsIn w r ea en) :
    Calls Tryz.prog 132 #[recV r (.slice ea en ec)] w fun e w' => e = .returned (.string (bs r.bytes)) ∧ Below w.heap.size w w' := by
  have hb : r.bytes = r.head ++ be 4 (adler r.head) := rfl
  rw [hb]
  unfold recV
  rcases h.1 with ⟨hk, hl, hs⟩ | hk | hk | hk | hk | hk
  · obtain ⟨b, off, rfl, rfl, hlt, e0, e1, e2⟩ := hE hk
    have := rbytes_submit r.lane r.num r.pass r.edits b off ec w h.2 hl hs hlt e0 e1 e2 r.body r.head (Rc.body1 hk) (by rw [Rc.head, hk])
    rw [hk]; exact this
  · exact rbytes_num r.kind r.lane r.num r.pass _ w (.inl hk) h.2 r.head (by rw [Rc.head, Rc.bodyN (.inl hk), be_len])
  · exact rbytes_bare r.kind r.lane r.num r.pass _ w (.inl hk) r.head (by rw [Rc.head, Rc.bodyB (.inl hk), List.append_nil]; rfl)
  · exact rbytes_num r.kind r.lane r.num r.pass _ w (.inr (.inl hk)) h.2 r.head (by rw [Rc.head, Rc.bodyN (.inr (.inl hk)), be_len])
  · exact rbytes_num r.kind r.lane r.num r.pass _ w (.inr (.inr hk)) h.2 r.head (by rw [Rc.head, Rc.bodyN (.inr (.inr hk)), be_len])
  · exact rbytes_bare r.kind r.lane r.num r.pass _ w (.inr hk) r.head (by rw [Rc.head, Rc.bodyB (.inr hk), List.append_nil]; rfl)
end Go.Proofs.YtgamgomepdfgdaaGreat
