import Derived.Test.YtgamgomepdfgdaaGreatM36
import Derived.WalkSpells
import Derived.Deep.QuietTactic
import Derived.BigQuiet
namespace Go.Proofs.YtgamgomepdfgdaaGreat
open Go.RowKit

theorem BL.len {w : World} {K : Nat → Prop} {d : Kd} {V : Value} {rs : List En} (h : BL w K d V rs) : rs.length ≤ 9223372036854775807 := by
  rcases h.row.2 with ⟨_, h0⟩ | ⟨_, _, _, _, _, _, h1, h2, _⟩
  · omega
  · unfold maxLen at h2; omega

set_option maxRecDepth 100000 in
set_option maxHeartbeats 4000000 in
theorem othersB (K : Nat → Prop) (bb : Nat) (ts gs js : List En) (fv wv tv gv jv : Value) (w : World) (h : OthersOk w K bb ts gs js fv wv tv gv jv) :
    Calls Tryz.prog 55 #[.pointer (some ⟨bb, 0, none⟩)] w fun e w' => e = .returned (.bool true) ∧ Below w.heap.size w w' := by
  obtain ⟨hbox, ht, hg, hj⟩ := h
  obtain ⟨ta, tc, rfl⟩ := ht.row.form
  obtain ⟨ga, gc, rfl⟩ := hg.row.form
  obtain ⟨ja, jc, rfl⟩ := hj.row.form
  have HB : Hid (Bx w bb 88 (bookCells fv wv (.slice ta ts.length tc) (.slice ga gs.length gc) (.slice ja js.length jc))) := hbox
  have HT : Hid (BL w K dT (.slice ta ts.length tc) ts) := ht
  have HG : Hid (BL w K dG (.slice ga gs.length gc) gs) := hg
  have HJ : Hid (BL w K dJ (.slice ja js.length jc) js) := hj
  have mts := ht.len
  have mgs := hg.len
  have mjs := hj.len
  have hnil : ∀ W : World, (binOp .neq 56 (.slice none 0 0) (.slice none 0 0)).run Tryz.prog W = .ok (.bool false) W := fun W => run_neq_slice_nil_any W _ _ _ _ _ _ _ Tryz.underlying56
  have hnil2 : ∀ W : World, (binOp .neq 24 (.slice none 0 0) (.slice none 0 0)).run Tryz.prog W = .ok (.bool false) W := fun W => run_neq_slice_nil_any W _ _ _ _ _ _ _ Tryz.underlying24
  clear hbox ht hg hj
  go_enter Tryz.func55, Tryz.ntmps55
  go_wp2
  go_loopw [3] (fun iv wr => ∃ i : Nat, i ≤ ts.length ∧ iv = .int .i64 i ∧ Hid (Below w.heap.size w wr)) (fun i _ => ts.length - (intOf i).toNat)
  case atStart => exact ⟨0, Nat.zero_le _, rfl, Below.refl _ _⟩
  case round =>
    obtain ⟨i, hin, rfl, hb⟩ := hrel
    rename World => wo
    have c3 : wo.cell? ⟨bb, 3, none⟩ = some (.slice ta ts.length tc) := jcell_after hb.out (HB.out.cell (i := 3) rfl)
    by_cases hlt : i < ts.length
    · obtain ⟨g, off, cap, hv, hgl, e0, e1⟩ := HT.out.read hb.out hlt
      injection hv with hva _ hvc
      subst hva hvc
      obtain ⟨a, cap', hsl, hml, hrd⟩ := HT.out.entry (fun _ => rfl) (List.getElem_mem hlt)
      have hsm := HT.out.sm _ (List.getElem_mem hlt)
      rw [hsl] at e0
      generalize ts[i] = r at *
      unfold maxLen at hml
      have Hrd : Hid (∀ q, q < r.2.1 → ∃ g off, a = some ⟨g, off, none⟩ ∧ g < w.heap.size ∧ ∀ j u, j < dT.size → (dT.mrk r.2.2)[j]? = some u → w.cell? ⟨g, off + q * dT.size + j, none⟩ = some u) := hrd
      have hgl' := jcell_lt e0
      clear hrd hsl
      go_wp2
      go_loopw [4] (fun kv wr => ∃ q : Nat, q ≤ r.2.1 ∧ kv = .int .i64 q ∧ Hid (Below wo.heap.size wo wr)) (fun i _ => r.2.1 - (intOf i).toNat)
      case atStart => exact ⟨0, Nat.zero_le _, rfl, Below.refl _ _⟩
      case round =>
        obtain ⟨q, hq, rfl, hb2⟩ := hrel
        have d3 := jcell_after hb2.out c3
        have f0 := jcell_after hb2.out e0
        have f1 := jcell_after hb2.out e1
        by_cases hqr : q < r.2.1
        · obtain ⟨g2, off2, rfl, hg2, hc2⟩ := Hrd.out q hqr
          have m0 : wr.cell? ⟨g2, off2 + q * 2, none⟩ = some (.int .i64 (-1 - (r.2.2 : Int))) := jcell_after hb2.out (jcell_after hb.out (hc2 0 _ (by decide) rfl))
          have m1 : wr.cell? ⟨g2, off2 + q * 2 + 1, none⟩ = some (.slice none 0 0) := jcell_after hb2.out (jcell_after hb.out (hc2 1 _ (by decide) rfl))
          have hgl2 := jcell_lt m0
          clear hc2
          go_wp2_with fail
          have hX := Bx.new wr #[.int .i64 (-1 - (r.2.2 : Int)), .slice none 0 0] 110
          have hba : Below wr.heap.size wr (wr.alloc (.cells #[.int .i64 (-1 - (r.2.2 : Int)), .slice none 0 0] 110)) := below_new _ _
          have d3a := jcell_after hba d3
          have f1a := jcell_after hba f1
          have t0 := hX.cell (i := 0) (v := .int .i64 (-1 - (r.2.2 : Int))) rfl
          have t1 := hX.cell (i := 1) (v := .slice none 0 0) rfl
          have HBA : Hid (Below wo.heap.size wo (wr.alloc (.cells #[.int .i64 (-1 - (r.2.2 : Int)), .slice none 0 0] 110))) := below_trans hb2.out hba
          generalize wr.alloc (.cells #[.int .i64 (-1 - (r.2.2 : Int)), .slice none 0 0] 110) = wa at *
          clear hX hba d3 f0 f1 m0 m1
          go_quiet (fail)
          go_wp2_with fail
          exact ⟨⟨q + 1, hqr, by go_num, ⟨HBA.out.os, HBA.out.tape, HBA.out.output, HBA.out.size, HBA.out.block⟩⟩, by simp [intOf]; omega⟩
        · go_wp2
          exact ⟨⟨i + 1, by omega, by go_num, below_trans hb.out hb2.out⟩, by simp [intOf]; omega⟩
    · have hbb := hb
      go_wp2
      go_loopw [6] (fun iv wr => ∃ i : Nat, i ≤ gs.length ∧ iv = .int .i64 i ∧ Hid (Below w.heap.size w wr)) (fun i _ => gs.length - (intOf i).toNat)
      case atStart => exact ⟨0, Nat.zero_le _, rfl, hbb⟩
      case round =>
        obtain ⟨i, hin, rfl, hb⟩ := hrel
        rename World => wo
        have c3 : wo.cell? ⟨bb, 4, none⟩ = some (.slice ga gs.length gc) := jcell_after hb.out (HB.out.cell (i := 4) rfl)
        by_cases hlt : i < gs.length
        · obtain ⟨g, off, cap, hv, hgl, e0, e1⟩ := HG.out.read hb.out hlt
          injection hv with hva _ hvc
          subst hva hvc
          obtain ⟨a, cap', hsl, hml, hrd⟩ := HG.out.entry (fun _ => rfl) (List.getElem_mem hlt)
          have hsm := HG.out.sm _ (List.getElem_mem hlt)
          rw [hsl] at e0
          generalize gs[i] = r at *
          unfold maxLen at hml
          have Hrd : Hid (∀ q, q < r.2.1 → ∃ g off, a = some ⟨g, off, none⟩ ∧ g < w.heap.size ∧ ∀ j u, j < dG.size → (dG.mrk r.2.2)[j]? = some u → w.cell? ⟨g, off + q * dG.size + j, none⟩ = some u) := hrd
          have hgl' := jcell_lt e0
          clear hrd hsl
          go_wp2
          go_loopw [7] (fun kv wr => ∃ q : Nat, q ≤ r.2.1 ∧ kv = .int .i64 q ∧ Hid (Below wo.heap.size wo wr)) (fun i _ => r.2.1 - (intOf i).toNat)
          case atStart => exact ⟨0, Nat.zero_le _, rfl, Below.refl _ _⟩
          case round =>
            obtain ⟨q, hq, rfl, hb2⟩ := hrel
            have d3 := jcell_after hb2.out c3
            have f0 := jcell_after hb2.out e0
            have f1 := jcell_after hb2.out e1
            by_cases hqr : q < r.2.1
            · obtain ⟨g2, off2, rfl, hg2, hc2⟩ := Hrd.out q hqr
              have m0 : wr.cell? ⟨g2, off2 + q * 4, none⟩ = some (.slice none 0 0) := jcell_after hb2.out (jcell_after hb.out (hc2 0 _ (by decide) rfl))
              have m1 : wr.cell? ⟨g2, off2 + q * 4 + 1, none⟩ = some (.int .i64 0) := jcell_after hb2.out (jcell_after hb.out (hc2 1 _ (by decide) rfl))
              have m2 : wr.cell? ⟨g2, off2 + q * 4 + 2, none⟩ = some (.bool false) := jcell_after hb2.out (jcell_after hb.out (hc2 2 _ (by decide) rfl))
              have m3 : wr.cell? ⟨g2, off2 + q * 4 + 3, none⟩ = some (.int .i64 (-1 - (r.2.2 : Int))) := jcell_after hb2.out (jcell_after hb.out (hc2 3 _ (by decide) rfl))
              have hgl2 := jcell_lt m0
              clear hc2
              go_wp2_with fail
              have hX := Bx.new wr #[.slice none 0 0, .int .i64 0, .bool false, .int .i64 (-1 - (r.2.2 : Int))] 119
              have hba : Below wr.heap.size wr (wr.alloc (.cells #[.slice none 0 0, .int .i64 0, .bool false, .int .i64 (-1 - (r.2.2 : Int))] 119)) := below_new _ _
              have d3a := jcell_after hba d3
              have f1a := jcell_after hba f1
              have t0 := hX.cell (i := 0) (v := .slice none 0 0) rfl
              have t1 := hX.cell (i := 1) (v := .int .i64 0) rfl
              have t2 := hX.cell (i := 2) (v := .bool false) rfl
              have t3 := hX.cell (i := 3) (v := .int .i64 (-1 - (r.2.2 : Int))) rfl
              have HBA : Hid (Below wo.heap.size wo (wr.alloc (.cells #[.slice none 0 0, .int .i64 0, .bool false, .int .i64 (-1 - (r.2.2 : Int))] 119))) := below_trans hb2.out hba
              generalize wr.alloc (.cells #[.slice none 0 0, .int .i64 0, .bool false, .int .i64 (-1 - (r.2.2 : Int))] 119) = wa at *
              clear hX hba d3 f0 f1 m0 m1 m2 m3
              go_quiet (fail)
              go_wp2_with fail
              exact ⟨⟨q + 1, hqr, by go_num, ⟨HBA.out.os, HBA.out.tape, HBA.out.output, HBA.out.size, HBA.out.block⟩⟩, by simp [intOf]; omega⟩
            · go_wp2
              exact ⟨⟨i + 1, by omega, by go_num, below_trans hb.out hb2.out⟩, by simp [intOf]; omega⟩
        · have hbb := hb
          go_wp2
          go_loopw [9] (fun iv wr => ∃ i : Nat, i ≤ js.length ∧ iv = .int .i64 i ∧ Hid (Below w.heap.size w wr)) (fun i _ => js.length - (intOf i).toNat)
          case atStart => exact ⟨0, Nat.zero_le _, rfl, hbb⟩
          case round =>
            obtain ⟨i, hin, rfl, hb⟩ := hrel
            rename World => wo
            have c3 : wo.cell? ⟨bb, 5, none⟩ = some (.slice ja js.length jc) := jcell_after hb.out (HB.out.cell (i := 5) rfl)
            by_cases hlt : i < js.length
            · obtain ⟨g, off, cap, hv, hgl, e0, e1⟩ := HJ.out.read hb.out hlt
              injection hv with hva _ hvc
              subst hva hvc
              obtain ⟨a, cap', hsl, hml, hrd⟩ := HJ.out.entry (fun _ => rfl) (List.getElem_mem hlt)
              have hsm := HJ.out.sm _ (List.getElem_mem hlt)
              rw [hsl] at e0
              generalize js[i] = r at *
              unfold maxLen at hml
              have Hrd : Hid (∀ q, q < r.2.1 → ∃ g off, a = some ⟨g, off, none⟩ ∧ g < w.heap.size ∧ ∀ j u, j < dJ.size → (dJ.mrk r.2.2)[j]? = some u → w.cell? ⟨g, off + q * dJ.size + j, none⟩ = some u) := hrd
              have hgl' := jcell_lt e0
              clear hrd hsl
              go_wp2
              go_loopw [10] (fun kv wr => ∃ q : Nat, q ≤ r.2.1 ∧ kv = .int .i64 q ∧ Hid (Below wo.heap.size wo wr)) (fun i _ => r.2.1 - (intOf i).toNat)
              case atStart => exact ⟨0, Nat.zero_le _, rfl, Below.refl _ _⟩
              case round =>
                obtain ⟨q, hq, rfl, hb2⟩ := hrel
                have d3 := jcell_after hb2.out c3
                have f0 := jcell_after hb2.out e0
                have f1 := jcell_after hb2.out e1
                by_cases hqr : q < r.2.1
                · obtain ⟨g2, off2, rfl, hg2, hc2⟩ := Hrd.out q hqr
                  have m0 : wr.cell? ⟨g2, off2 + q * 4, none⟩ = some (.int .i64 (-1 - (r.2.2 : Int))) := jcell_after hb2.out (jcell_after hb.out (hc2 0 _ (by decide) rfl))
                  have m1 : wr.cell? ⟨g2, off2 + q * 4 + 1, none⟩ = some (.int .i64 0) := jcell_after hb2.out (jcell_after hb.out (hc2 1 _ (by decide) rfl))
                  have m2 : wr.cell? ⟨g2, off2 + q * 4 + 2, none⟩ = some (.slice none 0 0) := jcell_after hb2.out (jcell_after hb.out (hc2 2 _ (by decide) rfl))
                  have m3 : wr.cell? ⟨g2, off2 + q * 4 + 3, none⟩ = some (.slice none 0 0) := jcell_after hb2.out (jcell_after hb.out (hc2 3 _ (by decide) rfl))
                  have hgl2 := jcell_lt m0
                  clear hc2
                  go_wp2_with fail
                  have hX := Bx.new wr #[.int .i64 (-1 - (r.2.2 : Int)), .int .i64 0, .slice none 0 0, .slice none 0 0] 124
                  have hba : Below wr.heap.size wr (wr.alloc (.cells #[.int .i64 (-1 - (r.2.2 : Int)), .int .i64 0, .slice none 0 0, .slice none 0 0] 124)) := below_new _ _
                  have d3a := jcell_after hba d3
                  have f1a := jcell_after hba f1
                  have t0 := hX.cell (i := 0) (v := .int .i64 (-1 - (r.2.2 : Int))) rfl
                  have t1 := hX.cell (i := 1) (v := .int .i64 0) rfl
                  have t2 := hX.cell (i := 2) (v := .slice none 0 0) rfl
                  have t3 := hX.cell (i := 3) (v := .slice none 0 0) rfl
                  have HBA : Hid (Below wo.heap.size wo (wr.alloc (.cells #[.int .i64 (-1 - (r.2.2 : Int)), .int .i64 0, .slice none 0 0, .slice none 0 0] 124))) := below_trans hb2.out hba
                  generalize wr.alloc (.cells #[.int .i64 (-1 - (r.2.2 : Int)), .int .i64 0, .slice none 0 0, .slice none 0 0] 124) = wa at *
                  clear hX hba d3 f0 f1 m0 m1 m2 m3
                  go_quiet (fail)
                  go_wp2_with fail
                  exact ⟨⟨q + 1, hqr, by go_num, ⟨HBA.out.os, HBA.out.tape, HBA.out.output, HBA.out.size, HBA.out.block⟩⟩, by simp [intOf]; omega⟩
                · go_wp2
                  exact ⟨⟨i + 1, by omega, by go_num, below_trans hb.out hb2.out⟩, by simp [intOf]; omega⟩
            · go_wp2
              go_ret
              exact ⟨rfl, hb.out⟩
end Go.Proofs.YtgamgomepdfgdaaGreat

namespace Go.Proofs.YtgamgomepdfgdaaGreat
open Go.RowKit

set_option maxRecDepth 100000 in
set_option maxHeartbeats 4000000 in
theorem looksB (K : Nat → Prop) (bb N : Nat) (w : World) (h : BookAt w K bb N) :
    Calls Tryz.prog 14 #[.pointer (some ⟨bb, 0, none⟩)] w fun e w' => e = .returned (.bool true) ∧ Below w.heap.size w w' := by
  obtain ⟨fs, ws, ts, gs, js, fv, wv, tv, gv, jv, hB, _⟩ := h
  have hO : OthersOk w K bb ts gs js fv wv tv gv jv := ⟨hB.box, hB.t, hB.g, hB.j⟩
  have hOt : Hid (∀ W, Below w.heap.size w W → Calls Tryz.prog 55 #[.pointer (some ⟨bb, 0, none⟩)] W fun e w' => e = .returned (.bool true) ∧ Below W.heap.size W w') := fun W hb => othersB K bb ts gs js fv wv tv gv jv W ⟨hO.1.later hb, hO.2.1.kept fun k hk _ => hb.block k hk, hO.2.2.1.kept fun k hk _ => hb.block k hk, hO.2.2.2.kept fun k hk _ => hb.block k hk⟩
  have hf := hB.f
  have hq := hB.q
  obtain ⟨fa, fc, rfl⟩ := hf.row.form
  obtain ⟨qa, qc, rfl⟩ := hq.row.form
  have HB : Hid (Bx w bb 88 (bookCells (.slice fa fs.length fc) (.slice qa ws.length qc) tv gv jv)) := hB.box
  have HF : Hid (BL w K dF (.slice fa fs.length fc) fs) := hf
  have HW : Hid (BL w K dW (.slice qa ws.length qc) ws) := hq
  have mfs := hf.len
  have mws := hq.len
  clear hO hB hf hq
  go_enter Tryz.func14, Tryz.ntmps14
  go_wp2
  go_loopw [3] (fun iv wr => ∃ i : Nat, i ≤ fs.length ∧ iv = .int .i64 i ∧ Hid (Below w.heap.size w wr)) (fun i _ => fs.length - (intOf i).toNat)
  case atStart => exact ⟨0, Nat.zero_le _, rfl, Below.refl _ _⟩
  case round =>
    obtain ⟨i, hin, rfl, hb⟩ := hrel
    rename World => wo
    have c3 : wo.cell? ⟨bb, 0, none⟩ = some (.slice fa fs.length fc) := jcell_after hb.out (HB.out.cell (i := 0) rfl)
    by_cases hlt : i < fs.length
    · obtain ⟨g, off, cap, hv, hgl, e0, e1⟩ := HF.out.read hb.out hlt
      injection hv with hva _ hvc
      subst hva hvc
      obtain ⟨a, cap', hsl, hml, hrd⟩ := HF.out.entry (fun _ => rfl) (List.getElem_mem hlt)
      have hsm := HF.out.sm _ (List.getElem_mem hlt)
      rw [hsl] at e0
      generalize fs[i] = r at *
      unfold maxLen at hml
      have Hrd : Hid (∀ q, q < r.2.1 → ∃ g off, a = some ⟨g, off, none⟩ ∧ g < w.heap.size ∧ ∀ j u, j < dF.size → (dF.mrk r.2.2)[j]? = some u → w.cell? ⟨g, off + q * dF.size + j, none⟩ = some u) := hrd
      have hgl' := jcell_lt e0
      have hfo := fileOf_all r.2.2 hsm wo
      clear hrd hsl
      go_wp2_with (go_at_call 54; refine hfo.mono ?_; rintro e w1 ⟨rfl, hbel⟩; have c3a := jcell_after hbel c3; have e0a := jcell_after hbel e0)
      have hX := Bx.new w1 #[.string (mark r.2.2).1, .string (mark r.2.2).2] 80
      have hba : Below wo.heap.size wo (w1.alloc (.cells #[.string (mark r.2.2).1, .string (mark r.2.2).2] 80)) := below_trans hbel (below_new _ _)
      have x0 := hX.cell (i := 0) (v := .string (mark r.2.2).1) rfl
      have x1 := hX.cell (i := 1) (v := .string (mark r.2.2).2) rfl
      have c3b := jcell_after hba c3
      have e0b := jcell_after hba e0
      have hne := eqMark_run r.2.2
      generalize hwa : w1.alloc (.cells #[.string (mark r.2.2).1, .string (mark r.2.2).2] 80) = wa at *
      have HBA : Hid (Below wo.heap.size wo wa) := hba
      clear c3 c3a e0 e0a e1 hfo hbel hX hba hwa
      go_loopw [5] (fun kv wr => ∃ q n' : Nat, q ≤ r.2.1 ∧ kv = .int .i64 q ∧ wr = wa.drewN n') (fun i _ => r.2.1 - (intOf i).toNat)
      case atStart => exact ⟨0, 0, Nat.zero_le _, rfl, rfl⟩
      case round =>
        obtain ⟨q, n', hq, rfl, rfl⟩ := hrel
        by_cases hqr : q < r.2.1
        · obtain ⟨g2, off2, rfl, hg2, hc2⟩ := Hrd.out q hqr
          have m0 : wa.cell? ⟨g2, off2 + q * 2, none⟩ = some (.string (mark r.2.2).1) := jcell_after HBA.out (jcell_after hb.out (hc2 0 _ (by decide) rfl))
          have m1 : wa.cell? ⟨g2, off2 + q * 2 + 1, none⟩ = some (.string (mark r.2.2).2) := jcell_after HBA.out (jcell_after hb.out (hc2 1 _ (by decide) rfl))
          have hgl2 := jcell_lt m0
          clear hc2
          go_wp2
          go_quiet (fail)
          go_wp2
          exact ⟨⟨q + 1, _, hqr, by go_num, rfl⟩, by simp [intOf]; omega⟩
        · go_wp2
          exact ⟨⟨i + 1, by omega, by go_num, below_trans hb.out ⟨HBA.out.os, HBA.out.tape, HBA.out.output, HBA.out.size, HBA.out.block⟩⟩, by simp [intOf]; omega⟩
    · have c1 : wo.cell? ⟨bb, 1, none⟩ = some (.slice none 0 0) := jcell_after hb.out (HB.out.cell (i := 1) rfl)
      go_wp2
      refine wp_loop_rounds 1 ?_
      rw [rounds_succ]
      go_wp2
      have hbb := hb
      go_loopw [8] (fun iv wr => ∃ i : Nat, i ≤ ws.length ∧ iv = .int .i64 i ∧ Hid (Below w.heap.size w wr)) (fun i _ => ws.length - (intOf i).toNat)
      case atStart => exact ⟨0, Nat.zero_le _, rfl, hbb⟩
      case round =>
        obtain ⟨i, hin, rfl, hb⟩ := hrel
        rename World => wo
        have c3 : wo.cell? ⟨bb, 2, none⟩ = some (.slice qa ws.length qc) := jcell_after hb.out (HB.out.cell (i := 2) rfl)
        by_cases hlt : i < ws.length
        · obtain ⟨g, off, cap, hv, hgl, e0, e1⟩ := HW.out.read hb.out hlt
          injection hv with hva _ hvc
          subst hva hvc
          obtain ⟨a, cap', hsl, hml, hrd⟩ := HW.out.entry (fun _ => rfl) (List.getElem_mem hlt)
          have hsm := HW.out.sm _ (List.getElem_mem hlt)
          rw [hsl] at e0
          generalize ws[i] = r at *
          unfold maxLen at hml
          have Hrd : Hid (∀ q, q < r.2.1 → ∃ g off, a = some ⟨g, off, none⟩ ∧ g < w.heap.size ∧ ∀ j u, j < dW.size → (dW.mrk r.2.2)[j]? = some u → w.cell? ⟨g, off + q * dW.size + j, none⟩ = some u) := hrd
          have hgl' := jcell_lt e0
          clear hrd hsl
          go_wp2
          have hX := Bx.new wo #[.int .i64 (-1 - (r.2.2 : Int)), .int .i64 0, .int .i64 0] 71
          have hba : Below wo.heap.size wo (wo.alloc (.cells #[.int .i64 (-1 - (r.2.2 : Int)), .int .i64 0, .int .i64 0] 71)) := below_new _ _
          have x0 := hX.cell (i := 0) (v := .int .i64 (-1 - (r.2.2 : Int))) rfl
          have x1 := hX.cell (i := 1) (v := .int .i64 0) rfl
          have x2 := hX.cell (i := 2) (v := .int .i64 0) rfl
          have c3b := jcell_after hba c3
          have e0b := jcell_after hba e0
          have hne := eqW_run (-1 - (r.2.2 : Int))
          generalize wo.alloc (.cells #[.int .i64 (-1 - (r.2.2 : Int)), .int .i64 0, .int .i64 0] 71) = wa at *
          have HBA : Hid (Below wo.heap.size wo wa) := hba
          clear c3 e0 e1 hX hba
          go_loopw [10] (fun kv wr => ∃ q n' : Nat, q ≤ r.2.1 ∧ kv = .int .i64 q ∧ wr = wa.drewN n') (fun i _ => r.2.1 - (intOf i).toNat)
          case atStart => exact ⟨0, 0, Nat.zero_le _, rfl, rfl⟩
          case round =>
            obtain ⟨q, n', hq, rfl, rfl⟩ := hrel
            by_cases hqr : q < r.2.1
            · obtain ⟨g2, off2, rfl, hg2, hc2⟩ := Hrd.out q hqr
              have m0 : wa.cell? ⟨g2, off2 + q * 3, none⟩ = some (.int .i64 (-1 - (r.2.2 : Int))) := jcell_after HBA.out (jcell_after hb.out (hc2 0 _ (by decide) rfl))
              have m1 : wa.cell? ⟨g2, off2 + q * 3 + 1, none⟩ = some (.int .i64 0) := jcell_after HBA.out (jcell_after hb.out (hc2 1 _ (by decide) rfl))
              have m2 : wa.cell? ⟨g2, off2 + q * 3 + 2, none⟩ = some (.int .i64 0) := jcell_after HBA.out (jcell_after hb.out (hc2 2 _ (by decide) rfl))
              have hgl2 := jcell_lt m0
              clear hc2
              go_wp2
              go_quiet (fail)
              go_wp2
              exact ⟨⟨q + 1, _, hqr, by go_num, rfl⟩, by simp [intOf]; omega⟩
            · go_wp2
              exact ⟨⟨i + 1, by omega, by go_num, below_trans hb.out ⟨HBA.out.os, HBA.out.tape, HBA.out.output, HBA.out.size, HBA.out.block⟩⟩, by simp [intOf]; omega⟩
        · have hot := hOt.out wo hb.out
          go_wp2_with fail
          go_fit hot
          rintro e w2 ⟨rfl, hb2⟩
          have HB2 : Hid (Below w.heap.size w w2) := below_trans hb.out hb2
          clear hot hb2
          go_wp2
          go_ret
          exact ⟨rfl, HB2.out⟩
end Go.Proofs.YtgamgomepdfgdaaGreat
