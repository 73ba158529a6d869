import Derived.Test.YtgamgomepdfgdaaOwnW
import Derived.Test.YtgamgomepdfgdaaReads
namespace Go.Proofs.Ytgamgomepdfgdaa
open Go.RowKit

set_option maxRecDepth 100000 in
set_option maxHeartbeats 1000000 in
theorem others_any (bb : Nat) (V : Value) (w : World) (hbox : w.heap[bb]? = some (.cells (boxOf V) 38 (0, 0))) :
    Calls Try.prog 28 #[.pointer (some ⟨bb, 0, none⟩)] w fun e w' => e = .returned (.bool true) ∧ w' = w := by
  have c3 : w.cell? ⟨bb, 3, none⟩ = some (.slice none 0 0) := by simp [World.cell?, hbox, boxOf, nilS]
  have c4 : w.cell? ⟨bb, 4, none⟩ = some (.slice none 0 0) := by simp [World.cell?, hbox, boxOf, nilS]
  have c5 : w.cell? ⟨bb, 5, none⟩ = some (.slice none 0 0) := by simp [World.cell?, hbox, boxOf, nilS]
  clear hbox
  go_enter Try.func28, Try.ntmps28
  go_wp2
  go_loopw [3] (fun iv wr => iv = .int .i64 0 ∧ wr = w) (fun _ _ => 0)
  case atStart => exact ⟨rfl, rfl⟩
  case round =>
    obtain ⟨rfl, rfl⟩ := hrel
    go_wp2
    go_loopw [6] (fun iv wr' => iv = .int .i64 0 ∧ wr' = wr) (fun _ _ => 0)
    case atStart => exact ⟨rfl, rfl⟩
    case round =>
      obtain ⟨rfl, rfl⟩ := hrel
      go_wp2
      go_loopw [9] (fun iv wr'' => iv = .int .i64 0 ∧ wr'' = wr) (fun _ _ => 0)
      case atStart => exact ⟨rfl, rfl⟩
      case round =>
        obtain ⟨rfl, rfl⟩ := hrel
        go_wp2
        go_ret
        exact ⟨rfl, rfl⟩

theorem neF_self (p b : ByteArray) : neF p b p b = false := by simp [neF]
theorem eqM_run (k : Nat) (w : World) : (binOp .neq 47 (.agg #[.string (mark k).1, .string (mark k).2]) (.agg #[.string (mark k).1, .string (mark k).2])).run Try.prog w = .ok (.bool false) w := by
  rw [eqF_run, neF_self]

theorem Ent.read {w : World} {r : En} (h : Ent w r) : ∃ a cap, r.1 = .slice a r.2.1 cap ∧ ∀ q, q < r.2.1 → ∃ g, a = some ⟨g, 0, none⟩ ∧ g < w.heap.size ∧ w.cell? ⟨g, q * 2, none⟩ = some (.string (mark r.2.2).1) ∧ w.cell? ⟨g, q * 2 + 1, none⟩ = some (.string (mark r.2.2).2) := by
  rcases h with ⟨h0, a, cap, e⟩ | ⟨g, cap, cur, e, hh, ht⟩
  · exact ⟨a, cap, by rw [e, h0], fun q hq => by omega⟩
  · refine ⟨_, cap, e, fun q hq => ⟨g, rfl, lt_of_heap hh, ?_, ?_⟩⟩
    · have h1 := flat_get cF 2 (fun _ => rfl) (List.replicate r.2.1 (mark r.2.2)) q 0 (by simpa using hq) (by omega)
      have h2 : (marks r.2.1 r.2.2)[q * 2 + 0]? = some (.string (mark r.2.2).1) := by rw [marks, h1]; simp [cF]
      rw [← ht, List.getElem?_take_of_lt (by omega)] at h2
      simpa [World.cell?, hh] using h2
    · have h1 := flat_get cF 2 (fun _ => rfl) (List.replicate r.2.1 (mark r.2.2)) q 1 (by simpa using hq) (by omega)
      have h2 : (marks r.2.1 r.2.2)[q * 2 + 1]? = some (.string (mark r.2.2).2) := by rw [marks, h1]; simp [cF]
      rw [← ht, List.getElem?_take_of_lt (by omega)] at h2
      simpa [World.cell?, hh] using h2

theorem book_read {w : World} {base : Nat} {va : Option Addr} {vcap : Nat} {rs : List En} (h : w.ownsRow base 64 2 (.slice va rs.length vcap) rs.length (rs.flatMap cN)) : ∀ i (hi : i < rs.length), ∃ g, va = some ⟨g, 0, none⟩ ∧ g < w.heap.size ∧ w.cell? ⟨g, i * 2, none⟩ = some rs[i].1 ∧ w.cell? ⟨g, i * 2 + 1, none⟩ = some (.int .i64 rs[i].2.2) := by
  intro i hi
  rcases h.2 with ⟨_, h0⟩ | ⟨g, cap, cur, e, _, hh, _⟩
  · omega
  · obtain ⟨rfl, _, _⟩ := Value.slice.inj e
    have hc := h.cells (g := g) rfl
    refine ⟨g, rfl, lt_of_heap hh, ?_, ?_⟩
    · have := hc (i * 2 + 0) rs[i].1 (by rw [flat_get cN 2 (fun _ => rfl) rs i 0 hi (by omega)]; rfl)
      simpa [addr_add] using this
    · have := hc (i * 2 + 1) (.int .i64 rs[i].2.2) (by rw [flat_get cN 2 (fun _ => rfl) rs i 1 hi (by omega)]; rfl)
      simpa [addr_add] using this

set_option maxRecDepth 100000 in
set_option maxHeartbeats 1000000 in
theorem looks_any (bb base : Nat) (rs : List En) (va : Option Addr) (vcap : Nat) (w : World) (hbox : w.heap[bb]? = some (.cells (boxOf (.slice va rs.length vcap)) 38 (0, 0)))
    (hrow : w.ownsRow base 64 2 (.slice va rs.length vcap) rs.length (rs.flatMap cN)) (hents : ∀ r ∈ rs, Ent w r ∧ (r.2.2 = 0 ∨ r.2.2 = 4) ∧ r.2.1 < 8796093022308) (hlen : rs.length ≤ 8) :
    Calls Try.prog 11 #[.pointer (some ⟨bb, 0, none⟩)] w fun e w' => e = .returned (.bool true) ∧ Below w.heap.size w w' := by
  have hbl : bb < w.heap.size := lt_of_heap hbox
  go_enter Try.func11, Try.ntmps11
  go_wp2
  go_loopw [3] (fun iv wr => ∃ i : Nat, i ≤ rs.length ∧ iv = .int .i64 i ∧ Below w.heap.size w wr) (fun i _ => rs.length - (intOf i).toNat)
  case atStart => exact ⟨0, by omega, rfl, Below.refl _ _⟩
  case round =>
    obtain ⟨i, hin, rfl, hb⟩ := hrel
    have hws := hb.size
    have cV : ∀ {w' : World}, Below w.heap.size w w' → w'.cell? ⟨bb, 0, none⟩ = some (.slice va rs.length vcap) := fun h => by rw [h.cell hbl]; simp [World.cell?, hbox, boxOf]
    have cVr := cV hb
    by_cases hlt : i < rs.length
    · obtain ⟨gv, rfl, hgv, d0, d1⟩ := book_read hrow i hlt
      obtain ⟨he, hmk, hrl⟩ := hents rs[i] (List.getElem_mem hlt)
      obtain ⟨a, cap, hsl, hrd⟩ := he.read
      rw [hsl] at d0
      have f0 : wr.cell? ⟨gv, i * 2, none⟩ = some (.slice a rs[i].2.1 cap) := by rw [hb.cell hgv]; exact d0
      have f1 : wr.cell? ⟨gv, i * 2 + 1, none⟩ = some (.int .i64 rs[i].2.2) := by rw [hb.cell hgv]; exact d1
      have hfo := fileOf_any rs[i].2.2 hmk wr
      generalize hr : rs[i] = r at *
      go_wp2_with (go_at_call 27; refine hfo.mono ?_; rintro e w1 ⟨rfl, hbel⟩; have hb1 := hb.trans (hbel.mono hws); have cV1 := cV hb1; have f01 : w1.cell? ⟨gv, i * 2, none⟩ = some (.slice a r.2.1 cap) := (by rw [hb1.cell hgv]; exact d0))
      have hws1 := hb1.size
      have hba : Below w.heap.size w (w1.alloc (.cells #[.string (mark r.2.2).1, .string (mark r.2.2).2] 47)) := hb1.alloc hws1 _
      have cm := cell_two_new w1 (.string (mark r.2.2).1) (.string (mark r.2.2).2) 47
      have cm0 := cm 0 _ rfl
      have cm1 := cm 1 _ rfl
      rw [addr_add] at cm0 cm1
      generalize w1.alloc (.cells #[.string (mark r.2.2).1, .string (mark r.2.2).2] 47) = wa at hba cm0 cm1 ⊢
      have cVa := cV hba
      have f0a : wa.cell? ⟨gv, i * 2, none⟩ = some (.slice a r.2.1 cap) := by rw [hba.cell hgv]; exact d0
      have hne := eqM_run r.2.2
      have Hb : Hid (Below w.heap.size w wa) := hba
      have Hrd : Hid _ := hrd
      simp at cm0 cm1
      clear cV cV1 cVr f01 f0 f1 d0 d1 hfo hb hb1 hbel cm hba hrd he hsl hents hrow hbox
      go_loopw [5] (fun kv wr' => ∃ q n' : Nat, q ≤ r.2.1 ∧ kv = .int .i64 q ∧ wr' = wa.drewN n') (fun i _ => r.2.1 - (intOf i).toNat)
      case atStart => exact ⟨0, 0, by omega, rfl, rfl⟩
      case round =>
        obtain ⟨q, n', hq, rfl, rfl⟩ := hrel
        by_cases hqr : q < r.2.1
        · obtain ⟨g, rfl, hg, e0, e1⟩ := Hrd.out q hqr
          have e0' : wa.cell? ⟨g, q * 2, none⟩ = some (.string (mark r.2.2).1) := by rw [Hb.out.cell hg]; exact e0
          have e1' : wa.cell? ⟨g, q * 2 + 1, none⟩ = some (.string (mark r.2.2).2) := by rw [Hb.out.cell hg]; exact e1
          clear e0 e1
          go_wp2
          go_quiet (fail)
          go_wp2
          go_roundw
          case rel => exact ⟨q + 1, _, by omega, by go_num, rfl⟩
          case measure => simp [intOf]; omega
        · go_wp2
          exact ⟨⟨i + 1, by omega, by go_num, ⟨Hb.out.os, Hb.out.tape, Hb.out.output, Hb.out.size, Hb.out.block⟩⟩, by simp [intOf]; omega⟩
    · have c1 : wr.cell? ⟨bb, 1, none⟩ = some (.slice none 0 0) := by rw [hb.cell hbl]; simp [World.cell?, hbox, boxOf, nilS]
      have c2 : wr.cell? ⟨bb, 2, none⟩ = some (.slice none 0 0) := by rw [hb.cell hbl]; simp [World.cell?, hbox, boxOf, nilS]
      have hot := others_any bb (.slice va rs.length vcap) wr (by rw [hb.block bb hbl]; exact hbox)
      have Hb : Hid (Below w.heap.size w wr) := hb
      clear cV hb hents hrow hbox
      go_wp2
      go_loopw [6] (fun iv wr' => iv = .int .i64 0 ∧ wr' = wr) (fun _ _ => 0)
      case atStart => exact ⟨rfl, rfl⟩
      case round =>
        obtain ⟨rfl, rfl⟩ := hrel
        go_wp2
        go_loopw [8] (fun iv wr'' => iv = .int .i64 0 ∧ wr'' = wr) (fun _ _ => 0)
        case atStart => exact ⟨rfl, rfl⟩
        case round =>
          obtain ⟨rfl, rfl⟩ := hrel
          go_wp2_with (go_at_call 28; refine hot.mono ?_; rintro e w' ⟨rfl, rfl⟩)
          go_ret
          exact ⟨rfl, Hb.out⟩
end Go.Proofs.Ytgamgomepdfgdaa
