import Derived.Test.YtgamgomepdfgdaaRows
import Derived.Test.YtgamgomepdfgdaaAMain
import Derived.ProofKit
import Derived.SizedLaws
import Derived.Deep.Slices
namespace Go.Proofs.Ytgamgomepdfgdaa
open Go.ChangeShapes Go.WideShapes Go.ChangeAt Go.RowKit

theorem trya_own : ownKnob Try.prog.godebug = none := by kernel_rfl
theorem trya_laidOut : laidOutB Try.prog = true := by kernel_rfl
theorem trya_str : Try.prog.cellsOf 9 = 1 := by kernel_rfl
theorem trya_file : Try.prog.cellsOf 47 = 2 := by kernel_rfl
theorem trya_edit : Try.prog.cellsOf 49 = 3 := by kernel_rfl
theorem trya_bfile : Try.prog.bytesOf 47 = 32 := by kernel_rfl
theorem trya_bedit : Try.prog.bytesOf 49 = 48 := by kernel_rfl

theorem len2 {α : Type} {l : List α} (h : l.length = 2) : ∃ a b, l = [a, b] := by
  match l, h with
  | [a, b], _ => exact ⟨a, b, rfl⟩
theorem len3 {α : Type} {l : List α} (h : l.length = 3) : ∃ a b c, l = [a, b, c] := by
  match l, h with
  | [a, b, c], _ => exact ⟨a, b, c, rfl⟩

section
variable {H : Type} {enc : TypeId × Value → H} {W : World}

theorem one_str {n : Nat} {v : Value} {x : Option (DataW H × List MemPlace)} (h : DataW.trod enc Try.prog W 0 (fun _ => true) true n 9 [v] = x) (hx : x.isSome = true) : ∃ s : ByteArray, v = .string s ∧ s.size ≤ maxLen := by
  obtain ⟨y, rfl⟩ := Option.isSome_iff_exists.1 hx
  obtain ⟨s, h1, _, h2⟩ := DataW.trod_string Try.underlying9 h
  exact ⟨s, by simpa using h1, h2⟩

theorem two_strs {n : Nat} {cs : List Value} {x : DataW H × List MemPlace} (hl : cs.length = 2) (h : DataW.trod enc Try.prog W 0 (fun _ => true) true n 47 cs = some x) : ∃ s t : ByteArray, cs = [.string s, .string t] ∧ s.size ≤ maxLen := by
  obtain ⟨xs, k, hk, hxy, _, hxl, hf⟩ := DataW.trod_struct Try.underlying47 h
  obtain ⟨y0, y1, rfl⟩ := len2 (l := xs) (by simpa using hxl)
  obtain ⟨v0, v1, rfl⟩ := len2 hl
  have g0 := hf 0 _ rfl
  have g1 := hf 1 _ rfl
  simp [trya_str] at g0 g1
  obtain ⟨s, rfl, hs⟩ := one_str g0 rfl
  obtain ⟨t, rfl, _⟩ := one_str g1 rfl
  exact ⟨s, t, rfl, hs⟩

theorem three_strs {n : Nat} {cs : List Value} {x : DataW H × List MemPlace} (hl : cs.length = 3) (h : DataW.trod enc Try.prog W 0 (fun _ => true) true n 49 cs = some x) : ∃ s t u : ByteArray, cs = [.string s, .string t, .string u] := by
  obtain ⟨xs, k, hk, hxy, _, hxl, hf⟩ := DataW.trod_struct Try.underlying49 h
  obtain ⟨y0, y1, y2, rfl⟩ := len3 (l := xs) (by simpa using hxl)
  obtain ⟨v0, v1, v2, rfl⟩ := len3 hl
  have g0 := hf 0 _ rfl
  have g1 := hf 1 _ rfl
  have g2 := hf 2 _ rfl
  simp [trya_str] at g0 g1 g2
  obtain ⟨s, rfl, _⟩ := one_str g0 rfl
  obtain ⟨t, rfl, _⟩ := one_str g1 rfl
  obtain ⟨u, rfl, _⟩ := one_str g2 rfl
  exact ⟨s, t, u, rfl⟩

/-- files that came in, opened -/
theorem files_of {v : Value} {d : DataW H} {p : List MemPlace} (hok : ∃ a len cap, v = .slice a len cap) (h : DataW.Trod enc Try.prog W 0 (fun _ => true) true 22 v d p) :
    ∃ (l : List Fl) (a : Option Addr) (cap : Nat), v = .slice a l.length cap ∧ FilesAt W v l ∧ (∀ f ∈ l, f.1.size ≤ maxLen) ∧ (l = [] ∨ ∃ elems spare, d = .slice elems spare ∧ l.length ≤ elems.length) := by
  obtain ⟨a0, len, cap, rfl⟩ := hok
  obtain ⟨fuel, hf⟩ := h
  rcases Deep.open_slice Try.underlying22 hf with ⟨hcs, hx⟩ | ⟨a, len', cap', m, n, D, Pl, hcs, _, hl, hm, hmm, hx, hi⟩
  · simp [Value.cells] at hcs
    obtain ⟨rfl, rfl, rfl⟩ := hcs
    exact ⟨[], none, 0, rfl, .inl ⟨rfl, _, _, rfl⟩, fun f h => by simp at h, .inl rfl⟩
  · simp [Value.cells] at hcs
    obtain ⟨rfl, rfl, rfl⟩ := hcs
    simp only [Prod.mk.injEq] at hx
    obtain ⟨hd, hp⟩ := hx
    simp only [if_true] at hmm
    rw [trya_file] at hi hp
    have each : ∀ i, i < len → ∃ q : Fl, W.cell? (a.add (i * 2)) = some (.string q.1) ∧ W.cell? ((a.add (i * 2)).add 1) = some (.string q.2) ∧ q.1.size ≤ maxLen := fun i hil => by
      obtain ⟨cs, h1, h2⟩ := hi i (by omega)
      obtain ⟨_, hlen, hc⟩ := World.cells?_some h1
      obtain ⟨s, t, rfl, hs⟩ := two_strs hlen h2
      have e0 := hc 0 (by omega)
      have e1 := hc 1 (by omega)
      exact ⟨(s, t), by simpa [Addr.add] using e0, by simpa using e1, hs⟩
    obtain ⟨q, hq⟩ := Deep.choose_lt (α := Fl) each
    have hL : ((List.range len).map q).length = len := by simp
    have hg : ∀ i (h : i < ((List.range len).map q).length), ((List.range len).map q)[i] = q i := fun i h => by simp
    refine ⟨(List.range len).map q, some a, cap, by rw [hL], ?_, fun f hf => ?_, .inr ⟨_, _, hd, by simp⟩⟩
    · by_cases h0 : len = 0
      · subst h0
        exact .inl ⟨rfl, _, _, rfl⟩
      · obtain ⟨b, off, spot⟩ := a
        have hspot : spot = none := by simpa [Addr.add] using World.cell?_spot (hq 0 (by omega)).1
        subst hspot
        have hbW : b < W.heap.size := cell_lt (o := off) (by simpa [Addr.add] using (hq 0 (by omega)).1)
        refine .inr ⟨b, off, cap, by rw [hL], hbW, fun i h => ?_, fun i h => ?_⟩
        · have := (hq i (by rw [hL] at h; exact h)).1
          rw [hg i h, ← this, add_plain]
        · have := (hq i (by rw [hL] at h; exact h)).2.1
          rw [hg i h, ← this, add_plain, add_plain]
    · obtain ⟨i, hi', rfl⟩ := List.mem_map.1 hf
      exact (hq i (List.mem_range.1 hi')).2.2

/-- edits that came in, opened -/
theorem edits_of {v : Value} {d : DataW H} {p : List MemPlace} (hok : ∃ a len cap, v = .slice a len cap) (h : DataW.Trod enc Try.prog W 0 (fun _ => true) true 23 v d p) :
    ∃ (l : List Ed) (a : Option Addr) (cap : Nat), v = .slice a l.length cap ∧ EditsAt W v l ∧ (l = [] ∨ ∃ elems spare, d = .slice elems spare ∧ l.length ≤ elems.length) := by
  obtain ⟨a0, len, cap, rfl⟩ := hok
  obtain ⟨fuel, hf⟩ := h
  rcases Deep.open_slice Try.underlying23 hf with ⟨hcs, hx⟩ | ⟨a, len', cap', m, n, D, Pl, hcs, _, hl, hm, hmm, hx, hi⟩
  · simp [Value.cells] at hcs
    obtain ⟨rfl, rfl, rfl⟩ := hcs
    exact ⟨[], none, 0, rfl, .inl ⟨rfl, _, _, rfl⟩, .inl rfl⟩
  · simp [Value.cells] at hcs
    obtain ⟨rfl, rfl, rfl⟩ := hcs
    simp only [Prod.mk.injEq] at hx
    obtain ⟨hd, hp⟩ := hx
    simp only [if_true] at hmm
    rw [trya_edit] at hi hp
    have each : ∀ i, i < len → ∃ q : Ed, W.cell? (a.add (i * 3)) = some (.string q.1) ∧ W.cell? ((a.add (i * 3)).add 1) = some (.string q.2.1) ∧ W.cell? ((a.add (i * 3)).add 2) = some (.string q.2.2) := fun i hil => by
      obtain ⟨cs, h1, h2⟩ := hi i (by omega)
      obtain ⟨_, hlen, hc⟩ := World.cells?_some h1
      obtain ⟨s, t, u, rfl⟩ := three_strs hlen h2
      have e0 := hc 0 (by omega)
      have e1 := hc 1 (by omega)
      have e2 := hc 2 (by omega)
      exact ⟨(s, t, u), by simpa [Addr.add] using e0, by simpa using e1, by simpa using e2⟩
    obtain ⟨q, hq⟩ := Deep.choose_lt (α := Ed) each
    have hL : ((List.range len).map q).length = len := by simp
    have hg : ∀ i (h : i < ((List.range len).map q).length), ((List.range len).map q)[i] = q i := fun i h => by simp
    refine ⟨(List.range len).map q, some a, cap, by rw [hL], ?_, .inr ⟨_, _, hd, by simp⟩⟩
    by_cases h0 : len = 0
    · subst h0
      exact .inl ⟨rfl, _, _, rfl⟩
    · obtain ⟨b, off, spot⟩ := a
      have hspot : spot = none := by simpa [Addr.add] using World.cell?_spot (hq 0 (by omega)).1
      subst hspot
      have hbW : b < W.heap.size := cell_lt (o := off) (by simpa [Addr.add] using (hq 0 (by omega)).1)
      refine .inr ⟨b, off, cap, by rw [hL], hbW, fun i h => ?_, fun i h => ?_, fun i h => ?_⟩
      · have := (hq i (by rw [hL] at h; exact h)).1
        rw [hg i h, ← this, add_plain]
      · have := (hq i (by rw [hL] at h; exact h)).2.1
        rw [hg i h, ← this, add_plain, add_plain]
      · have := (hq i (by rw [hL] at h; exact h)).2.2
        rw [hg i h, ← this, add_plain, add_plain]
end

theorem room_of {n b k : Nat} (h : n * b ≤ reachBytes) (hk : k * b ≤ 4096) : (n + k) * b ≤ 140737488355328 := by
  rw [Nat.add_mul]
  have e : reachBytes + 4096 = 140737488355328 := by decide
  rw [← e]
  exact Nat.add_le_add h hk

theorem weigh {H : Type} {ts : List TypeId} {ds : List (DataW H)} {α : Type} {l : List α} {j b : Nat} {t e : TypeId} {d : DataW H} (h : (DataW.weightsEach Try.prog ts ds).all (· ≤ reachBytes) = true) (ht : ts[j]? = some t) (hd : ds[j]? = some d) (hu : Try.prog.underlying t = some (.slice e))
    (hb : Try.prog.bytesOf e = b) (hl : l = [] ∨ ∃ elems spare, d = .slice elems spare ∧ l.length ≤ elems.length) : l.length * b ≤ reachBytes := by
  rcases hl with rfl | ⟨elems, spare, rfl, hle⟩
  · simp
  · have := sized_slice h ht hd hu
    rw [hb] at this
    exact Nat.le_trans (Nat.mul_le_mul_right b (by omega)) this

set_option maxRecDepth 100000 in
theorem applies_lifted (os : Os) (started : os.Started) (H : Type) (enc : TypeId × Value → H) :
    ReturnsInHanded {} Try.checked os 3 .any (Rows.appliesSpec.pre6 enc Try.prog Try.f3 Rows.appliesRow.domain false) (Rows.appliesSpec.post enc Try.prog Try.f3 false true false false) := by
  refine returnsInHanded_of_change_sized (C := Try.checked) trya_own started (by kernel_rfl) Try.func3
    (ChangeSpec.witness6 (enc := enc) (C := Try.checked) false ⟨#[], #[.slice none 0 0, .slice none 0 0], []⟩ 8 (by kernel_rfl) (by kernel_rfl) (by kernel_rfl) (by kernel_rfl)) ?_
  intro W base args ds gs before hval0 hW _ hsized _
  have hval : ∀ (j : Nat) t v, Try.f3.params[j]? = some t → args[j]? = some v → Value.okWide Try.prog W .any base t v := hval0
  have hW' := hW
  obtain ⟨p, q, hA0, hV, rfl, _, _⟩ := hW
  have hA : DataW.TrodAll enc Try.prog W 0 (fun _ => true) true Try.f3.params.toList args.toList ds p := hA0
  have hz : (DataW.weightsEach Try.prog (Try.f3.params.toList ++ Rows.appliesSpec.plain.varTypes Try.prog) (ds ++ gs)).all (· ≤ reachBytes) = true := hsized
  rw [Try.params3] at hA hval hz
  obtain ⟨v0, v1, d0, d1, p0, p1, rfl, rfl, rfl, h0, h1⟩ := trodAll_two hA
  obtain ⟨rfl, rfl⟩ := trodVars_none hV
  have k0 := okWide_slice Try.underlying22 (hval 0 22 v0 rfl rfl)
  have k1 := okWide_slice Try.underlying23 (hval 1 23 v1 rfl rfl)
  clear hA0 hval0 hsized
  simp only [List.append_nil] at hW'
  have hlt : ∀ x ∈ p0 ++ p1, x.block < W.heap.size := fun x hx => by simpa using hW'.lt x hx
  have hlt0 : ∀ x ∈ p0, x.block < W.heap.size := fun x hx => hlt x (List.mem_append_left _ hx)
  have hlt1 : ∀ x ∈ p1, x.block < W.heap.size := fun x hx => hlt x (List.mem_append_right _ hx)
  obtain ⟨l, a, cap, rfl, hl, hs, hd0⟩ := files_of k0 h0
  obtain ⟨es, a', cap', rfl, he, hd1⟩ := edits_of k1 h1
  have b0 : l.length * 32 ≤ reachBytes := weigh (j := 0) hz rfl rfl Try.underlying22 trya_bfile hd0
  have b1 : es.length * 48 ≤ reachBytes := weigh (j := 1) hz rfl rfl Try.underlying23 trya_bedit hd1
  have e : reachBytes = 140737488351232 := by decide
  refine (applies_walk l es a a' cap cap' W hl he (room_of b0 (by decide)) (room_of b0 (by decide)) (room_of b0 (by decide)) (room_of b1 (by decide)) (by rw [e] at b0; omega) (by rw [e] at b1; omega) hs).mono fun e W' ⟨he, hnx⟩ => ?_
  subst he
  refine ⟨_, rfl, _, _, _, [], p0 ++ p1, [], hW', ?_, ?_, rfl, hnx.frame _, fun h => by cases h⟩
  · exact trodAll_mk1 (shut_bool Try.underlying4 true)
  · exact trodAll_mk2 (Below.trod trya_laidOut (by kernel_rfl) (of_decide_eq_true (by kernel_rfl)) h0 hnx hlt0) (Below.trod trya_laidOut (by kernel_rfl) (of_decide_eq_true (by kernel_rfl)) h1 hnx hlt1)

theorem applies_holds : Rows.AppliesSaid :=
  OpenClaim.holds_of_wide 3 Try.f3 rfl rfl rfl rfl rfl rfl rfl ⟨rfl, rfl, rfl, rfl, rfl⟩ rfl rfl rfl rfl rfl (by kernel_rfl) Try.func3 (by kernel_rfl)
    (of_decide_eq_true (by kernel_rfl)) (by unfold Func.isWrapper; first | (rw [if_pos (by decide +kernel)]; kernel_rfl) | (rw [if_neg (by decide +kernel)]; exact ⟨rfl, rfl⟩))
    (fun os started H enc _ => applies_lifted os started H enc)

end Go.Proofs.Ytgamgomepdfgdaa
