import Derived.Test.YtgamgomepdfgdaaProg
import Derived.Test.YtgamgomepdfgdaaCopy
import Derived.Test.YtgamgomepdfgdaaLeaf
import Derived.WalkLawsBesides
namespace Go.Proofs.Ytgamgomepdfgdaa
open Go.RowKit

theorem info47b : (Try.prog.info? 47).map (fun i => (i.zero, i.size, i.bytes)) = some (some (.agg #[.string ⟨#[]⟩, .string ⟨#[]⟩]), 2, 32) := by kernel_rfl
def beyB : ByteArray := ⟨#[98, 101, 121, 111, 110, 100]⟩

theorem addr_addN (g o n : Nat) : (⟨g, o, none⟩ : Addr).add n = ⟨g, o + n, none⟩ := by
  unfold Addr.add
  by_cases h : n = 0
  · subst h; simp
  · simp [h]

theorem src_files {w : World} {a : Option Addr} {n cap : Nat} {l : List Fl} (h : FilesAt w (.slice a n cap) l) (hn : 0 < n) : ∃ ad, a = some ad ∧ ∀ j v, (l.flatMap cF)[j]? = some v → w.cell? (ad.add j) = some v := by
  rcases h with ⟨_, a', cap', hv⟩ | ⟨b, off, cap', hv, _, h0, h1⟩
  · cases hv; omega
  · cases hv
    refine ⟨_, rfl, fun j v hj => ?_⟩
    have hjl : j < l.length * 2 := by
      have := (List.getElem?_eq_some_iff.1 hj).1
      rwa [flat_len cF 2 (fun _ => rfl)] at this
    have e : j = j / 2 * 2 + j % 2 := by omega
    have hi : j / 2 < l.length := by omega
    have hg := flat_get cF 2 (fun _ => rfl) l (j / 2) (j % 2) hi (by omega)
    rw [← e, hj] at hg
    have hadd := addr_addN b off j
    rw [hadd]
    rcases (show j % 2 = 0 ∨ j % 2 = 1 by omega) with h2 | h2
    · rw [h2] at hg
      have hv : v = .string l[j / 2].1 := by simpa [cF] using hg
      have := h0 (j / 2) hi
      rw [hv, ← this]; congr 2; omega
    · rw [h2] at hg
      have hv : v = .string l[j / 2].2 := by simpa [cF] using hg
      have := h1 (j / 2) hi
      rw [hv, ← this]; congr 2; omega

theorem one_flat (l : List Fl) : ∀ v ∈ l.flatMap cF, v.oneCell' = true := by
  intro v hv
  obtain ⟨f, _, hf⟩ := List.mem_flatMap.1 hv
  simp [cF] at hf
  rcases hf with rfl | rfl <;> rfl

set_option maxRecDepth 100000 in
set_option maxHeartbeats 1000000 in
theorem lentFiles_walk (l : List Fl) (a : Option Addr) (cap : Nat) (w : World) (hl : FilesAt w (.slice a l.length cap) l) (hn : Hid ((l.length + 100) * 32 ≤ 140737488355328)) (hln : l.length < 8796093022208) :
    Calls Try.prog 5 #[.slice a l.length cap] w fun e w' => (∃ g, e = .returned (.slice (some ⟨g, 0, none⟩) (l.length + 2) (l.length + 2)) ∧ w'.ownsRow w.heap.size 47 2 (.slice (some ⟨g, 0, none⟩) (l.length + 2) (l.length + 2)) (l.length + 2) ((l ++ [((beyB, ⟨#[]⟩) : Fl), ((beyB, ⟨#[]⟩) : Fl)]).flatMap cF)) ∧ Below w.heap.size w w' := by
  obtain ⟨i0, hi, hz0, hz1, hz2⟩ := info_parts info47b
  have hsz : (Try.prog.info? 47).map (·.size) = some 2 := by rw [hi]; simp [hz1]
  have q2 : Hid (i0.bytes * (l.length + 2) ≤ 281474976710656) := by
    show i0.bytes * (l.length + 2) ≤ 281474976710656
    have := hn.out
    rw [hz2]; omega
  have hfit1 : ∀ {w' : World} {e : TypeId} {v : Value} {xs : List Value}, w'.ownsRow w.heap.size e 2 v (l.length + 2) xs → l.length * 2 + 2 ≤ xs.length := fun h => by have := h.1; omega
  have hfit2 : ∀ {w' : World} {e : TypeId} {v : Value} {xs : List Value}, w'.ownsRow w.heap.size e 2 v (l.length + 2) xs → (l.length + 1) * 2 + 2 ≤ xs.length := fun h => by have := h.1; omega
  have hone : ∀ v ∈ l.flatMap cF, v.oneCell' = true := one_flat l
  go_enter Try.func5, Try.ntmps5
  go_wp2_with (first | (at_make; refine wpList_make_full _ rfl _ _ _ rfl w.heap.size _ i0 _ 2 Try.underlying22 hi hz0 hz1 _ _ _ _ (l.length + 2) rfl rfl (by omega) (by omega) q2.out (by unfold maxLen; omega) (Nat.le_refl _) ?_; intro w1 hrow1 hg1) | (refine wpList_copyK _ rfl _ _ _ _ rfl 47 2 w.heap.size Try.underlying22 hsz _ (l.length + 2) a l.length cap rfl rfl (by omega) _ hrow1 (l.flatMap cF) (flat_len cF 2 (fun _ => rfl) l) (fun h0 => src_files (hl.grown hg1 (Classical.em _)) h0) hone ?_; intro w2 hrow2 hg2) | (refine wpList_store_elem _ rfl _ _ _ rfl w.heap.size _ 2 _ _ _ _ _ hrow2 rfl [.string beyB, .string ⟨#[]⟩] rfl hsz (hfit1 hrow2) (by simp [Value.oneCell']) ?_; intro w3 hrow3 hg3) | (refine wpList_store_elem _ rfl _ _ _ rfl w.heap.size _ 2 _ _ _ _ _ hrow3 rfl [.string beyB, .string ⟨#[]⟩] rfl hsz (hfit2 hrow3) (by simp [Value.oneCell']) ?_; intro w4 hrow4 hg4))
  go_ret
  refine ⟨⟨_, rfl, ?_⟩, ?_⟩
  · have e := two_stores (cs := [.string beyB, .string ⟨#[]⟩]) (k := l.length * 2) (flat_len cF 2 (fun _ => rfl) l) (T := (madeCells (Value.agg #[Value.string ⟨#[]⟩, Value.string ⟨#[]⟩]).cells ((l.length + 2) * 2)).toList.drop (l.flatMap cF).length) (by have := hrow1.1; rw [List.length_drop, flat_len cF 2 (fun _ => rfl) l, this]; simp; omega)
    have e2 : (l.length + 1) * 2 = l.length * 2 + 2 := by omega
    rw [List.flatMap_append]
    rw [e2] at hrow4
    exact e ▸ hrow4
  · have hs1 := hg1.size
    exact ((((Below.refl _ _).grown hg1 (Nat.le_refl _) (by simp)).grown hg2 hs1 (by simp)).grown hg3 (Nat.le_trans hs1 hg2.size) (by simp)).grown hg4 (Nat.le_trans hs1 (Nat.le_trans hg2.size hg3.size)) (by simp)

theorem info49b : (Try.prog.info? 49).map (fun i => (i.zero, i.size, i.bytes)) = some (some (.agg #[.string ⟨#[]⟩, .string ⟨#[]⟩, .string ⟨#[]⟩]), 3, 48) := by kernel_rfl

theorem src_edits {w : World} {a : Option Addr} {n cap : Nat} {l : List Ed} (h : EditsAt w (.slice a n cap) l) (hn : 0 < n) : ∃ ad, a = some ad ∧ ∀ j v, (l.flatMap cE)[j]? = some v → w.cell? (ad.add j) = some v := by
  rcases h with ⟨_, a', cap', hv⟩ | ⟨b, off, cap', hv, _, h0, h1, h2⟩
  · cases hv; omega
  · cases hv
    refine ⟨_, rfl, fun j v hj => ?_⟩
    have hjl : j < l.length * 3 := by
      have := (List.getElem?_eq_some_iff.1 hj).1
      rwa [flat_len cE 3 (fun _ => rfl)] at this
    have e : j = j / 3 * 3 + j % 3 := by omega
    have hi : j / 3 < l.length := by omega
    have hg := flat_get cE 3 (fun _ => rfl) l (j / 3) (j % 3) hi (by omega)
    rw [← e, hj] at hg
    have hadd := addr_addN b off j
    rw [hadd]
    rcases (show j % 3 = 0 ∨ j % 3 = 1 ∨ j % 3 = 2 by omega) with h3 | h3 | h3
    · rw [h3] at hg
      have hv : v = .string l[j / 3].1 := by simpa [cE] using hg
      have := h0 (j / 3) hi
      rw [hv, ← this]; congr 2; omega
    · rw [h3] at hg
      have hv : v = .string l[j / 3].2.1 := by simpa [cE] using hg
      have := h1 (j / 3) hi
      rw [hv, ← this]; congr 2; omega
    · rw [h3] at hg
      have hv : v = .string l[j / 3].2.2 := by simpa [cE] using hg
      have := h2 (j / 3) hi
      rw [hv, ← this]; congr 2; omega

theorem one_flatE (l : List Ed) : ∀ v ∈ l.flatMap cE, v.oneCell' = true := by
  intro v hv
  obtain ⟨f, _, hf⟩ := List.mem_flatMap.1 hv
  simp [cE] at hf
  rcases hf with rfl | rfl | rfl <;> rfl

set_option maxRecDepth 100000 in
set_option maxHeartbeats 1000000 in
theorem lent_walk (l : List Ed) (a : Option Addr) (cap : Nat) (w : World) (hl : EditsAt w (.slice a l.length cap) l) (hn : Hid ((l.length + 80) * 48 ≤ 140737488355328)) (hln : l.length < 8796093022208) :
    Calls Try.prog 6 #[.slice a l.length cap] w fun e w' => (∃ g, e = .returned (.slice (some ⟨g, 0, none⟩) (l.length + 2) (l.length + 2)) ∧ w'.ownsRow w.heap.size 49 3 (.slice (some ⟨g, 0, none⟩) (l.length + 2) (l.length + 2)) (l.length + 2) ((l ++ [((beyB, ⟨#[]⟩, ⟨#[]⟩) : Ed), ((beyB, ⟨#[]⟩, ⟨#[]⟩) : Ed)]).flatMap cE)) ∧ Below w.heap.size w w' := by
  obtain ⟨i0, hi, hz0, hz1, hz2⟩ := info_parts info49b
  have hsz : (Try.prog.info? 49).map (·.size) = some 3 := by rw [hi]; simp [hz1]
  have q2 : Hid (i0.bytes * (l.length + 2) ≤ 281474976710656) := by
    show i0.bytes * (l.length + 2) ≤ 281474976710656
    have := hn.out
    rw [hz2]; omega
  have hfit1 : ∀ {w' : World} {e : TypeId} {v : Value} {xs : List Value}, w'.ownsRow w.heap.size e 3 v (l.length + 2) xs → l.length * 3 + 3 ≤ xs.length := fun h => by have := h.1; omega
  have hfit2 : ∀ {w' : World} {e : TypeId} {v : Value} {xs : List Value}, w'.ownsRow w.heap.size e 3 v (l.length + 2) xs → (l.length + 1) * 3 + 3 ≤ xs.length := fun h => by have := h.1; omega
  have hone : ∀ v ∈ l.flatMap cE, v.oneCell' = true := one_flatE l
  go_enter Try.func6, Try.ntmps6
  go_wp2_with (first | (at_make; refine wpList_make_full _ rfl _ _ _ rfl w.heap.size _ i0 _ 3 Try.underlying23 hi hz0 hz1 _ _ _ _ (l.length + 2) rfl rfl (by omega) (by omega) q2.out (by unfold maxLen; omega) (Nat.le_refl _) ?_; intro w1 hrow1 hg1) | (refine wpList_copyK _ rfl _ _ _ _ rfl 49 3 w.heap.size Try.underlying23 hsz _ (l.length + 2) a l.length cap rfl rfl (by omega) _ hrow1 (l.flatMap cE) (flat_len cE 3 (fun _ => rfl) l) (fun h0 => src_edits (hl.grown hg1 (Classical.em _)) h0) hone ?_; intro w2 hrow2 hg2) | (go_at_call 18; refine (beyond_any _).mono ?_; rintro e w' ⟨rfl, rfl⟩) | (refine wpList_store_elem _ rfl _ _ _ rfl w.heap.size _ 3 _ _ _ _ _ (hrow2.alloc _) rfl [.string beyB, .string ⟨#[]⟩, .string ⟨#[]⟩] rfl hsz (hfit1 hrow2) (by simp [Value.oneCell']) ?_; intro w3 hrow3 hg3) | (refine wpList_store_elem _ rfl _ _ _ rfl w.heap.size _ 3 _ _ _ _ _ (hrow3.alloc _) rfl [.string beyB, .string ⟨#[]⟩, .string ⟨#[]⟩] rfl hsz (hfit2 hrow3) (by simp [Value.oneCell']) ?_; intro w4 hrow4 hg4))
  go_ret
  refine ⟨⟨_, rfl, ?_⟩, ?_⟩
  · have e := two_stores (cs := [.string beyB, .string ⟨#[]⟩, .string ⟨#[]⟩]) (k := l.length * 3) (flat_len cE 3 (fun _ => rfl) l) (T := (madeCells (Value.agg #[Value.string ⟨#[]⟩, Value.string ⟨#[]⟩, Value.string ⟨#[]⟩]).cells ((l.length + 2) * 3)).toList.drop (l.flatMap cE).length) (by have := hrow1.1; rw [List.length_drop, flat_len cE 3 (fun _ => rfl) l, this]; simp; omega)
    have e2 : (l.length + 1) * 3 = l.length * 3 + 3 := by omega
    rw [List.flatMap_append]
    rw [e2] at hrow4
    exact e ▸ hrow4
  · have hs1 := hg1.size
    have hs2 := hg2.size
    have hs3 := hg3.size
    simp at hs3
    refine Below.grown (Below.alloc (Below.grown (Below.alloc (((Below.refl _ _).grown hg1 (Nat.le_refl _) (by simp)).grown hg2 hs1 (by simp)) (by omega) _) hg3 (by simp; omega) (by simp)) (by omega) _) hg4 (by simp; omega) (by simp)
end Go.Proofs.Ytgamgomepdfgdaa
