import Derived.Test.YtgamgomepdfgdaaSetA
import Derived.Test.YtgamgomepdfgdaaSortF
import Derived.Sort.OwnSorted
namespace Go.Proofs.Ytgamgomepdfgdaa
open Go.RowKit Go.Maps

theorem info47 : (Try.prog.info? 47).map (fun i => (i.zero, i.size, i.bytes)) = some (some (.agg #[.string ⟨#[]⟩, .string ⟨#[]⟩]), 2, 32) := by kernel_rfl

/-- what a range over the map has met -/
def Coll (g : ByteArray → ByteArray) (left : Lit → Bool) (ss : List Fl) : Prop :=
  Apart Prod.fst ss ∧ ∀ f, f ∈ ss ↔ g f.1 = f.2 ∧ f.2 ≠ ⟨#[]⟩ ∧ left (kl f.1) = false

theorem Coll.start {D : DataW Unit} {g : ByteArray → ByteArray} (h : MapIs D g) : Coll g (Maps.has D) [] := by
  refine ⟨List.Pairwise.nil, fun f => ⟨fun x => by simp at x, ?_⟩⟩
  rintro ⟨h1, h2, h3⟩
  rw [← h1] at h2
  rw [((h f.1).2 h2).1] at h3
  cases h3

theorem keyOf_inv9 {key : Value} {k : Lit} (h : keyOf Try.prog 9 key = some k) : ∃ s, key = .string s ∧ k = kl s := by
  cases key <;> simp [keyOf, Try.underlying9, mapKey] at h
  rename_i s
  exact ⟨s, rfl, h.2.symm⟩

theorem sameKey_kl (s t : ByteArray) : (kl s).sameKey (kl t) = true ↔ s = t := by
  constructor
  · intro h; exact kl_inj (WideAt.sameKey_eq h)
  · rintro rfl; simp [Lit.sameKey]

theorem Coll.step {D : DataW Unit} {g : ByteArray → ByteArray} {left : Lit → Bool} {ss : List Fl} (hM : MapIs D g) (h : Coll g left ss) {s : ByteArray} (hl : left (kl s) = true) {f : Fl} (hat : ∀ zd, D.atKey (kl s) zd = fd f.1 f.2) :
    Coll g (fun z => left z && !z.sameKey (kl s)) (ss ++ [f]) ∧ f.1 = s ∧ f.2 = g s := by
  have hh := has_true_of_atKey hat
  have hg : g s ≠ ⟨#[]⟩ := fun e => by rw [(hM s).1 e] at hh; cases hh
  have e := ((hM s).2 hg).2 (.map [])
  rw [hat] at e
  obtain ⟨e1, e2⟩ := fd_inj e
  refine ⟨⟨?_, fun x => ?_⟩, e1, e2⟩
  · refine List.pairwise_append.2 ⟨h.1, List.pairwise_singleton _ _, fun a ha b hb e => ?_⟩
    rw [List.mem_singleton.1 hb, e1] at e
    have := ((h.2 a).1 ha).2.2
    rw [e, hl] at this
    cases this
  · rw [List.mem_append, List.mem_singleton, h.2]
    show _ ↔ g x.1 = x.2 ∧ x.2 ≠ ⟨#[]⟩ ∧ (left (kl x.1) && !(kl x.1).sameKey (kl s)) = false
    by_cases ex : x.1 = s
    · have : (left (kl x.1) && !(kl x.1).sameKey (kl s)) = false := by rw [(sameKey_kl _ _).2 ex]; simp
      rw [this]
      constructor
      · rintro (⟨a, b, _⟩ | rfl)
        · exact ⟨a, b, rfl⟩
        · exact ⟨by rw [e1, e2], by rw [e2]; exact hg, rfl⟩
      · rintro ⟨a, _, _⟩
        exact .inr (Prod.ext (ex.trans e1.symm) (by rw [← a, ex, e2]))
    · have : (kl x.1).sameKey (kl s) = false := by
        rw [← Bool.not_eq_true, sameKey_kl]; exact ex
      rw [this]
      simp only [Bool.not_false, Bool.and_true]
      constructor
      · rintro (a | rfl)
        · exact a
        · exact absurd e1 ex
      · exact .inl

theorem Coll.told {g : ByteArray → ByteArray} {left : Lit → Bool} {ss l' : List Fl} (h : Coll g left ss) (hl : ∀ k, left k = false) (hp : l'.Perm ss) (hs : l'.Pairwise fun a b => ¬ b.1.data.toList < a.1.data.toList) : Told l' g := by
  have ha : Apart Prod.fst l' := hp.symm.pairwise h.1 (fun {x y} hxy => hxy.symm)
  refine told_of_mem ?_ fun f => ?_
  · have := hs.and ha
    refine this.imp fun {a b} ⟨h1, h2⟩ => ?_
    rcases Classical.em (a.1.data.toList < b.1.data.toList) with h | h
    · exact h
    · exact absurd (eq_of_data (List.le_antisymm (List.not_lt.1 h1) (List.not_lt.1 h))) h2
  · rw [hp.mem_iff, h.2, hl]
    simp

theorem cell_two_box (w : World) (o : Obj) (a b : Value) (t : TypeId) : ∀ j u, [a, b][j]? = some u → ((w.alloc o).alloc (.cells #[a, b] t)).cell? ((⟨w.heap.size + 1, 0, none⟩ : Addr).add j) = some u := by
  have := cell_two_new (w.alloc o) a b t
  simpa using this

def LRes (e : Ending) (w w' : World) (g : ByteArray → ByteArray) (n : Nat) : Prop :=
  ∃ (l : List Fl) (b cap : Nat), e = .returned (.slice (some ⟨b, 0, none⟩) l.length cap) ∧ Told l g ∧ l.length ≤ n ∧ w'.ownsRow w.heap.size 47 2 (.slice (some ⟨b, 0, none⟩) l.length cap) l.length (l.flatMap cF)

set_option maxRecDepth 100000 in
set_option maxHeartbeats 2000000 in
theorem list_any (b n : Nat) (D : DataW Unit) (g : ByteArray → ByteArray) (w : World) (hown : w.ownsMap Try.prog 9 fileElem b n D) (hM : MapIs D g) (hn : n * 32 ≤ 140737488355328) :
    Calls Try.prog 26 #[.map (some b)] w fun e w' => LRes e w w' g n ∧ Below w.heap.size w w' := by
  obtain ⟨i0, hi, hz0, hz1, hz2⟩ := info_parts info47
  have hbl := hown.lt
  have hsl := hown.size_le
  go_enter Try.func26, Try.ntmps26
  go_wp2_with (first
    | (at_len; refine wpList_len_own _ rfl _ _ rfl _ _ under58 _ b n _ rfl hown ?_)
    | (at_make; refine wpList_make_own _ rfl _ _ _ rfl w.heap.size _ i0 _ 2 Try.underlying22 hi hz0 hz1 _ _ _ (Maps.size D) rfl rfl rfl (by rw [hz2]; omega) (by unfold maxLen; omega) (Nat.le_refl _) ?_; intro w1 hrow1 hg1)
    | (at_range; refine wpList_range_own _ rfl _ _ rfl _ _ law9 under58 _ b n _ rfl (hown.kept hg1 (by simp)) ?_; intro w0 hrg0 hg0 hs0))
  go_frame
  go_loopw [3] (fun v wr => ∃ (left : Lit → Bool) (cnt : Nat) (ss : List Fl), wr.ranges Try.prog 9 fileElem b w1.heap.size n D left cnt ∧ ss.length + cnt ≤ Maps.size D ∧
      wr.ownsRow w.heap.size 47 2 v ss.length (ss.flatMap cF) ∧ v ≠ .slice none 0 0 ∧ Coll g left ss ∧ Below w.heap.size w wr)
    (fun _ wr => wr.rangeLeft b w1.heap.size)
  case atStart =>
    exact ⟨_, _, [], hrg0, by simp, hrow1.kept hg0 (Or.inr (by simp [Value.ownBlock])), by simp, Coll.start hM,
      ((Below.refl _ _).grown hg1 (Nat.le_refl _) (fun j hj => by cases hj)).grown hg0 hg1.size (fun j hj => by cases hj)⟩
  case round =>
    obtain ⟨left, cnt, ss, hrg, hcs, hrow, hnn, hC, hnx⟩ := hrel
    go_wp2_with (at_next; refine wpList_next_ranges _ rfl _ rfl _ law9 fileElem Value.string (fun f : Fl => .agg #[.string f.1, .string f.2]) (fun key kl hk => by obtain ⟨x, hx, _⟩ := keyOf_inv9 hk; exact ⟨x, hx⟩) (fun v y hv => by obtain ⟨p, c, hx, _⟩ := fileElem_inv hv; exact ⟨(p, c), hx⟩) b w1.heap.size n _ _ _ rfl hrg ?_ ?_)
    · intro hc0 hl0
      rcases hrow.2 with ⟨hnil, _⟩ | ⟨g', cap, cur, rfl, hbase, hb, h1, h2, h3, h4⟩
      · exact absurd hnil hnn
      have hc := sort_any ss g' cap w.heap.size wr hrow (by omega)
      clear hrow hnn h4
      go_wp2_with (go_at_call 36; refine hc.mono ?_; rintro e w' ⟨rfl, ⟨l', hp, hs, hrow'⟩, hg'⟩)
      go_ret
      have hle := hp.length_eq
      exact ⟨⟨l', g', cap, by rw [hle]; rfl, hC.told hl0 hp hs, by omega, hrow'⟩, hnx.grown hg' hnx.size (fun j hj => by cases hj; exact hbase)⟩
    · intro x p c k yd yp w2 cnt2 hkey hlk hv hat hrg2 hlt hg2 hs2 hen
      obtain ⟨s, hx, rfl⟩ := keyOf_inv9 hkey
      cases hx
      have hy : fd p c = yd := congrArg Prod.fst (Option.some.inj ((fileElem_mk p c).symm.trans hv))
      subst hy
      obtain ⟨hC2, _⟩ := hC.step hM hlk (f := (p, c)) hat
      have hrow2 := hrow.kept hg2 (Or.inr (row_ne_iter hrow hrg).symm)
      have hz2' := hg2.size
      have hz1' := hnx.size
      clear hs2 hv hkey hC hat
      go_wp2_with (at_builtin; refine wpList_append_own _ rfl _ _ _ rfl w.heap.size _ i0 _ 2 32 Try.underlying22 hi hz0 hz1 hz2 rfl (by decide) _ _ _ rfl ((hrow2.alloc _).alloc _) ⟨w2.heap.size + 1, 0, none⟩ 1 1 [.string p, .string c] rfl rfl (cell_two_box _ _ _ _ _) (by simp [Value.oneCell']) (by unfold maxLen; omega) (by omega) (by simp; omega) ?_; intro v' w3 hown' hg3 hnil3; go_frame)
      have hrg3 := ((hrg2.alloc (.cells #[.string p, .string c] 47)).alloc (.cells #[.string p, .string c] 47)).kept hg3 (row_ne_low hrow2 hbl) (row_ne_iter hrow2 hrg2)
      refine ⟨⟨_, cnt2, ss ++ [(p, c)], hrg3, by simp; omega, by simpa [cF] using hown', fun hv' => by have := (hnil3.1 hv').2; omega, hC2, ?_⟩, by rw [hrg3.left_eq, hrg.left_eq]; exact hlt⟩
      have b1 : Below w.heap.size w w2 := hnx.grown hg2 hnx.size (fun j hj => by cases hj; exact hg1.size)
      exact ((b1.alloc b1.size _).alloc (by simp; omega) _).grown hg3 (by simp; omega) (fun j hj => (hrow2.lt j hj).1)
end Go.Proofs.Ytgamgomepdfgdaa
