import Derived.Test.YtgamgomepdfgdaaWith
namespace Go.Proofs.Ytgamgomepdfgdaa
open Go.RowKit

def newB : ByteArray := ⟨#[110, 101, 119]⟩
def xB : ByteArray := ⟨#[120]⟩
def noB : ByteArray := ⟨#[]⟩

theorem pathB_data {k : Nat} (h : k < 26) : (pathB k).data.toList = [UInt8.ofNat (97 + k), 97, 97] := by
  unfold pathB
  rw [strOfNums_data]
  have e1 : (97 + (k : Int) % 26).toNat = 97 + k := by omega
  have e2 : (97 + (k : Int) / 26 % 26).toNat = 97 := by omega
  have e3 : (97 + (k : Int) / 676).toNat = 97 := by omega
  simp only [List.map_cons, List.map_nil, e1, e2, e3]
  rfl

theorem pathB_size {k : Nat} (h : k < 26) : (pathB k).size = 3 := by rw [Lib.size_eq, pathB_data h]; rfl

theorem pathB_lt {j k : Nat} (hj : j < k) (hk : k < 26) : (pathB j).data.toList < (pathB k).data.toList := by
  rw [pathB_data hk, pathB_data (Nat.lt_trans hj hk), List.cons_lt_cons_iff]
  left
  rw [UInt8.lt_iff_toNat_lt]
  simp only [UInt8.toNat_ofNat']
  omega

theorem pathB_ne {j k : Nat} (hj : j < k) (hk : k < 26) : pathB j ≠ pathB k := fun e => by
  have := pathB_lt hj hk
  rw [e] at this
  exact List.lt_irrefl _ this

theorem pathB_new {k : Nat} (h : k < 26) : pathB k ≠ newB := fun e => by
  have h1 := pathB_data h
  rw [e] at h1
  have h2 : newB.data.toList = [110, 101, 119] := rfl
  rw [h2] at h1
  have h3 := List.cons.inj h1
  have h4 := List.cons.inj h3.2
  exact absurd h4.1 (by decide)

theorem shortB_size (s : ByteArray) : (shortB s).size ≤ 8 := by
  unfold shortB
  split
  · rw [ByteArray.size_extract]; omega
  · omega
theorem shortB_pos {s : ByteArray} (h : s.toList.isEmpty = false) : 1 ≤ (shortB s).size := by
  have h1 : s.size ≠ 0 := fun e => by
    rw [Lib.size_eq] at e
    have := List.length_eq_zero_iff.1 e
    rw [Lib.toList_data, this] at h
    simp at h
  unfold shortB
  split
  · rw [ByteArray.size_extract]; omega
  · omega

/-- the files of the first k texts -/
def filesTo (bs : List ByteArray) : Nat → List Fl
  | 0 => []
  | k + 1 => filesTo bs k ++ if (bs.getD k noB).toList.isEmpty then [] else [(pathB k, shortB (bs.getD k noB))]

theorem filesTo_hit {bs : List ByteArray} {k : Nat} (hk : k < bs.length) (h : bs[k].toList.isEmpty = false) : filesTo bs (k + 1) = filesTo bs k ++ [(pathB k, shortB bs[k])] := by
  have e : bs.getD k noB = bs[k] := by simp [List.getD, hk]
  show filesTo bs k ++ _ = _
  rw [e, h]; rfl
theorem filesTo_miss {bs : List ByteArray} {k : Nat} (hk : k < bs.length) (h : bs[k].toList.isEmpty = true) : filesTo bs (k + 1) = filesTo bs k := by
  have e : bs.getD k noB = bs[k] := by simp [List.getD, hk]
  show filesTo bs k ++ _ = _
  rw [e, h]; exact List.append_nil _

def FInv (k : Nat) (l : List Fl) : Prop := Rising l ∧ (∀ f ∈ l, okFl f = true) ∧ (∀ f ∈ l, ∃ j, j < k ∧ f.1 = pathB j) ∧ l.length ≤ k

theorem finv (bs : List ByteArray) : ∀ k, k ≤ 26 → FInv k (filesTo bs k)
  | 0, _ => ⟨List.Pairwise.nil, by simp [filesTo], by simp [filesTo], Nat.le_refl _⟩
  | k + 1, hk => by
    obtain ⟨h1, h2, h3, h4⟩ := finv bs k (by omega)
    have mono : ∀ f ∈ filesTo bs k, ∃ j, j < k + 1 ∧ f.1 = pathB j := fun f hf => by
      obtain ⟨j, hj, e⟩ := h3 f hf
      exact ⟨j, by omega, e⟩
    cases h : (bs.getD k noB).toList.isEmpty
    · have e : filesTo bs (k + 1) = filesTo bs k ++ [(pathB k, shortB (bs.getD k noB))] := by
        show filesTo bs k ++ _ = _
        rw [h]; rfl
      rw [e]
      refine ⟨List.pairwise_append.2 ⟨h1, List.pairwise_singleton _ _, fun x hx y hy => ?_⟩, fun f hf => ?_, fun f hf => ?_, by simp; omega⟩
      · rw [List.mem_singleton.1 hy]
        obtain ⟨j, hj, ej⟩ := h3 x hx
        rw [ej]; exact pathB_lt hj (by omega)
      · rcases List.mem_append.1 hf with hf | hf
        · exact h2 f hf
        · rw [List.mem_singleton.1 hf, okFl_iff]
          have := pathB_size (k := k) (by omega)
          exact ⟨⟨by show 1 ≤ (pathB k).size; omega, by show (pathB k).size ≤ 8; omega⟩, shortB_pos h, shortB_size _⟩
      · rcases List.mem_append.1 hf with hf | hf
        · exact mono f hf
        · rw [List.mem_singleton.1 hf]; exact ⟨k, by omega, rfl⟩
    · have e : filesTo bs (k + 1) = filesTo bs k := by
        show filesTo bs k ++ _ = _
        rw [h]; exact List.append_nil _
      rw [e]
      exact ⟨h1, h2, mono, by omega⟩

def swapE (e : Ed) : Ed := (e.1, e.2.2, e.2.1)

/-- the edits of the first k texts -/
def editTo (fs : List Fl) (ns : List ByteArray) : Nat → List Ed
  | 0 => [(newB, noB, xB)]
  | k + 1 => editTo fs ns k ++ if (standsL fs (pathB k)).toList == (shortB (ns.getD k noB)).toList then [] else [(pathB k, standsL fs (pathB k), shortB (ns.getD k noB))]

theorem editTo_hit {fs : List Fl} {ns : List ByteArray} {k : Nat} (hk : k < ns.length) (h : (!((standsL fs (pathB k)).toList == (shortB ns[k]).toList)) = true) : editTo fs ns (k + 1) = editTo fs ns k ++ [(pathB k, standsL fs (pathB k), shortB ns[k])] := by
  have e : ns.getD k noB = ns[k] := by simp [List.getD, hk]
  have h' : ((standsL fs (pathB k)).toList == (shortB ns[k]).toList) = false := by simpa using h
  show editTo fs ns k ++ _ = _
  rw [e, h']; rfl
theorem editTo_miss {fs : List Fl} {ns : List ByteArray} {k : Nat} (hk : k < ns.length) (h : (!((standsL fs (pathB k)).toList == (shortB ns[k]).toList)) = false) : editTo fs ns (k + 1) = editTo fs ns k := by
  have e : ns.getD k noB = ns[k] := by simp [List.getD, hk]
  have h' : ((standsL fs (pathB k)).toList == (shortB ns[k]).toList) = true := by simpa using h
  show editTo fs ns k ++ _ = _
  rw [e, h']; exact List.append_nil _

def EInv (fs : List Fl) (k : Nat) (E : List Ed) : Prop :=
  (∀ e ∈ E, okEd e = true ∧ standsL fs e.1 = e.2.1 ∧ (e.1 = newB ∨ ∃ j, j < k ∧ e.1 = pathB j)) ∧ Apart Prod.fst E ∧ (newB, noB, xB) ∈ E ∧ E.length ≤ k + 1

theorem stands_size {k : Nat} {l : List Fl} (h : FInv k l) (q : ByteArray) : (standsL l q).size ≤ 8 := by
  by_cases e : standsL l q = ⟨#[]⟩
  · rw [e]; decide
  · have := h.2.1 _ (standsL_found e)
    exact ((okFl_iff _).1 this).2.2

theorem stands_new {k : Nat} (hk : k ≤ 26) {l : List Fl} (h : FInv k l) : standsL l newB = noB :=
  standsL_none fun f hf e => by
    obtain ⟨j, hj, ej⟩ := h.2.2.1 f hf
    exact pathB_new (by omega) (ej.symm.trans e)

theorem einv {K : Nat} (hK : K ≤ 26) {fs : List Fl} (hf : FInv K fs) (ns : List ByteArray) : ∀ k, k ≤ 3 → EInv fs k (editTo fs ns k)
  | 0, _ => by
    refine ⟨fun e he => ?_, List.pairwise_singleton _ _, by simp [editTo], by simp [editTo]⟩
    rw [show e = (newB, noB, xB) from by simpa [editTo] using he]
    exact ⟨(okEd_iff _).2 ⟨⟨by decide, by decide⟩, by decide, by decide, fun e => absurd (congrArg ByteArray.size e) (by decide)⟩, stands_new hK hf, .inl rfl⟩
  | k + 1, hk => by
    obtain ⟨h1, h2, h3, h4⟩ := einv hK hf ns k (by omega)
    have mono : ∀ e ∈ editTo fs ns k, okEd e = true ∧ standsL fs e.1 = e.2.1 ∧ (e.1 = newB ∨ ∃ j, j < k + 1 ∧ e.1 = pathB j) := fun e he => by
      obtain ⟨a, b, c⟩ := h1 e he
      refine ⟨a, b, ?_⟩
      rcases c with c | ⟨j, hj, c⟩
      · exact .inl c
      · exact .inr ⟨j, by omega, c⟩
    cases h : ((standsL fs (pathB k)).toList == (shortB (ns.getD k noB)).toList)
    · have e : editTo fs ns (k + 1) = editTo fs ns k ++ [(pathB k, standsL fs (pathB k), shortB (ns.getD k noB))] := by
        show editTo fs ns k ++ _ = _
        rw [h]; rfl
      rw [e]
      refine ⟨fun x hx => ?_, List.pairwise_append.2 ⟨h2, List.pairwise_singleton _ _, fun x hx y hy => ?_⟩, by simp [h3], by simp; omega⟩
      · rcases List.mem_append.1 hx with hx | hx
        · exact mono x hx
        · rw [List.mem_singleton.1 hx]
          refine ⟨(okEd_iff _).2 ?_, rfl, .inr ⟨k, by omega, rfl⟩⟩
          have := pathB_size (k := k) (by omega)
          exact ⟨⟨by show 1 ≤ (pathB k).size; omega, by show (pathB k).size ≤ 8; omega⟩, stands_size hf _, shortB_size _, (beq_false_iff _ _).1 h⟩
      · rw [List.mem_singleton.1 hy]
        rcases (h1 x hx).2.2 with c | ⟨j, hj, c⟩
        · rw [c]; exact (pathB_new (by omega)).symm
        · rw [c]; exact pathB_ne hj (by omega)
    · have e : editTo fs ns (k + 1) = editTo fs ns k := by
        show editTo fs ns k ++ _ = _
        rw [h]; exact List.append_nil _
      rw [e]
      exact ⟨mono, h2, h3, by omega⟩

theorem rising_good {k : Nat} {l : List Fl} (h : FInv k l) : Good okFl Prod.fst l := ⟨h.2.1, h.1.apart⟩
theorem files_told {k : Nat} {l : List Fl} (h : FInv k l) : Told l (standsL l) :=
  ⟨h.1, fun f hf e => by have := ((okFl_iff f).1 (h.2.1 f hf)).2.1; rw [e] at this; exact absurd this (by decide), fun _ => rfl⟩

theorem einv_ok {fs : List Fl} {E : List Ed} (h : EInv fs 3 E) : EditsOK E :=
  ⟨List.length_pos_of_mem h.2.2.1, h.2.2.2, fun e he => (h.1 e he).1, h.2.1⟩
theorem swap_ok {fs : List Fl} {E : List Ed} (h : EInv fs 3 E) : EditsOK (E.map swapE) := by
  refine ⟨by rw [List.length_map]; exact List.length_pos_of_mem h.2.2.1, by rw [List.length_map]; exact h.2.2.2, fun e he => ?_, ?_⟩
  · obtain ⟨x, hx, rfl⟩ := List.mem_map.1 he
    obtain ⟨a, b, c, d⟩ := (okEd_iff x).1 (h.1 x hx).1
    exact (okEd_iff _).2 ⟨a, c, b, d.symm⟩
  · exact List.pairwise_map.2 h.2.1

theorem made_good {k : Nat} {fs : List Fl} {E : List Ed} (hf : FInv k fs) (h : EInv fs 3 E) {made : List Fl} (hm : Told made (edited (standsL fs) E)) : Good okFl Prod.fst made := by
  refine ⟨fun f hf' => ?_, hm.1.apart⟩
  obtain ⟨h1, h2⟩ := (hm.mem f).1 hf'
  have hne : 1 ≤ f.2.size := by
    rcases Nat.eq_zero_or_pos f.2.size with e | e
    · exact absurd (eq_of_data (List.length_eq_zero_iff.1 (by rw [← Lib.size_eq]; exact e))) h2
    · exact e
  by_cases hin : ∃ e ∈ E, e.1 = f.1
  · obtain ⟨e, he, ee⟩ := hin
    have h3 := edited_mem (g := standsL fs) h.2.1 he
    rw [ee, h1] at h3
    obtain ⟨a, _, c, _⟩ := (okEd_iff e).1 (h.1 e he).1
    rw [ee] at a
    rw [← h3] at c
    exact (okFl_iff f).2 ⟨a, hne, c⟩
  · rw [edited_other fun e he ee => hin ⟨e, he, ee⟩] at h1
    have h3 := standsL_found (l := fs) (q := f.1) (by rw [h1]; exact h2)
    rw [h1] at h3
    exact hf.2.1 f h3

theorem made_stands {fs : List Fl} {E : List Ed} (h : EInv fs 3 E) {made : List Fl} (hm : Told made (edited (standsL fs) E)) : ∀ x ∈ E.map swapE, standsL made x.1 = x.2.1 := by
  intro x hx
  obtain ⟨e, he, rfl⟩ := List.mem_map.1 hx
  show standsL made e.1 = e.2.2
  rw [hm.2.2]; exact edited_mem h.2.1 he

theorem back_again {k : Nat} {fs : List Fl} {E : List Ed} (hf : FInv k fs) (h : EInv fs 3 E) {made again : List Fl} (hm : Told made (edited (standsL fs) E)) (ha : Told again (edited (standsL made) (E.map swapE))) : again = fs := by
  refine Told.unique (g := standsL fs) ⟨ha.1, ha.2.1, fun q => ?_⟩ (files_told hf)
  rw [ha.2.2]
  have hs : Apart Prod.fst (E.map swapE) := List.pairwise_map.2 h.2.1
  by_cases hin : ∃ e ∈ E, e.1 = q
  · obtain ⟨e, he, rfl⟩ := hin
    have := edited_mem (g := standsL made) hs (List.mem_map.2 ⟨e, he, rfl⟩)
    rw [show (swapE e).1 = e.1 from rfl] at this
    rw [this]
    exact (h.1 e he).2.1.symm
  · rw [edited_other (fun x hx ex => by
      obtain ⟨e, he, rfl⟩ := List.mem_map.1 hx
      exact hin ⟨e, he, ex⟩), hm.2.2]
    exact edited_other fun e he ee => hin ⟨e, he, ee⟩

theorem back_not {k : Nat} (hk : k ≤ 26) {fs : List Fl} {E : List Ed} (hf : FInv k fs) (h : EInv fs 3 E) : ¬ ∀ x ∈ E.map swapE, standsL fs x.1 = x.2.1 := fun hall => by
  have h1 := hall _ (List.mem_map.2 ⟨_, h.2.2.1, rfl⟩)
  have h2 : standsL fs newB = xB := h1
  rw [stands_new hk hf] at h2
  exact absurd (congrArg ByteArray.size h2) (by decide)

theorem but_apart {l : List Fl} (h : Apart Prod.fst l) (p : ByteArray) : Apart Prod.fst (but p l) := List.Pairwise.sublist List.filter_sublist h
theorem mem_but {l : List Fl} {p : ByteArray} {f : Fl} : f ∈ but p l ↔ f ∈ l ∧ f.1 ≠ p := by
  unfold but
  rw [List.mem_filter, Bool.not_eq_true', beq_false_iff]

def Full (l : List Fl) : Prop := ∀ f ∈ l, f.2 ≠ ⟨#[]⟩

theorem withOne_inv {l : List Fl} (ha : Apart Prod.fst l) (hn : Full l) (e : Ed) : Apart Prod.fst (withOne l e) ∧ Full (withOne l e) ∧ ∀ q, standsL (withOne l e) q = upd (standsL l) e.1 e.2.2 q := by
  have hmem : ∀ f, f ∈ withOne l e ↔ (f ∈ l ∧ f.1 ≠ e.1) ∨ (f = (e.1, e.2.2) ∧ e.2.2 ≠ ⟨#[]⟩) := fun f => by
    unfold withOne
    rw [List.mem_append, mem_but]
    cases h : e.2.2.toList.isEmpty
    · have : e.2.2 ≠ ⟨#[]⟩ := fun x => by rw [(empty_iff _).2 x] at h; cases h
      simp [this]
    · have := (empty_iff _).1 h
      simp [this]
  have hap : Apart Prod.fst (withOne l e) := by
    unfold withOne
    refine List.pairwise_append.2 ⟨but_apart ha _, by split <;> simp, fun x hx y hy => ?_⟩
    have h1 := (mem_but.1 hx).2
    split at hy
    · simp at hy
    · rw [List.mem_singleton.1 hy]; exact h1
  have hfu : Full (withOne l e) := fun f hf => by
    rcases (hmem f).1 hf with ⟨h, _⟩ | ⟨rfl, h⟩
    · exact hn f h
    · exact h
  refine ⟨hap, hfu, fun q => ?_⟩
  by_cases hq : e.1 = q
  · subst hq
    rw [upd_same]
    by_cases he : e.2.2 = ⟨#[]⟩
    · rw [he]
      refine standsL_none fun f hf ef => ?_
      rcases (hmem f).1 hf with ⟨_, h⟩ | ⟨_, h⟩
      · exact h ef
      · exact h he
    · exact standsL_mem hap ((hmem _).2 (.inr ⟨rfl, he⟩))
  · rw [upd_other _ _ hq]
    by_cases hs : standsL l q = ⟨#[]⟩
    · rw [hs]
      refine standsL_none fun f hf ef => ?_
      rcases (hmem f).1 hf with ⟨h, _⟩ | ⟨h, _⟩
      · have := standsL_mem ha h
        rw [ef, hs] at this
        exact hn f h this.symm
      · rw [h] at ef; exact hq ef
    · exact standsL_mem hap ((hmem (q, standsL l q)).2 (.inl ⟨standsL_found hs, fun x => hq x.symm⟩))

theorem withL_inv {l : List Fl} (ha : Apart Prod.fst l) (hn : Full l) (es : List Ed) : Apart Prod.fst (withL l es) ∧ Full (withL l es) ∧ ∀ q, standsL (withL l es) q = edited (standsL l) es q := by
  induction es generalizing l with
  | nil => exact ⟨ha, hn, fun _ => rfl⟩
  | cons e es ih =>
    obtain ⟨h1, h2, h3⟩ := withOne_inv ha hn e
    obtain ⟨k1, k2, k3⟩ := ih h1 h2
    refine ⟨k1, k2, fun q => ?_⟩
    show standsL (withL (withOne l e) es) q = edited (upd (standsL l) e.1 e.2.2) es q
    rw [k3, show standsL (withOne l e) = upd (standsL l) e.1 e.2.2 from funext h3]

theorem want_alike {k : Nat} {fs : List Fl} {E : List Ed} (hf : FInv k fs) {made : List Fl} (hm : Told made (edited (standsL fs) E)) : (withL fs E).length = made.length ∧ ∀ i (h : i < made.length), standsL (withL fs E) made[i].1 = made[i].2 := by
  obtain ⟨h1, h2, h3⟩ := withL_inv hf.1.apart (files_told hf).2.1 E
  constructor
  · have hp : (withL fs E).Perm made := (List.perm_ext_iff_of_nodup h1.nodup hm.1.apart.nodup).2 fun f => by rw [mem_iff_stands h1 h2, hm.mem, h3]
    exact hp.length_eq
  · intro i h
    rw [h3]
    exact ((hm.mem _).1 (List.getElem_mem h)).1
end Go.Proofs.Ytgamgomepdfgdaa
