import Derived.Test.YtgamgomepdfgdaaWith
import Derived.Test.YtgamgomepdfgdaaUPure
namespace Go.Proofs.Ytgamgomepdfgdaa
open Go.RowKit

/-- is one of the edits at that path? -/
def touch (es : List Ed) (p : ByteArray) : Bool := es.any fun e => e.1.toList == p.toList
theorem touch_snoc (es : List Ed) (e : Ed) (p : ByteArray) : touch (es ++ [e]) p = (touch es p || (e.1.toList == p.toList)) := by simp [touch]
theorem touch_iff (es : List Ed) (p : ByteArray) : touch es p = true ↔ ∃ e ∈ es, e.1 = p := by
  unfold touch
  rw [List.any_eq_true]
  constructor
  · rintro ⟨e, he, h⟩; exact ⟨e, he, (beq_true_iff _ _).1 h⟩
  · rintro ⟨e, he, h⟩; exact ⟨e, he, (beq_true_iff _ _).2 h⟩

def keep (es : List Ed) (l : List Fl) : List Fl := l.filter fun f => !touch es f.1
def newOne (e : Ed) : List Fl := if e.2.2.toList.isEmpty then [] else [(e.1, e.2.2)]
def news (es : List Ed) : List Fl := es.flatMap newOne
theorem newOne_no {e : Ed} (h : e.2.2.toList.isEmpty = true) : newOne e = [] := by unfold newOne; rw [h]; rfl
theorem newOne_yes {e : Ed} (h : e.2.2.toList.isEmpty = false) : newOne e = [(e.1, e.2.2)] := by unfold newOne; rw [h]; rfl
theorem news_cons (e : Ed) (es : List Ed) : news (e :: es) = newOne e ++ news es := rfl
theorem mem_newOne {e : Ed} {f : Fl} : f ∈ newOne e ↔ f = (e.1, e.2.2) ∧ e.2.2 ≠ ⟨#[]⟩ := by
  cases h : e.2.2.toList.isEmpty
  · have hn : e.2.2 ≠ ⟨#[]⟩ := fun x => by rw [(empty_iff _).2 x] at h; cases h
    rw [newOne_yes h, List.mem_singleton]; exact ⟨fun x => ⟨x, hn⟩, fun x => x.1⟩
  · rw [newOne_no h]; exact ⟨fun x => by simp at x, fun x => absurd ((empty_iff _).1 h) x.2⟩

theorem keep_hit {es : List Ed} {l : List Fl} {j : Nat} (hj : j < l.length) (h : touch es l[j].1 = false) : keep es (l.take (j + 1)) = keep es (l.take j) ++ [l[j]] := by
  unfold keep
  rw [List.take_succ_eq_append_getElem hj, List.filter_append, List.filter_cons, if_pos (by rw [h]; rfl), List.filter_nil]
theorem keep_miss {es : List Ed} {l : List Fl} {j : Nat} (hj : j < l.length) (h : touch es l[j].1 = true) : keep es (l.take (j + 1)) = keep es (l.take j) := by
  unfold keep
  rw [List.take_succ_eq_append_getElem hj, List.filter_append, List.filter_cons, if_neg (by rw [h]; exact Bool.false_ne_true), List.filter_nil, List.append_nil]
theorem keep_len (es : List Ed) (l : List Fl) : (keep es l).length ≤ l.length := List.length_filter_le _ _
theorem news_hit {es : List Ed} {j : Nat} (hj : j < es.length) (h : es[j].2.2.toList.isEmpty = false) : news (es.take (j + 1)) = news (es.take j) ++ [(es[j].1, es[j].2.2)] := by
  unfold news
  rw [List.take_succ_eq_append_getElem hj, List.flatMap_append, List.flatMap_cons, newOne_yes h]; rfl
theorem news_miss {es : List Ed} {j : Nat} (hj : j < es.length) (h : es[j].2.2.toList.isEmpty = true) : news (es.take (j + 1)) = news (es.take j) := by
  unfold news
  rw [List.take_succ_eq_append_getElem hj, List.flatMap_append, List.flatMap_cons, newOne_no h]; exact List.append_nil _
theorem news_len (es : List Ed) : (news es).length ≤ es.length := by
  induction es with
  | nil => simp [news]
  | cons e es ih =>
    rw [news_cons, List.length_append]
    cases h : e.2.2.toList.isEmpty
    · rw [newOne_yes h]; simp; omega
    · rw [newOne_no h]; simp; omega
theorem mem_news {es : List Ed} {f : Fl} : f ∈ news es ↔ ∃ e ∈ es, f = (e.1, e.2.2) ∧ e.2.2 ≠ ⟨#[]⟩ := by
  unfold news
  rw [List.mem_flatMap]
  exact ⟨fun ⟨e, he, h⟩ => ⟨e, he, mem_newOne.1 h⟩, fun ⟨e, he, h⟩ => ⟨e, he, mem_newOne.2 h⟩⟩
theorem mem_keep {es : List Ed} {l : List Fl} {f : Fl} : f ∈ keep es l ↔ f ∈ l ∧ ∀ e ∈ es, e.1 ≠ f.1 := by
  unfold keep
  rw [List.mem_filter]
  constructor
  · rintro ⟨h1, h2⟩
    refine ⟨h1, fun e he x => ?_⟩
    rw [(touch_iff es f.1).2 ⟨e, he, x⟩] at h2
    cases h2
  · rintro ⟨h1, h2⟩
    refine ⟨h1, ?_⟩
    cases h : touch es f.1
    · rfl
    · obtain ⟨e, he, x⟩ := (touch_iff es f.1).1 h
      exact absurd x (h2 e he)

theorem news_apart {es : List Ed} (h : Apart Prod.fst es) : Apart Prod.fst (news es) := by
  induction es with
  | nil => exact List.Pairwise.nil
  | cons e es ih =>
    have hp := List.pairwise_cons.1 h
    rw [news_cons]
    refine List.pairwise_append.2 ⟨?_, ih hp.2, fun x hx y hy => ?_⟩
    · cases h : e.2.2.toList.isEmpty
      · rw [newOne_yes h]; exact List.pairwise_singleton _ _
      · rw [newOne_no h]; exact List.Pairwise.nil
    · obtain ⟨e', he', rfl, _⟩ := mem_news.1 hy
      rw [(mem_newOne.1 hx).1]; exact hp.1 e' he'

/-- what the edits make, in no order -/
theorem out_inv {l : List Fl} {es : List Ed} (ha : Apart Prod.fst l) (hf : Full l) (he : Apart Prod.fst es) :
    Apart Prod.fst (keep es l ++ news es) ∧ Full (keep es l ++ news es) ∧ ∀ q, standsL (keep es l ++ news es) q = edited (standsL l) es q := by
  have hap : Apart Prod.fst (keep es l ++ news es) := by
    refine List.pairwise_append.2 ⟨List.Pairwise.sublist List.filter_sublist ha, news_apart he, fun x hx y hy => ?_⟩
    obtain ⟨e, he', rfl, _⟩ := mem_news.1 hy
    exact ((mem_keep.1 hx).2 e he').symm
  have hfu : Full (keep es l ++ news es) := fun f hf' => by
    rcases List.mem_append.1 hf' with h | h
    · exact hf f (mem_keep.1 h).1
    · obtain ⟨e, _, rfl, hn⟩ := mem_news.1 h; exact hn
  refine ⟨hap, hfu, fun q => ?_⟩
  by_cases hin : ∃ e ∈ es, e.1 = q
  · obtain ⟨e, he', rfl⟩ := hin
    rw [edited_mem he he']
    by_cases hn : e.2.2 = ⟨#[]⟩
    · rw [hn]
      refine standsL_none fun f hf' ef => ?_
      rcases List.mem_append.1 hf' with h | h
      · exact (mem_keep.1 h).2 e he' ef.symm
      · obtain ⟨e', he'', rfl, hn'⟩ := mem_news.1 h
        have h1 := edited_mem (g := standsL l) he he''
        have h2 := edited_mem (g := standsL l) he he'
        rw [show e'.1 = e.1 from ef, h2, hn] at h1
        exact hn' h1.symm
    · exact standsL_mem hap (List.mem_append_right _ (mem_news.2 ⟨e, he', rfl, hn⟩))
  · rw [edited_other fun e he' ee => hin ⟨e, he', ee⟩]
    by_cases hs : standsL l q = ⟨#[]⟩
    · rw [hs]
      refine standsL_none fun f hf' ef => ?_
      rcases List.mem_append.1 hf' with h | h
      · have h1 := standsL_mem ha (mem_keep.1 h).1
        rw [ef, hs] at h1
        exact hf f (mem_keep.1 h).1 h1.symm
      · obtain ⟨e, he', rfl, _⟩ := mem_news.1 h
        exact hin ⟨e, he', ef⟩
    · exact standsL_mem hap (List.mem_append_left _ (mem_keep.2 ⟨standsL_found hs, fun e he' ee => hin ⟨e, he', ee⟩⟩))

theorem told_of_perm {l' o : List Fl} {g : ByteArray → ByteArray} (hr : Rising l') (hp : l'.Perm o) (hf : Full o) (ha : Apart Prod.fst o) (hg : ∀ q, standsL o q = g q) : Told l' g := by
  refine told_of_mem hr fun f => ?_
  rw [hp.mem_iff, mem_iff_stands ha hf, hg]

theorem room32' {n m : Nat} (h : n + 1 ≤ m) (hm : m * 32 ≤ 140737488355328) : (n + 1) * 32 ≤ 140737488355328 := Nat.le_trans (Nat.mul_le_mul_right 32 h) hm
theorem roomlen' {n m : Nat} (h : n + 1 ≤ m) (hm : m * 32 ≤ 140737488355328) : n + 1 ≤ maxLen := by unfold maxLen; omega

set_option maxRecDepth 100000 in
set_option maxHeartbeats 400000 in
theorem told_none (a : Option Addr) (cap : Nat) (w : World) :
    Calls Try.prog 30 #[.slice a 0 cap] w fun e w' => e = .returned (.slice none 0 0) ∧ w' = w := by
  go_enter Try.func30, Try.ntmps30
  go_wp2
  go_loop [3] (fun v => v = .slice none 0 0) (fun _ => 0)
  case atStart => rfl
  case round =>
    subst hrel
    go_wp2
    go_ret
    exact ⟨rfl, rfl⟩

theorem told_any (l : List Fl) (v : Value) (w : World) (hl : FilesAt w v l) (hn : (l.length + 1) * 32 ≤ 140737488355328) (ha : Apart Prod.fst l) (hsz : ∀ f ∈ l, f.1.size ≤ maxLen) :
    Calls Try.prog 30 #[v] w fun e w' => (∃ (ss : List Fl) (v : Value), e = .returned v ∧ Rising ss ∧ ss.Perm l ∧ w'.ownsRow w.heap.size 47 2 v ss.length (ss.flatMap cF)) ∧ Below w.heap.size w w' := by
  rcases hl with ⟨rfl, a, cap, rfl⟩ | ⟨b, off, cap, rfl, hlt, h0, h1⟩
  · refine (told_none a cap w).mono ?_
    rintro e w' ⟨rfl, rfl⟩
    exact ⟨⟨[], _, rfl, List.Pairwise.nil, .refl _, World.ownsRow_nil _ _ _ _⟩, Below.refl _ _⟩
  · exact told_row l b off cap w hlt hn h0 h1 ha hsz
end Go.Proofs.Ytgamgomepdfgdaa
