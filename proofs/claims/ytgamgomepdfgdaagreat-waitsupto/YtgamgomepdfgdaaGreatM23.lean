import Derived.Shelf.SlSortCmp.WholeK
import Derived.Test.YtgamgomepdfgdaaGreatProg
import Derived.Test.YtgamgomepdfgdaaGreatM22
import Derived.Test.YtgamgomepdfgdaaGreatM01
import Derived.Sort.Grow
import Derived.Sort.OwnSorted
import Derived.Test.YtgamgomepdfgdaaGreatM20
namespace Go.Proofs
open Go.Shelf
def Tryz.sortF_ren : Go.Shelf.Ren := ⟨fun | 6 => 185 | 15 => 191 | 14 => 221 | 28 => 232 | 29 => 233 | 20 => 248 | 21 => 249 | 22 => 250 | 23 => 251 | 24 => 252 | 25 => 253 | 26 => 254 | 27 => 255 | 46 => 268 | 47 => 258 | 48 => 259 | 49 => 269 | 50 => 270 | 57 => 277 | n => n, fun | 22 => 24 | 24 => 80 | 25 => 269 | 3 => 3 | 39 => 276 | 0 => 0 | 53 => 250 | 55 => 256 | 4 => 4 | 46 => 305 | 45 => 304 | 50 => 309 | 5 => 5 | 9 => 9 | 66 => 323 | 70 => 327 | 76 => 335 | 77 => 336 | n => n, fun | n => n⟩
theorem Tryz.sortF : Go.Proofs.SlLaysF0.n6 Tryz.prog Tryz.sortF_ren := {
  mixed := by kernel_rfl
  f6 := ⟨Tryz.f185.name, by decide, Tryz.func185.trans (congrArg some (by kernel_rfl))⟩
  f14 := ⟨Tryz.f221.name, by decide, Tryz.func221.trans (congrArg some (by kernel_rfl))⟩
  f15 := Tryz.func191.trans (congrArg some (by kernel_rfl))
  f20 := ⟨Tryz.f248.name, by decide, Tryz.func248.trans (congrArg some (by kernel_rfl))⟩
  f21 := ⟨Tryz.f249.name, by decide, Tryz.func249.trans (congrArg some (by kernel_rfl))⟩
  f22 := ⟨Tryz.f250.name, by decide, Tryz.func250.trans (congrArg some (by kernel_rfl))⟩
  f23 := ⟨Tryz.f251.name, by decide, Tryz.func251.trans (congrArg some (by kernel_rfl))⟩
  f24 := ⟨Tryz.f252.name, by decide, Tryz.func252.trans (congrArg some (by kernel_rfl))⟩
  f25 := ⟨Tryz.f253.name, by decide, Tryz.func253.trans (congrArg some (by kernel_rfl))⟩
  f26 := ⟨Tryz.f254.name, by decide, Tryz.func254.trans (congrArg some (by kernel_rfl))⟩
  f27 := ⟨Tryz.f255.name, by decide, Tryz.func255.trans (congrArg some (by kernel_rfl))⟩
  f28 := Tryz.func232.trans (congrArg some (by kernel_rfl))
  f29 := Tryz.func233.trans (congrArg some (by kernel_rfl))
  f46 := ⟨Tryz.f268.name, by decide, Tryz.func268.trans (congrArg some (by kernel_rfl))⟩
  f47 := Tryz.func258.trans (congrArg some (by kernel_rfl))
  f48 := Tryz.func259.trans (congrArg some (by kernel_rfl))
  f49 := ⟨Tryz.f269.name, by decide, Tryz.func269.trans (congrArg some (by kernel_rfl))⟩
  f50 := ⟨Tryz.f270.name, by decide, Tryz.func270.trans (congrArg some (by kernel_rfl))⟩
  f57 := ⟨Tryz.f277.name, by decide, Tryz.func277.trans (congrArg some (by kernel_rfl))⟩
  t0 := Tryz.underlying0
  a0 := Tryz.isAgg0
  z0 := Tryz.sizeOf0
  v0 := Tryz.zeroValue0
  t3 := Tryz.underlying3
  a3 := Tryz.isAgg3
  z3 := Tryz.sizeOf3
  v3 := Tryz.zeroValue3
  t4 := Tryz.underlying4
  a4 := Tryz.isAgg4
  z4 := Tryz.sizeOf4
  v4 := Tryz.zeroValue4
  t5 := Tryz.underlying5
  a5 := Tryz.isAgg5
  z5 := Tryz.sizeOf5
  v5 := Tryz.zeroValue5
  t9 := Tryz.underlying9
  a9 := Tryz.isAgg9
  z9 := Tryz.sizeOf9
  v9 := Tryz.zeroValue9
  t22 := Tryz.underlying24
  a22 := Tryz.isAgg24
  z22 := Tryz.sizeOf24
  v22 := Tryz.zeroValue24
  t25 := Tryz.underlying269
  a25 := Tryz.isAgg269
  z25 := Tryz.sizeOf269
  v25 := Tryz.zeroValue269
  t39 := Tryz.underlying276
  a39 := Tryz.isAgg276
  z39 := Tryz.sizeOf276
  v39 := Tryz.zeroValue276
  t45 := Tryz.underlying304
  a45 := Tryz.isAgg304
  z45 := Tryz.sizeOf304
  v45 := Tryz.zeroValue304
  t46 := Tryz.underlying305
  a46 := Tryz.isAgg305
  z46 := Tryz.sizeOf305
  v46 := Tryz.zeroValue305
  t50 := Tryz.underlying309
  a50 := Tryz.isAgg309
  z50 := Tryz.sizeOf309
  v50 := Tryz.zeroValue309
  t53 := Tryz.underlying250
  a53 := Tryz.isAgg250
  z53 := Tryz.sizeOf250
  v53 := Tryz.zeroValue250
  t55 := Tryz.underlying256
  a55 := Tryz.isAgg256
  z55 := Tryz.sizeOf256
  v55 := Tryz.zeroValue256
  t66 := Tryz.underlying323
  a66 := Tryz.isAgg323
  z66 := Tryz.sizeOf323
  v66 := Tryz.zeroValue323
  t70 := Tryz.underlying327
  a70 := Tryz.isAgg327
  z70 := Tryz.sizeOf327
  v70 := Tryz.zeroValue327
  t76 := Tryz.underlying335
  a76 := Tryz.isAgg335
  z76 := Tryz.sizeOf335
  v76 := Tryz.zeroValue335
  t77 := Tryz.underlying336
  a77 := Tryz.isAgg336
  z77 := Tryz.sizeOf336
  v77 := Tryz.zeroValue336 }
end Go.Proofs

namespace Go.Proofs.YtgamgomepdfgdaaGreat
open Go.RowKit Go.Sort Go.Shelf

theorem flat_eq (l : List Fl) : (flatK cF 2 l.toArray).toList = l.flatMap cF := by
  apply List.ext_getElem?
  intro t
  by_cases ht : t < l.length * 2
  · have h1 : t / 2 < l.length := by omega
    have e : t = t / 2 * 2 + t % 2 := by omega
    have hr : (l.flatMap cF)[t]? = (cF l[t / 2])[t % 2]? := by
      conv => lhs; rw [e]
      exact flat_get cF 2 (fun _ => rfl) l (t / 2) (t % 2) h1 (by omega)
    have hs : t < (flatK cF 2 l.toArray).size := by rw [size_flatK]; simpa using ht
    rw [hr, Array.getElem?_toList, Array.getElem?_eq_getElem hs, ← getElem!_pos _ t hs, get_flatK _ _ _ t (by simpa using ht)]
    have e2 : (l.toArray)[t / 2]! = l[t / 2] := by rw [getElem!_pos l.toArray (t / 2) (by simpa using h1)]; simp
    rw [e2]
    have h2 : t % 2 < (cF l[t / 2]).length := by show t % 2 < 2; omega
    rw [getElem!_pos (cF l[t / 2]) (t % 2) h2, List.getElem?_eq_getElem h2]
  · rw [List.getElem?_eq_none (by rw [Array.length_toList, size_flatK]; simp; omega), List.getElem?_eq_none (by rw [flat_len cF 2 (fun _ => rfl)]; omega)]

theorem flat_size (l : List Fl) : (flatK cF 2 l.toArray).size = l.length * 2 := by rw [size_flatK]; simp

theorem holdsK_row {w : World} {g : Nat} {cur : Array Value} {e : TypeId} {l : List Fl} (hb : w.heap[g]? = some (.cells cur e (0, 0))) (ht : cur.toList.take (l.length * 2) = l.flatMap cF) : HoldsK cF 2 w g 0 l.toArray := by
  intro j hj
  have hj' : j < l.length * 2 := by rw [flat_size] at hj; exact hj
  refine ⟨?_, by simp [World.frozen?, hb]⟩
  have h1 : (cur.toList.take (l.length * 2))[j]? = (flatK cF 2 l.toArray).toList[j]? := by rw [ht, flat_eq]
  rw [List.getElem?_take_of_lt hj', Array.getElem?_toList, Array.getElem?_toList, Array.getElem?_eq_getElem hj] at h1
  simp only [World.cell?, hb, Nat.zero_add]
  simp only [Option.isSome_none, Bool.false_eq_true, if_false]
  rw [h1, getElem!_pos (flatK cF 2 l.toArray) j hj]
  rfl

theorem heap_sortedK {w : World} {g n : Nat} {os : Array Obj} {cur : Array Value} {e : TypeId} {fr : Nat × Nat} (d : Array Fl) (hb : w.heap[g]? = some (.cells cur e fr)) :
    (sortWorldK cF 2 w g 0 n d os).heap[g]? = some (.cells (putCells id 0 (flatK cF 2 d) cur) e fr) := by
  have hg : g < w.heap.size := (Array.getElem?_eq_some_iff.1 hb).1
  unfold sortWorldK putRowK
  rw [heap_grow_old _ _ (by simpa [putRow, mapBlock, Sort.ahead] using hg)]
  simp [putRow, mapBlock, Sort.ahead, Array.getElem?_modify, hb, onCells]

theorem grownBy_sortedK {w : World} {g n : Nat} {os : Array Obj} (d : Array Fl) : w.grownBy (sortWorldK cF 2 w g 0 n d os) (some g) := by
  unfold sortWorldK putRowK
  refine ⟨rfl, rfl, rfl, by simp [putRow, mapBlock, Sort.ahead, grow], fun k hk hne => ?_⟩
  rw [heap_grow_old _ _ (by simpa [putRow, mapBlock, Sort.ahead] using hk)]
  have : g ≠ k := fun e => hne (by rw [e])
  simp [putRow, mapBlock, Sort.ahead, Array.getElem?_modify, this]

theorem take_putCellsK (cur F : Array Value) (h : F.size ≤ cur.size) : (putCells id 0 F cur).toList.take F.size = F.toList := by
  apply List.ext_getElem?
  intro j
  by_cases hj : j < F.size
  · rw [List.getElem?_take_of_lt hj, Array.getElem?_toList, Array.getElem?_toList]
    simp [putCells, hj, show j < cur.size by omega]
  · rw [List.getElem?_take_eq_none (by omega), List.getElem?_eq_none (by simp; omega)]

theorem ownsRow_sortedK {w : World} {base g cap n : Nat} {e : TypeId} {os : Array Obj} {cur : Array Value} {ss ts : List Fl} (hl : ts.length = ss.length) (hbase : base ≤ g) (hb : w.heap[g]? = some (.cells cur e (0, 0)))
    (h1 : ss.length ≤ cap) (h2 : cap ≤ maxLen) (h3 : cur.size = cap * 2) :
    (sortWorldK cF 2 w g 0 n ts.toArray os).ownsRow base e 2 (.slice (some ⟨g, 0, none⟩) ss.length cap) ss.length (ts.flatMap cF) := by
  refine ⟨by rw [flat_len cF 2 (fun _ => rfl), hl], .inr ⟨g, cap, _, rfl, hbase, heap_sortedK _ hb, h1, h2, by simp [putCells, h3], ?_⟩⟩
  rw [← hl, ← flat_size ts, ← flat_eq ts]
  exact take_putCellsK cur _ (by rw [flat_size]; omega)

/-- the order of the sort -/
def cmpF (x y : Fl) : Int := Lib.compareBytes x.1.data.toList y.1.data.toList

theorem compareBytes_neg : ∀ (a b : List UInt8), Lib.compareBytes a b < 0 ↔ a < b
  | [], [] => by simp [Lib.compareBytes]
  | [], _ :: _ => by simp [Lib.compareBytes]
  | _ :: _, [] => by simp [Lib.compareBytes]
  | a :: x, b :: y => by
    unfold Lib.compareBytes
    rw [List.cons_lt_cons_iff]
    by_cases h1 : a < b
    · simp [h1]
    · by_cases h2 : b < a
      · have : a ≠ b := fun e => by subst e; exact absurd h2 h1
        simp [h1, h2, this]
      · have : a = b := UInt8.le_antisymm (UInt8.not_lt.1 h2) (UInt8.not_lt.1 h1)
        simp [this, compareBytes_neg x y]

theorem ltF (x y : Fl) : ltOf cmpF x y = decide (x.1.data.toList < y.1.data.toList) := by
  unfold ltOf cmpF; rw [decide_eq_decide]; exact compareBytes_neg _ _

theorem swoF : SWO (ltOf cmpF) where
  irrefl x := by rw [ltF]; simp
  trans x y z h1 h2 := by rw [ltF] at *; simp at *; exact List.lt_trans h1 h2
  ntrans x y z h1 h2 := by
    rw [ltF] at *
    simp only [decide_eq_false_iff_not, List.not_lt] at *
    exact List.le_trans h2 h1

theorem cmpLaysF (blk off size : Nat) (w : World) : CmpLays Tryz.prog 186 #[] cF 2 cmpF blk off size w := by
  intro m os dk _ x y
  refine (closure_cmp x.1 x.2 y.1 y.2 _).mono ?_
  rintro e w' ⟨rfl, rfl⟩
  exact ⟨rfl, 0, _, by rw [alloc_eq_grow, alloc_eq_grow, grow_grow]; rfl⟩

set_option maxHeartbeats 1000000 in
/-- slices.SortFunc at files of the call's own -/
theorem sort_any (l : List Fl) (g cap base : Nat) (w : World) (hrow : w.ownsRow base 80 2 (.slice (some ⟨g, 0, none⟩) l.length cap) l.length (l.flatMap cF)) (hn : l.length < 8796093022208) :
    Calls Tryz.prog 185 #[.slice (some ⟨g, 0, none⟩) l.length cap, .func (.func 186) #[] #[]] w fun e w' =>
      e = .returned (.tuple #[]) ∧ (∃ l' : List Fl, l'.Perm l ∧ l'.Pairwise (fun a b => ¬ b.1.data.toList < a.1.data.toList) ∧ w'.ownsRow base 80 2 (.slice (some ⟨g, 0, none⟩) l'.length cap) l'.length (l'.flatMap cF)) ∧ w.grownBy w' (some g) := by
  rcases hrow.2 with ⟨hnil, _⟩ | ⟨g', cap', cur, hv, hbase, hb, h1, h2, h3, h4⟩
  · cases hnil
  cases hv
  have eg : ∀ args w, (callFunc 186 args).run Tryz.prog w = .ok (.enter 186 args) w := enters_of Tryz.func186 (by kernel_rfl) rfl
  have hcon := AnyQ.slices_SortFunc Tryz.sortF 2 Tryz.isAgg80 Tryz.sizeOf80 cF (fun _ => rfl) (fun x v hv => by simp [cF] at hv; rcases hv with rfl | rfl <;> rfl) cmpF swoF 186 #[] g 0 cap l.toArray w eg (cmpLaysF g 0 _ w) (holdsK_row hb h4) (Array.getElem?_eq_some_iff.1 hb).1 (by simp; omega)
  have hcon' : Calls Tryz.prog 185 #[.slice (some ⟨g, 0, none⟩) l.length cap, .func (.func 186) #[] #[]] w _ := hcon
  refine hcon'.mono ?_
  rintro e w' ⟨rfl, d', n, os, hp, hs, rfl⟩
  have hsz : d'.size = l.length := by simpa using hp.1
  have e1 : d' = d'.toList.toArray := by simp
  have hperm : d'.toList.Perm l := by
    have h := hp.2.2
    have e2 : d'.extract 0 l.toArray.size = d' := by rw [List.size_toArray, ← hsz]; exact Array.extract_size
    have e3 : l.toArray.extract 0 l.toArray.size = l.toArray := Array.extract_size
    rw [e2, e3] at h
    exact h
  refine ⟨rfl, ⟨d'.toList, hperm, ?_, ?_⟩, grownBy_sortedK _⟩
  · rw [List.pairwise_iff_getElem]
    intro i j hi hj hij
    have := hs i j (Nat.zero_le _) hij (by simp only [List.size_toArray]; rw [Array.length_toList] at hj; omega)
    rw [ltF, decide_eq_false_iff_not] at this
    rw [Array.length_toList] at hi hj
    rw [getElem!_pos d' i hi, getElem!_pos d' j hj] at this
    simpa using this
  · rw [e1]
    have hl : d'.toList.length = l.length := by rw [Array.length_toList]; exact hsz
    have := ownsRow_sortedK (w := w) (base := base) (g := g) (cap := cap) (n := n) (e := 80) (os := os) (cur := cur) (ss := l) (ts := d'.toList) hl hbase hb h1 h2 h3
    simpa [hl, hsz] using this
end Go.Proofs.YtgamgomepdfgdaaGreat

namespace Go.Proofs.YtgamgomepdfgdaaGreat
open Go.RowKit Go.Maps

theorem info47 : (Tryz.prog.info? 80).map (fun i => (i.zero, i.size, i.bytes)) = some (some (.agg #[.string ⟨#[]⟩, .string ⟨#[]⟩]), 2, 32) := by kernel_rfl

/-- what a range over the map has met -/
def Coll (g : ByteArray → ByteArray) (left : Lit → Bool) (ss : List Fl) : Prop :=
  Apart Prod.fst ss ∧ ∀ f, f ∈ ss ↔ g f.1 = f.2 ∧ f.2 ≠ ⟨#[]⟩ ∧ left (kl f.1) = false

theorem Coll.start {D : DataW Unit} {g : ByteArray → ByteArray} (h : MapIs D g) : Coll g (Maps.has D) [] := by
  refine ⟨List.Pairwise.nil, fun f => ⟨fun x => by simp at x, ?_⟩⟩
  rintro ⟨h1, h2, h3⟩
  rw [← h1] at h2
  rw [((h f.1).2 h2).1] at h3
  cases h3

theorem keyOf_inv9 {key : Value} {k : Lit} (h : keyOf Tryz.prog 9 key = some k) : ∃ s, key = .string s ∧ k = kl s := by
  cases key <;> simp [keyOf, Tryz.underlying9, mapKey] at h
  rename_i s
  exact ⟨s, rfl, h.2.symm⟩

theorem sameKey_kl (s t : ByteArray) : (kl s).sameKey (kl t) = true ↔ s = t := by
  constructor
  · intro h; exact kl_inj (WideAt.sameKey_eq h)
  · rintro rfl; simp [Lit.sameKey]

theorem Coll.step {D : DataW Unit} {g : ByteArray → ByteArray} {left : Lit → Bool} {ss : List Fl} (hM : MapIs D g) (h : Coll g left ss) {s : ByteArray} (hl : left (kl s) = true) {f : Fl} (hat : ∀ zd, D.atKey (kl s) zd = fd f.1 f.2) :
    Coll g (fun z => left z && !z.sameKey (kl s)) (ss ++ [f]) ∧ f.1 = s ∧ f.2 = g s := by
  have hh := has_true_of_atKey hat
  have hg : g s ≠ ⟨#[]⟩ := fun e => by rw [(hM s).1 e] at hh; cases hh
  have e := ((hM s).2 hg).2 (.map [])
  rw [hat] at e
  obtain ⟨e1, e2⟩ := fd_inj e
  refine ⟨⟨?_, fun x => ?_⟩, e1, e2⟩
  · refine List.pairwise_append.2 ⟨h.1, List.pairwise_singleton _ _, fun a ha b hb e => ?_⟩
    rw [List.mem_singleton.1 hb, e1] at e
    have := ((h.2 a).1 ha).2.2
    rw [e, hl] at this
    cases this
  · rw [List.mem_append, List.mem_singleton, h.2]
    show _ ↔ g x.1 = x.2 ∧ x.2 ≠ ⟨#[]⟩ ∧ (left (kl x.1) && !(kl x.1).sameKey (kl s)) = false
    by_cases ex : x.1 = s
    · have : (left (kl x.1) && !(kl x.1).sameKey (kl s)) = false := by rw [(sameKey_kl _ _).2 ex]; simp
      rw [this]
      constructor
      · rintro (⟨a, b, _⟩ | rfl)
        · exact ⟨a, b, rfl⟩
        · exact ⟨by rw [e1, e2], by rw [e2]; exact hg, rfl⟩
      · rintro ⟨a, _, _⟩
        exact .inr (Prod.ext (ex.trans e1.symm) (by rw [← a, ex, e2]))
    · have : (kl x.1).sameKey (kl s) = false := by
        rw [← Bool.not_eq_true, sameKey_kl]; exact ex
      rw [this]
      simp only [Bool.not_false, Bool.and_true]
      constructor
      · rintro (a | rfl)
        · exact a
        · exact absurd e1 ex
      · exact .inl

theorem Coll.told {g : ByteArray → ByteArray} {left : Lit → Bool} {ss l' : List Fl} (h : Coll g left ss) (hl : ∀ k, left k = false) (hp : l'.Perm ss) (hs : l'.Pairwise fun a b => ¬ b.1.data.toList < a.1.data.toList) : Told l' g := by
  have ha : Apart Prod.fst l' := hp.symm.pairwise h.1 (fun {x y} hxy => hxy.symm)
  refine told_of_mem ?_ fun f => ?_
  · have := hs.and ha
    refine this.imp fun {a b} ⟨h1, h2⟩ => ?_
    rcases Classical.em (a.1.data.toList < b.1.data.toList) with h | h
    · exact h
    · exact absurd (eq_of_data (List.le_antisymm (List.not_lt.1 h1) (List.not_lt.1 h))) h2
  · rw [hp.mem_iff, h.2, hl]
    simp

theorem cell_two_box (w : World) (o : Obj) (a b : Value) (t : TypeId) : ∀ j u, [a, b][j]? = some u → ((w.alloc o).alloc (.cells #[a, b] t)).cell? ((⟨w.heap.size + 1, 0, none⟩ : Addr).add j) = some u := by
  have := cell_two_new (w.alloc o) a b t
  simpa using this

def LRes (e : Ending) (w w' : World) (g : ByteArray → ByteArray) (n : Nat) : Prop :=
  ∃ (l : List Fl) (b cap : Nat), e = .returned (.slice (some ⟨b, 0, none⟩) l.length cap) ∧ Told l g ∧ l.length ≤ n ∧ w'.ownsRow w.heap.size 80 2 (.slice (some ⟨b, 0, none⟩) l.length cap) l.length (l.flatMap cF)

set_option maxRecDepth 100000 in
set_option maxHeartbeats 2000000 in
theorem list_any (b n : Nat) (D : DataW Unit) (g : ByteArray → ByteArray) (w : World) (hown : w.ownsMap Tryz.prog 9 fileElem b n D) (hM : MapIs D g) (hn : n * 32 ≤ 140737488355328) :
    Calls Tryz.prog 144 #[.map (some b)] w fun e w' => LRes e w w' g n ∧ Below w.heap.size w w' := by
  obtain ⟨i0, hi, hz0, hz1, hz2⟩ := info_parts info47
  have hbl := hown.lt
  have hsl := hown.size_le
  go_enter Tryz.func144, Tryz.ntmps144
  go_wp2_with (first
    | (at_len; refine wpList_len_own _ rfl _ _ rfl _ _ under58 _ b n _ rfl hown ?_)
    | (at_make; refine wpList_make_own _ rfl _ _ _ rfl w.heap.size _ i0 _ 2 Tryz.underlying24 hi hz0 hz1 _ _ _ (Maps.size D) rfl rfl rfl (by rw [hz2]; omega) (by unfold maxLen; omega) (Nat.le_refl _) ?_; intro w1 hrow1 hg1)
    | (at_range; refine wpList_range_own _ rfl _ _ rfl _ _ law9 under58 _ b n _ rfl (hown.kept hg1 (by simp)) ?_; intro w0 hrg0 hg0 hs0))
  go_frame
  go_loopw [3] (fun v wr => ∃ (left : Lit → Bool) (cnt : Nat) (ss : List Fl), wr.ranges Tryz.prog 9 fileElem b w1.heap.size n D left cnt ∧ ss.length + cnt ≤ Maps.size D ∧
      wr.ownsRow w.heap.size 80 2 v ss.length (ss.flatMap cF) ∧ v ≠ .slice none 0 0 ∧ Coll g left ss ∧ Below w.heap.size w wr)
    (fun _ wr => wr.rangeLeft b w1.heap.size)
  case atStart =>
    exact ⟨_, _, [], hrg0, by simp, hrow1.kept hg0 (Or.inr (by simp [Value.ownBlock])), by simp, Coll.start hM,
      ((Below.refl _ _).grown hg1 (Nat.le_refl _) (fun j hj => by cases hj)).grown hg0 hg1.size (fun j hj => by cases hj)⟩
  case round =>
    obtain ⟨left, cnt, ss, hrg, hcs, hrow, hnn, hC, hnx⟩ := hrel
    go_wp2_with (at_next; refine wpList_next_ranges _ rfl _ rfl _ law9 fileElem Value.string (fun f : Fl => .agg #[.string f.1, .string f.2]) (fun key kl hk => by obtain ⟨x, hx, _⟩ := keyOf_inv9 hk; exact ⟨x, hx⟩) (fun v y hv => by obtain ⟨p, c, hx, _⟩ := fileElem_inv hv; exact ⟨(p, c), hx⟩) b w1.heap.size n _ _ _ rfl hrg ?_ ?_)
    · intro hc0 hl0
      rcases hrow.2 with ⟨hnil, _⟩ | ⟨g', cap, cur, rfl, hbase, hb, h1, h2, h3, h4⟩
      · exact absurd hnil hnn
      have hc := sort_any ss g' cap w.heap.size wr hrow (by omega)
      clear hrow hnn h4
      go_wp2_with (go_at_call 185; refine hc.mono ?_; rintro e w' ⟨rfl, ⟨l', hp, hs, hrow'⟩, hg'⟩)
      go_ret
      have hle := hp.length_eq
      exact ⟨⟨l', g', cap, by rw [hle]; rfl, hC.told hl0 hp hs, by omega, hrow'⟩, hnx.grown hg' hnx.size (fun j hj => by cases hj; exact hbase)⟩
    · intro x p c k yd yp w2 cnt2 hkey hlk hv hat hrg2 hlt hg2 hs2 hen
      obtain ⟨s, hx, rfl⟩ := keyOf_inv9 hkey
      cases hx
      have hy : fd p c = yd := congrArg Prod.fst (Option.some.inj ((fileElem_mk p c).symm.trans hv))
      subst hy
      obtain ⟨hC2, _⟩ := hC.step hM hlk (f := (p, c)) hat
      have hrow2 := hrow.kept hg2 (Or.inr (row_ne_iter hrow hrg).symm)
      have hz2' := hg2.size
      have hz1' := hnx.size
      clear hs2 hv hkey hC hat
      go_wp2_with (at_builtin; refine wpList_append_own _ rfl _ _ _ rfl w.heap.size _ i0 _ 2 32 Tryz.underlying24 hi hz0 hz1 hz2 rfl (by decide) _ _ _ rfl ((hrow2.alloc _).alloc _) ⟨w2.heap.size + 1, 0, none⟩ 1 1 [.string p, .string c] rfl rfl (cell_two_box _ _ _ _ _) (by simp [Value.oneCell']) (by unfold maxLen; omega) (by omega) (by simp; omega) ?_; intro v' w3 hown' hg3 hnil3; go_frame)
      have hrg3 := ((hrg2.alloc (.cells #[.string p, .string c] 80)).alloc (.cells #[.string p, .string c] 80)).kept hg3 (row_ne_low hrow2 hbl) (row_ne_iter hrow2 hrg2)
      refine ⟨⟨_, cnt2, ss ++ [(p, c)], hrg3, by simp; omega, by simpa [cF] using hown', fun hv' => by have := (hnil3.1 hv').2; omega, hC2, ?_⟩, by rw [hrg3.left_eq, hrg.left_eq]; exact hlt⟩
      have b1 : Below w.heap.size w w2 := hnx.grown hg2 hnx.size (fun j hj => by cases hj; exact hg1.size)
      exact ((b1.alloc b1.size _).alloc (by simp; omega) _).grown hg3 (by simp; omega) (fun j hj => (hrow2.lt j hj).1)
end Go.Proofs.YtgamgomepdfgdaaGreat

namespace Go.Proofs.YtgamgomepdfgdaaGreat
open Go.RowKit Go.Maps

/-- the files that New was given -/
def FilesMap (w : World) (mb n : Nat) (g : ByteArray → ByteArray) : Prop := ∃ D : DataW Unit, w.ownsMap Tryz.prog 9 fileElem mb n D ∧ MapIs D g

set_option maxRecDepth 100000 in
set_option maxHeartbeats 1000000 in
/-- the tip is told -/
theorem yTree (yb mb n : Nat) (g : ByteArray → ByteArray) (cs : Array Value) (w : World) (hB : Bx w yb 201 cs) (h7 : cs[7]? = some (.map (some mb))) (hM : FilesMap w mb n g) (hn : n * 32 ≤ 140737488355328) :
    Calls Tryz.prog 101 #[.pointer (some ⟨yb, 0, none⟩)] w fun e w' => LRes e w w' g n ∧ Below w.heap.size w w' := by
  obtain ⟨D, h1, h2⟩ := hM
  have hL := list_any mb n D g w h1 h2 hn
  have c7 := hB.cell h7
  clear hB h1 h2
  go_enter Tryz.func101, Tryz.ntmps101
  go_wp2_with fail
  go_fit hL
  rintro e w1 ⟨⟨l, b, cap, rfl, hT, hl, hr⟩, hb⟩
  have HR : Hid (LRes (.returned (.slice (some ⟨b, 0, none⟩) l.length cap)) w w1 g n) := ⟨l, b, cap, rfl, hT, hl, hr⟩
  clear hT hl hr hL
  go_wp2_with fail
  go_ret
  exact ⟨HR.out, hb⟩

set_option maxRecDepth 100000 in
set_option maxHeartbeats 1000000 in
theorem mTree_up (Y : Nat → Prop) (xb mb rb yb n : Nat) (g : ByteArray → ByteArray) (c : Cfg) (s : Qs) (L : List UInt8) (br : Bool) (keep : Int) (lv : Value) (w : World) (hU : UpIs w Y xb mb rb yb c s L br keep lv) (hM : FilesMap w mb n g) (hn : n * 32 ≤ 140737488355328) :
    Calls Tryz.prog 64 #[.pointer (some ⟨xb, 0, none⟩)] w fun e w' => (∃ (l : List Fl) (b cap : Nat), e = .returned (.tuple #[.slice (some ⟨b, 0, none⟩) l.length cap, .int .i64 0]) ∧ Told l g ∧ l.length ≤ n ∧ w'.ownsRow w.heap.size 80 2 (.slice (some ⟨b, 0, none⟩) l.length cap) l.length (l.flatMap cF)) ∧ Below w.heap.size w w' := by
  obtain ⟨q, sb, qv, ov, hy⟩ := hU.yard
  have hT := yTree yb mb n g _ w hy.box rfl hM hn
  have c9 : w.cell? ⟨xb, 9, none⟩ = some (.pointer (some ⟨rb, 0, none⟩)) := hU.box.cell (i := 9) rfl
  have r0 : w.cell? ⟨rb, 0, none⟩ = some (.pointer (some ⟨yb, 0, none⟩)) := hU.run.cell (i := 0) rfl
  clear hU hy hM
  have hTell : Calls Tryz.prog 100 #[.pointer (some ⟨xb, 0, none⟩), .func (.func 101) #[] #[]] w fun e w' => (∃ (l : List Fl) (b cap : Nat), e = .returned (.tuple #[.slice (some ⟨b, 0, none⟩) l.length cap, .int .i64 0]) ∧ Told l g ∧ l.length ≤ n ∧ w'.ownsRow w.heap.size 80 2 (.slice (some ⟨b, 0, none⟩) l.length cap) l.length (l.flatMap cF)) ∧ Below w.heap.size w w' := by
    go_enter Tryz.func100, Tryz.ntmps100
    go_wp2_with fail
    go_fit hT
    rintro e w1 ⟨⟨l, b, cap, rfl, h1, h2, h3⟩, hb⟩
    have H1 : Hid (Told l g) := h1
    have H3 : Hid (w1.ownsRow w.heap.size 80 2 (.slice (some ⟨b, 0, none⟩) l.length cap) l.length (l.flatMap cF)) := h3
    clear h1 h3 hT
    go_wp2_with fail
    refine bodyPost_ret (by simp [results, Tryz.results100, go_sem]; rfl) rfl ⟨⟨l, b, cap, by rfl, H1.out, h2, H3.out⟩, hb⟩
  clear hT
  go_enter Tryz.func64, Tryz.ntmps64
  go_wp2_with fail
  go_fit hTell
  rintro e w1 ⟨⟨l, b, cap, rfl, h1, h2, h3⟩, hb⟩
  have H1 : Hid (Told l g) := h1
  have H3 : Hid (w1.ownsRow w.heap.size 80 2 (.slice (some ⟨b, 0, none⟩) l.length cap) l.length (l.flatMap cF)) := h3
  clear h1 h3 hTell
  go_wp2_with fail
  refine bodyPost_ret (by simp [results, Tryz.results64, go_sem]; rfl) rfl ⟨⟨l, b, cap, by rfl, H1.out, h2, H3.out⟩, hb⟩
end Go.Proofs.YtgamgomepdfgdaaGreat
