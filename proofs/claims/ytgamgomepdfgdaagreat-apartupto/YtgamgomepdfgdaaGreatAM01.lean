import Derived.Test.YtgamgomepdfgdaaGreatProg
import Derived.Below
import Derived.OrdersHeld
import Derived.WalkKit
import Derived.Deep.RegionHeldLaw
set_option maxRecDepth 100000
set_option maxHeartbeats 8000000
namespace Go.Proofs.YtgamgomepdfgdaaGreat
open Go.RowKit Go.Proofs.Tryz
abbrev I (n : Int) : Value := .int .i64 n
abbrev Px (b : Nat) : Value := .pointer (some ⟨b, 0, none⟩)
abbrev Zn : Value := .slice none 0 0
abbrev Bl (w w' : World) : Prop := Below w.heap.size w w'
abbrev z_ (w : World) : Nat := w.heap.size
abbrev s_ (g o n c : Nat) : Value := .slice (some ⟨g, o, none⟩) n c
abbrev c_ (f : Nat) (args : Array Value) (w : World) (R : Ending → World → Prop) : Prop := Calls prog f args w R
theorem hd {p : Prop} (h : p) : Hid p := h
theorem tk {P : Program} {ops : Array Oper} {Q : Exit → Act → World → Prop} {md : Region.Mode} {S : World → Prop} (i : Nat) {oi : Oper} {v : Value} {fuel : Nat} {listed : Array Bool} {a a' : Act} {w : World}
    (h : wpAnyH P md ops Q S fuel (listed.setIfInBounds i true) a' w) (hi : ops[i]? = some oi := by exact rfl) (hs : Region.noSelect ops = true := by kernel_rfl) (hf : Region.free md ops listed i = true := by kernel_rfl) (hr : (Region.ready md ops listed).contains i = true := by kernel_rfl)
    (hy1 : Region.wanted oi (yielded ops a.tmps) = true := by rfl) (hy2 : ∀ w, S w → (execOp a.eval oi).run P w = .ok (.value v) w := by (intro w9 hSw; (try dsimp only at hSw); go_simp <;> with_reducible rfl))
    (hQ : ∀ c b u, Q (.panic c) (b.put oi.dst v) u → Q (.panic c) b u := by exact fun _ _ _ h => h) (hS : S w := by assumption)
    (ha : a.put oi.dst v = a' := by ((try simp only [Act.put, List.getElem_toArray, List.getElem_cons_zero, List.getElem_cons_succ, List.setIfInBounds_toArray, List.set_cons_zero, List.set_cons_succ]); with_reducible rfl)) : wpAnyH P md ops Q S (fuel + 1) listed a w := by
  subst ha
  exact wpAnyH_take hi hs hf hr hQ (.inl ⟨hy1, hy2⟩) hS h
theorem be_ {P : Program} {fn : Func} {R : Ending → World → Prop} {a : Act} {w : World} (hR : R (.returned (.tuple #[])) w) (hr : fn.results = #[] := by kernel_rfl) (hd : a.defers = [] := by rfl) : bodyPost P fn R .normal a w := bodyPost_end (results_none hr _ _ _) hd hR
theorem rd_ {P : Program} {ops : Array Oper} {Q : Exit → Act → World → Prop} {md : Region.Mode} {S : World → Prop} (i : Nat) (rs : List Nat) {o : Oper} {fuel : Nat} {listed : Array Bool} {a : Act} {w : World} (ho : ops[i]? = some o)
    (h : ∀ K' : Act → World → Prop, Shut (∀ a w, S w → (S w → wpAnyH P md ops Q S fuel (listed.setIfInBounds i true) a w) → K' a w) → if Region.wanted o (yielded ops a.tmps) = true then Oper.wp P o a w K' Q else K' (a.put o.dst undef) w)
    (hs : AllReadyH P md ops Q S fuel listed a w rs) (hr : Region.ready md ops listed = i :: rs := by kernel_rfl) : wpAnyH P md ops Q S (fuel + 1) listed a w := wpAnyH_ready hr (by simp) (AllReadyH.cons ho h hs)
abbrev a_ := @List.length_append
abbrev b_ := @Nat.le_refl
abbrev d_ := @List.length_map
abbrev e_ := @Nat.le_trans
abbrev f_ := @World.ownsRow.lt
abbrev g_ := @List.take_succ_eq_append_getElem
abbrev h_ := @Nat.lt_of_lt_of_le
abbrev i_ := @List.getElem_mem
abbrev j_ := @Array.getElem?_eq_some_iff
abbrev k_ := @Nat.zero_le
abbrev l_ := @List.length_take
abbrev m_ := @List.take_of_length_le
abbrev n_ := @Below.refl
abbrev o_ := @List.mem_singleton
abbrev p_ := @World.ownsRow.alloc
abbrev q_ := @List.mem_map
abbrev r_ := @List.flatMap_append
abbrev t_ := @World.ownsRow.kept
abbrev u_ := @Nat.mul_le_mul_right
abbrev v_ := @World.grownBy_alloc
abbrev w_ := @List.map_append
abbrev x_ := @List.mem_map_of_mem
abbrev y_ := @List.map_map
abbrev A_ := @List.append_assoc
abbrev B_ := @World.ownsRow_nil
abbrev C_ := @List.map_cons
abbrev D_ := @List.mem_cons_self
abbrev E_ := @List.mem_append
abbrev F_ := @List.flatMap_cons
abbrev G_ := @List.length_drop
abbrev H_ := @World.cell?_setCell_other
abbrev I_ := @List.eq_nil_of_length_eq_zero
abbrev J_ := @Nat.add_assoc
abbrev K_ := @World.grownBy.cell
abbrev L_ := @World.cell?_of_block
abbrev M_ := @List.drop_eq_getElem_cons
abbrev N_ := @List.getElem?_eq_some_iff
abbrev O_ := @Nat.zero_add
abbrev P_ := @List.setIfInBounds_toArray
abbrev Q_ := @List.mem_iff_getElem
abbrev R_ := @List.mem_cons
abbrev S_ := @List.length_pos_iff
abbrev T_ := @List.append_nil
abbrev U_ := @Nat.min_eq_left
abbrev V_ := @List.getElem?_append_left
abbrev W_ := @List.take_length
abbrev X_ := @List.take_append_drop
abbrev Y_ := @List.drop_of_length_le
abbrev Z_ := @List.mem_filter
end Go.Proofs.YtgamgomepdfgdaaGreat
