/-
  No cell of these rows narrows 'for every input' (looked for: loops, veiled, ifaces, maps, wideKeys, modest, calm, conditions, laid).
  DERIVED. THE GIVEN ROWS OF THIS SEAT. 7 by the template 'for every input the law returns true; each argument reads behind the call as it read before'; 0 by the template 'total and deterministic' (their statements: YtgamgomepdfgdaaGreatTotals.lean).
  GIVEN WITH THE SEED: the statements are not yours to turn. If you find one false, say at which input.
  Laid BY PROGRAM, IN A SANDBOX (cutbox-rows.mjs): the forced cells as the released guide's own fill.sh prints them over the translation beb4e081847d1640… (all of the seat's roots in one cut). By AI agents, Wed Nov 11 2026. No macro, syntax, notation, axiom, sorry.
-/
import Derived.Test.YtgamgomepdfgdaaGreatChecked
import GoSem.Claim
import GoSem.ClaimJoined
import GoSem.ClaimMapViews
import Derived.JoinedTies
import Derived.KernelRfl
namespace Go.Proofs.YtgamgomepdfgdaaGreat
/- THE CELL 'sum', in the pinned program and in every row, IS THE sha256 OF THE DUMP (.gsa) THAT YtgamgomepdfgdaaGreatProg.lean LOADS. Nothing in Lean hashes anything: it is a label: what it is worth is what the hold of that sum in a sandbox is worth. -/
noncomputable def Tryz.pinned : Pinned := { name := "ytgamgomepdfgdaagreat", sum := "beb4e081847d1640815ed832f3e5235430f56de1ce695335013666a239bef62c", checked := Tryz.checked }
namespace Rows
def none {H : Type} : Left H := { results := [], args := [] }

/-- 'shuntlaw.Waits': WHATEVER THE INPUT: true; the input reads as it did. -/
def waitsSpec : ChangeSpec := { name := "waits", fn := fun _ => fun
  | [d1, d2, d3] => { results := [.lit (.bool true)], args := [d1, d2, d3] }
  | _ => none }
def waitsRow : OpenClaim := { program := "ytgamgomepdfgdaagreat", sum := "beb4e081847d1640815ed832f3e5235430f56de1ce695335013666a239bef62c", func := "shunt/shuntlaw.Waits", spec := "waits", inPlace := ["maps.clone", "slices.overlaps[*shunt/yard.segment]", "internal/bytealg.abigen_runtime_cmpstring"], unfollowed := true, recurses := true, apart := false }
def WaitsSaid : Prop := waitsRow.holds Tryz.pinned (OpenSpec.ofChange waitsSpec)

/-- ITS FALSE NEIGHBOUR: 'it returns false'. Refute it at one input. -/
def waitsWrong : ChangeSpec := { name := "waits", fn := fun _ => fun
  | [d1, d2, d3] => { results := [.lit (.bool false)], args := [d1, d2, d3] }
  | _ => none }
def WaitsWrongFalsely : Prop := waitsRow.holds Tryz.pinned (OpenSpec.ofChange waitsWrong)

/-- 'shuntlaw.Trains': WHATEVER THE INPUT: true; the input reads as it did. -/
def trainsSpec : ChangeSpec := { name := "trains", fn := fun _ => fun
  | [d1, d2, d3] => { results := [.lit (.bool true)], args := [d1, d2, d3] }
  | _ => none }
def trainsRow : OpenClaim := { program := "ytgamgomepdfgdaagreat", sum := "beb4e081847d1640815ed832f3e5235430f56de1ce695335013666a239bef62c", func := "shunt/shuntlaw.Trains", spec := "trains", inPlace := ["maps.clone", "slices.overlaps[*shunt/yard.segment]", "internal/bytealg.abigen_runtime_cmpstring"], unfollowed := true, recurses := true, apart := false }
def TrainsSaid : Prop := trainsRow.holds Tryz.pinned (OpenSpec.ofChange trainsSpec)

/-- ITS FALSE NEIGHBOUR: 'it returns false'. Refute it at one input. -/
def trainsWrong : ChangeSpec := { name := "trains", fn := fun _ => fun
  | [d1, d2, d3] => { results := [.lit (.bool false)], args := [d1, d2, d3] }
  | _ => none }
def TrainsWrongFalsely : Prop := trainsRow.holds Tryz.pinned (OpenSpec.ofChange trainsWrong)

/-- 'shuntlaw.Apart': WHATEVER THE INPUT: true; the input reads as it did. -/
def apartSpec : ChangeSpec := { name := "apart", fn := fun _ => fun
  | [d1, d2, d3, d4, d5] => { results := [.lit (.bool true)], args := [d1, d2, d3, d4, d5] }
  | _ => none }
def apartRow : OpenClaim := { program := "ytgamgomepdfgdaagreat", sum := "beb4e081847d1640815ed832f3e5235430f56de1ce695335013666a239bef62c", func := "shunt/shuntlaw.Apart", spec := "apart", inPlace := ["maps.clone", "slices.overlaps[*shunt/yard.segment]", "internal/bytealg.abigen_runtime_cmpstring"], unfollowed := true, recurses := true, apart := false }
def ApartSaid : Prop := apartRow.holds Tryz.pinned (OpenSpec.ofChange apartSpec)

/-- ITS FALSE NEIGHBOUR: 'it returns false'. Refute it at one input. -/
def apartWrong : ChangeSpec := { name := "apart", fn := fun _ => fun
  | [d1, d2, d3, d4, d5] => { results := [.lit (.bool false)], args := [d1, d2, d3, d4, d5] }
  | _ => none }
def ApartWrongFalsely : Prop := apartRow.holds Tryz.pinned (OpenSpec.ofChange apartWrong)

/-- 'shuntlaw.Evidence': WHATEVER THE INPUT: true; the input reads as it did. -/
def evidenceSpec : ChangeSpec := { name := "evidence", fn := fun _ => fun
  | [d1, d2] => { results := [.lit (.bool true)], args := [d1, d2] }
  | _ => none }
def evidenceRow : OpenClaim := { program := "ytgamgomepdfgdaagreat", sum := "beb4e081847d1640815ed832f3e5235430f56de1ce695335013666a239bef62c", func := "shunt/shuntlaw.Evidence", spec := "evidence", inPlace := ["maps.clone", "slices.overlaps[*shunt/yard.segment]", "internal/bytealg.abigen_runtime_cmpstring"], unfollowed := true, recurses := true, apart := false }
def EvidenceSaid : Prop := evidenceRow.holds Tryz.pinned (OpenSpec.ofChange evidenceSpec)

/-- ITS FALSE NEIGHBOUR: 'it returns false'. Refute it at one input. -/
def evidenceWrong : ChangeSpec := { name := "evidence", fn := fun _ => fun
  | [d1, d2] => { results := [.lit (.bool false)], args := [d1, d2] }
  | _ => none }
def EvidenceWrongFalsely : Prop := evidenceRow.holds Tryz.pinned (OpenSpec.ofChange evidenceWrong)

/-- 'shuntlaw.Blame': WHATEVER THE INPUT: true; the input reads as it did. -/
def blameSpec : ChangeSpec := { name := "blame", fn := fun _ => fun
  | [d1, d2] => { results := [.lit (.bool true)], args := [d1, d2] }
  | _ => none }
def blameRow : OpenClaim := { program := "ytgamgomepdfgdaagreat", sum := "beb4e081847d1640815ed832f3e5235430f56de1ce695335013666a239bef62c", func := "shunt/shuntlaw.Blame", spec := "blame", inPlace := ["maps.clone", "slices.overlaps[*shunt/yard.segment]", "internal/bytealg.abigen_runtime_cmpstring"], unfollowed := true, recurses := true, apart := false }
def BlameSaid : Prop := blameRow.holds Tryz.pinned (OpenSpec.ofChange blameSpec)

/-- ITS FALSE NEIGHBOUR: 'it returns false'. Refute it at one input. -/
def blameWrong : ChangeSpec := { name := "blame", fn := fun _ => fun
  | [d1, d2] => { results := [.lit (.bool false)], args := [d1, d2] }
  | _ => none }
def BlameWrongFalsely : Prop := blameRow.holds Tryz.pinned (OpenSpec.ofChange blameWrong)

/-- 'shuntlaw.Fair': WHATEVER THE INPUT: true; the input reads as it did. -/
def fairSpec : ChangeSpec := { name := "fair", fn := fun _ => fun
  | [d1, d2] => { results := [.lit (.bool true)], args := [d1, d2] }
  | _ => none }
def fairRow : OpenClaim := { program := "ytgamgomepdfgdaagreat", sum := "beb4e081847d1640815ed832f3e5235430f56de1ce695335013666a239bef62c", func := "shunt/shuntlaw.Fair", spec := "fair", inPlace := ["maps.clone", "slices.overlaps[*shunt/yard.segment]", "internal/bytealg.abigen_runtime_cmpstring"], unfollowed := true, recurses := true, apart := false }
def FairSaid : Prop := fairRow.holds Tryz.pinned (OpenSpec.ofChange fairSpec)

/-- ITS FALSE NEIGHBOUR: 'it returns false'. Refute it at one input. -/
def fairWrong : ChangeSpec := { name := "fair", fn := fun _ => fun
  | [d1, d2] => { results := [.lit (.bool false)], args := [d1, d2] }
  | _ => none }
def FairWrongFalsely : Prop := fairRow.holds Tryz.pinned (OpenSpec.ofChange fairWrong)

/-- 'shuntlaw.Torn': WHATEVER THE INPUT: true; the input reads as it did. -/
def tornSpec : ChangeSpec := { name := "torn", fn := fun _ => fun
  | [d1, d2, d3, d4] => { results := [.lit (.bool true)], args := [d1, d2, d3, d4] }
  | _ => none }
def tornRow : OpenClaim := { program := "ytgamgomepdfgdaagreat", sum := "beb4e081847d1640815ed832f3e5235430f56de1ce695335013666a239bef62c", func := "shunt/shuntlaw.Torn", spec := "torn", inPlace := ["maps.clone", "slices.overlaps[*shunt/yard.segment]", "internal/bytealg.abigen_runtime_cmpstring"], unfollowed := true, recurses := true, apart := false }
def TornSaid : Prop := tornRow.holds Tryz.pinned (OpenSpec.ofChange tornSpec)

/-- ITS FALSE NEIGHBOUR: 'it returns false'. Refute it at one input. -/
def tornWrong : ChangeSpec := { name := "torn", fn := fun _ => fun
  | [d1, d2, d3, d4] => { results := [.lit (.bool false)], args := [d1, d2, d3, d4] }
  | _ => none }
def TornWrongFalsely : Prop := tornRow.holds Tryz.pinned (OpenSpec.ofChange tornWrong)

/- THE SECOND FORM. 'bulk': how many values and letters a reading holds, each counted each time it is reached (what is shared counts as often as it is met; a slice's spare places count too). A statement '..UptoSaid' is the law's where the arguments, and the package variables that the reading takes, are together of bulk at most 1048576: NARROWER than '..Said'. Prove '..Said' where nothing that the law and all that it calls make is longer than what came in: it says more and counts as full. Else prove '..UptoSaid'. A law counts once. -/
mutual
def uptoBulk {H : Type} : DataW H → Nat
  | .lit (.string bytes) => bytes.length + 1
  | .lit _ => 1
  | .nil => 1
  | .ptr d => uptoBulk d + 1
  | .slice elems spare => uptoBulkAll elems + uptoBulkAll spare + 1
  | .agg parts => uptoBulkAll parts + 1
  | .iface _ d => uptoBulk d + 1
  | .map entries => uptoBulkEntries entries + 1
  | .held _ => 1
def uptoBulkAll {H : Type} : List (DataW H) → Nat
  | [] => 0
  | d :: r => uptoBulk d + uptoBulkAll r
def uptoBulkEntries {H : Type} : List (Lit × DataW H) → Nat
  | [] => 0
  | x :: r => uptoBulkEntry x + uptoBulkEntries r
def uptoBulkEntry {H : Type} : Lit × DataW H → Nat
  | (.string bytes, d) => bytes.length + uptoBulk d + 1
  | (_, d) => uptoBulk d + 1
 end
def uptoSmall : (H : Type) → List (DataW H) → Bool := fun _ ds => decide (uptoBulkAll ds ≤ 1048576)
def OpenSpec.upto (s : _root_.Go.ChangeSpec) : _root_.Go.OpenSpec := { _root_.Go.OpenSpec.ofChange s with cond := some uptoSmall }

/-- 'shuntlaw.Waits', WHERE WHAT IT READS IS OF BULK AT MOST 1048576: true; the input reads as it did. -/
def waitsUptoRow : OpenClaim := { program := "ytgamgomepdfgdaagreat", sum := "beb4e081847d1640815ed832f3e5235430f56de1ce695335013666a239bef62c", func := "shunt/shuntlaw.Waits", spec := "waits", inPlace := ["maps.clone", "slices.overlaps[*shunt/yard.segment]", "internal/bytealg.abigen_runtime_cmpstring"], unfollowed := true, recurses := true, apart := false, narrowed := true }
def WaitsUptoSaid : Prop := waitsUptoRow.holds Tryz.pinned (OpenSpec.upto waitsSpec)

/-- 'shuntlaw.Trains', WHERE WHAT IT READS IS OF BULK AT MOST 1048576: true; the input reads as it did. -/
def trainsUptoRow : OpenClaim := { program := "ytgamgomepdfgdaagreat", sum := "beb4e081847d1640815ed832f3e5235430f56de1ce695335013666a239bef62c", func := "shunt/shuntlaw.Trains", spec := "trains", inPlace := ["maps.clone", "slices.overlaps[*shunt/yard.segment]", "internal/bytealg.abigen_runtime_cmpstring"], unfollowed := true, recurses := true, apart := false, narrowed := true }
def TrainsUptoSaid : Prop := trainsUptoRow.holds Tryz.pinned (OpenSpec.upto trainsSpec)

/-- 'shuntlaw.Apart', WHERE WHAT IT READS IS OF BULK AT MOST 1048576: true; the input reads as it did. -/
def apartUptoRow : OpenClaim := { program := "ytgamgomepdfgdaagreat", sum := "beb4e081847d1640815ed832f3e5235430f56de1ce695335013666a239bef62c", func := "shunt/shuntlaw.Apart", spec := "apart", inPlace := ["maps.clone", "slices.overlaps[*shunt/yard.segment]", "internal/bytealg.abigen_runtime_cmpstring"], unfollowed := true, recurses := true, apart := false, narrowed := true }
def ApartUptoSaid : Prop := apartUptoRow.holds Tryz.pinned (OpenSpec.upto apartSpec)

/-- 'shuntlaw.Evidence', WHERE WHAT IT READS IS OF BULK AT MOST 1048576: true; the input reads as it did. -/
def evidenceUptoRow : OpenClaim := { program := "ytgamgomepdfgdaagreat", sum := "beb4e081847d1640815ed832f3e5235430f56de1ce695335013666a239bef62c", func := "shunt/shuntlaw.Evidence", spec := "evidence", inPlace := ["maps.clone", "slices.overlaps[*shunt/yard.segment]", "internal/bytealg.abigen_runtime_cmpstring"], unfollowed := true, recurses := true, apart := false, narrowed := true }
def EvidenceUptoSaid : Prop := evidenceUptoRow.holds Tryz.pinned (OpenSpec.upto evidenceSpec)

/-- 'shuntlaw.Blame', WHERE WHAT IT READS IS OF BULK AT MOST 1048576: true; the input reads as it did. -/
def blameUptoRow : OpenClaim := { program := "ytgamgomepdfgdaagreat", sum := "beb4e081847d1640815ed832f3e5235430f56de1ce695335013666a239bef62c", func := "shunt/shuntlaw.Blame", spec := "blame", inPlace := ["maps.clone", "slices.overlaps[*shunt/yard.segment]", "internal/bytealg.abigen_runtime_cmpstring"], unfollowed := true, recurses := true, apart := false, narrowed := true }
def BlameUptoSaid : Prop := blameUptoRow.holds Tryz.pinned (OpenSpec.upto blameSpec)

/-- 'shuntlaw.Fair', WHERE WHAT IT READS IS OF BULK AT MOST 1048576: true; the input reads as it did. -/
def fairUptoRow : OpenClaim := { program := "ytgamgomepdfgdaagreat", sum := "beb4e081847d1640815ed832f3e5235430f56de1ce695335013666a239bef62c", func := "shunt/shuntlaw.Fair", spec := "fair", inPlace := ["maps.clone", "slices.overlaps[*shunt/yard.segment]", "internal/bytealg.abigen_runtime_cmpstring"], unfollowed := true, recurses := true, apart := false, narrowed := true }
def FairUptoSaid : Prop := fairUptoRow.holds Tryz.pinned (OpenSpec.upto fairSpec)

/-- 'shuntlaw.Torn', WHERE WHAT IT READS IS OF BULK AT MOST 1048576: true; the input reads as it did. -/
def tornUptoRow : OpenClaim := { program := "ytgamgomepdfgdaagreat", sum := "beb4e081847d1640815ed832f3e5235430f56de1ce695335013666a239bef62c", func := "shunt/shuntlaw.Torn", spec := "torn", inPlace := ["maps.clone", "slices.overlaps[*shunt/yard.segment]", "internal/bytealg.abigen_runtime_cmpstring"], unfollowed := true, recurses := true, apart := false, narrowed := true }
def TornUptoSaid : Prop := tornUptoRow.holds Tryz.pinned (OpenSpec.upto tornSpec)

end Rows
end Go.Proofs.YtgamgomepdfgdaaGreat
