/-
  No cell of these rows narrows 'for every input' (looked for: loops, veiled, ifaces, maps, wideKeys, modest, calm, conditions, laid).
  DERIVED. THE GIVEN ROWS OF THIS SEAT. 5 by the template 'for every input the law returns true; each argument reads behind the call as it read before'; 0 by the template 'total and deterministic' (their statements: YtiminclbkmkgnaaTotals.lean).
  GIVEN WITH THE SEED: the statements are not yours to turn. If you find one false, say at which input.
  Laid BY PROGRAM, IN A SANDBOX (cutbox-rows.mjs): the forced cells as the released guide's own fill.sh prints them over the translation c3fb85e584400671… (all of the seat's roots in one cut). By AI agents, Wed Nov 11 2026. No macro, syntax, notation, axiom, sorry.
-/
import Derived.Test.YtiminclbkmkgnaaChecked
import GoSem.Claim
import GoSem.ClaimJoined
import GoSem.ClaimMapViews
import Derived.JoinedTies
import Derived.KernelRfl
namespace Go.Proofs.Ytiminclbkmkgnaa
/- THE CELL 'sum', in the pinned program and in every row, IS THE sha256 OF THE DUMP (.gsa) THAT YtiminclbkmkgnaaProg.lean LOADS. Nothing in Lean hashes anything: it is a label: what it is worth is what the hold of that sum in a sandbox is worth. -/
noncomputable def Try.pinned : Pinned := { name := "ytiminclbkmkgnaa", sum := "c3fb85e584400671301ae9990145c57ee324c453940626846f3fb11f587d4ec9", checked := Try.checked }
namespace Rows
def none {H : Type} : Left H := { results := [], args := [] }

/-- 'tympanlaw4.TurnTells': WHATEVER THE INPUT: true; the input reads as it did. -/
def turnTellsSpec : ChangeSpec := { name := "turnTells", fn := fun _ => fun
  | [d1, d2, d3] => { results := [.lit (.bool true)], args := [d1, d2, d3] }
  | _ => none }
def turnTellsRow : OpenClaim := { program := "ytiminclbkmkgnaa", sum := "c3fb85e584400671301ae9990145c57ee324c453940626846f3fb11f587d4ec9", func := "tympan/tympanlaw4.TurnTells", spec := "turnTells", unfollowed := true, recurses := true, named := ["math/bits.divideError", "math/bits.overflowError"], apart := false }
def TurnTellsSaid : Prop := turnTellsRow.holds Try.pinned (OpenSpec.ofChange turnTellsSpec)

/-- ITS FALSE NEIGHBOUR: 'it returns false'. Refute it at one input. -/
def turnTellsWrong : ChangeSpec := { name := "turnTells", fn := fun _ => fun
  | [d1, d2, d3] => { results := [.lit (.bool false)], args := [d1, d2, d3] }
  | _ => none }
def TurnTellsWrongFalsely : Prop := turnTellsRow.holds Try.pinned (OpenSpec.ofChange turnTellsWrong)

/-- 'tympanlaw4.TurnRound': WHATEVER THE INPUT: true; the input reads as it did. -/
def turnRoundSpec : ChangeSpec := { name := "turnRound", fn := fun _ => fun
  | [d1, d2] => { results := [.lit (.bool true)], args := [d1, d2] }
  | _ => none }
def turnRoundRow : OpenClaim := { program := "ytiminclbkmkgnaa", sum := "c3fb85e584400671301ae9990145c57ee324c453940626846f3fb11f587d4ec9", func := "tympan/tympanlaw4.TurnRound", spec := "turnRound", unfollowed := true, recurses := true, named := ["math/bits.divideError", "math/bits.overflowError"], apart := false }
def TurnRoundSaid : Prop := turnRoundRow.holds Try.pinned (OpenSpec.ofChange turnRoundSpec)

/-- ITS FALSE NEIGHBOUR: 'it returns false'. Refute it at one input. -/
def turnRoundWrong : ChangeSpec := { name := "turnRound", fn := fun _ => fun
  | [d1, d2] => { results := [.lit (.bool false)], args := [d1, d2] }
  | _ => none }
def TurnRoundWrongFalsely : Prop := turnRoundRow.holds Try.pinned (OpenSpec.ofChange turnRoundWrong)

/-- 'tympanlaw4.TurnRises': WHATEVER THE INPUT: true; the input reads as it did. -/
def turnRisesSpec : ChangeSpec := { name := "turnRises", fn := fun _ => fun
  | [d1, d2] => { results := [.lit (.bool true)], args := [d1, d2] }
  | _ => none }
def turnRisesRow : OpenClaim := { program := "ytiminclbkmkgnaa", sum := "c3fb85e584400671301ae9990145c57ee324c453940626846f3fb11f587d4ec9", func := "tympan/tympanlaw4.TurnRises", spec := "turnRises", unfollowed := true, recurses := true, named := ["math/bits.divideError", "math/bits.overflowError"], apart := false }
def TurnRisesSaid : Prop := turnRisesRow.holds Try.pinned (OpenSpec.ofChange turnRisesSpec)

/-- ITS FALSE NEIGHBOUR: 'it returns false'. Refute it at one input. -/
def turnRisesWrong : ChangeSpec := { name := "turnRises", fn := fun _ => fun
  | [d1, d2] => { results := [.lit (.bool false)], args := [d1, d2] }
  | _ => none }
def TurnRisesWrongFalsely : Prop := turnRisesRow.holds Try.pinned (OpenSpec.ofChange turnRisesWrong)

/-- 'tympanlaw4.TurnCircle': WHATEVER THE INPUT: true; the input reads as it did. -/
def turnCircleSpec : ChangeSpec := { name := "turnCircle", fn := fun _ => fun
  | [d] => { results := [.lit (.bool true)], args := [d] }
  | _ => none }
def turnCircleRow : OpenClaim := { program := "ytiminclbkmkgnaa", sum := "c3fb85e584400671301ae9990145c57ee324c453940626846f3fb11f587d4ec9", func := "tympan/tympanlaw4.TurnCircle", spec := "turnCircle", unfollowed := true, recurses := true, named := ["math/bits.divideError", "math/bits.overflowError"], apart := false }
def TurnCircleSaid : Prop := turnCircleRow.holds Try.pinned (OpenSpec.ofChange turnCircleSpec)

/-- ITS FALSE NEIGHBOUR: 'it returns false'. Refute it at one input. -/
def turnCircleWrong : ChangeSpec := { name := "turnCircle", fn := fun _ => fun
  | [d] => { results := [.lit (.bool false)], args := [d] }
  | _ => none }
def TurnCircleWrongFalsely : Prop := turnCircleRow.holds Try.pinned (OpenSpec.ofChange turnCircleWrong)

/-- 'tympanlaw4.TurnFound': WHATEVER THE INPUT: true; the input reads as it did. -/
def turnFoundSpec : ChangeSpec := { name := "turnFound", fn := fun _ => fun
  | [d1, d2, d3, d4] => { results := [.lit (.bool true)], args := [d1, d2, d3, d4] }
  | _ => none }
def turnFoundRow : OpenClaim := { program := "ytiminclbkmkgnaa", sum := "c3fb85e584400671301ae9990145c57ee324c453940626846f3fb11f587d4ec9", func := "tympan/tympanlaw4.TurnFound", spec := "turnFound", unfollowed := true, recurses := true, named := ["math/bits.divideError", "math/bits.overflowError"], apart := false }
def TurnFoundSaid : Prop := turnFoundRow.holds Try.pinned (OpenSpec.ofChange turnFoundSpec)

/-- ITS FALSE NEIGHBOUR: 'it returns false'. Refute it at one input. -/
def turnFoundWrong : ChangeSpec := { name := "turnFound", fn := fun _ => fun
  | [d1, d2, d3, d4] => { results := [.lit (.bool false)], args := [d1, d2, d3, d4] }
  | _ => none }
def TurnFoundWrongFalsely : Prop := turnFoundRow.holds Try.pinned (OpenSpec.ofChange turnFoundWrong)

/- THE SECOND FORM. 'bulk': how many values and letters a reading holds, each counted each time it is reached (what is shared counts as often as it is met; a slice's spare places count too). A statement '..UptoSaid' is the law's where the arguments, and the package variables that the reading takes, are together of bulk at most 1048576: NARROWER than '..Said'. Prove '..Said' where nothing that the law and all that it calls make is longer than what came in: it says more and counts as full. Else prove '..UptoSaid'. A law counts once. -/
mutual
def uptoBulk {H : Type} : DataW H → Nat
  | .lit (.string bytes) => bytes.length + 1
  | .lit _ => 1
  | .nil => 1
  | .ptr d => uptoBulk d + 1
  | .slice elems spare => uptoBulkAll elems + uptoBulkAll spare + 1
  | .agg parts => uptoBulkAll parts + 1
  | .iface _ d => uptoBulk d + 1
  | .map entries => uptoBulkEntries entries + 1
  | .held _ => 1
def uptoBulkAll {H : Type} : List (DataW H) → Nat
  | [] => 0
  | d :: r => uptoBulk d + uptoBulkAll r
def uptoBulkEntries {H : Type} : List (Lit × DataW H) → Nat
  | [] => 0
  | x :: r => uptoBulkEntry x + uptoBulkEntries r
def uptoBulkEntry {H : Type} : Lit × DataW H → Nat
  | (.string bytes, d) => bytes.length + uptoBulk d + 1
  | (_, d) => uptoBulk d + 1
 end
def uptoSmall : (H : Type) → List (DataW H) → Bool := fun _ ds => decide (uptoBulkAll ds ≤ 1048576)
def OpenSpec.upto (s : _root_.Go.ChangeSpec) : _root_.Go.OpenSpec := { _root_.Go.OpenSpec.ofChange s with cond := some uptoSmall }

/-- 'tympanlaw4.TurnTells', WHERE WHAT IT READS IS OF BULK AT MOST 1048576: true; the input reads as it did. -/
def turnTellsUptoRow : OpenClaim := { program := "ytiminclbkmkgnaa", sum := "c3fb85e584400671301ae9990145c57ee324c453940626846f3fb11f587d4ec9", func := "tympan/tympanlaw4.TurnTells", spec := "turnTells", unfollowed := true, recurses := true, named := ["math/bits.divideError", "math/bits.overflowError"], apart := false, narrowed := true }
def TurnTellsUptoSaid : Prop := turnTellsUptoRow.holds Try.pinned (OpenSpec.upto turnTellsSpec)

/-- 'tympanlaw4.TurnRound', WHERE WHAT IT READS IS OF BULK AT MOST 1048576: true; the input reads as it did. -/
def turnRoundUptoRow : OpenClaim := { program := "ytiminclbkmkgnaa", sum := "c3fb85e584400671301ae9990145c57ee324c453940626846f3fb11f587d4ec9", func := "tympan/tympanlaw4.TurnRound", spec := "turnRound", unfollowed := true, recurses := true, named := ["math/bits.divideError", "math/bits.overflowError"], apart := false, narrowed := true }
def TurnRoundUptoSaid : Prop := turnRoundUptoRow.holds Try.pinned (OpenSpec.upto turnRoundSpec)

/-- 'tympanlaw4.TurnRises', WHERE WHAT IT READS IS OF BULK AT MOST 1048576: true; the input reads as it did. -/
def turnRisesUptoRow : OpenClaim := { program := "ytiminclbkmkgnaa", sum := "c3fb85e584400671301ae9990145c57ee324c453940626846f3fb11f587d4ec9", func := "tympan/tympanlaw4.TurnRises", spec := "turnRises", unfollowed := true, recurses := true, named := ["math/bits.divideError", "math/bits.overflowError"], apart := false, narrowed := true }
def TurnRisesUptoSaid : Prop := turnRisesUptoRow.holds Try.pinned (OpenSpec.upto turnRisesSpec)

/-- 'tympanlaw4.TurnCircle', WHERE WHAT IT READS IS OF BULK AT MOST 1048576: true; the input reads as it did. -/
def turnCircleUptoRow : OpenClaim := { program := "ytiminclbkmkgnaa", sum := "c3fb85e584400671301ae9990145c57ee324c453940626846f3fb11f587d4ec9", func := "tympan/tympanlaw4.TurnCircle", spec := "turnCircle", unfollowed := true, recurses := true, named := ["math/bits.divideError", "math/bits.overflowError"], apart := false, narrowed := true }
def TurnCircleUptoSaid : Prop := turnCircleUptoRow.holds Try.pinned (OpenSpec.upto turnCircleSpec)

/-- 'tympanlaw4.TurnFound', WHERE WHAT IT READS IS OF BULK AT MOST 1048576: true; the input reads as it did. -/
def turnFoundUptoRow : OpenClaim := { program := "ytiminclbkmkgnaa", sum := "c3fb85e584400671301ae9990145c57ee324c453940626846f3fb11f587d4ec9", func := "tympan/tympanlaw4.TurnFound", spec := "turnFound", unfollowed := true, recurses := true, named := ["math/bits.divideError", "math/bits.overflowError"], apart := false, narrowed := true }
def TurnFoundUptoSaid : Prop := turnFoundUptoRow.holds Try.pinned (OpenSpec.upto turnFoundSpec)

end Rows
end Go.Proofs.Ytiminclbkmkgnaa
