/-
  No cell of these rows narrows 'for every input' (looked for: loops, veiled, ifaces, maps, wideKeys, modest, calm, conditions, laid).
  DERIVED. THE GIVEN ROWS OF THIS SEAT. 5 by the template 'for every input the law returns true; each argument reads behind the call as it read before'; 0 by the template 'total and deterministic' (their statements: YtelihdgpappklaaTotals.lean).
  GIVEN WITH THE SEED: the statements are not yours to turn. If you find one false, say at which input.
  Laid BY PROGRAM, IN A SANDBOX (cutbox-rows.mjs): the forced cells as the released guide's own fill.sh prints them over the translation 6797085e37de79a4… (all of the seat's roots in one cut). By AI agents, Wed Nov 11 2026. No macro, syntax, notation, axiom, sorry.
-/
import Derived.Test.YtelihdgpappklaaChecked
import GoSem.Claim
import GoSem.ClaimJoined
import GoSem.ClaimMapViews
import Derived.JoinedTies
import Derived.KernelRfl
namespace Go.Proofs.Ytelihdgpappklaa
/- THE CELL 'sum', in the pinned program and in every row, IS THE sha256 OF THE DUMP (.gsa) THAT YtelihdgpappklaaProg.lean LOADS. Nothing in Lean hashes anything: it is a label: what it is worth is what the hold of that sum in a sandbox is worth. -/
noncomputable def Try.pinned : Pinned := { name := "ytelihdgpappklaa", sum := "6797085e37de79a4fb87281fa2784d2c32b60d0094aaf739126338b2f63be1a1", checked := Try.checked }
namespace Rows
def none {H : Type} : Left H := { results := [], args := [] }

/-- 'tympanlaw10.ObjTells': WHATEVER THE INPUT: true; the input reads as it did. -/
def objTellsSpec : ChangeSpec := { name := "objTells", fn := fun _ => fun
  | [d1, d2] => { results := [.lit (.bool true)], args := [d1, d2] }
  | _ => none }
def objTellsRow : OpenClaim := { program := "ytelihdgpappklaa", sum := "6797085e37de79a4fb87281fa2784d2c32b60d0094aaf739126338b2f63be1a1", func := "tympan/tympanlaw10.ObjTells", spec := "objTells", apart := false }
def ObjTellsSaid : Prop := objTellsRow.holds Try.pinned (OpenSpec.ofChange objTellsSpec)

/-- ITS FALSE NEIGHBOUR: 'it returns false'. Refute it at one input. -/
def objTellsWrong : ChangeSpec := { name := "objTells", fn := fun _ => fun
  | [d1, d2] => { results := [.lit (.bool false)], args := [d1, d2] }
  | _ => none }
def ObjTellsWrongFalsely : Prop := objTellsRow.holds Try.pinned (OpenSpec.ofChange objTellsWrong)

/-- 'tympanlaw10.ObjOrder': WHATEVER THE INPUT: true; the input reads as it did. -/
def objOrderSpec : ChangeSpec := { name := "objOrder", fn := fun _ => fun
  | [d1, d2, d3, d4, d5, d6] => { results := [.lit (.bool true)], args := [d1, d2, d3, d4, d5, d6] }
  | _ => none }
def objOrderRow : OpenClaim := { program := "ytelihdgpappklaa", sum := "6797085e37de79a4fb87281fa2784d2c32b60d0094aaf739126338b2f63be1a1", func := "tympan/tympanlaw10.ObjOrder", spec := "objOrder", apart := false }
def ObjOrderSaid : Prop := objOrderRow.holds Try.pinned (OpenSpec.ofChange objOrderSpec)

/-- ITS FALSE NEIGHBOUR: 'it returns false'. Refute it at one input. -/
def objOrderWrong : ChangeSpec := { name := "objOrder", fn := fun _ => fun
  | [d1, d2, d3, d4, d5, d6] => { results := [.lit (.bool false)], args := [d1, d2, d3, d4, d5, d6] }
  | _ => none }
def ObjOrderWrongFalsely : Prop := objOrderRow.holds Try.pinned (OpenSpec.ofChange objOrderWrong)

/-- 'tympanlaw10.ObjFixes': WHATEVER THE INPUT: true; the input reads as it did. -/
def objFixesSpec : ChangeSpec := { name := "objFixes", fn := fun _ => fun
  | [d1, d2] => { results := [.lit (.bool true)], args := [d1, d2] }
  | _ => none }
def objFixesRow : OpenClaim := { program := "ytelihdgpappklaa", sum := "6797085e37de79a4fb87281fa2784d2c32b60d0094aaf739126338b2f63be1a1", func := "tympan/tympanlaw10.ObjFixes", spec := "objFixes", apart := false }
def ObjFixesSaid : Prop := objFixesRow.holds Try.pinned (OpenSpec.ofChange objFixesSpec)

/-- ITS FALSE NEIGHBOUR: 'it returns false'. Refute it at one input. -/
def objFixesWrong : ChangeSpec := { name := "objFixes", fn := fun _ => fun
  | [d1, d2] => { results := [.lit (.bool false)], args := [d1, d2] }
  | _ => none }
def ObjFixesWrongFalsely : Prop := objFixesRow.holds Try.pinned (OpenSpec.ofChange objFixesWrong)

/-- 'tympanlaw10.ObjExec': WHATEVER THE INPUT: true; the input reads as it did. -/
def objExecSpec : ChangeSpec := { name := "objExec", fn := fun _ => fun
  | [d1, d2, d3, d4] => { results := [.lit (.bool true)], args := [d1, d2, d3, d4] }
  | _ => none }
def objExecRow : OpenClaim := { program := "ytelihdgpappklaa", sum := "6797085e37de79a4fb87281fa2784d2c32b60d0094aaf739126338b2f63be1a1", func := "tympan/tympanlaw10.ObjExec", spec := "objExec", apart := false }
def ObjExecSaid : Prop := objExecRow.holds Try.pinned (OpenSpec.ofChange objExecSpec)

/-- ITS FALSE NEIGHBOUR: 'it returns false'. Refute it at one input. -/
def objExecWrong : ChangeSpec := { name := "objExec", fn := fun _ => fun
  | [d1, d2, d3, d4] => { results := [.lit (.bool false)], args := [d1, d2, d3, d4] }
  | _ => none }
def ObjExecWrongFalsely : Prop := objExecRow.holds Try.pinned (OpenSpec.ofChange objExecWrong)

/-- 'tympanlaw10.ObjFields': WHATEVER THE INPUT: true; the input reads as it did. -/
def objFieldsSpec : ChangeSpec := { name := "objFields", fn := fun _ => fun
  | [d1, d2] => { results := [.lit (.bool true)], args := [d1, d2] }
  | _ => none }
def objFieldsRow : OpenClaim := { program := "ytelihdgpappklaa", sum := "6797085e37de79a4fb87281fa2784d2c32b60d0094aaf739126338b2f63be1a1", func := "tympan/tympanlaw10.ObjFields", spec := "objFields", apart := false }
def ObjFieldsSaid : Prop := objFieldsRow.holds Try.pinned (OpenSpec.ofChange objFieldsSpec)

/-- ITS FALSE NEIGHBOUR: 'it returns false'. Refute it at one input. -/
def objFieldsWrong : ChangeSpec := { name := "objFields", fn := fun _ => fun
  | [d1, d2] => { results := [.lit (.bool false)], args := [d1, d2] }
  | _ => none }
def ObjFieldsWrongFalsely : Prop := objFieldsRow.holds Try.pinned (OpenSpec.ofChange objFieldsWrong)

/- THE SECOND FORM. 'bulk': how many values and letters a reading holds, each counted each time it is reached (what is shared counts as often as it is met; a slice's spare places count too). A statement '..UptoSaid' is the law's where the arguments, and the package variables that the reading takes, are together of bulk at most 1048576: NARROWER than '..Said'. Prove '..Said' where nothing that the law and all that it calls make is longer than what came in: it says more and counts as full. Else prove '..UptoSaid'. A law counts once. -/
mutual
def uptoBulk {H : Type} : DataW H → Nat
  | .lit (.string bytes) => bytes.length + 1
  | .lit _ => 1
  | .nil => 1
  | .ptr d => uptoBulk d + 1
  | .slice elems spare => uptoBulkAll elems + uptoBulkAll spare + 1
  | .agg parts => uptoBulkAll parts + 1
  | .iface _ d => uptoBulk d + 1
  | .map entries => uptoBulkEntries entries + 1
  | .held _ => 1
def uptoBulkAll {H : Type} : List (DataW H) → Nat
  | [] => 0
  | d :: r => uptoBulk d + uptoBulkAll r
def uptoBulkEntries {H : Type} : List (Lit × DataW H) → Nat
  | [] => 0
  | x :: r => uptoBulkEntry x + uptoBulkEntries r
def uptoBulkEntry {H : Type} : Lit × DataW H → Nat
  | (.string bytes, d) => bytes.length + uptoBulk d + 1
  | (_, d) => uptoBulk d + 1
 end
def uptoSmall : (H : Type) → List (DataW H) → Bool := fun _ ds => decide (uptoBulkAll ds ≤ 1048576)
def OpenSpec.upto (s : _root_.Go.ChangeSpec) : _root_.Go.OpenSpec := { _root_.Go.OpenSpec.ofChange s with cond := some uptoSmall }

/-- 'tympanlaw10.ObjTells', WHERE WHAT IT READS IS OF BULK AT MOST 1048576: true; the input reads as it did. -/
def objTellsUptoRow : OpenClaim := { program := "ytelihdgpappklaa", sum := "6797085e37de79a4fb87281fa2784d2c32b60d0094aaf739126338b2f63be1a1", func := "tympan/tympanlaw10.ObjTells", spec := "objTells", apart := false, narrowed := true }
def ObjTellsUptoSaid : Prop := objTellsUptoRow.holds Try.pinned (OpenSpec.upto objTellsSpec)

/-- 'tympanlaw10.ObjOrder', WHERE WHAT IT READS IS OF BULK AT MOST 1048576: true; the input reads as it did. -/
def objOrderUptoRow : OpenClaim := { program := "ytelihdgpappklaa", sum := "6797085e37de79a4fb87281fa2784d2c32b60d0094aaf739126338b2f63be1a1", func := "tympan/tympanlaw10.ObjOrder", spec := "objOrder", apart := false, narrowed := true }
def ObjOrderUptoSaid : Prop := objOrderUptoRow.holds Try.pinned (OpenSpec.upto objOrderSpec)

/-- 'tympanlaw10.ObjFixes', WHERE WHAT IT READS IS OF BULK AT MOST 1048576: true; the input reads as it did. -/
def objFixesUptoRow : OpenClaim := { program := "ytelihdgpappklaa", sum := "6797085e37de79a4fb87281fa2784d2c32b60d0094aaf739126338b2f63be1a1", func := "tympan/tympanlaw10.ObjFixes", spec := "objFixes", apart := false, narrowed := true }
def ObjFixesUptoSaid : Prop := objFixesUptoRow.holds Try.pinned (OpenSpec.upto objFixesSpec)

/-- 'tympanlaw10.ObjExec', WHERE WHAT IT READS IS OF BULK AT MOST 1048576: true; the input reads as it did. -/
def objExecUptoRow : OpenClaim := { program := "ytelihdgpappklaa", sum := "6797085e37de79a4fb87281fa2784d2c32b60d0094aaf739126338b2f63be1a1", func := "tympan/tympanlaw10.ObjExec", spec := "objExec", apart := false, narrowed := true }
def ObjExecUptoSaid : Prop := objExecUptoRow.holds Try.pinned (OpenSpec.upto objExecSpec)

/-- 'tympanlaw10.ObjFields', WHERE WHAT IT READS IS OF BULK AT MOST 1048576: true; the input reads as it did. -/
def objFieldsUptoRow : OpenClaim := { program := "ytelihdgpappklaa", sum := "6797085e37de79a4fb87281fa2784d2c32b60d0094aaf739126338b2f63be1a1", func := "tympan/tympanlaw10.ObjFields", spec := "objFields", apart := false, narrowed := true }
def ObjFieldsUptoSaid : Prop := objFieldsUptoRow.holds Try.pinned (OpenSpec.upto objFieldsSpec)

end Rows
end Go.Proofs.Ytelihdgpappklaa
