/-
  No cell of these rows narrows 'for every input' (looked for: loops, veiled, ifaces, maps, wideKeys, modest, calm, conditions, laid).
  DERIVED. THE GIVEN ROWS OF THIS SEAT. 8 by the template 'for every input the law returns true; each argument reads behind the call as it read before'; 0 by the template 'total and deterministic' (their statements: YtgmklagnngjlgaaTotals.lean).
  GIVEN WITH THE SEED: the statements are not yours to turn. If you find one false, say at which input.
  Laid BY PROGRAM, IN A SANDBOX (cutbox-rows.mjs): the forced cells as the released guide's own fill.sh prints them over the translation a1012ff0c1a2c439… (all of the seat's roots in one cut). By AI agents, Wed Nov 11 2026. No macro, syntax, notation, axiom, sorry.
-/
import Derived.Test.YtgmklagnngjlgaaChecked
import GoSem.Claim
import GoSem.ClaimJoined
import GoSem.ClaimMapViews
import Derived.JoinedTies
import Derived.KernelRfl
namespace Go.Proofs.Ytgmklagnngjlgaa
/- THE CELL 'sum', in the pinned program and in every row, IS THE sha256 OF THE DUMP (.gsa) THAT YtgmklagnngjlgaaProg.lean LOADS. Nothing in Lean hashes anything: it is a label: what it is worth is what the hold of that sum in a sandbox is worth. -/
noncomputable def Try.pinned : Pinned := { name := "ytgmklagnngjlgaa", sum := "a1012ff0c1a2c439f478fbe5422eae0e001715bb9231332e2de5f6945ec3aa95", checked := Try.checked }
namespace Rows
def none {H : Type} : Left H := { results := [], args := [] }

/-- 'tympanlaw11.HeapPlays': WHATEVER THE INPUT: true; the input reads as it did. -/
def heapPlaysSpec : ChangeSpec := { name := "heapPlays", fn := fun _ => fun
  | [d1, d2] => { results := [.lit (.bool true)], args := [d1, d2] }
  | _ => none }
def heapPlaysRow : OpenClaim := { program := "ytgmklagnngjlgaa", sum := "a1012ff0c1a2c439f478fbe5422eae0e001715bb9231332e2de5f6945ec3aa95", func := "tympan/tympanlaw11.HeapPlays", spec := "heapPlays", unfollowed := true, recurses := true, plainKeys := false, apart := false }
def HeapPlaysSaid : Prop := heapPlaysRow.holds Try.pinned (OpenSpec.ofChange heapPlaysSpec)

/-- ITS FALSE NEIGHBOUR: 'it returns false'. Refute it at one input. -/
def heapPlaysWrong : ChangeSpec := { name := "heapPlays", fn := fun _ => fun
  | [d1, d2] => { results := [.lit (.bool false)], args := [d1, d2] }
  | _ => none }
def HeapPlaysWrongFalsely : Prop := heapPlaysRow.holds Try.pinned (OpenSpec.ofChange heapPlaysWrong)

/-- 'tympanlaw12.DictPlays': WHATEVER THE INPUT: true; the input reads as it did. -/
def dictPlaysSpec : ChangeSpec := { name := "dictPlays", fn := fun _ => fun
  | [d1, d2] => { results := [.lit (.bool true)], args := [d1, d2] }
  | _ => none }
def dictPlaysRow : OpenClaim := { program := "ytgmklagnngjlgaa", sum := "a1012ff0c1a2c439f478fbe5422eae0e001715bb9231332e2de5f6945ec3aa95", func := "tympan/tympanlaw12.DictPlays", spec := "dictPlays", unfollowed := true, recurses := true, plainKeys := false, apart := false }
def DictPlaysSaid : Prop := dictPlaysRow.holds Try.pinned (OpenSpec.ofChange dictPlaysSpec)

/-- ITS FALSE NEIGHBOUR: 'it returns false'. Refute it at one input. -/
def dictPlaysWrong : ChangeSpec := { name := "dictPlays", fn := fun _ => fun
  | [d1, d2] => { results := [.lit (.bool false)], args := [d1, d2] }
  | _ => none }
def DictPlaysWrongFalsely : Prop := dictPlaysRow.holds Try.pinned (OpenSpec.ofChange dictPlaysWrong)

/-- 'tympanlaw13.SavePlays': WHATEVER THE INPUT: true; the input reads as it did. -/
def savePlaysSpec : ChangeSpec := { name := "savePlays", fn := fun _ => fun
  | [d] => { results := [.lit (.bool true)], args := [d] }
  | _ => none }
def savePlaysRow : OpenClaim := { program := "ytgmklagnngjlgaa", sum := "a1012ff0c1a2c439f478fbe5422eae0e001715bb9231332e2de5f6945ec3aa95", func := "tympan/tympanlaw13.SavePlays", spec := "savePlays", unfollowed := true, recurses := true, plainKeys := false, apart := false }
def SavePlaysSaid : Prop := savePlaysRow.holds Try.pinned (OpenSpec.ofChange savePlaysSpec)

/-- ITS FALSE NEIGHBOUR: 'it returns false'. Refute it at one input. -/
def savePlaysWrong : ChangeSpec := { name := "savePlays", fn := fun _ => fun
  | [d] => { results := [.lit (.bool false)], args := [d] }
  | _ => none }
def SavePlaysWrongFalsely : Prop := savePlaysRow.holds Try.pinned (OpenSpec.ofChange savePlaysWrong)

/-- 'tympanlaw14.StackPlays': WHATEVER THE INPUT: true; the input reads as it did. -/
def stackPlaysSpec : ChangeSpec := { name := "stackPlays", fn := fun _ => fun
  | [d1, d2] => { results := [.lit (.bool true)], args := [d1, d2] }
  | _ => none }
def stackPlaysRow : OpenClaim := { program := "ytgmklagnngjlgaa", sum := "a1012ff0c1a2c439f478fbe5422eae0e001715bb9231332e2de5f6945ec3aa95", func := "tympan/tympanlaw14.StackPlays", spec := "stackPlays", unfollowed := true, recurses := true, plainKeys := false, apart := false }
def StackPlaysSaid : Prop := stackPlaysRow.holds Try.pinned (OpenSpec.ofChange stackPlaysSpec)

/-- ITS FALSE NEIGHBOUR: 'it returns false'. Refute it at one input. -/
def stackPlaysWrong : ChangeSpec := { name := "stackPlays", fn := fun _ => fun
  | [d1, d2] => { results := [.lit (.bool false)], args := [d1, d2] }
  | _ => none }
def StackPlaysWrongFalsely : Prop := stackPlaysRow.holds Try.pinned (OpenSpec.ofChange stackPlaysWrong)

/-- 'tympanlaw14.StackRolls': WHATEVER THE INPUT: true; the input reads as it did. -/
def stackRollsSpec : ChangeSpec := { name := "stackRolls", fn := fun _ => fun
  | [d1, d2, d3] => { results := [.lit (.bool true)], args := [d1, d2, d3] }
  | _ => none }
def stackRollsRow : OpenClaim := { program := "ytgmklagnngjlgaa", sum := "a1012ff0c1a2c439f478fbe5422eae0e001715bb9231332e2de5f6945ec3aa95", func := "tympan/tympanlaw14.StackRolls", spec := "stackRolls", plainKeys := false, apart := false }
def StackRollsSaid : Prop := stackRollsRow.holds Try.pinned (OpenSpec.ofChange stackRollsSpec)

/-- ITS FALSE NEIGHBOUR: 'it returns false'. Refute it at one input. -/
def stackRollsWrong : ChangeSpec := { name := "stackRolls", fn := fun _ => fun
  | [d1, d2, d3] => { results := [.lit (.bool false)], args := [d1, d2, d3] }
  | _ => none }
def StackRollsWrongFalsely : Prop := stackRollsRow.holds Try.pinned (OpenSpec.ofChange stackRollsWrong)

/-- 'tympanlaw14.StackTop': WHATEVER THE INPUT: true; the input reads as it did. -/
def stackTopSpec : ChangeSpec := { name := "stackTop", fn := fun _ => fun
  | [d1, d2, d3] => { results := [.lit (.bool true)], args := [d1, d2, d3] }
  | _ => none }
def stackTopRow : OpenClaim := { program := "ytgmklagnngjlgaa", sum := "a1012ff0c1a2c439f478fbe5422eae0e001715bb9231332e2de5f6945ec3aa95", func := "tympan/tympanlaw14.StackTop", spec := "stackTop", plainKeys := false, apart := false }
def StackTopSaid : Prop := stackTopRow.holds Try.pinned (OpenSpec.ofChange stackTopSpec)

/-- ITS FALSE NEIGHBOUR: 'it returns false'. Refute it at one input. -/
def stackTopWrong : ChangeSpec := { name := "stackTop", fn := fun _ => fun
  | [d1, d2, d3] => { results := [.lit (.bool false)], args := [d1, d2, d3] }
  | _ => none }
def StackTopWrongFalsely : Prop := stackTopRow.holds Try.pinned (OpenSpec.ofChange stackTopWrong)

/-- 'tympanlaw14.StackMost': WHATEVER THE INPUT: true; the input reads as it did. -/
def stackMostSpec : ChangeSpec := { name := "stackMost", fn := fun _ => fun
  | [d] => { results := [.lit (.bool true)], args := [d] }
  | _ => none }
def stackMostRow : OpenClaim := { program := "ytgmklagnngjlgaa", sum := "a1012ff0c1a2c439f478fbe5422eae0e001715bb9231332e2de5f6945ec3aa95", func := "tympan/tympanlaw14.StackMost", spec := "stackMost", plainKeys := false, apart := false }
def StackMostSaid : Prop := stackMostRow.holds Try.pinned (OpenSpec.ofChange stackMostSpec)

/-- ITS FALSE NEIGHBOUR: 'it returns false'. Refute it at one input. -/
def stackMostWrong : ChangeSpec := { name := "stackMost", fn := fun _ => fun
  | [d] => { results := [.lit (.bool false)], args := [d] }
  | _ => none }
def StackMostWrongFalsely : Prop := stackMostRow.holds Try.pinned (OpenSpec.ofChange stackMostWrong)

/-- 'tympanlaw14.StackMarks': WHATEVER THE INPUT: true; the input reads as it did. -/
def stackMarksSpec : ChangeSpec := { name := "stackMarks", fn := fun _ => fun
  | [d] => { results := [.lit (.bool true)], args := [d] }
  | _ => none }
def stackMarksRow : OpenClaim := { program := "ytgmklagnngjlgaa", sum := "a1012ff0c1a2c439f478fbe5422eae0e001715bb9231332e2de5f6945ec3aa95", func := "tympan/tympanlaw14.StackMarks", spec := "stackMarks", unfollowed := true, recurses := true, plainKeys := false, apart := false }
def StackMarksSaid : Prop := stackMarksRow.holds Try.pinned (OpenSpec.ofChange stackMarksSpec)

/-- ITS FALSE NEIGHBOUR: 'it returns false'. Refute it at one input. -/
def stackMarksWrong : ChangeSpec := { name := "stackMarks", fn := fun _ => fun
  | [d] => { results := [.lit (.bool false)], args := [d] }
  | _ => none }
def StackMarksWrongFalsely : Prop := stackMarksRow.holds Try.pinned (OpenSpec.ofChange stackMarksWrong)

/- THE SECOND FORM. 'bulk': how many values and letters a reading holds, each counted each time it is reached (what is shared counts as often as it is met; a slice's spare places count too). A statement '..UptoSaid' is the law's where the arguments, and the package variables that the reading takes, are together of bulk at most 1048576: NARROWER than '..Said'. Prove '..Said' where nothing that the law and all that it calls make is longer than what came in: it says more and counts as full. Else prove '..UptoSaid'. A law counts once. -/
mutual
def uptoBulk {H : Type} : DataW H → Nat
  | .lit (.string bytes) => bytes.length + 1
  | .lit _ => 1
  | .nil => 1
  | .ptr d => uptoBulk d + 1
  | .slice elems spare => uptoBulkAll elems + uptoBulkAll spare + 1
  | .agg parts => uptoBulkAll parts + 1
  | .iface _ d => uptoBulk d + 1
  | .map entries => uptoBulkEntries entries + 1
  | .held _ => 1
def uptoBulkAll {H : Type} : List (DataW H) → Nat
  | [] => 0
  | d :: r => uptoBulk d + uptoBulkAll r
def uptoBulkEntries {H : Type} : List (Lit × DataW H) → Nat
  | [] => 0
  | x :: r => uptoBulkEntry x + uptoBulkEntries r
def uptoBulkEntry {H : Type} : Lit × DataW H → Nat
  | (.string bytes, d) => bytes.length + uptoBulk d + 1
  | (_, d) => uptoBulk d + 1
 end
def uptoSmall : (H : Type) → List (DataW H) → Bool := fun _ ds => decide (uptoBulkAll ds ≤ 1048576)
def OpenSpec.upto (s : _root_.Go.ChangeSpec) : _root_.Go.OpenSpec := { _root_.Go.OpenSpec.ofChange s with cond := some uptoSmall }

/-- 'tympanlaw11.HeapPlays', WHERE WHAT IT READS IS OF BULK AT MOST 1048576: true; the input reads as it did. -/
def heapPlaysUptoRow : OpenClaim := { program := "ytgmklagnngjlgaa", sum := "a1012ff0c1a2c439f478fbe5422eae0e001715bb9231332e2de5f6945ec3aa95", func := "tympan/tympanlaw11.HeapPlays", spec := "heapPlays", unfollowed := true, recurses := true, plainKeys := false, apart := false, narrowed := true }
def HeapPlaysUptoSaid : Prop := heapPlaysUptoRow.holds Try.pinned (OpenSpec.upto heapPlaysSpec)

/-- 'tympanlaw12.DictPlays', WHERE WHAT IT READS IS OF BULK AT MOST 1048576: true; the input reads as it did. -/
def dictPlaysUptoRow : OpenClaim := { program := "ytgmklagnngjlgaa", sum := "a1012ff0c1a2c439f478fbe5422eae0e001715bb9231332e2de5f6945ec3aa95", func := "tympan/tympanlaw12.DictPlays", spec := "dictPlays", unfollowed := true, recurses := true, plainKeys := false, apart := false, narrowed := true }
def DictPlaysUptoSaid : Prop := dictPlaysUptoRow.holds Try.pinned (OpenSpec.upto dictPlaysSpec)

/-- 'tympanlaw13.SavePlays', WHERE WHAT IT READS IS OF BULK AT MOST 1048576: true; the input reads as it did. -/
def savePlaysUptoRow : OpenClaim := { program := "ytgmklagnngjlgaa", sum := "a1012ff0c1a2c439f478fbe5422eae0e001715bb9231332e2de5f6945ec3aa95", func := "tympan/tympanlaw13.SavePlays", spec := "savePlays", unfollowed := true, recurses := true, plainKeys := false, apart := false, narrowed := true }
def SavePlaysUptoSaid : Prop := savePlaysUptoRow.holds Try.pinned (OpenSpec.upto savePlaysSpec)

/-- 'tympanlaw14.StackPlays', WHERE WHAT IT READS IS OF BULK AT MOST 1048576: true; the input reads as it did. -/
def stackPlaysUptoRow : OpenClaim := { program := "ytgmklagnngjlgaa", sum := "a1012ff0c1a2c439f478fbe5422eae0e001715bb9231332e2de5f6945ec3aa95", func := "tympan/tympanlaw14.StackPlays", spec := "stackPlays", unfollowed := true, recurses := true, plainKeys := false, apart := false, narrowed := true }
def StackPlaysUptoSaid : Prop := stackPlaysUptoRow.holds Try.pinned (OpenSpec.upto stackPlaysSpec)

/-- 'tympanlaw14.StackRolls', WHERE WHAT IT READS IS OF BULK AT MOST 1048576: true; the input reads as it did. -/
def stackRollsUptoRow : OpenClaim := { program := "ytgmklagnngjlgaa", sum := "a1012ff0c1a2c439f478fbe5422eae0e001715bb9231332e2de5f6945ec3aa95", func := "tympan/tympanlaw14.StackRolls", spec := "stackRolls", plainKeys := false, apart := false, narrowed := true }
def StackRollsUptoSaid : Prop := stackRollsUptoRow.holds Try.pinned (OpenSpec.upto stackRollsSpec)

/-- 'tympanlaw14.StackTop', WHERE WHAT IT READS IS OF BULK AT MOST 1048576: true; the input reads as it did. -/
def stackTopUptoRow : OpenClaim := { program := "ytgmklagnngjlgaa", sum := "a1012ff0c1a2c439f478fbe5422eae0e001715bb9231332e2de5f6945ec3aa95", func := "tympan/tympanlaw14.StackTop", spec := "stackTop", plainKeys := false, apart := false, narrowed := true }
def StackTopUptoSaid : Prop := stackTopUptoRow.holds Try.pinned (OpenSpec.upto stackTopSpec)

/-- 'tympanlaw14.StackMost', WHERE WHAT IT READS IS OF BULK AT MOST 1048576: true; the input reads as it did. -/
def stackMostUptoRow : OpenClaim := { program := "ytgmklagnngjlgaa", sum := "a1012ff0c1a2c439f478fbe5422eae0e001715bb9231332e2de5f6945ec3aa95", func := "tympan/tympanlaw14.StackMost", spec := "stackMost", plainKeys := false, apart := false, narrowed := true }
def StackMostUptoSaid : Prop := stackMostUptoRow.holds Try.pinned (OpenSpec.upto stackMostSpec)

/-- 'tympanlaw14.StackMarks', WHERE WHAT IT READS IS OF BULK AT MOST 1048576: true; the input reads as it did. -/
def stackMarksUptoRow : OpenClaim := { program := "ytgmklagnngjlgaa", sum := "a1012ff0c1a2c439f478fbe5422eae0e001715bb9231332e2de5f6945ec3aa95", func := "tympan/tympanlaw14.StackMarks", spec := "stackMarks", unfollowed := true, recurses := true, plainKeys := false, apart := false, narrowed := true }
def StackMarksUptoSaid : Prop := stackMarksUptoRow.holds Try.pinned (OpenSpec.upto stackMarksSpec)

end Rows
end Go.Proofs.Ytgmklagnngjlgaa
