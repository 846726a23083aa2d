/-
  No cell of these rows narrows 'for every input' (looked for: loops, veiled, ifaces, maps, wideKeys, modest, calm, conditions, laid).
  DERIVED. THE GIVEN ROWS OF THIS SEAT. 7 by the template 'for every input the law returns true; each argument reads behind the call as it read before'; 0 by the template 'total and deterministic' (their statements: YtigboibcgpfphaaTotals.lean).
  GIVEN WITH THE SEED: the statements are not yours to turn. If you find one false, say at which input.
  Laid BY PROGRAM, IN A SANDBOX (cutbox-rows.mjs): the forced cells as the released guide's own fill.sh prints them over the translation 05190216741fd83d… (all of the seat's roots in one cut). By AI agents, Wed Nov 11 2026. No macro, syntax, notation, axiom, sorry.
-/
import Derived.Test.YtigboibcgpfphaaChecked
import GoSem.Claim
import GoSem.ClaimJoined
import GoSem.ClaimMapViews
import Derived.JoinedTies
import Derived.KernelRfl
namespace Go.Proofs.Ytigboibcgpfphaa
/- THE CELL 'sum', in the pinned program and in every row, IS THE sha256 OF THE DUMP (.gsa) THAT YtigboibcgpfphaaProg.lean LOADS. Nothing in Lean hashes anything: it is a label: what it is worth is what the hold of that sum in a sandbox is worth. -/
noncomputable def Try.pinned : Pinned := { name := "ytigboibcgpfphaa", sum := "05190216741fd83d090d0d3782ca08d256e5d23c1b8095f467e1e8613d570874", checked := Try.checked }
namespace Rows
def none {H : Type} : Left H := { results := [], args := [] }

/-- 'tympanlaw11.HeapMoves': WHATEVER THE INPUT: true; the input reads as it did. -/
def heapMovesSpec : ChangeSpec := { name := "heapMoves", fn := fun _ => fun
  | [d1, d2, d3, d4] => { results := [.lit (.bool true)], args := [d1, d2, d3, d4] }
  | _ => none }
def heapMovesRow : OpenClaim := { program := "ytigboibcgpfphaa", sum := "05190216741fd83d090d0d3782ca08d256e5d23c1b8095f467e1e8613d570874", func := "tympan/tympanlaw11.HeapMoves", spec := "heapMoves", unfollowed := true, recurses := true, plainKeys := false, apart := false }
def HeapMovesSaid : Prop := heapMovesRow.holds Try.pinned (OpenSpec.ofChange heapMovesSpec)

/-- ITS FALSE NEIGHBOUR: 'it returns false'. Refute it at one input. -/
def heapMovesWrong : ChangeSpec := { name := "heapMoves", fn := fun _ => fun
  | [d1, d2, d3, d4] => { results := [.lit (.bool false)], args := [d1, d2, d3, d4] }
  | _ => none }
def HeapMovesWrongFalsely : Prop := heapMovesRow.holds Try.pinned (OpenSpec.ofChange heapMovesWrong)

/-- 'tympanlaw11.HeapCopies': WHATEVER THE INPUT: true; the input reads as it did. -/
def heapCopiesSpec : ChangeSpec := { name := "heapCopies", fn := fun _ => fun
  | [d1, d2, d3] => { results := [.lit (.bool true)], args := [d1, d2, d3] }
  | _ => none }
def heapCopiesRow : OpenClaim := { program := "ytigboibcgpfphaa", sum := "05190216741fd83d090d0d3782ca08d256e5d23c1b8095f467e1e8613d570874", func := "tympan/tympanlaw11.HeapCopies", spec := "heapCopies", unfollowed := true, recurses := true, plainKeys := false, apart := false }
def HeapCopiesSaid : Prop := heapCopiesRow.holds Try.pinned (OpenSpec.ofChange heapCopiesSpec)

/-- ITS FALSE NEIGHBOUR: 'it returns false'. Refute it at one input. -/
def heapCopiesWrong : ChangeSpec := { name := "heapCopies", fn := fun _ => fun
  | [d1, d2, d3] => { results := [.lit (.bool false)], args := [d1, d2, d3] }
  | _ => none }
def HeapCopiesWrongFalsely : Prop := heapCopiesRow.holds Try.pinned (OpenSpec.ofChange heapCopiesWrong)

/-- 'tympanlaw11.HeapPlays': WHATEVER THE INPUT: true; the input reads as it did. -/
def heapPlaysSpec : ChangeSpec := { name := "heapPlays", fn := fun _ => fun
  | [d1, d2] => { results := [.lit (.bool true)], args := [d1, d2] }
  | _ => none }
def heapPlaysRow : OpenClaim := { program := "ytigboibcgpfphaa", sum := "05190216741fd83d090d0d3782ca08d256e5d23c1b8095f467e1e8613d570874", func := "tympan/tympanlaw11.HeapPlays", spec := "heapPlays", unfollowed := true, recurses := true, plainKeys := false, apart := false }
def HeapPlaysSaid : Prop := heapPlaysRow.holds Try.pinned (OpenSpec.ofChange heapPlaysSpec)

/-- ITS FALSE NEIGHBOUR: 'it returns false'. Refute it at one input. -/
def heapPlaysWrong : ChangeSpec := { name := "heapPlays", fn := fun _ => fun
  | [d1, d2] => { results := [.lit (.bool false)], args := [d1, d2] }
  | _ => none }
def HeapPlaysWrongFalsely : Prop := heapPlaysRow.holds Try.pinned (OpenSpec.ofChange heapPlaysWrong)

/-- 'tympanlaw12.DictPlays': WHATEVER THE INPUT: true; the input reads as it did. -/
def dictPlaysSpec : ChangeSpec := { name := "dictPlays", fn := fun _ => fun
  | [d1, d2] => { results := [.lit (.bool true)], args := [d1, d2] }
  | _ => none }
def dictPlaysRow : OpenClaim := { program := "ytigboibcgpfphaa", sum := "05190216741fd83d090d0d3782ca08d256e5d23c1b8095f467e1e8613d570874", func := "tympan/tympanlaw12.DictPlays", spec := "dictPlays", unfollowed := true, recurses := true, plainKeys := false, apart := false }
def DictPlaysSaid : Prop := dictPlaysRow.holds Try.pinned (OpenSpec.ofChange dictPlaysSpec)

/-- ITS FALSE NEIGHBOUR: 'it returns false'. Refute it at one input. -/
def dictPlaysWrong : ChangeSpec := { name := "dictPlays", fn := fun _ => fun
  | [d1, d2] => { results := [.lit (.bool false)], args := [d1, d2] }
  | _ => none }
def DictPlaysWrongFalsely : Prop := dictPlaysRow.holds Try.pinned (OpenSpec.ofChange dictPlaysWrong)

/-- 'tympanlaw12.DictLast': WHATEVER THE INPUT: true; the input reads as it did. -/
def dictLastSpec : ChangeSpec := { name := "dictLast", fn := fun _ => fun
  | [d1, d2, d3] => { results := [.lit (.bool true)], args := [d1, d2, d3] }
  | _ => none }
def dictLastRow : OpenClaim := { program := "ytigboibcgpfphaa", sum := "05190216741fd83d090d0d3782ca08d256e5d23c1b8095f467e1e8613d570874", func := "tympan/tympanlaw12.DictLast", spec := "dictLast", unfollowed := true, recurses := true, plainKeys := false, apart := false }
def DictLastSaid : Prop := dictLastRow.holds Try.pinned (OpenSpec.ofChange dictLastSpec)

/-- ITS FALSE NEIGHBOUR: 'it returns false'. Refute it at one input. -/
def dictLastWrong : ChangeSpec := { name := "dictLast", fn := fun _ => fun
  | [d1, d2, d3] => { results := [.lit (.bool false)], args := [d1, d2, d3] }
  | _ => none }
def DictLastWrongFalsely : Prop := dictLastRow.holds Try.pinned (OpenSpec.ofChange dictLastWrong)

/-- 'tympanlaw12.DictOrder': WHATEVER THE INPUT: true; the input reads as it did. -/
def dictOrderSpec : ChangeSpec := { name := "dictOrder", fn := fun _ => fun
  | [d1, d2, d3] => { results := [.lit (.bool true)], args := [d1, d2, d3] }
  | _ => none }
def dictOrderRow : OpenClaim := { program := "ytigboibcgpfphaa", sum := "05190216741fd83d090d0d3782ca08d256e5d23c1b8095f467e1e8613d570874", func := "tympan/tympanlaw12.DictOrder", spec := "dictOrder", unfollowed := true, recurses := true, plainKeys := false, apart := false }
def DictOrderSaid : Prop := dictOrderRow.holds Try.pinned (OpenSpec.ofChange dictOrderSpec)

/-- ITS FALSE NEIGHBOUR: 'it returns false'. Refute it at one input. -/
def dictOrderWrong : ChangeSpec := { name := "dictOrder", fn := fun _ => fun
  | [d1, d2, d3] => { results := [.lit (.bool false)], args := [d1, d2, d3] }
  | _ => none }
def DictOrderWrongFalsely : Prop := dictOrderRow.holds Try.pinned (OpenSpec.ofChange dictOrderWrong)

/-- 'tympanlaw12.DictKeys': WHATEVER THE INPUT: true; the input reads as it did. -/
def dictKeysSpec : ChangeSpec := { name := "dictKeys", fn := fun _ => fun
  | [d1, d2] => { results := [.lit (.bool true)], args := [d1, d2] }
  | _ => none }
def dictKeysRow : OpenClaim := { program := "ytigboibcgpfphaa", sum := "05190216741fd83d090d0d3782ca08d256e5d23c1b8095f467e1e8613d570874", func := "tympan/tympanlaw12.DictKeys", spec := "dictKeys", unfollowed := true, recurses := true, plainKeys := false, apart := false }
def DictKeysSaid : Prop := dictKeysRow.holds Try.pinned (OpenSpec.ofChange dictKeysSpec)

/-- ITS FALSE NEIGHBOUR: 'it returns false'. Refute it at one input. -/
def dictKeysWrong : ChangeSpec := { name := "dictKeys", fn := fun _ => fun
  | [d1, d2] => { results := [.lit (.bool false)], args := [d1, d2] }
  | _ => none }
def DictKeysWrongFalsely : Prop := dictKeysRow.holds Try.pinned (OpenSpec.ofChange dictKeysWrong)

/- THE SECOND FORM. 'bulk': how many values and letters a reading holds, each counted each time it is reached (what is shared counts as often as it is met; a slice's spare places count too). A statement '..UptoSaid' is the law's where the arguments, and the package variables that the reading takes, are together of bulk at most 1048576: NARROWER than '..Said'. Prove '..Said' where nothing that the law and all that it calls make is longer than what came in: it says more and counts as full. Else prove '..UptoSaid'. A law counts once. -/
mutual
def uptoBulk {H : Type} : DataW H → Nat
  | .lit (.string bytes) => bytes.length + 1
  | .lit _ => 1
  | .nil => 1
  | .ptr d => uptoBulk d + 1
  | .slice elems spare => uptoBulkAll elems + uptoBulkAll spare + 1
  | .agg parts => uptoBulkAll parts + 1
  | .iface _ d => uptoBulk d + 1
  | .map entries => uptoBulkEntries entries + 1
  | .held _ => 1
def uptoBulkAll {H : Type} : List (DataW H) → Nat
  | [] => 0
  | d :: r => uptoBulk d + uptoBulkAll r
def uptoBulkEntries {H : Type} : List (Lit × DataW H) → Nat
  | [] => 0
  | x :: r => uptoBulkEntry x + uptoBulkEntries r
def uptoBulkEntry {H : Type} : Lit × DataW H → Nat
  | (.string bytes, d) => bytes.length + uptoBulk d + 1
  | (_, d) => uptoBulk d + 1
 end
def uptoSmall : (H : Type) → List (DataW H) → Bool := fun _ ds => decide (uptoBulkAll ds ≤ 1048576)
def OpenSpec.upto (s : _root_.Go.ChangeSpec) : _root_.Go.OpenSpec := { _root_.Go.OpenSpec.ofChange s with cond := some uptoSmall }

/-- 'tympanlaw11.HeapMoves', WHERE WHAT IT READS IS OF BULK AT MOST 1048576: true; the input reads as it did. -/
def heapMovesUptoRow : OpenClaim := { program := "ytigboibcgpfphaa", sum := "05190216741fd83d090d0d3782ca08d256e5d23c1b8095f467e1e8613d570874", func := "tympan/tympanlaw11.HeapMoves", spec := "heapMoves", unfollowed := true, recurses := true, plainKeys := false, apart := false, narrowed := true }
def HeapMovesUptoSaid : Prop := heapMovesUptoRow.holds Try.pinned (OpenSpec.upto heapMovesSpec)

/-- 'tympanlaw11.HeapCopies', WHERE WHAT IT READS IS OF BULK AT MOST 1048576: true; the input reads as it did. -/
def heapCopiesUptoRow : OpenClaim := { program := "ytigboibcgpfphaa", sum := "05190216741fd83d090d0d3782ca08d256e5d23c1b8095f467e1e8613d570874", func := "tympan/tympanlaw11.HeapCopies", spec := "heapCopies", unfollowed := true, recurses := true, plainKeys := false, apart := false, narrowed := true }
def HeapCopiesUptoSaid : Prop := heapCopiesUptoRow.holds Try.pinned (OpenSpec.upto heapCopiesSpec)

/-- 'tympanlaw11.HeapPlays', WHERE WHAT IT READS IS OF BULK AT MOST 1048576: true; the input reads as it did. -/
def heapPlaysUptoRow : OpenClaim := { program := "ytigboibcgpfphaa", sum := "05190216741fd83d090d0d3782ca08d256e5d23c1b8095f467e1e8613d570874", func := "tympan/tympanlaw11.HeapPlays", spec := "heapPlays", unfollowed := true, recurses := true, plainKeys := false, apart := false, narrowed := true }
def HeapPlaysUptoSaid : Prop := heapPlaysUptoRow.holds Try.pinned (OpenSpec.upto heapPlaysSpec)

/-- 'tympanlaw12.DictPlays', WHERE WHAT IT READS IS OF BULK AT MOST 1048576: true; the input reads as it did. -/
def dictPlaysUptoRow : OpenClaim := { program := "ytigboibcgpfphaa", sum := "05190216741fd83d090d0d3782ca08d256e5d23c1b8095f467e1e8613d570874", func := "tympan/tympanlaw12.DictPlays", spec := "dictPlays", unfollowed := true, recurses := true, plainKeys := false, apart := false, narrowed := true }
def DictPlaysUptoSaid : Prop := dictPlaysUptoRow.holds Try.pinned (OpenSpec.upto dictPlaysSpec)

/-- 'tympanlaw12.DictLast', WHERE WHAT IT READS IS OF BULK AT MOST 1048576: true; the input reads as it did. -/
def dictLastUptoRow : OpenClaim := { program := "ytigboibcgpfphaa", sum := "05190216741fd83d090d0d3782ca08d256e5d23c1b8095f467e1e8613d570874", func := "tympan/tympanlaw12.DictLast", spec := "dictLast", unfollowed := true, recurses := true, plainKeys := false, apart := false, narrowed := true }
def DictLastUptoSaid : Prop := dictLastUptoRow.holds Try.pinned (OpenSpec.upto dictLastSpec)

/-- 'tympanlaw12.DictOrder', WHERE WHAT IT READS IS OF BULK AT MOST 1048576: true; the input reads as it did. -/
def dictOrderUptoRow : OpenClaim := { program := "ytigboibcgpfphaa", sum := "05190216741fd83d090d0d3782ca08d256e5d23c1b8095f467e1e8613d570874", func := "tympan/tympanlaw12.DictOrder", spec := "dictOrder", unfollowed := true, recurses := true, plainKeys := false, apart := false, narrowed := true }
def DictOrderUptoSaid : Prop := dictOrderUptoRow.holds Try.pinned (OpenSpec.upto dictOrderSpec)

/-- 'tympanlaw12.DictKeys', WHERE WHAT IT READS IS OF BULK AT MOST 1048576: true; the input reads as it did. -/
def dictKeysUptoRow : OpenClaim := { program := "ytigboibcgpfphaa", sum := "05190216741fd83d090d0d3782ca08d256e5d23c1b8095f467e1e8613d570874", func := "tympan/tympanlaw12.DictKeys", spec := "dictKeys", unfollowed := true, recurses := true, plainKeys := false, apart := false, narrowed := true }
def DictKeysUptoSaid : Prop := dictKeysUptoRow.holds Try.pinned (OpenSpec.upto dictKeysSpec)

end Rows
end Go.Proofs.Ytigboibcgpfphaa
