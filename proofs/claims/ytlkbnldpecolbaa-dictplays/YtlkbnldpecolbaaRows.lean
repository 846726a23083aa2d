/-
  No cell of these rows narrows 'for every input' (looked for: loops, veiled, ifaces, maps, wideKeys, modest, calm, conditions, laid).
  DERIVED. THE GIVEN ROWS OF THIS SEAT. 4 by the template 'for every input the law returns true; each argument reads behind the call as it read before'; 0 by the template 'total and deterministic' (their statements: YtlkbnldpecolbaaTotals.lean).
  GIVEN WITH THE SEED: the statements are not yours to turn. If you find one false, say at which input.
  Laid BY PROGRAM, IN A SANDBOX (cutbox-rows.mjs): the forced cells as the released guide's own fill.sh prints them over the translation 426d797beb5d5912… (all of the seat's roots in one cut). By AI agents, Wed Nov 11 2026. No macro, syntax, notation, axiom, sorry.
-/
import Derived.Test.YtlkbnldpecolbaaChecked
import GoSem.Claim
import GoSem.ClaimJoined
import GoSem.ClaimMapViews
import Derived.JoinedTies
import Derived.KernelRfl
namespace Go.Proofs.Ytlkbnldpecolbaa
/- THE CELL 'sum', in the pinned program and in every row, IS THE sha256 OF THE DUMP (.gsa) THAT YtlkbnldpecolbaaProg.lean LOADS. Nothing in Lean hashes anything: it is a label: what it is worth is what the hold of that sum in a sandbox is worth. -/
noncomputable def Try.pinned : Pinned := { name := "ytlkbnldpecolbaa", sum := "426d797beb5d5912c3d4ea782a40df06384779645ad8b0c354414b1f802e1889", checked := Try.checked }
namespace Rows
def none {H : Type} : Left H := { results := [], args := [] }

/-- 'tympanlaw16.ScopeHides': WHATEVER THE INPUT: true; the input reads as it did. -/
def scopeHidesSpec : ChangeSpec := { name := "scopeHides", fn := fun _ => fun
  | [d1, d2, d3, d4] => { results := [.lit (.bool true)], args := [d1, d2, d3, d4] }
  | _ => none }
def scopeHidesRow : OpenClaim := { program := "ytlkbnldpecolbaa", sum := "426d797beb5d5912c3d4ea782a40df06384779645ad8b0c354414b1f802e1889", func := "tympan/tympanlaw16.ScopeHides", spec := "scopeHides", unfollowed := true, recurses := true, plainKeys := false, apart := false }
def ScopeHidesSaid : Prop := scopeHidesRow.holds Try.pinned (OpenSpec.ofChange scopeHidesSpec)

/-- ITS FALSE NEIGHBOUR: 'it returns false'. Refute it at one input. -/
def scopeHidesWrong : ChangeSpec := { name := "scopeHides", fn := fun _ => fun
  | [d1, d2, d3, d4] => { results := [.lit (.bool false)], args := [d1, d2, d3, d4] }
  | _ => none }
def ScopeHidesWrongFalsely : Prop := scopeHidesRow.holds Try.pinned (OpenSpec.ofChange scopeHidesWrong)

/-- 'tympanlaw16.ScopeStores': WHATEVER THE INPUT: true; the input reads as it did. -/
def scopeStoresSpec : ChangeSpec := { name := "scopeStores", fn := fun _ => fun
  | [d1, d2, d3] => { results := [.lit (.bool true)], args := [d1, d2, d3] }
  | _ => none }
def scopeStoresRow : OpenClaim := { program := "ytlkbnldpecolbaa", sum := "426d797beb5d5912c3d4ea782a40df06384779645ad8b0c354414b1f802e1889", func := "tympan/tympanlaw16.ScopeStores", spec := "scopeStores", unfollowed := true, recurses := true, plainKeys := false, apart := false }
def ScopeStoresSaid : Prop := scopeStoresRow.holds Try.pinned (OpenSpec.ofChange scopeStoresSpec)

/-- ITS FALSE NEIGHBOUR: 'it returns false'. Refute it at one input. -/
def scopeStoresWrong : ChangeSpec := { name := "scopeStores", fn := fun _ => fun
  | [d1, d2, d3] => { results := [.lit (.bool false)], args := [d1, d2, d3] }
  | _ => none }
def ScopeStoresWrongFalsely : Prop := scopeStoresRow.holds Try.pinned (OpenSpec.ofChange scopeStoresWrong)

/-- 'tympanlaw16.ScopeSystem': WHATEVER THE INPUT: true; the input reads as it did. -/
def scopeSystemSpec : ChangeSpec := { name := "scopeSystem", fn := fun _ => fun
  | [d1, d2] => { results := [.lit (.bool true)], args := [d1, d2] }
  | _ => none }
def scopeSystemRow : OpenClaim := { program := "ytlkbnldpecolbaa", sum := "426d797beb5d5912c3d4ea782a40df06384779645ad8b0c354414b1f802e1889", func := "tympan/tympanlaw16.ScopeSystem", spec := "scopeSystem", unfollowed := true, recurses := true, plainKeys := false, apart := false }
def ScopeSystemSaid : Prop := scopeSystemRow.holds Try.pinned (OpenSpec.ofChange scopeSystemSpec)

/-- ITS FALSE NEIGHBOUR: 'it returns false'. Refute it at one input. -/
def scopeSystemWrong : ChangeSpec := { name := "scopeSystem", fn := fun _ => fun
  | [d1, d2] => { results := [.lit (.bool false)], args := [d1, d2] }
  | _ => none }
def ScopeSystemWrongFalsely : Prop := scopeSystemRow.holds Try.pinned (OpenSpec.ofChange scopeSystemWrong)

/-- 'tympanlaw12.DictPlays': WHATEVER THE INPUT: true; the input reads as it did. -/
def dictPlaysSpec : ChangeSpec := { name := "dictPlays", fn := fun _ => fun
  | [d1, d2] => { results := [.lit (.bool true)], args := [d1, d2] }
  | _ => none }
def dictPlaysRow : OpenClaim := { program := "ytlkbnldpecolbaa", sum := "426d797beb5d5912c3d4ea782a40df06384779645ad8b0c354414b1f802e1889", func := "tympan/tympanlaw12.DictPlays", spec := "dictPlays", unfollowed := true, recurses := true, plainKeys := false, apart := false }
def DictPlaysSaid : Prop := dictPlaysRow.holds Try.pinned (OpenSpec.ofChange dictPlaysSpec)

/-- ITS FALSE NEIGHBOUR: 'it returns false'. Refute it at one input. -/
def dictPlaysWrong : ChangeSpec := { name := "dictPlays", fn := fun _ => fun
  | [d1, d2] => { results := [.lit (.bool false)], args := [d1, d2] }
  | _ => none }
def DictPlaysWrongFalsely : Prop := dictPlaysRow.holds Try.pinned (OpenSpec.ofChange dictPlaysWrong)

/- THE SECOND FORM. 'bulk': how many values and letters a reading holds, each counted each time it is reached (what is shared counts as often as it is met; a slice's spare places count too). A statement '..UptoSaid' is the law's where the arguments, and the package variables that the reading takes, are together of bulk at most 1048576: NARROWER than '..Said'. Prove '..Said' where nothing that the law and all that it calls make is longer than what came in: it says more and counts as full. Else prove '..UptoSaid'. A law counts once. -/
mutual
def uptoBulk {H : Type} : DataW H → Nat
  | .lit (.string bytes) => bytes.length + 1
  | .lit _ => 1
  | .nil => 1
  | .ptr d => uptoBulk d + 1
  | .slice elems spare => uptoBulkAll elems + uptoBulkAll spare + 1
  | .agg parts => uptoBulkAll parts + 1
  | .iface _ d => uptoBulk d + 1
  | .map entries => uptoBulkEntries entries + 1
  | .held _ => 1
def uptoBulkAll {H : Type} : List (DataW H) → Nat
  | [] => 0
  | d :: r => uptoBulk d + uptoBulkAll r
def uptoBulkEntries {H : Type} : List (Lit × DataW H) → Nat
  | [] => 0
  | x :: r => uptoBulkEntry x + uptoBulkEntries r
def uptoBulkEntry {H : Type} : Lit × DataW H → Nat
  | (.string bytes, d) => bytes.length + uptoBulk d + 1
  | (_, d) => uptoBulk d + 1
 end
def uptoSmall : (H : Type) → List (DataW H) → Bool := fun _ ds => decide (uptoBulkAll ds ≤ 1048576)
def OpenSpec.upto (s : _root_.Go.ChangeSpec) : _root_.Go.OpenSpec := { _root_.Go.OpenSpec.ofChange s with cond := some uptoSmall }

/-- 'tympanlaw16.ScopeHides', WHERE WHAT IT READS IS OF BULK AT MOST 1048576: true; the input reads as it did. -/
def scopeHidesUptoRow : OpenClaim := { program := "ytlkbnldpecolbaa", sum := "426d797beb5d5912c3d4ea782a40df06384779645ad8b0c354414b1f802e1889", func := "tympan/tympanlaw16.ScopeHides", spec := "scopeHides", unfollowed := true, recurses := true, plainKeys := false, apart := false, narrowed := true }
def ScopeHidesUptoSaid : Prop := scopeHidesUptoRow.holds Try.pinned (OpenSpec.upto scopeHidesSpec)

/-- 'tympanlaw16.ScopeStores', WHERE WHAT IT READS IS OF BULK AT MOST 1048576: true; the input reads as it did. -/
def scopeStoresUptoRow : OpenClaim := { program := "ytlkbnldpecolbaa", sum := "426d797beb5d5912c3d4ea782a40df06384779645ad8b0c354414b1f802e1889", func := "tympan/tympanlaw16.ScopeStores", spec := "scopeStores", unfollowed := true, recurses := true, plainKeys := false, apart := false, narrowed := true }
def ScopeStoresUptoSaid : Prop := scopeStoresUptoRow.holds Try.pinned (OpenSpec.upto scopeStoresSpec)

/-- 'tympanlaw16.ScopeSystem', WHERE WHAT IT READS IS OF BULK AT MOST 1048576: true; the input reads as it did. -/
def scopeSystemUptoRow : OpenClaim := { program := "ytlkbnldpecolbaa", sum := "426d797beb5d5912c3d4ea782a40df06384779645ad8b0c354414b1f802e1889", func := "tympan/tympanlaw16.ScopeSystem", spec := "scopeSystem", unfollowed := true, recurses := true, plainKeys := false, apart := false, narrowed := true }
def ScopeSystemUptoSaid : Prop := scopeSystemUptoRow.holds Try.pinned (OpenSpec.upto scopeSystemSpec)

/-- 'tympanlaw12.DictPlays', WHERE WHAT IT READS IS OF BULK AT MOST 1048576: true; the input reads as it did. -/
def dictPlaysUptoRow : OpenClaim := { program := "ytlkbnldpecolbaa", sum := "426d797beb5d5912c3d4ea782a40df06384779645ad8b0c354414b1f802e1889", func := "tympan/tympanlaw12.DictPlays", spec := "dictPlays", unfollowed := true, recurses := true, plainKeys := false, apart := false, narrowed := true }
def DictPlaysUptoSaid : Prop := dictPlaysUptoRow.holds Try.pinned (OpenSpec.upto dictPlaysSpec)

end Rows
end Go.Proofs.Ytlkbnldpecolbaa
