/- X23: G9, GA, GB, GC. -/
import Derived.Test.YtlkbnldpecolbaaX22
import Derived.RangeFuncNested
import Derived.RangeFuncBound
import Derived.RangeFuncCalls
import Derived.RangeFuncLeaves
import Derived.RangeFuncBox
import Derived.Shelf.Abstract
import Derived.OwnWalkIn
import Derived.TacticsInMore
import Derived.LoopNIn
import Derived.LoopIn
/- A stack beside blocks that it does not touch: its calls; the laws' known case, and a stack of whole numbers. -/
namespace Go.Proofs.Ytlkbnldpecolbaa
open Go.RowKit
set_option linter.unusedVariables false
set_option linter.unusedSimpArgs false
set_option maxHeartbeats 1000000
set_option maxRecDepth 100000

def pushE (X : List Ob) (o : Ob) : Int := if o.may then (if X.length < 200 then 0 else 8) else 1
def pushP (X : List Ob) (o : Ob) : List Ob := if pushE X o = 0 then X ++ [o] else X
def peekE (X : List Ob) (i : Int) : Int := if i < 0 then 2 else if X.length ≤ i then 7 else 0
def peekO (X : List Ob) (i : Int) : Ob := if peekE X i = 0 then X.getD (X.length - 1 - i.toNat) Ob.zero else Ob.zero
def popP (X : List Ob) : List Ob := X.take (X.length - 1)
def dupE (X : List Ob) (n : Int) : Int := if n < 0 then 2 else if X.length < n then 7 else if 200 < X.length + n then 8 else 0
def dupP (X : List Ob) (n : Int) : List Ob := if dupE X n = 0 then X ++ X.drop (X.length - n.toNat) else X
def rollE (X : List Ob) (n : Int) : Int := if n < 0 then 2 else if X.length < n then 7 else 0
def rollQ (X : List Ob) (n j : Int) : List Ob := if rollE X n = 0 then rollP X n.toNat j else X
theorem rollP_zero (X : List Ob) (j : Int) : rollP X 0 j = X := by simp [rollP, rollL]

section
variable {sb : Nat} {v : Value} {X : List Ob} {w : World}
end

/-- A stack; the blocks 'own' are none of its. -/
structure SK (own : Nat → Prop) (T : TypeId) (sb : Nat) (X : List Ob) (w : World) : Prop where
  ex : ∃ v, Stk T sb v X w ∧ ∀ g, v.ownBlock = some g → ¬ own g
  nown : ¬ own sb
  lt : ∀ b, own b → b < w.heap.size
section
variable {own own' : Nat → Prop} {T : TypeId} {sb : Nat} {X X' : List Ob} {w w' : World}
theorem SK.did {v : Value} (hs : Stk T sb v X w) (hv : ∀ g, v.ownBlock = some g → ¬ own g) (h1 : ¬ own sb) (h2 : ∀ b, own b → b < w.heap.size) (d : Did T sb v w X' w') : SK own T sb X' w' ∧ Kept own w w' := by
  obtain ⟨⟨v', s', q⟩, k⟩ := d
  refine ⟨⟨⟨v', s', fun g e o => ?_⟩, h1, fun b o => Nat.lt_of_lt_of_le (h2 b o) k.size⟩, k.sub fun b o => ⟨h2 b o, fun e => h1 (e ▸ o), fun e => hv b e o⟩⟩
  rcases q g e with q | q
  · exact hv g q o
  · have := h2 g o
    omega
theorem SK.below (h : SK own T sb X w) (k : Below w.heap.size w w') : SK own T sb X w' ∧ Kept own w w' := by
  obtain ⟨v, hs, hv⟩ := h.ex
  exact SK.did hs hv h.nown h.lt (hs.did k)
theorem SK.sub (h : SK own T sb X w) (k : ∀ b, own' b → own b) : SK own' T sb X w := by
  obtain ⟨v, hs, hv⟩ := h.ex
  exact ⟨⟨v, hs, fun g e o => hv g e (k g o)⟩, fun o => h.nown (k _ o), fun b o => h.lt b (k b o)⟩
theorem SK.box (h : SK own T sb X w) (o : Obj) : SK (fun b => own b ∨ b = w.heap.size) T sb X (w.alloc o) := by
  obtain ⟨v, hs, hv⟩ := h.ex
  refine ⟨⟨v, hs.below (box_below _ _), fun g e q => ?_⟩, fun q => ?_, fun b q => ?_⟩
  · rcases q with q | q
    · exact hv g e q
    · have := hs.blk (.inr e)
      omega
  · rcases q with q | q
    · exact h.nown q
    · have := hs.lt
      omega
  · rcases q with q | q
    · have := h.lt b q
      simp
      omega
    · simp
      omega
theorem SK.box_ob (h : SK own T sb X w) (k : Int) (x : Bool) (n a l : Int) (s : ByteArray) :
    ∃ w', w.alloc (.cells #[.int .i64 k, .bool x, .int .i64 n, .int .i64 a, .int .i64 l, .string s] 30) = w' ∧ SK (fun b => own b ∨ b = w.heap.size) T sb X w' ∧ Kept own w w' ∧ w'.heap[w.heap.size]? = some (obObj k x n a l s) :=
  ⟨_, rfl, h.box _, (h.below (box_below _ _)).2, heap_alloc_new _ _⟩
theorem SK.new (h : ∀ b, own b → b < w.heap.size) : SK own T w.heap.size [] (w.alloc (.cells #[.slice none 0 0] T)) :=
  ⟨⟨_, Stk.nil w, fun g e => by simp [Value.ownBlock] at e⟩, fun q => by have := h _ q; omega, fun b q => by have := h b q; simp; omega⟩
theorem SK.len (h : SK own T sb X w) : X.length ≤ 200 := by
  obtain ⟨v, hs, _⟩ := h.ex
  exact hs.len
end
section
variable {own : Nat → Prop} {sb : Nat} {X : List Ob} {w : World}
end
end Go.Proofs.Ytlkbnldpecolbaa

/- The laws' known case, and a stack of whole numbers. -/
namespace Go.Proofs.Ytlkbnldpecolbaa
open Go.RowKit
set_option linter.unusedVariables false
set_option linter.unusedSimpArgs false
set_option maxHeartbeats 1000000
set_option maxRecDepth 100000

/-- The numbers 0, 1, .., n - 1. -/
def numL (n : Nat) : List Ob := (List.range n).map fun i => Ob.num (i : Nat)
theorem numL_length (n : Nat) : (numL n).length = n := by simp [numL]
theorem numL_succ (n : Nat) : numL (n + 1) = numL n ++ [Ob.num n] := by simp [numL, List.range_succ]
theorem numL_get {n i : Nat} (h : i < n) : (numL n)[i]? = some (Ob.num i) := by simp [numL, h]
theorem num_may (i : Int) (h0 : -2147483647 ≤ i) (h : i ≤ 2147483647) : (Ob.num i).may = true := by
  simp [Ob.may, Ob.num, mayO, onlyP]
  omega
theorem pushE_num {X : List Ob} {i : Int} (h0 : -2147483647 ≤ i) (h : i ≤ 2147483647) (hl : X.length < 200) : pushE X (Ob.num i) = 0 := by simp [pushE, num_may i h0 h, hl]
theorem pushP_num {X : List Ob} {i : Int} (h0 : -2147483647 ≤ i) (h : i ≤ 2147483647) (hl : X.length < 200) : pushP X (Ob.num i) = X ++ [Ob.num i] := by simp [pushP, pushE_num h0 h hl]
theorem measure_s (K j : Nat) (q : Int) (h : q = (j : Int) + 1 + 1) (hx : j < K) : K + 1 - (intOf (.int .i64 q)).toNat < K + 1 - (intOf (.int .i64 ((j : Int) + 1))).toNat := by
  subst h
  simp [intOf]
  omega
def o3 (n : Nat) : List Ob := (List.range n).map fun i => Ob.num ((i + 1 : Nat) : Int)
end Go.Proofs.Ytlkbnldpecolbaa

/- Walks of stack: allValid, Become. -/
namespace Go.Proofs.Ytlkbnldpecolbaa
open Go.RowKit
set_option linter.unusedVariables false
set_option linter.unusedSimpArgs false
set_option maxHeartbeats 1000000
set_option maxRecDepth 100000

theorem Seg.form {w : World} {va : Value} {L : List Ob} (ha : Seg w va L) : ∃ p c, va = .slice p L.length c := by
  rcases ha with ⟨rfl, rfl⟩ | ⟨ad, c, rfl, _⟩
  · exact ⟨_, _, rfl⟩
  · exact ⟨_, _, rfl⟩
theorem allMay_succ {L : List Ob} {j : Nat} {o : Ob} (ho : L[j]? = some o) : (L.take (j + 1)).all Ob.may = ((L.take j).all Ob.may && o.may) := by
  rw [List.take_add_one, ho]
  simp
theorem allMay_no {L : List Ob} {j : Nat} {o : Ob} (ho : L[j]? = some o) (hm : o.may = false) : L.all Ob.may = false := by
  rw [List.all_eq_false]
  exact ⟨o, List.mem_of_getElem? ho, by simp [hm]⟩
def becE (Y : List Ob) : Int := if Y.all Ob.may then (if Y.length ≤ 200 then 0 else 8) else 1
def becP (X Y : List Ob) : List Ob := if becE Y = 0 then Y else X
section
variable {sb : Nat} {v va : Value} {X Y : List Ob} {w : World}
end
end Go.Proofs.Ytlkbnldpecolbaa

/- Walks of stack: ToMark (a range over slices.Backward). -/
namespace Go.Proofs.Ytlkbnldpecolbaa
open Go.RowKit Go.Shelf
set_option linter.unusedVariables false
set_option linter.unusedSimpArgs false

attribute [local go_sem] Oper.semAt_some

/-- The objects from the top down, each with its place. -/
def backAt (X : List Ob) (k : Nat) : Nat × Ob := (X.length - 1 - k, X.getD (X.length - 1 - k) Ob.zero)
def uptoB (X : List Ob) (k : Nat) : List (Nat × Ob) := (List.range k).map (backAt X)
theorem uptoB_succ (X : List Ob) (k : Nat) : uptoB X (k + 1) = uptoB X k ++ [backAt X k] := by simp [uptoB, List.range_succ]
theorem uptoB_length (X : List Ob) (k : Nat) : (uptoB X k).length = k := by simp [uptoB]
abbrev encB (x : Nat × Ob) : Array Value := #[.int .i64 (x.1 : Int), obV x.2.k x.2.x x.2.n x.2.a x.2.l x.2.s]
/-- The objects X lie in a block below n₀, or there are none. -/
def SegB (n₀ : Nat) (W : World) (sv : Value) (X : List Ob) : Prop :=
  (sv = .slice none 0 0 ∧ X = []) ∨ ∃ b cap, sv = .slice (some ⟨b, 0, none⟩) X.length cap ∧ b < n₀ ∧ ∀ i o, X[i]? = some o → ∀ j u, o.cells[j]? = some u → W.cell? ⟨b, i * 6 + j, none⟩ = some u
theorem SegB.below {n₀ : Nat} {A B : World} {sv : Value} {X : List Ob} (h : Below n₀ A B) : SegB n₀ A sv X → SegB n₀ B sv X
  | .inl e => .inl e
  | .inr ⟨b, cap, e, hb, hc⟩ => .inr ⟨b, cap, e, hb, fun i o hi j u hj => (h.cell (p := ⟨b, i * 6 + j, none⟩) hb).trans (hc i o hi j u hj)⟩
theorem SegB.of_owns {w : World} {v : Value} {X : List Ob} (h : w.ownsRow 0 30 6 v X.length (obCells X)) : SegB w.heap.size w v X := by
  have hc := fun g e => h.cells (g := g) e
  have hl := h.lt
  rcases h.2 with ⟨rfl, h0⟩ | ⟨g, cap, cur, rfl, _⟩
  · exact .inl ⟨rfl, List.eq_nil_of_length_eq_zero h0⟩
  · refine .inr ⟨g, cap, rfl, (hl g rfl).2, fun i o hi j u hj => ?_⟩
    have hj6 : j < 6 := by have := (List.getElem?_eq_some_iff.1 hj).1; simpa [Ob.cells] using this
    have := hc g rfl (i * 6 + j) u (by rw [obCells_get hi hj6]; exact hj)
    rwa [Addr.add_mid, Nat.zero_add] at this
end Go.Proofs.Ytlkbnldpecolbaa
