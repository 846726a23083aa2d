/- Plain answers of layer 10 (obj): which objects are valid, what they stand for, which are the same. -/
import Derived.Test.YtmlkmgeddkpgiaaM6
namespace Go.Proofs.Ytmlkmgeddkpgiaa
set_option linter.unusedVariables false

/-- N from lo to hi, the other fields zero. -/
def onlyP (n a l : Int) (s : ByteArray) (lo hi : Int) : Bool := decide (lo ≤ n ∧ n ≤ hi ∧ a = 0 ∧ l = 0 ∧ s = ⟨#[]⟩)
def nameP (n a l : Int) (s : ByteArray) : Bool := decide (s.size ≤ 100 ∧ n = 0 ∧ a = 0 ∧ l = 0)
def pieceP (n a l : Int) (s : ByteArray) : Bool := decide (0 ≤ n ∧ n ≤ 40000 ∧ 0 ≤ a ∧ a ≤ 40000 ∧ 0 ≤ l ∧ l ≤ 40000 ∧ s = ⟨#[]⟩)
/-- May. -/
def mayO (k n a l : Int) (s : ByteArray) : Bool :=
  if k = 1 then onlyP n a l s 0 0 else if k = 2 then onlyP n a l s 0 1 else if k = 3 then onlyP n a l s (-2147483647) 2147483647 else if k = 4 then onlyP n a l s (-1073741823) 1073741823
  else if k = 5 then nameP n a l s else if k = 6 then onlyP n a l s 0 0 else if k = 7 then onlyP n a l s 1 200 else if k = 8 then pieceP n a l s else if k = 9 then pieceP n a l s
  else if k = 10 then onlyP n a l s 0 40000 else if k = 11 then onlyP n a l s 1 2147483647 else false
/-- A number. -/
def numO (k n a l : Int) (s : ByteArray) : Bool := decide (k = 3 ∨ k = 4) && mayO k n a l s
/-- 65536 times what it stands for. -/
def sizeO (k n : Int) : Int := if k = 3 then n * 65536 else n
/-- Same. -/
def sameO (k n a l : Int) (s : ByteArray) (k' n' a' l' : Int) (s' : ByteArray) : Bool :=
  if numO k n a l s = true ∧ numO k' n' a' l' s' = true then decide (sizeO k n = sizeO k' n') else decide (k = k' ∧ n = n' ∧ a = a' ∧ l = l' ∧ s = s')
/-- Less. -/
def lessOk (k n a l : Int) (s : ByteArray) (k' n' a' l' : Int) (s' : ByteArray) : Bool := numO k n a l s && numO k' n' a' l' s'
def lessO (k n a l : Int) (s : ByteArray) (k' n' a' l' : Int) (s' : ByteArray) : Bool := lessOk k n a l s k' n' a' l' s' && decide (sizeO k n < sizeO k' n')
/-- Num. -/
def numOk (k n : Int) : Bool := if k = 3 then mayF (n * 65536) else if k = 4 then mayF n else false
def numV (k n : Int) : Int := gate (numOk k n) (sizeO k n)
/-- Type. -/
def typeO (k : Int) : ByteArray :=
  if k = 1 then ByteArray.mk ("nulltype".toUTF8.data) else if k = 2 then ByteArray.mk ("booltype".toUTF8.data) else if k = 3 then ByteArray.mk ("inttype".toUTF8.data) else if k = 4 then ByteArray.mk ("fixtype".toUTF8.data)
  else if k = 5 then ByteArray.mk ("nametype".toUTF8.data) else if k = 6 then ByteArray.mk ("marktype".toUTF8.data) else if k = 7 then ByteArray.mk ("optype".toUTF8.data) else if k = 8 then ByteArray.mk ("stringtype".toUTF8.data)
  else if k = 9 then ByteArray.mk ("arraytype".toUTF8.data) else if k = 10 then ByteArray.mk ("dicttype".toUTF8.data) else if k = 11 then ByteArray.mk ("savetype".toUTF8.data) else ⟨#[]⟩

theorem num_iff {k n a l : Int} {s : ByteArray} : numO k n a l s = true ↔ (k = 3 ∧ -2147483647 ≤ n ∧ n ≤ 2147483647 ∨ k = 4 ∧ -1073741823 ≤ n ∧ n ≤ 1073741823) ∧ a = 0 ∧ l = 0 ∧ s = ⟨#[]⟩ := by
  unfold numO
  by_cases h3 : k = 3
  · subst h3
    simp [mayO, onlyP]
    constructor <;> (rintro ⟨h, h'⟩; simp_all)
  · by_cases h4 : k = 4
    · subst h4
      simp [mayO, onlyP]
      constructor <;> (rintro ⟨h, h'⟩; simp_all)
    · simp [h3, h4]

theorem num_bd {k n a l : Int} {s : ByteArray} (h : numO k n a l s = true) : -2147483647 ≤ n ∧ n ≤ 2147483647 := by
  have := num_iff.1 h
  omega
end Go.Proofs.Ytmlkmgeddkpgiaa
