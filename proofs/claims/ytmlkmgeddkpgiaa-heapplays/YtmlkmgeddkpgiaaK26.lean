/- A heap beside blocks that it does not touch: Bytes, Put within a string; a heap of one string. -/
import Derived.Test.YtmlkmgeddkpgiaaK25
namespace Go.Proofs.Ytmlkmgeddkpgiaa
open Go.RowKit
set_option linter.unusedVariables false
section
variable {own : Nat → Prop} {hb : Nat} {P P' : List Cel} {w w' : World}
theorem sBytes (h : Sep own hb P w) (o : Ob) (L : List UInt8) (ho : okO P o = true) (hk : o.k = 8) (hpos : 0 < (cellOf P o).bs.length) (hL : bytesL P o = L) :
    Calls Try.prog 51 #[ptr hb, o.val] w fun e w' => e = .returned (.tuple #[.string ⟨L.toArray⟩, .int .i64 0]) ∧ Sep own hb P w' ∧ Kept own w w' := by
  have h0 := h
  obtain ⟨role, ⟨vc, ivs, pb, rv, h1⟩, h2⟩ := h
  refine (bytes_is h1 o ho hk hpos).mono ?_
  rintro e w' ⟨rfl, k⟩
  rw [hL]
  exact ⟨rfl, h0.below k⟩
theorem sBput (h : Sep own hb P w) (o q : Ob) (i : Int) (P' : List Cel) (ho : okO P o = true) (hq : okO P q = true) (hk : o.k = 8) (hk2 : q.k = 8) (hn : q.n = o.n) (hi : i < 9223372036854775808) (hfit : 0 ≤ i ∧ 0 ≤ lenO P q ∧ i + lenO P q ≤ lenO P o) (hlk : (cellOf P o).lk = false) (hpos : 0 < (cellOf P o).bs.length) (hP : bputP P o q i = P') :
    Calls Try.prog 16 #[ptr hb, o.val, .int .i64 i, q.val] w fun e w' => e = .returned (.int .i64 0) ∧ Sep own hb P' w' ∧ Kept own w w' := by
  obtain ⟨role, ⟨vc, ivs, pb, rv, h1⟩, h2⟩ := h
  refine (bput_is h1 o q i ho hq hk hk2 hn hi hfit hlk hpos).mono ?_
  rintro e w' ⟨rfl, q1, q2⟩
  rw [hP] at q1
  exact ⟨rfl, Sep.of_keep h2 ⟨vc, ivs, pb, rv, q1⟩ q2⟩
end
/-- The heap of one string. -/
def strP (l : List UInt8) : List Cel := [⟨8, false, [], l⟩]
def sub8 (a l : Nat) : Ob := ⟨8, false, 0, a, l, ⟨#[]⟩⟩
theorem str_ok {L : List UInt8} {a n : Nat} (h : a + n ≤ L.length) (hL : L.length ≤ 40000) : okO (strP L) (sub8 a n) = true := by
  rw [okO_iff]
  refine ⟨rfl, ?_, ?_⟩
  · simp [Ob.may, sub8, mayO, pieceP]
    omega
  · simp [inCell, strP, sub8, cellOf, Cel.size]
    omega
theorem str_len {L : List UInt8} {a n : Nat} (h : a + n ≤ L.length) (hL : L.length ≤ 40000) : lenO (strP L) (sub8 a n) = n := by
  rw [lenO, str_ok h hL]
  simp [sub8]
theorem str_cell (L : List UInt8) (a n : Nat) : cellOf (strP L) (sub8 a n) = ⟨8, false, [], L⟩ := rfl
theorem str_bytes {L : List UInt8} {a n : Nat} (h : a + n ≤ L.length) (hL : L.length ≤ 40000) : bytesL (strP L) (sub8 a n) = (L.drop a).take n := by
  rw [bytesL, str_len h hL, str_cell]
  simp [sub8]
theorem str_part {L : List UInt8} {k i m : Nat} (h : k ≤ L.length) (hL : L.length ≤ 40000) (hi : i + m ≤ k) : partE (strP L) (sub8 0 k) i m = 0 ∧ partO (strP L) (sub8 0 k) i m = ⟨8, false, 0, i, m, ⟨#[]⟩⟩ := by
  have e : partE (strP L) (sub8 0 k) i m = 0 := by
    rw [partE, str_ok (by omega) hL, str_len (by omega) hL]
    simp [sub8]
    omega
  refine ⟨e, ?_⟩
  rw [partO, e]
  simp [sub8]
theorem str_put {L : List UInt8} {k a m b : Nat} (h : k = L.length) (hL : L.length ≤ 40000) (ha : a + m ≤ k) (hb : b + m ≤ k) : bputP (strP L) (sub8 0 k) (sub8 a m) b = strP (putB L b ((L.drop a).take m)) := by
  unfold bputP
  rw [str_cell, str_bytes (by omega) hL]
  simp [sub8, strP]
end Go.Proofs.Ytmlkmgeddkpgiaa
