/- The walk of HeapCopies. -/
import Derived.Test.YtigboibcgpfphaaK29
import Derived.Test.YtigboibcgpfphaaY1
import Derived.Laws.IdiomStrings
import Derived.Deep.RegionHeldLaw
namespace Go.Proofs.Ytigboibcgpfphaa
open Go.RowKit
set_option linter.unusedVariables false

def strX (l : List UInt8) (X : List Cel) : List Cel := ⟨8, false, [], l⟩ :: X
theorem strX_ok {L : List UInt8} {X : List Cel} {n : Nat} (h : n ≤ L.length) (hL : L.length ≤ 40000) : okO (strX L X) (sub8 0 n) = true := by
  rw [okO_iff]
  refine ⟨rfl, ?_, ?_⟩
  · simp [Ob.may, sub8, mayO, pieceP]
    omega
  · simp [inCell, strX, sub8, cellOf, Cel.size]
    omega
theorem strX_len {L : List UInt8} {X : List Cel} {n : Nat} (h : n ≤ L.length) (hL : L.length ≤ 40000) : lenO (strX L X) (sub8 0 n) = n := by
  rw [lenO, strX_ok h hL]
  simp [sub8]
theorem strX_cell (L : List UInt8) (X : List Cel) (n : Nat) : cellOf (strX L X) (sub8 0 n) = ⟨8, false, [], L⟩ := rfl
theorem strX_bytes {L : List UInt8} {X : List Cel} {n : Nat} (h : n = L.length) (hL : L.length ≤ 40000) : bytesL (strX L X) (sub8 0 n) = L := by
  rw [bytesL, strX_len (by omega) hL, strX_cell]
  show (L.drop 0).take ((n : Int)).toNat = L
  rw [List.drop_zero, Int.toNat_natCast, List.take_of_length_le (by omega)]
theorem strX_set {L : List UInt8} {n : Nat} {v : Int} (h : n ≤ L.length) (hn : 0 < n) (hL : L.length ≤ 40000) (h0 : 0 ≤ v) (h1 : v ≤ 255) : setE (strX L []) (sub8 0 n) 0 (Ob.num v) = 0 ∧ setP (strX L []) (sub8 0 n) 0 (Ob.num v) = strX (L.set 0 (UInt8.ofNat v.toNat)) [] := by
  have e : setE (strX L []) (sub8 0 n) 0 (Ob.num v) = 0 := by
    rw [setE, strX_ok h hL, strX_len h hL, strX_cell]
    simp [sub8, Ob.num]
    omega
  refine ⟨e, ?_⟩
  rw [setP, e, strX_cell]
  simp [sub8, strX, putItem, Ob.num]
theorem dArr {own : Nat → Prop} {hb gb : Nat} {L : List UInt8} {Q : List Cel} {w : World} (h : Duo own hb gb (strX L []) Q w) (hl : L.length ≤ 200) :
    Calls Try.prog 20 #[ptr hb, .int .i64 1] w fun e w' => e = .returned (.tuple #[obV 9 false 1 0 1 ⟨#[]⟩, .int .i64 0]) ∧ Duo own hb gb (strX L [⟨9, false, [Ob.null], []⟩]) Q w' ∧ Kept own w w' :=
  dArray_ok h 1 (by simp [strX]) (by simp [strX, usedP, Cel.size]; omega)
theorem conv1 (w : World) (a : Int) (h0 : 0 ≤ a) (h1 : a ≤ 255) : (convert 38 9 (.slice (some ⟨w.heap.size, 0, none⟩) 1 1)).run Try.prog (w.alloc (.cells #[.int .u8 a] 5)).drew = .ok (.string ⟨#[UInt8.ofNat a.toNat]⟩) (w.alloc (.cells #[.int .u8 a] 5)).drew := by
  refine run_convert_bytes_back (w.alloc (.cells #[.int .u8 a] 5)).drew 38 9 5 ⟨w.heap.size, 0, none⟩ 1 [UInt8.ofNat a.toNat] Try.underlying38 Try.underlying5 Try.underlying9 fun j hj => ?_
  have e : j = 0 := by
    simp at hj
    exact hj
  subst e
  have e2 : (((UInt8.ofNat a.toNat).toNat : Nat) : Int) = a := by
    rw [UInt8.toNat_ofNat']
    omega
  rw [Addr.add_mid]
  show (w.alloc (.cells #[.int .u8 a] 5)).cell? ⟨w.heap.size, 0, none⟩ = _
  rw [cellAt (heap_alloc_new w _)]
  simp only [List.getElem_cons_zero, e2]
  rfl
theorem copies_eq (s : ByteArray) (c : UInt8) (h : 0 < s.size) : (⟨(s.data.toList.set 0 c).toArray⟩ : ByteArray) = ⟨#[c]⟩ ++ s.extract 1 s.size := by
  refine arr_ext ?_
  simp only [ByteArray.data_append, Array.toList_append, ext_list]
  have hl := toL_size s
  rw [List.take_of_length_le (by omega)]
  cases e : s.data.toList with
  | nil =>
    rw [e] at hl
    simp at hl
    omega
  | cons a l => simp

set_option maxHeartbeats 2000000 in
set_option maxRecDepth 100000 in
theorem copies_core (s : ByteArray) (a1 : Int) (back : Bool) (w : World) (hs0 : ¬ (s.size = 0)) (hs1 : s.size ≤ 200) (b1 : 0 ≤ a1) (b1' : a1 ≤ 255) :
    Calls Try.prog 4 #[.string s, .int .u8 a1, .bool back] w fun e w' => e = .returned (.bool true) ∧ Below w.heap.size w w' := by
  have hs2 : ((s.size : Int) == 0) = false := by simpa using hs0
  have hs3 : decide ((200 : Int) < s.size) = false := decide_eq_false (by omega)
  have HS1 := Lib.hid hs1
  have HS0 : Hid (0 < s.size) := Lib.hid (by omega)
  have HL : Hid (s.data.toList.length = s.size) := Lib.hid (toL_size s)
  have HC : Hid (0 ≤ a1 ∧ a1 ≤ 255) := Lib.hid ⟨b1, b1'⟩
  cases back
  · go_enter Try.func4, Try.ntmps4
    go_wp2_with fail
    refine (known_any w).mono ?_
    rintro e w0 ⟨rfl, k0'⟩
    have K0 := Lib.hid k0'
    clear k0'
    go_wp2_with fail
    refine (new_any w0).mono ?_
    rintro e w1 ⟨rfl, rfl⟩
    obtain ⟨w1, e1', s1, b1''⟩ : ∃ w1, w0.alloc (.cells #[.slice none 0 0, .int .i64 0] 86) = w1 ∧ Sep (fun b => b < w0.heap.size) w0.heap.size [] w1 ∧ Below w0.heap.size w0 w1 := ⟨_, rfl, Sep.new w0, box_below _ _⟩
    rw [e1']
    have S1 := Lib.hid s1
    have B1 := Lib.hid b1''
    clear e1' s1 b1''
    go_wp2_with fail
    refine (sString_ok S1.out s (by decide) (by simp [usedP]; have := HS1.out; omega)).mono ?_
    rintro e w2 ⟨rfl, s2, k2⟩
    have S2 : Hid (Sep (fun b => b < w0.heap.size) w0.heap.size (strX s.data.toList []) w2) := Lib.hid s2
    have B2 : Hid (Below w0.heap.size w0 w2) := Lib.hid (B1.out.trans (k2.below fun _ h => h))
    clear s2 k2
    go_upto_region 7 with fail
    obtain ⟨w3, e3, s3, k3, o3⟩ := S2.out.box_ob 8 false 0 0 s.size ⟨#[]⟩
    rw [e3]
    have S3 := Lib.hid s3
    have B3 : Hid (Below w0.heap.size w0 w3) := Lib.hid (B2.out.trans (k3.below fun _ h => h))
    have O3 := Lib.hid o3
    clear e3 s3 k3 o3
    go_wp2_with fail
    refine (sCopy S3.out).mono ?_
    rintro e w4 ⟨gb, rfl, s4, k4⟩
    have S4 := Lib.hid s4
    have B4 : Hid (Below w0.heap.size w0 w4) := Lib.hid (B3.out.trans (k4.below fun _ h => .inl h))
    have O4 : Hid (w4.heap[w2.heap.size]? = some (obObj 8 false 0 0 s.size ⟨#[]⟩)) := Lib.hid ((k4.block _ (.inr rfl)).trans O3.out)
    clear s4 k4
    go_wp2_with fail
    refine (dCells2 S4.out).mono ?_
    rintro e w4' ⟨rfl, rfl⟩
    obtain ⟨c0, c1, c2, c3, c4, c5⟩ := ob_cells O4.out
    have AS := Lib.hid (strX_set (L := s.data.toList) (n := s.size) (v := a1) (by have := HL.out; omega) HS0.out (by have := HL.out; have := HS1.out; omega) HC.out.1 HC.out.2)
    go_wp2_with fail
    refine (dSet S4.out (sub8 0 s.size) 0 (Ob.num a1) 0 _ AS.out.1 AS.out.2).mono ?_
    rintro e w5 ⟨rfl, s5, k5⟩
    obtain ⟨L2, eL2⟩ : ∃ L2, s.data.toList.set 0 (UInt8.ofNat a1.toNat) = L2 := ⟨_, rfl⟩
    rw [eL2] at s5
    have HL2 : Hid (L2.length = s.size) := Lib.hid (by rw [← eL2, List.length_set]; exact HL.out)
    have EQ : Hid ((⟨L2.toArray⟩ : ByteArray) = ⟨#[UInt8.ofNat a1.toNat]⟩ ++ s.extract 1 s.size) := Lib.hid (by rw [← eL2]; exact copies_eq s _ HS0.out)
    have S5 := Lib.hid s5
    have B5 : Hid (Below w0.heap.size w0 w5) := Lib.hid (B4.out.trans (k5.below fun _ h => .inl h))
    have O5 : Hid (w5.heap[w2.heap.size]? = some (obObj 8 false 0 0 s.size ⟨#[]⟩)) := Lib.hid ((k5.block _ (.inr rfl)).trans O4.out)
    clear s5 k5 eL2 c0 c1 c2 c3 c4 c5
    go_wp2_with fail
    refine (dArr S5.out (by have := HL2.out; have := HS1.out; omega)).mono ?_
    rintro e w6 ⟨rfl, s6, k6⟩
    have S6 : Hid (Duo _ w0.heap.size gb (strX L2 [⟨9, false, [Ob.null], []⟩]) (strX s.data.toList []) w6) := Lib.hid s6
    have B6 : Hid (Below w0.heap.size w0 w6) := Lib.hid (B5.out.trans (k6.below fun _ h => .inl h))
    have O6 : Hid (w6.heap[w2.heap.size]? = some (obObj 8 false 0 0 s.size ⟨#[]⟩)) := Lib.hid ((k6.block _ (.inr rfl)).trans O5.out)
    clear s6 k6
    go_upto_region 15 with fail
    obtain ⟨w7, e7, s7, k7, o7⟩ := S6.out.box_ob 9 false 1 0 1 ⟨#[]⟩
    rw [e7]
    have S7 := Lib.hid s7
    have B7 : Hid (Below w0.heap.size w0 w7) := Lib.hid (B6.out.trans (k7.below fun _ h => .inl h))
    have O7 : Hid (w7.heap[w2.heap.size]? = some (obObj 8 false 0 0 s.size ⟨#[]⟩)) := Lib.hid ((k7.block _ (.inr rfl)).trans O6.out)
    clear e7 s7 k7 o7
    obtain ⟨c0, c1, c2, c3, c4, c5⟩ := ob_cells O7.out
    go_wp2_with fail
    refine (dBytes1 S7.out (sub8 0 s.size) L2 (strX_ok (by have := HL2.out; omega) (by have := HL2.out; have := HS1.out; omega)) rfl (by rw [strX_cell]; show 0 < L2.length; have := HL2.out; have := HS0.out; omega) (strX_bytes HL2.out.symm (by have := HL2.out; have := HS1.out; omega))).mono ?_
    rintro e w8 ⟨rfl, s8, k8⟩
    rw [EQ.out]
    have S8 := Lib.hid s8
    have B8 : Hid (Below w0.heap.size w0 w8) := Lib.hid (B7.out.trans (k8.below fun _ h => .inl (.inl h)))
    have O8 : Hid (w8.heap[w2.heap.size]? = some (obObj 8 false 0 0 s.size ⟨#[]⟩)) := Lib.hid ((k8.block _ (.inl (.inr rfl))).trans O7.out)
    clear s8 k8 c0 c1 c2 c3 c4 c5
    obtain ⟨c0, c1, c2, c3, c4, c5⟩ := ob_cells O8.out
    go_wp2_with fail
    refine (dBytes2 S8.out (sub8 0 s.size) s.data.toList (strX_ok (by have := HL.out; omega) (by have := HL.out; have := HS1.out; omega)) rfl (by rw [strX_cell]; show 0 < s.data.toList.length; have := HL.out; have := HS0.out; omega) (strX_bytes HL.out.symm (by have := HL.out; have := HS1.out; omega))).mono ?_
    rintro e w9 ⟨rfl, s9, k9⟩
    have S9 := Lib.hid s9
    have B9 : Hid (Below w0.heap.size w0 w9) := Lib.hid (B8.out.trans (k9.below fun _ h => .inl (.inl h)))
    clear s9 k9 c0 c1 c2 c3 c4 c5
    have HS : s.data.toList.toArray = s.data := by simp
    rw [HS]
    have hsz : (1 : Int) ≤ s.size := by have := HS0.out; omega
    have hsz' : 1 ≤ s.size := HS0.out
    have G1 : Hid (∀ wx, Below w9.heap.size w9 wx → Calls Try.prog 18 #[ptr w0.heap.size] wx fun e w' => e = .returned (.int .i64 2) ∧ wx = w') := Lib.hid fun wx kx => dCells1 (S9.out.below kx).1
    have G2 : Hid (∀ wx, Below w9.heap.size w9 wx → Calls Try.prog 18 #[ptr gb] wx fun e w' => e = .returned (.int .i64 1) ∧ wx = w') := Lib.hid fun wx kx => dCells2 (S9.out.below kx).1
    clear HS
    have hcv := conv1 w9 a1 HC.out.1 HC.out.2
    have hB : Below w9.heap.size w9 (w9.alloc (.cells #[.int .u8 a1] 5)).drew := ((Below.refl _ w9).alloc (Nat.le_refl _) _).drew
    have HB := Lib.hid hB
    clear hB
    go_wp2_with fail
    go_region_held_law (fun wx => True) (first | trivial) (first | (go_at_call_of 18 (ptr w0.heap.size); refine (G1.out _ HB.out).mono ?_; rintro e wc ⟨rfl, rfl⟩) | (go_at_call_of 18 (ptr gb); refine (G2.out _ HB.out).mono ?_; rintro e wc ⟨rfl, rfl⟩))
    go_wp2
    go_ret
    exact ⟨ret_bool (by simp), below_and (K0.out.trans (B9.out.mono K0.out.size)) HB.out⟩
  · go_enter Try.func4, Try.ntmps4
    go_wp2_with fail
    refine (known_any w).mono ?_
    rintro e w0 ⟨rfl, k0'⟩
    have K0 := Lib.hid k0'
    clear k0'
    go_wp2_with fail
    refine (new_any w0).mono ?_
    rintro e w1 ⟨rfl, rfl⟩
    obtain ⟨w1, e1', s1, b1''⟩ : ∃ w1, w0.alloc (.cells #[.slice none 0 0, .int .i64 0] 86) = w1 ∧ Sep (fun b => b < w0.heap.size) w0.heap.size [] w1 ∧ Below w0.heap.size w0 w1 := ⟨_, rfl, Sep.new w0, box_below _ _⟩
    rw [e1']
    have S1 := Lib.hid s1
    have B1 := Lib.hid b1''
    clear e1' s1 b1''
    go_wp2_with fail
    refine (sString_ok S1.out s (by decide) (by simp [usedP]; have := HS1.out; omega)).mono ?_
    rintro e w2 ⟨rfl, s2, k2⟩
    have S2 : Hid (Sep (fun b => b < w0.heap.size) w0.heap.size (strX s.data.toList []) w2) := Lib.hid s2
    have B2 : Hid (Below w0.heap.size w0 w2) := Lib.hid (B1.out.trans (k2.below fun _ h => h))
    clear s2 k2
    go_upto_region 7 with fail
    obtain ⟨w3, e3, s3, k3, o3⟩ := S2.out.box_ob 8 false 0 0 s.size ⟨#[]⟩
    rw [e3]
    have S3 := Lib.hid s3
    have B3 : Hid (Below w0.heap.size w0 w3) := Lib.hid (B2.out.trans (k3.below fun _ h => h))
    have O3 := Lib.hid o3
    clear e3 s3 k3 o3
    go_wp2_with fail
    refine (sCopy S3.out).mono ?_
    rintro e w3' ⟨gb', rfl, s4, k4⟩
    have S3' := Lib.hid s4.sep
    have B3' : Hid (Below w0.heap.size w0 w3') := Lib.hid (B3.out.trans (k4.below fun _ h => .inl h))
    have O3' : Hid (w3'.heap[w2.heap.size]? = some (obObj 8 false 0 0 s.size ⟨#[]⟩)) := Lib.hid ((k4.block _ (.inr rfl)).trans O3.out)
    clear s4 k4
    go_wp2_with fail
    refine (new_any w3').mono ?_
    rintro e wn ⟨rfl, rfl⟩
    go_wp2_with fail
    refine (become_new S3'.out).mono ?_
    rintro e w4 ⟨rfl, s4, k4⟩
    obtain ⟨gb, egb⟩ : ∃ gb, w3'.heap.size = gb := ⟨_, rfl⟩
    rw [egb] at s4 ⊢
    have S4 := Lib.hid s4
    have B4 : Hid (Below w0.heap.size w0 w4) := Lib.hid (B3'.out.trans (k4.below fun _ h => .inl h))
    have O4 : Hid (w4.heap[w2.heap.size]? = some (obObj 8 false 0 0 s.size ⟨#[]⟩)) := Lib.hid ((k4.block _ (.inr rfl)).trans O3'.out)
    clear s4 k4 egb
    go_wp2_with fail
    refine (dCells2 S4.out).mono ?_
    rintro e w4' ⟨rfl, rfl⟩
    obtain ⟨c0, c1, c2, c3, c4, c5⟩ := ob_cells O4.out
    have AS := Lib.hid (strX_set (L := s.data.toList) (n := s.size) (v := a1) (by have := HL.out; omega) HS0.out (by have := HL.out; have := HS1.out; omega) HC.out.1 HC.out.2)
    go_wp2_with fail
    refine (dSet S4.out (sub8 0 s.size) 0 (Ob.num a1) 0 _ AS.out.1 AS.out.2).mono ?_
    rintro e w5 ⟨rfl, s5, k5⟩
    obtain ⟨L2, eL2⟩ : ∃ L2, s.data.toList.set 0 (UInt8.ofNat a1.toNat) = L2 := ⟨_, rfl⟩
    rw [eL2] at s5
    have HL2 : Hid (L2.length = s.size) := Lib.hid (by rw [← eL2, List.length_set]; exact HL.out)
    have EQ : Hid ((⟨L2.toArray⟩ : ByteArray) = ⟨#[UInt8.ofNat a1.toNat]⟩ ++ s.extract 1 s.size) := Lib.hid (by rw [← eL2]; exact copies_eq s _ HS0.out)
    have S5 := Lib.hid s5
    have B5 : Hid (Below w0.heap.size w0 w5) := Lib.hid (B4.out.trans (k5.below fun _ h => .inl h))
    have O5 : Hid (w5.heap[w2.heap.size]? = some (obObj 8 false 0 0 s.size ⟨#[]⟩)) := Lib.hid ((k5.block _ (.inr rfl)).trans O4.out)
    clear s5 k5 eL2 c0 c1 c2 c3 c4 c5
    go_wp2_with fail
    refine (dArr S5.out (by have := HL2.out; have := HS1.out; omega)).mono ?_
    rintro e w6 ⟨rfl, s6, k6⟩
    have S6 : Hid (Duo _ w0.heap.size gb (strX L2 [⟨9, false, [Ob.null], []⟩]) (strX s.data.toList []) w6) := Lib.hid s6
    have B6 : Hid (Below w0.heap.size w0 w6) := Lib.hid (B5.out.trans (k6.below fun _ h => .inl h))
    have O6 : Hid (w6.heap[w2.heap.size]? = some (obObj 8 false 0 0 s.size ⟨#[]⟩)) := Lib.hid ((k6.block _ (.inr rfl)).trans O5.out)
    clear s6 k6
    go_upto_region 15 with fail
    obtain ⟨w7, e7, s7, k7, o7⟩ := S6.out.box_ob 9 false 1 0 1 ⟨#[]⟩
    rw [e7]
    have S7 := Lib.hid s7
    have B7 : Hid (Below w0.heap.size w0 w7) := Lib.hid (B6.out.trans (k7.below fun _ h => .inl h))
    have O7 : Hid (w7.heap[w2.heap.size]? = some (obObj 8 false 0 0 s.size ⟨#[]⟩)) := Lib.hid ((k7.block _ (.inr rfl)).trans O6.out)
    clear e7 s7 k7 o7
    obtain ⟨c0, c1, c2, c3, c4, c5⟩ := ob_cells O7.out
    go_wp2_with fail
    refine (dBytes1 S7.out (sub8 0 s.size) L2 (strX_ok (by have := HL2.out; omega) (by have := HL2.out; have := HS1.out; omega)) rfl (by rw [strX_cell]; show 0 < L2.length; have := HL2.out; have := HS0.out; omega) (strX_bytes HL2.out.symm (by have := HL2.out; have := HS1.out; omega))).mono ?_
    rintro e w8 ⟨rfl, s8, k8⟩
    rw [EQ.out]
    have S8 := Lib.hid s8
    have B8 : Hid (Below w0.heap.size w0 w8) := Lib.hid (B7.out.trans (k8.below fun _ h => .inl (.inl h)))
    have O8 : Hid (w8.heap[w2.heap.size]? = some (obObj 8 false 0 0 s.size ⟨#[]⟩)) := Lib.hid ((k8.block _ (.inl (.inr rfl))).trans O7.out)
    clear s8 k8 c0 c1 c2 c3 c4 c5
    obtain ⟨c0, c1, c2, c3, c4, c5⟩ := ob_cells O8.out
    go_wp2_with fail
    refine (dBytes2 S8.out (sub8 0 s.size) s.data.toList (strX_ok (by have := HL.out; omega) (by have := HL.out; have := HS1.out; omega)) rfl (by rw [strX_cell]; show 0 < s.data.toList.length; have := HL.out; have := HS0.out; omega) (strX_bytes HL.out.symm (by have := HL.out; have := HS1.out; omega))).mono ?_
    rintro e w9 ⟨rfl, s9, k9⟩
    have S9 := Lib.hid s9
    have B9 : Hid (Below w0.heap.size w0 w9) := Lib.hid (B8.out.trans (k9.below fun _ h => .inl (.inl h)))
    clear s9 k9 c0 c1 c2 c3 c4 c5
    have HS : s.data.toList.toArray = s.data := by simp
    rw [HS]
    have hsz : (1 : Int) ≤ s.size := by have := HS0.out; omega
    have hsz' : 1 ≤ s.size := HS0.out
    have G1 : Hid (∀ wx, Below w9.heap.size w9 wx → Calls Try.prog 18 #[ptr w0.heap.size] wx fun e w' => e = .returned (.int .i64 2) ∧ wx = w') := Lib.hid fun wx kx => dCells1 (S9.out.below kx).1
    have G2 : Hid (∀ wx, Below w9.heap.size w9 wx → Calls Try.prog 18 #[ptr gb] wx fun e w' => e = .returned (.int .i64 1) ∧ wx = w') := Lib.hid fun wx kx => dCells2 (S9.out.below kx).1
    clear HS
    have hcv := conv1 w9 a1 HC.out.1 HC.out.2
    have hB : Below w9.heap.size w9 (w9.alloc (.cells #[.int .u8 a1] 5)).drew := ((Below.refl _ w9).alloc (Nat.le_refl _) _).drew
    have HB := Lib.hid hB
    clear hB
    go_wp2_with fail
    go_region_held_law (fun wx => True) (first | trivial) (first | (go_at_call_of 18 (ptr w0.heap.size); refine (G1.out _ HB.out).mono ?_; rintro e wc ⟨rfl, rfl⟩) | (go_at_call_of 18 (ptr gb); refine (G2.out _ HB.out).mono ?_; rintro e wc ⟨rfl, rfl⟩))
    go_wp2
    go_ret
    exact ⟨ret_bool (by simp), below_and (K0.out.trans (B9.out.mono K0.out.size)) HB.out⟩

theorem copies_out (s : ByteArray) (a1 : Int) (back : Bool) (w : World) (h : s.size = 0 ∨ 200 < s.size) :
    Calls Try.prog 4 #[.string s, .int .u8 a1, .bool back] w fun e w' => e = .returned (.bool true) ∧ Below w.heap.size w w' := by
  by_cases h0 : s.size = 0
  · have q0 : ((s.size : Int) == 0) = true := by simpa using h0
    clear h h0
    go_enter Try.func4, Try.ntmps4
    go_wp2_with fail
    refine (known_any w).mono ?_
    rintro e wc ⟨rfl, kc⟩
    have KC := Lib.hid kc
    go_wp2
    go_ret
    exact ⟨rfl, KC.out⟩
  · have q0 : ((s.size : Int) == 0) = false := by simpa using h0
    have q1 : (200 : Int) < s.size := by omega
    clear h h0
    go_enter Try.func4, Try.ntmps4
    go_wp2_with fail
    refine (known_any w).mono ?_
    rintro e wc ⟨rfl, kc⟩
    have KC := Lib.hid kc
    go_wp2
    go_ret
    exact ⟨rfl, KC.out⟩
theorem copies_walk (s : ByteArray) (a1 : Int) (back : Bool) (w : World) (b1 : 0 ≤ a1) (b1' : a1 ≤ 255) :
    Calls Try.prog 4 #[.string s, .int .u8 a1, .bool back] w fun e w' => e = .returned (.bool true) ∧ Below w.heap.size w w' := by
  by_cases h : s.size = 0 ∨ 200 < s.size
  · exact copies_out s a1 back w h
  · exact copies_core s a1 back w (by omega) (by omega) b1 b1'
end Go.Proofs.Ytigboibcgpfphaa
