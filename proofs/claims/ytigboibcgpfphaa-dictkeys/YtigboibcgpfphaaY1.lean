/- The walk of HeapMoves. -/
import Derived.Test.YtigboibcgpfphaaK26
import Derived.Lib.Hide
namespace Go.Proofs.Ytigboibcgpfphaa
open Go.RowKit
set_option linter.unusedVariables false

theorem toL_size (s : ByteArray) : s.data.toList.length = s.size := by
  rw [Array.length_toList]
  rfl
theorem arr_ext {s t : ByteArray} (h : s.data.toList = t.data.toList) : s = t := by
  cases s
  cases t
  congr 1
  exact Array.toList_inj.1 h
theorem ext_list (s : ByteArray) (i j : Nat) : (s.extract i j).data.toList = (s.data.toList.take j).drop i := by
  rw [ByteArray.data_extract, Array.toList_extract]
  simp [List.extract, List.drop_take]
theorem moves_eq (s : ByteArray) (a m b S E : Nat) (hS : S = a + m) (hE : E = b + m) (ha : a + m ≤ s.size) (hb : b + m ≤ s.size) :
    (⟨(putB s.data.toList b ((s.data.toList.drop a).take m)).toArray⟩ : ByteArray) = s.extract 0 b ++ s.extract a S ++ s.extract E s.size := by
  subst hS hE
  have hl := toL_size s
  have hm : ((s.data.toList.drop a).take m).length = m := by simp; omega
  refine arr_ext ?_
  rw [putB_eq _ _ _ (by rw [hm]; omega), hm]
  simp only [ByteArray.data_append, Array.toList_append, ext_list, List.drop_zero]
  rw [List.drop_take, show a + m - a = m from by omega, List.take_of_length_le (l := s.data.toList) (i := s.size) (by omega)]

set_option maxHeartbeats 2000000 in
set_option maxRecDepth 100000 in
theorem moves_core (s : ByteArray) (a1 a2 a3 : Int) (A M B S E D1 D2 D3 D4 : Nat) (w : World) (hs0 : ¬ (s.size = 0)) (hs1 : s.size ≤ 200) (e1 : a1.tmod s.size = A) (e2 : IntKind.i64.wrap ((s.size : Int) - A) = D1) (e3 : IntKind.i64.wrap ((D1 : Int) + 1) = D2) (e4 : a2.tmod D2 = M)
    (e5 : IntKind.i64.wrap ((s.size : Int) - M) = D3) (e6 : IntKind.i64.wrap ((D3 : Int) + 1) = D4) (e7 : a3.tmod D4 = B) (e8 : IntKind.i64.wrap ((A : Int) + M) = S) (e9 : IntKind.i64.wrap ((B : Int) + M) = E)
    (hA : Hid (A + M ≤ s.size)) (hB : Hid (B + M ≤ s.size)) (hS : Hid (S = A + M)) (hE : Hid (E = B + M))
    (b1 : 0 ≤ a1) (b1' : a1 ≤ 255) (b2 : 0 ≤ a2) (b2' : a2 ≤ 255) (b3 : 0 ≤ a3) (b3' : a3 ≤ 255) (p1 : (s.size : Int) ≠ 0) (p2 : (D2 : Int) ≠ 0) (p3 : (D4 : Int) ≠ 0) (p2' : ¬ (D2 = 0)) (p3' : ¬ (D4 = 0)) :
    Calls Try.prog 3 #[.string s, .int .u8 a1, .int .u8 a2, .int .u8 a3] w fun e w' => e = .returned (.bool true) ∧ Below w.heap.size w w' := by
  have hs2 : ((s.size : Int) == 0) = false := by simpa using hs0
  have hs3 : decide ((200 : Int) < s.size) = false := decide_eq_false (by omega)
  go_enter Try.func3, Try.ntmps3
  go_wp2_with fail
  refine (known_any w).mono ?_
  rintro e w0 ⟨rfl, k0'⟩
  have K0 := Lib.hid k0'
  clear k0'
  go_wp2_with fail
  refine (new_any w0).mono ?_
  rintro e w1 ⟨rfl, rfl⟩
  obtain ⟨w1, e1', s1, b1''⟩ : ∃ w1, w0.alloc (.cells #[.slice none 0 0, .int .i64 0] 86) = w1 ∧ Sep (fun b => b < w0.heap.size) w0.heap.size [] w1 ∧ Below w0.heap.size w0 w1 := ⟨_, rfl, Sep.new w0, box_below _ _⟩
  rw [e1']
  have S1 := Lib.hid s1
  have B1 := Lib.hid b1''
  clear e1' s1 b1''
  have HS1 := Lib.hid hs1
  have HS0 := Lib.hid hs0
  have HL : Hid (s.data.toList.length = s.size) := Lib.hid (toL_size s)
  go_wp2_with fail
  refine (sString_ok S1.out s (by decide) (by simp [usedP]; have := HS1.out; omega)).mono ?_
  rintro e w2 ⟨rfl, s2, k2⟩
  have S2 : Hid (Sep (fun b => b < w0.heap.size) w0.heap.size (strP s.data.toList) w2) := Lib.hid s2
  have B2 : Hid (Below w0.heap.size w0 w2) := Lib.hid (B1.out.trans (k2.below fun _ h => h))
  clear s2 k2 e1 e2 e3 e4 e5 e6 e7 b1 b1' b2 b2' b3 b3' p1 p2 p3 p2' p3'
  go_upto_region 10 with fail
  obtain ⟨w3, e3, s3, k3, o3⟩ := S2.out.box_ob 8 false 0 0 s.size ⟨#[]⟩
  rw [e3]
  have S3 := Lib.hid s3
  have B3 : Hid (Below w0.heap.size w0 w3) := Lib.hid (B2.out.trans (k3.below fun _ h => h))
  have O3 := Lib.hid o3
  clear e3 s3 k3 o3
  obtain ⟨c0, c1, c2, c3, c4, c5⟩ := ob_cells O3.out
  have AP := Lib.hid (str_part (L := s.data.toList) (k := s.size) (i := A) (m := M) (by rw [HL.out]; exact Nat.le_refl _) (by rw [HL.out]; have := HS1.out; omega) hA.out)
  go_wp2_with fail
  refine (sPart S3.out (sub8 0 s.size) A M (by have := hA.out; have := HS1.out; omega) 8 false 0 A M ⟨#[]⟩ AP.out.1 AP.out.2).mono ?_
  rintro e w4 ⟨rfl, s4, k4⟩
  have S4 := Lib.hid s4
  have B4 : Hid (Below w0.heap.size w0 w4) := Lib.hid (B3.out.trans (k4.below fun _ h => .inl h))
  have O4 : Hid (w4.heap[w2.heap.size]? = some (obObj 8 false 0 0 s.size ⟨#[]⟩)) := Lib.hid ((k4.block _ (.inr rfl)).trans O3.out)
  clear s4 k4 c0 c1 c2 c3 c4 c5
  go_upto_region 11 with fail
  obtain ⟨w5, e5, s5, k5, o5⟩ := S4.out.box_ob 8 false 0 A M ⟨#[]⟩
  rw [e5]
  have S5 := Lib.hid s5
  have B5 : Hid (Below w0.heap.size w0 w5) := Lib.hid (B4.out.trans (k5.below fun _ h => .inl h))
  have O5 : Hid (w5.heap[w2.heap.size]? = some (obObj 8 false 0 0 s.size ⟨#[]⟩)) := Lib.hid ((k5.block _ (.inr rfl)).trans O4.out)
  have R5 := Lib.hid o5
  clear e5 s5 k5 o5
  obtain ⟨c0, c1, c2, c3, c4, c5⟩ := ob_cells O5.out
  obtain ⟨d0, d1, d2, d3, d4, d5⟩ := ob_cells R5.out
  go_wp2_with fail
  refine (sBput S5.out (sub8 0 s.size) (sub8 A M) B _ (str_ok (by have := HL.out; omega) (by have := HL.out; have := HS1.out; omega)) (str_ok (by have := HL.out; have := hA.out; omega) (by have := HL.out; have := HS1.out; omega)) rfl rfl rfl (by have := hB.out; have := HS1.out; omega) (by rw [str_len (by have := HL.out; have := hA.out; omega) (by have := HL.out; have := HS1.out; omega), str_len (by have := HL.out; omega) (by have := HL.out; have := HS1.out; omega)]; have := hB.out; omega) rfl (by rw [str_cell]; show 0 < s.data.toList.length; have := HL.out; have := HS0.out; omega) (str_put (by have := HL.out; omega) (by have := HL.out; have := HS1.out; omega) hA.out hB.out)).mono ?_
  rintro e w6 ⟨rfl, s6, k6⟩
  obtain ⟨L2, eL2⟩ : ∃ L2, putB s.data.toList B ((s.data.toList.drop A).take M) = L2 := ⟨_, rfl⟩
  rw [eL2] at s6
  have HL2 : Hid (L2.length = s.size) := Lib.hid (by rw [← eL2, putB_length]; exact HL.out)
  have EQ : Hid ((⟨L2.toArray⟩ : ByteArray) = s.extract 0 B ++ s.extract A S ++ s.extract E s.size) := Lib.hid (by rw [← eL2]; exact moves_eq s A M B S E hS.out hE.out hA.out hB.out)
  have S6 := Lib.hid s6
  have B6 : Hid (Below w0.heap.size w0 w6) := Lib.hid (B5.out.trans (k6.below fun _ h => .inl (.inl h)))
  have O6 : Hid (w6.heap[w2.heap.size]? = some (obObj 8 false 0 0 s.size ⟨#[]⟩)) := Lib.hid ((k6.block _ (.inl (.inr rfl))).trans O5.out)
  clear s6 k6 eL2 c0 c1 c2 c3 c4 c5 d0 d1 d2 d3 d4 d5
  obtain ⟨c0, c1, c2, c3, c4, c5⟩ := ob_cells O6.out
  go_wp2_with fail
  refine (sBytes S6.out (sub8 0 s.size) L2 (str_ok (by have := HL2.out; omega) (by have := HL2.out; have := HS1.out; omega)) rfl (by rw [str_cell]; show 0 < L2.length; have := HL2.out; have := HS0.out; omega) (by rw [str_bytes (by have := HL2.out; omega) (by have := HL2.out; have := HS1.out; omega), List.drop_zero, List.take_of_length_le (by have := HL2.out; omega)])).mono ?_
  rintro e w7 ⟨rfl, s7, k7⟩
  have B7 : Hid (Below w0.heap.size w0 w7) := Lib.hid (B6.out.trans (k7.below fun _ h => .inl (.inl h)))
  rw [EQ.out]
  clear s7 k7 c0 c1 c2 c3 c4 c5
  have t1 : (B : Int) ≤ s.size := by have := hB.out; omega
  have t2 : B ≤ s.size := by have := hB.out; omega
  have t3 : (0 : Int) ≤ B := by omega
  have t4 : A ≤ S := by have := hS.out; omega
  have t5 : S ≤ s.size := by have := hS.out; have := hA.out; omega
  have t6 : E ≤ s.size := by have := hE.out; have := hB.out; omega
  go_wp2
  go_quiet (fail)
  go_wp2
  go_ret
  exact ⟨ret_bool (by simp), below_and (K0.out.trans (B7.out.mono K0.out.size)) (below_drewN _ _)⟩

theorem moves_out (s : ByteArray) (a1 a2 a3 : Int) (w : World) (h : s.size = 0 ∨ 200 < s.size) :
    Calls Try.prog 3 #[.string s, .int .u8 a1, .int .u8 a2, .int .u8 a3] w fun e w' => e = .returned (.bool true) ∧ Below w.heap.size w w' := by
  by_cases h0 : s.size = 0
  · have q0 : ((s.size : Int) == 0) = true := by simpa using h0
    clear h h0
    go_enter Try.func3, Try.ntmps3
    go_wp2_with fail
    refine (known_any w).mono ?_
    rintro e wc ⟨rfl, kc⟩
    have KC := Lib.hid kc
    go_wp2
    go_ret
    exact ⟨rfl, KC.out⟩
  · have q0 : ((s.size : Int) == 0) = false := by simpa using h0
    have q1 : (200 : Int) < s.size := by omega
    clear h h0
    go_enter Try.func3, Try.ntmps3
    go_wp2_with fail
    refine (known_any w).mono ?_
    rintro e wc ⟨rfl, kc⟩
    have KC := Lib.hid kc
    go_wp2
    go_ret
    exact ⟨rfl, KC.out⟩
theorem moves_walk (s : ByteArray) (a1 a2 a3 : Int) (w : World) (b1 : 0 ≤ a1) (b1' : a1 ≤ 255) (b2 : 0 ≤ a2) (b2' : a2 ≤ 255) (b3 : 0 ≤ a3) (b3' : a3 ≤ 255) :
    Calls Try.prog 3 #[.string s, .int .u8 a1, .int .u8 a2, .int .u8 a3] w fun e w' => e = .returned (.bool true) ∧ Below w.heap.size w w' := by
  by_cases h : s.size = 0 ∨ 200 < s.size
  · exact moves_out s a1 a2 a3 w h
  have m1 := Int.emod_nonneg a1 (b := (s.size : Int)) (by omega)
  have m1' := Int.emod_lt_of_pos a1 (b := (s.size : Int)) (by omega)
  obtain ⟨A, hA⟩ : ∃ A : Nat, (A : Int) = a1 % s.size := ⟨(a1 % s.size).toNat, by omega⟩
  obtain ⟨D2, hD2⟩ : ∃ D2 : Nat, D2 = s.size - A + 1 := ⟨_, rfl⟩
  have m2 := Int.emod_nonneg a2 (b := (D2 : Int)) (by omega)
  have m2' := Int.emod_lt_of_pos a2 (b := (D2 : Int)) (by omega)
  obtain ⟨M, hM⟩ : ∃ M : Nat, (M : Int) = a2 % D2 := ⟨(a2 % D2).toNat, by omega⟩
  obtain ⟨D4, hD4⟩ : ∃ D4 : Nat, D4 = s.size - M + 1 := ⟨_, rfl⟩
  have m3 := Int.emod_nonneg a3 (b := (D4 : Int)) (by omega)
  have m3' := Int.emod_lt_of_pos a3 (b := (D4 : Int)) (by omega)
  obtain ⟨B, hB⟩ : ∃ B : Nat, (B : Int) = a3 % D4 := ⟨(a3 % D4).toNat, by omega⟩
  refine moves_core s a1 a2 a3 A M B (A + M) (B + M) (s.size - A) D2 (s.size - M) D4 w (by omega) (by omega) ?_ (by rw [wrapi_in _ (by omega) (by omega)]; omega) (by rw [wrapi_in _ (by omega) (by omega)]; omega) ?_ (by rw [wrapi_in _ (by omega) (by omega)]; omega) (by rw [wrapi_in _ (by omega) (by omega)]; omega) ?_ (by rw [wrapi_in _ (by omega) (by omega)]; omega) (by rw [wrapi_in _ (by omega) (by omega)]; omega) (Lib.hid (by omega)) (Lib.hid (by omega)) (Lib.hid rfl) (Lib.hid rfl) b1 b1' b2 b2' b3 b3' (by omega) (by omega) (by omega) (by omega) (by omega)
  · rw [Int.tmod_eq_emod_of_nonneg b1, hA]
  · rw [Int.tmod_eq_emod_of_nonneg b2, hM]
  · rw [Int.tmod_eq_emod_of_nonneg b3, hB]
end Go.Proofs.Ytigboibcgpfphaa
