/- The walk of HeapFull. -/
import Derived.Test.YtbdicjiflfbpaaaK20
namespace Go.Proofs.Ytbdicjiflfbpaaa
open Go.RowKit
set_option linter.unusedVariables false

abbrev emptyCell : Cel := ⟨8, false, [], []⟩
theorem used_empty (k : Nat) : usedP (List.replicate k emptyCell) = 0 := by
  induction k with
  | zero => rfl
  | succ k ih => simp [List.replicate_succ, usedP, Cel.size]

set_option maxHeartbeats 1000000 in
set_option maxRecDepth 100000 in
theorem full_cells (a0 : Int) (w : World) : Calls Try.prog 7 #[.int .u16 a0, .bool true] w fun e w' => e = .returned (.bool true) ∧ Below w.heap.size w w' := by
  go_enter Try.func7, Try.ntmps7
  go_wp2_with fail
  refine (known_any w).mono ?_
  rintro e w0 ⟨rfl, k0⟩
  have K0 := Lib.hid k0
  clear k0
  go_wp2_with fail
  refine (new_any w0).mono ?_
  rintro e w1 ⟨rfl, rfl⟩
  obtain ⟨w1, e1, s1, b1⟩ : ∃ w1, w0.alloc (.cells #[.slice none 0 0, .int .i64 0] 66) = w1 ∧ Sep (fun b => b < w0.heap.size) w0.heap.size [] w1 ∧ Below w0.heap.size w0 w1 := ⟨_, rfl, Sep.new w0, box_below _ _⟩
  rw [e1]
  have S1 := Lib.hid s1
  have B1 := Lib.hid b1
  clear e1 s1 b1
  go_wp2
  go_loopw [6] (fun i wr => ∃ k : Nat, k ≤ 2000 ∧ i = .int .i64 k ∧ Sep (fun b => b < w0.heap.size) w0.heap.size (List.replicate k emptyCell) wr ∧ Below w0.heap.size w0 wr) (fun i _ => 2000 - (intOf i).toNat)
  case atStart => exact ⟨0, by omega, rfl, S1.out, B1.out⟩
  case round =>
    obtain ⟨k, hk, rfl, sr, br⟩ := hrel
    have SR := Lib.hid sr
    have BR := Lib.hid br
    clear sr br
    go_wp2_with fail
    · have hlt' : (k : Int) < 2000 := by assumption
      have hlt : k < 2000 := by omega
      refine (sString_ok SR.out ⟨#[]⟩ (by simpa using hlt) (by rw [used_empty]; decide)).mono ?_
      rintro e w2 ⟨rfl, s2, k2⟩
      have S2 := Lib.hid s2
      have B2 : Hid (Below w0.heap.size w0 w2) := Lib.hid (BR.out.trans (k2.below fun _ h => h))
      clear s2 k2
      go_wp2
      go_roundw
      case rel =>
        refine ⟨k + 1, by omega, by go_num, ?_, B2.out.alloc B2.out.size _⟩
        rw [List.replicate_succ']
        exact (S2.out.below (box_below w2 _)).1
      case measure => simp [intOf]; omega
    · have hge : (2000 : Int) ≤ k := by assumption
      have : k = 2000 := by omega
      subst this
      clear hge
      refine (sArray_limit SR.out 0 (by decide) (by simp)).mono ?_
      rintro e w2 ⟨rfl, s2, k2⟩
      have S2 := Lib.hid s2
      have B2 : Hid (Below w0.heap.size w0 w2) := Lib.hid (BR.out.trans (k2.below fun _ h => h))
      clear s2 k2
      go_upto_region 12 with fail
      obtain ⟨w3, e3, s3, k3, o3⟩ := S2.out.box_ob 0 false 0 0 0 ⟨#[]⟩
      rw [e3]
      have S3 := Lib.hid s3
      have B3 : Hid (Below w0.heap.size w0 w3) := Lib.hid (B2.out.trans (k3.below fun _ h => h))
      clear e3 s3 k3 o3
      go_wp2_with fail
      refine (sDict_limit S3.out 0 (by decide) (by decide) (by simp)).mono ?_
      rintro e w4 ⟨rfl, s4, k4⟩
      have S4 := Lib.hid s4
      have B4 : Hid (Below w0.heap.size w0 w4) := Lib.hid (B3.out.trans (k4.below fun _ h => .inl h))
      clear s4 k4
      go_upto_region 13 with fail
      obtain ⟨w5, e5, s5, k5, o5⟩ := S4.out.box_ob 0 false 0 0 0 ⟨#[]⟩
      rw [e5]
      have S5 := Lib.hid s5
      have B5 : Hid (Below w0.heap.size w0 w5) := Lib.hid (B4.out.trans (k5.below fun _ h => .inl h))
      clear e5 s5 k5 o5
      go_wp2_with fail
      refine (sCells S5.out).mono ?_
      rintro e w6 ⟨rfl, rfl⟩
      go_wp2
      go_ret
      exact ⟨ret_bool (by simp), K0.out.trans (B5.out.mono K0.out.size)⟩

set_option maxHeartbeats 1000000 in
set_option maxRecDepth 100000 in
theorem full_items (a0 : Int) (m : Nat) (w : World) (e0 : a0.tmod 40001 = m) (hm : m ≤ 40000) (h0 : 0 ≤ a0) (h1 : a0 < 65536) : Calls Try.prog 7 #[.int .u16 a0, .bool false] w fun e w' => e = .returned (.bool true) ∧ Below w.heap.size w w' := by
  have q1 : IntKind.i64.wrap (40000 - (m : Int)) = ((40000 - m : Nat) : Int) := by rw [wrapi_in _ (by omega) (by omega)]; omega
  have q2 : IntKind.i64.wrap (((40000 - m : Nat) : Int) + 1) = ((40000 - m + 1 : Nat) : Int) := by rw [wrapi_in _ (by omega) (by omega)]; omega
  have HM := Lib.hid hm
  go_enter Try.func7, Try.ntmps7
  go_wp2_with fail
  refine (known_any w).mono ?_
  rintro e w0 ⟨rfl, k0⟩
  have K0 := Lib.hid k0
  clear k0
  go_wp2_with fail
  refine (new_any w0).mono ?_
  rintro e w1 ⟨rfl, rfl⟩
  obtain ⟨w1, e1, s1, b1⟩ : ∃ w1, w0.alloc (.cells #[.slice none 0 0, .int .i64 0] 66) = w1 ∧ Sep (fun b => b < w0.heap.size) w0.heap.size [] w1 ∧ Below w0.heap.size w0 w1 := ⟨_, rfl, Sep.new w0, box_below _ _⟩
  rw [e1]
  have S1 := Lib.hid s1
  have B1 := Lib.hid b1
  clear e1 s1 b1
  go_wp2_with fail
  refine (sArray_ok S1.out m (by decide) (by have := HM.out; simpa [usedP] using this)).mono ?_
  rintro e w2 ⟨rfl, s2, k2⟩
  have S2 := Lib.hid s2
  have B2 : Hid (Below w0.heap.size w0 w2) := Lib.hid (B1.out.trans (k2.below fun _ h => h))
  clear s2 k2
  go_upto_region 16 with fail
  obtain ⟨w3, e3, s3, k3, o3⟩ := S2.out.box_ob 9 false 0 0 m ⟨#[]⟩
  rw [e3]
  have S3 := Lib.hid s3
  have B3 : Hid (Below w0.heap.size w0 w3) := Lib.hid (B2.out.trans (k3.below fun _ h => h))
  clear e3 s3 k3 o3
  go_wp2_with fail
  refine (sArray_limit S3.out _ (by omega) (by simp [usedP, Cel.size]; have := HM.out; omega)).mono ?_
  rintro e w4 ⟨rfl, s4, k4⟩
  have S4 := Lib.hid s4
  have B4 : Hid (Below w0.heap.size w0 w4) := Lib.hid (B3.out.trans (k4.below fun _ h => .inl h))
  clear s4 k4
  go_upto_region 17 with fail
  obtain ⟨w5, e5, s5, k5, o5⟩ := S4.out.box_ob 0 false 0 0 0 ⟨#[]⟩
  rw [e5]
  have S5 := Lib.hid s5
  have B5 : Hid (Below w0.heap.size w0 w5) := Lib.hid (B4.out.trans (k5.below fun _ h => .inl h))
  clear e5 s5 k5 o5
  go_wp2_with fail
  refine (sArray_ok S5.out (40000 - m) (by simp) (by have := HM.out; simp [usedP, Cel.size]; omega)).mono ?_
  rintro e w6 ⟨rfl, s6, k6⟩
  have S6 := Lib.hid s6
  have B6 : Hid (Below w0.heap.size w0 w6) := Lib.hid (B5.out.trans (k6.below fun _ h => .inl (.inl h)))
  clear s6 k6
  go_upto_region 18 with fail
  obtain ⟨w7, e7, s7, k7, o7⟩ := S6.out.box_ob 9 false 1 0 ((40000 - m : Nat) : Int) ⟨#[]⟩
  rw [e7]
  have S7 := Lib.hid s7
  have B7 : Hid (Below w0.heap.size w0 w7) := Lib.hid (B6.out.trans (k7.below fun _ h => .inl (.inl h)))
  have U7 : Hid (usedP (([] ++ [⟨9, false, List.replicate m Ob.null, []⟩]) ++ [⟨9, false, List.replicate (40000 - m) Ob.null, []⟩]) = 40000) := Lib.hid (by have := HM.out; simp [usedP, Cel.size]; omega)
  clear e7 s7 k7 o7
  have hu := sUsed S7.out
  rw [U7.out] at hu
  have HU := Lib.hid hu
  clear hu
  go_wp2_with fail
  refine HU.out.mono ?_
  rintro e w8 ⟨rfl, rfl⟩
  go_wp2_with fail
  refine (sCells S7.out).mono ?_
  rintro e w8 ⟨rfl, rfl⟩
  go_wp2
  go_ret
  exact ⟨ret_bool (by simp), K0.out.trans (B7.out.mono K0.out.size)⟩

theorem full_walk (a0 : Int) (a1 : Bool) (w : World) (h0 : 0 ≤ a0) (h1 : a0 < 65536) : Calls Try.prog 7 #[.int .u16 a0, .bool a1] w fun e w' => e = .returned (.bool true) ∧ Below w.heap.size w w' := by
  cases a1
  · have e1 : a0.tmod 40001 = a0 % 40001 := Int.tmod_eq_emod_of_nonneg h0
    exact full_items a0 (a0 % 40001).toNat w (by rw [e1]; omega) (by omega) h0 h1
  · exact full_cells a0 w
end Go.Proofs.Ytbdicjiflfbpaaa
