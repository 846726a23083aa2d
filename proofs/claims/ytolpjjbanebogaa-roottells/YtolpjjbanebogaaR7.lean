/- Walk of the document's own Cut (tympanref2). -/
import Derived.Test.YtolpjjbanebogaaR6
namespace Go.Proofs.Ytolpjjbanebogaa
open Go.RowKit
set_option linter.unusedVariables false

/-- The reference's Sign answers s. -/
def RSigns (p q d s : Int) : Prop :=
  ∀ w, Calls Try.prog 10 #[.int .i64 p, .int .i64 q, .int .i64 d] w fun e w' => e = .returned (.tuple #[.int .i64 s, .bool true]) ∧ w = w'
theorem rsign_yes (p q d : Int) (p0 : -4611686018427387904 ≤ p) (p1 : p ≤ 4611686018427387904) (q0 : -2147483648 ≤ q) (q1 : q ≤ 2147483648) (d0 : 0 ≤ d) (d1 : d ≤ 2147483648) : RSigns p q d (sgnR p q d) := by
  intro w
  have h1 : okS p q d = true := decide_eq_true (by omega)
  have h2 : valS p q d = sgnR p q d := by unfold valS; rw [h1]; simp
  have h := rsignR_any p q d w (by omega) (by omega)
  rw [h1, h2] at h
  exact h

/-- How far the search goes. -/
theorem most_bd (p q d m : Int) (p0 : -1152921504606846976 ≤ p) (p1 : p ≤ 1152921504606846976) (q0 : -2147483648 ≤ q) (q1 : q ≤ 2147483648) (d0 : 0 ≤ d) (d1 : d ≤ 2147483648) (m0 : 1 ≤ m) (m1 : m ≤ 1099511627776) :
    0 ≤ (mag p + mag q * 50000) / m ∧ (mag p + mag q * 50000) / m ≤ 1153028878789246976 ∧
    -((mag p + mag q * 50000) / m + 1) ≤ cutR p q d m ∧ cutR p q d m ≤ (mag p + mag q * 50000) / m + 1 ∧
    ((mag p + mag q * 50000) / m + 1) * m ≤ 1153029978300874752 := by
  have hp : 0 ≤ mag p ∧ mag p ≤ 1152921504606846976 ∧ -(mag p) ≤ p ∧ p ≤ mag p := by unfold mag; split <;> omega
  have hq : 0 ≤ mag q ∧ mag q ≤ 2147483648 := by unfold mag; split <;> omega
  obtain ⟨r0, r1, _, _⟩ := rt_bd q d q0 q1 d0 d1
  have A1 : mag p + mag q * 50000 ≤ 1153028878789246976 := by omega
  have A0 : 0 ≤ mag p + mag q * 50000 := by omega
  have L : -(mag p + mag q * 50000) ≤ p + rt q d := by omega
  have U : p + rt q d ≤ mag p + mag q * 50000 := by omega
  unfold cutR
  generalize mag p + mag q * 50000 = A at *
  generalize p + rt q d = B at *
  have e := Int.mul_ediv_add_emod A m
  have e0 := Int.emod_nonneg A (by omega : m ≠ 0)
  have e1 := Int.emod_lt_of_pos A (by omega : 0 < m)
  have g0 : 0 ≤ A / m := Int.ediv_nonneg A0 (by omega)
  have em : (A / m + 1) * m = m * (A / m) + m := by rw [Int.add_mul, Int.one_mul, Int.mul_comm]
  refine ⟨g0, ?_, ?_, ?_, by omega⟩
  · have : A / m < 1153028878789246976 + 1 := by rw [Int.ediv_lt_iff_lt_mul (by omega)]; omega
    omega
  · rw [Int.le_ediv_iff_mul_le (by omega), Int.neg_mul, em]; omega
  · have : B / m ≤ A / m := Int.ediv_le_ediv (by omega) U
    omega

theorem mul_within (v M m z : Int) (hm : 0 ≤ m) (h0 : -M ≤ v) (h1 : v ≤ M) (hz : M * m ≤ z) : -z ≤ v * m ∧ v * m ≤ z := by
  have a := Int.mul_le_mul_of_nonneg_right h1 hm
  have b := Int.mul_le_mul_of_nonneg_right h0 hm
  rw [Int.neg_mul] at b
  omega

/-- What stands at the loop's head. -/
def CRel (C M lo hi : Int) : Prop := -M ≤ lo ∧ hi ≤ M ∧ lo ≤ C ∧ C ≤ hi

set_option maxHeartbeats 1000000 in
set_option maxRecDepth 100000 in
theorem rcut_yes (p q d m C : Int) (w : World) (p0 : -1152921504606846976 ≤ p) (p1 : p ≤ 1152921504606846976) (q0 : -2147483648 ≤ q) (q1 : q ≤ 2147483648) (d0 : 0 ≤ d) (d1 : d ≤ 2147483648) (m0 : 1 ≤ m) (m1 : m ≤ 1099511627776) (hC : Hid (C = cutR p q d m)) :
    Calls Try.prog 12 #[.int .i64 p, .int .i64 q, .int .i64 d, .int .i64 m] w fun e w' => e = .returned (.tuple #[.int .i64 C, .bool true]) ∧ w = w' := by
  have hp := Lib.hid (rin_yes p 1152921504606846976 w (by decide) (by decide) (by omega) (by omega))
  have hq := Lib.hid (rin_yes q 2147483648 w (by decide) (by decide) (by omega) (by omega))
  have hmp := Lib.hid (rmag_any p w (by omega) (by omega))
  have hmq := Lib.hid (rmag_any q w (by omega) (by omega))
  have gp : 0 ≤ mag p ∧ mag p ≤ 1152921504606846976 := by unfold mag; split <;> omega
  have gq : 0 ≤ mag q ∧ mag q ≤ 2147483648 := by unfold mag; split <;> omega
  obtain ⟨gp0, gp1⟩ := gp
  obtain ⟨gq0, gq1⟩ := gq
  obtain ⟨M0, M1, M2, M3, M4⟩ := most_bd p q d m p0 p1 q0 q1 d0 d1 m0 m1
  rw [← hC.out] at M2 M3
  have hle : Hid (∀ v, 0 ≤ sgnR (p - v * m) q d ↔ v ≤ C) := Lib.hid (fun v => by rw [hC.out]; exact le_cut p q d m v (by omega) q0 q1 d0 d1)
  go_enter Try.func12, Try.ntmps12
  go_wp2_with fail
  refine hp.out.mono ?_
  rintro e w' ⟨rfl, rfl⟩
  go_wp2_with fail
  refine hq.out.mono ?_
  rintro e w' ⟨rfl, rfl⟩
  go_wp2_with fail
  refine hmp.out.mono ?_
  rintro e w' ⟨rfl, rfl⟩
  go_wp2_with fail
  refine hmq.out.mono ?_
  rintro e w' ⟨rfl, rfl⟩
  go_wp2
  go_loop [11, 12] (fun a b => ∃ lo hi, a = .int .i64 lo ∧ b = .int .i64 hi ∧ CRel C ((mag p + mag q * 50000) / m + 1) lo hi) (fun a b => (intOf b - intOf a).toNat)
  case atStart => exact ⟨_, _, rfl, rfl, Int.le_refl _, Int.le_refl _, M2, M3⟩
  case round =>
    obtain ⟨lo, hi, rfl, rfl, hR⟩ := hrel
    obtain ⟨r0, r1, r2, r3⟩ := hR
    by_cases hlt : lo < hi
    · have hv0 : lo < hi - (hi - lo) / 2 := by omega
      have hv1 : hi - (hi - lo) / 2 ≤ hi := by omega
      obtain ⟨z0, z1⟩ := mul_within (hi - (hi - lo) / 2) _ m 1153029978300874752 (by omega) (by omega : -((mag p + mag q * 50000) / m + 1) ≤ _) (by omega) M4
      have hl := hle.out (hi - (hi - lo) / 2)
      have hS := Lib.hid (rsign_yes (p - (hi - (hi - lo) / 2) * m) q d (by omega) (by omega) q0 q1 d0 d1)
      generalize sgnR (p - (hi - (hi - lo) / 2) * m) q d = s at *
      by_cases hs : 0 ≤ s
      · have hl' : hi - (hi - lo) / 2 ≤ C := hl.1 hs
        clear hl
        go_wp2_with fail
        refine (hS.out _).mono ?_
        rintro e w' ⟨rfl, rfl⟩
        go_wp2
        go_round
        case rel => exact ⟨_, _, rfl, rfl, by omega, r1, hl', r3⟩
        case measure => simp [intOf]; omega
      · have hl' : C < hi - (hi - lo) / 2 := by omega
        clear hl
        go_wp2_with fail
        refine (hS.out _).mono ?_
        rintro e w' ⟨rfl, rfl⟩
        go_wp2
        go_round
        case rel => exact ⟨_, _, rfl, rfl, r0, by omega, r2, by omega⟩
        case measure => simp [intOf]; omega
    · have he := Lib.hid (by omega : lo = C)
      go_wp2
      go_ret2
      exact ⟨ret_ok he.out rfl, rfl⟩

set_option maxHeartbeats 1000000 in
theorem rcutR_any (p q d m : Int) (w : World) :
    Calls Try.prog 12 #[.int .i64 p, .int .i64 q, .int .i64 d, .int .i64 m] w fun e w' => e = .returned (.tuple #[.int .i64 (valC p q d m), .bool (okC p q d m)]) ∧ w = w' := by
  have hval : valC p q d m = if okC p q d m = true then cutR p q d m else 0 := rfl
  have HV := Lib.hid hval
  have hok : okC p q d m = (decide (-1152921504606846976 ≤ p ∧ p ≤ 1152921504606846976 ∧ -2147483648 ≤ q ∧ q ≤ 2147483648 ∧ 0 ≤ d ∧ d ≤ 2147483648) && decide (1 ≤ m ∧ m ≤ 1099511627776)) := rfl
  have HO := Lib.hid hok
  clear hval hok
  by_cases h0 : (-1152921504606846976 ≤ p ∧ p ≤ 1152921504606846976) ∧ (-2147483648 ≤ q ∧ q ≤ 2147483648) ∧ 0 ≤ d ∧ d ≤ 2147483648 ∧ 1 ≤ m ∧ m ≤ 1099511627776
  · obtain ⟨⟨p0, p1⟩, ⟨q0, q1⟩, d0, d1, m0, m1⟩ := h0
    have e : okC p q d m = true := by rw [HO.out, decide_eq_true (by omega), decide_eq_true (by omega)]; rfl
    rw [HV.out, e]
    exact rcut_yes p q d m _ w p0 p1 q0 q1 d0 d1 m0 m1 (Lib.hid rfl)
  · have e : okC p q d m = false := by
      rw [HO.out, ← Bool.decide_and]
      exact decide_eq_false (by omega)
    rw [HV.out, e]
    simp only [Bool.false_eq_true, if_false]
    clear HV HO e
    by_cases h1 : -1152921504606846976 ≤ p ∧ p ≤ 1152921504606846976
    · have hp := Lib.hid (rin_yes p 1152921504606846976 w (by decide) (by decide) h1.1 h1.2)
      by_cases h2 : -2147483648 ≤ q ∧ q ≤ 2147483648
      · have hq := Lib.hid (rin_yes q 2147483648 w (by decide) (by decide) h2.1 h2.2)
        by_cases h3 : d < 0
        · clear h0 h1 h2
          go_enter Try.func12, Try.ntmps12
          go_wp2_with fail
          refine hp.out.mono ?_
          rintro e w' ⟨rfl, rfl⟩
          go_wp2_with fail
          refine hq.out.mono ?_
          rintro e w' ⟨rfl, rfl⟩
          go_wp2
          go_ret2
          exact ⟨rfl, rfl⟩
        · by_cases h4 : 2147483648 < d
          · clear h0 h1 h2
            go_enter Try.func12, Try.ntmps12
            go_wp2_with fail
            refine hp.out.mono ?_
            rintro e w' ⟨rfl, rfl⟩
            go_wp2_with fail
            refine hq.out.mono ?_
            rintro e w' ⟨rfl, rfl⟩
            go_wp2
            go_ret2
            exact ⟨rfl, rfl⟩
          · by_cases h5 : m < 1
            · clear h0 h1 h2
              go_enter Try.func12, Try.ntmps12
              go_wp2_with fail
              refine hp.out.mono ?_
              rintro e w' ⟨rfl, rfl⟩
              go_wp2_with fail
              refine hq.out.mono ?_
              rintro e w' ⟨rfl, rfl⟩
              go_wp2
              go_ret2
              exact ⟨rfl, rfl⟩
            · have h6 : 1099511627776 < m := by omega
              clear h0 h1 h2
              go_enter Try.func12, Try.ntmps12
              go_wp2_with fail
              refine hp.out.mono ?_
              rintro e w' ⟨rfl, rfl⟩
              go_wp2_with fail
              refine hq.out.mono ?_
              rintro e w' ⟨rfl, rfl⟩
              go_wp2
              go_ret2
              exact ⟨rfl, rfl⟩
      · have hq := Lib.hid (rin_no q 2147483648 w (by decide) (by decide) h2)
        clear h0 h1 h2
        go_enter Try.func12, Try.ntmps12
        go_wp2_with fail
        refine hp.out.mono ?_
        rintro e w' ⟨rfl, rfl⟩
        go_wp2_with fail
        refine hq.out.mono ?_
        rintro e w' ⟨rfl, rfl⟩
        go_wp2
        go_ret2
        exact ⟨rfl, rfl⟩
    · have hp := Lib.hid (rin_no p 1152921504606846976 w (by decide) (by decide) h1)
      clear h0 h1
      go_enter Try.func12, Try.ntmps12
      go_wp2_with fail
      refine hp.out.mono ?_
      rintro e w' ⟨rfl, rfl⟩
      go_wp2
      go_ret2
      exact ⟨rfl, rfl⟩
end Go.Proofs.Ytolpjjbanebogaa
