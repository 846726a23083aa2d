/- The walk of ObjFixes. -/
import Derived.Test.YtelihdgpappklaaX6
import Derived.Deep.Cut
namespace Go.Proofs.Ytelihdgpappklaa
open Go.RowKit
set_option linter.unusedVariables false

set_option maxHeartbeats 800000 in
theorem fixes_0 (v n : Int) (w : World) (v0 : -32768 ≤ v) (v1 : v ≤ 32767) (n0 : -16000 ≤ n) (n1 : n ≤ 15999) (hn : v.tmod 16000 = n)
    (h8 : Hid (∀ w, Calls Try.prog 8 #[] w fun e w' => e = .returned (.bool true) ∧ Below w.heap.size w w'))
    (h1 : Hid (∀ w, Calls Try.prog 11 #[.agg #[.int .i64 3, .bool false, .int .i64 (n), .int .i64 0, .int .i64 0, .string ⟨#[]⟩]] w fun e w' => e = .returned (.tuple #[.int .i64 (n * 65536), .bool true]) ∧ Below w.heap.size w w'))
    (h2 : Hid (∀ w, Calls Try.prog 11 #[.agg #[.int .i64 4, .bool false, .int .i64 (n * 65536), .int .i64 0, .int .i64 0, .string ⟨#[]⟩]] w fun e w' => e = .returned (.tuple #[.int .i64 (n * 65536), .bool true]) ∧ Below w.heap.size w w'))
    (h3 : Hid (∀ w, Calls Try.prog 15 #[.agg #[.int .i64 3, .bool false, .int .i64 (n), .int .i64 0, .int .i64 0, .string ⟨#[]⟩], .agg #[.int .i64 4, .bool false, .int .i64 (n * 65536), .int .i64 0, .int .i64 0, .string ⟨#[]⟩]] w fun e w' => e = .returned (.bool true) ∧ Below w.heap.size w w'))
    (h4 : Hid (∀ w, Calls Try.prog 15 #[.agg #[.int .i64 4, .bool false, .int .i64 (n * 65536), .int .i64 0, .int .i64 0, .string ⟨#[]⟩], .agg #[.int .i64 3, .bool false, .int .i64 (n), .int .i64 0, .int .i64 0, .string ⟨#[]⟩]] w fun e w' => e = .returned (.bool true) ∧ Below w.heap.size w w')) :
    Calls Try.prog 5 #[.int .i16 v, .int .u16 0] w fun e w' => e = .returned (.bool true) ∧ Below w.heap.size w w' := by
  go_enter Try.func5, Try.ntmps5
  go_wp2_with fail
  refine (h8.out _).mono ?_
  rintro e wb ⟨rfl, kd⟩
  have gb := Lib.hid kd
  clear kd
  go_wp2_with fail
  obtain ⟨we, ee, ke, oe⟩ := two_box wb 3 n 0 0 4 (n * 65536) 0 0 false false ⟨#[]⟩ ⟨#[]⟩
  rw [ee]
  have go := Lib.hid oe
  replace gb := Lib.hid (below_and gb.out ke)
  clear ee ke oe
  refine (h1.out _).mono ?_
  rintro e wc ⟨rfl, kd⟩
  replace gb := Lib.hid (below_and gb.out kd)
  replace go := Lib.hid (go.out.later kd)
  clear kd
  obtain ⟨a0, a1, a2, a3, a4, a5, b0, b1, b2, b3, b4, b5⟩ := go.out.flat
  go_wp2_with fail
  refine (h2.out _).mono ?_
  rintro e wc ⟨rfl, kd⟩
  replace gb := Lib.hid (below_and gb.out kd)
  replace go := Lib.hid (go.out.later kd)
  clear kd a0 a1 a2 a3 a4 a5 b0 b1 b2 b3 b4 b5
  obtain ⟨a0, a1, a2, a3, a4, a5, b0, b1, b2, b3, b4, b5⟩ := go.out.flat
  go_wp2_with fail
  refine (h3.out _).mono ?_
  rintro e wc ⟨rfl, kd⟩
  replace gb := Lib.hid (below_and gb.out kd)
  replace go := Lib.hid (go.out.later kd)
  clear kd a0 a1 a2 a3 a4 a5 b0 b1 b2 b3 b4 b5
  obtain ⟨a0, a1, a2, a3, a4, a5, b0, b1, b2, b3, b4, b5⟩ := go.out.flat
  go_wp2_with fail
  refine (h4.out _).mono ?_
  rintro e wc ⟨rfl, kd⟩
  replace gb := Lib.hid (below_and gb.out kd)
  replace go := Lib.hid (go.out.later kd)
  clear kd a0 a1 a2 a3 a4 a5 b0 b1 b2 b3 b4 b5
  obtain ⟨a0, a1, a2, a3, a4, a5, b0, b1, b2, b3, b4, b5⟩ := go.out.flat
  go_wp2
  go_ret
  exact ⟨rfl, gb.out⟩

set_option maxHeartbeats 800000 in
theorem fixes_1 (v p n : Int) (w : World) (v0 : -32768 ≤ v) (v1 : v ≤ 32767) (p0 : 0 ≤ p) (p1 : p ≤ 65535) (n0 : -16000 ≤ n) (n1 : n ≤ 15999) (hn : v.tmod 16000 = n) (hp : (p == 0) = false)
    (h8 : Hid (∀ w, Calls Try.prog 8 #[] w fun e w' => e = .returned (.bool true) ∧ Below w.heap.size w w'))
    (h1 : Hid (∀ w, Calls Try.prog 11 #[.agg #[.int .i64 3, .bool false, .int .i64 (n), .int .i64 0, .int .i64 0, .string ⟨#[]⟩]] w fun e w' => e = .returned (.tuple #[.int .i64 (n * 65536), .bool true]) ∧ Below w.heap.size w w'))
    (h2 : Hid (∀ w, Calls Try.prog 11 #[.agg #[.int .i64 4, .bool false, .int .i64 (n * 65536), .int .i64 0, .int .i64 0, .string ⟨#[]⟩]] w fun e w' => e = .returned (.tuple #[.int .i64 (n * 65536), .bool true]) ∧ Below w.heap.size w w'))
    (h3 : Hid (∀ w, Calls Try.prog 15 #[.agg #[.int .i64 3, .bool false, .int .i64 (n), .int .i64 0, .int .i64 0, .string ⟨#[]⟩], .agg #[.int .i64 4, .bool false, .int .i64 (n * 65536), .int .i64 0, .int .i64 0, .string ⟨#[]⟩]] w fun e w' => e = .returned (.bool true) ∧ Below w.heap.size w w'))
    (h4 : Hid (∀ w, Calls Try.prog 15 #[.agg #[.int .i64 4, .bool false, .int .i64 (n * 65536), .int .i64 0, .int .i64 0, .string ⟨#[]⟩], .agg #[.int .i64 3, .bool false, .int .i64 (n), .int .i64 0, .int .i64 0, .string ⟨#[]⟩]] w fun e w' => e = .returned (.bool true) ∧ Below w.heap.size w w'))
    (h5 : Hid (∀ w, Calls Try.prog 9 #[.agg #[.int .i64 3, .bool false, .int .i64 (n), .int .i64 0, .int .i64 0, .string ⟨#[]⟩], .agg #[.int .i64 4, .bool false, .int .i64 (n * 65536 + p), .int .i64 0, .int .i64 0, .string ⟨#[]⟩]] w fun e w' => e = .returned (.tuple #[.bool true, .bool true]) ∧ Below w.heap.size w w'))
    (h6 : Hid (∀ w, Calls Try.prog 9 #[.agg #[.int .i64 4, .bool false, .int .i64 (n * 65536 + p), .int .i64 0, .int .i64 0, .string ⟨#[]⟩], .agg #[.int .i64 3, .bool false, .int .i64 (n + 1), .int .i64 0, .int .i64 0, .string ⟨#[]⟩]] w fun e w' => e = .returned (.tuple #[.bool true, .bool true]) ∧ Below w.heap.size w w'))
    (h7 : Hid (∀ w, Calls Try.prog 15 #[.agg #[.int .i64 3, .bool false, .int .i64 (n), .int .i64 0, .int .i64 0, .string ⟨#[]⟩], .agg #[.int .i64 4, .bool false, .int .i64 (n * 65536 + p), .int .i64 0, .int .i64 0, .string ⟨#[]⟩]] w fun e w' => e = .returned (.bool false) ∧ Below w.heap.size w w')) :
    Calls Try.prog 5 #[.int .i16 v, .int .u16 p] w fun e w' => e = .returned (.bool true) ∧ Below w.heap.size w w' := by
  go_enter Try.func5, Try.ntmps5
  go_wp2_with fail
  refine (h8.out _).mono ?_
  rintro e wb ⟨rfl, kd⟩
  have gb := Lib.hid kd
  clear kd
  go_wp2_with fail
  obtain ⟨we, ee, ke, oe⟩ := two_box wb 3 n 0 0 4 (n * 65536) 0 0 false false ⟨#[]⟩ ⟨#[]⟩
  rw [ee]
  have go := Lib.hid oe
  replace gb := Lib.hid (below_and gb.out ke)
  clear ee ke oe
  refine (h1.out _).mono ?_
  rintro e wc ⟨rfl, kd⟩
  replace gb := Lib.hid (below_and gb.out kd)
  replace go := Lib.hid (go.out.later kd)
  clear kd
  obtain ⟨a0, a1, a2, a3, a4, a5, b0, b1, b2, b3, b4, b5⟩ := go.out.flat
  go_wp2_with fail
  refine (h2.out _).mono ?_
  rintro e wc ⟨rfl, kd⟩
  replace gb := Lib.hid (below_and gb.out kd)
  replace go := Lib.hid (go.out.later kd)
  clear kd a0 a1 a2 a3 a4 a5 b0 b1 b2 b3 b4 b5
  obtain ⟨a0, a1, a2, a3, a4, a5, b0, b1, b2, b3, b4, b5⟩ := go.out.flat
  go_wp2_with fail
  refine (h3.out _).mono ?_
  rintro e wc ⟨rfl, kd⟩
  replace gb := Lib.hid (below_and gb.out kd)
  replace go := Lib.hid (go.out.later kd)
  clear kd a0 a1 a2 a3 a4 a5 b0 b1 b2 b3 b4 b5
  obtain ⟨a0, a1, a2, a3, a4, a5, b0, b1, b2, b3, b4, b5⟩ := go.out.flat
  go_wp2_with fail
  refine (h4.out _).mono ?_
  rintro e wc ⟨rfl, kd⟩
  replace gb := Lib.hid (below_and gb.out kd)
  replace go := Lib.hid (go.out.later kd)
  clear kd a0 a1 a2 a3 a4 a5 b0 b1 b2 b3 b4 b5
  obtain ⟨a0, a1, a2, a3, a4, a5, b0, b1, b2, b3, b4, b5⟩ := go.out.flat
  go_upto_region 12 with fail
  obtain ⟨wm, em, km, zm, om⟩ := ob_box wc 4 (n * 65536 + p) 0 0 false ⟨#[]⟩
  rw [em]
  obtain ⟨bm, hbm⟩ : ∃ bm, wc.heap.size = bm := ⟨_, rfl⟩
  rw [hbm] at om
  rw [hbm]
  have go3 : Hid (Three wm wb.heap.size (wb.heap.size + 1) bm 3 n 4 (n * 65536) 4 (n * 65536 + p)) := Lib.hid ⟨go.out.later km, om⟩
  replace gb := Lib.hid (below_and gb.out km)
  clear em km zm om go hbm a0 a1 a2 a3 a4 a5 b0 b1 b2 b3 b4 b5
  obtain ⟨a0, a1, a2, a3, a4, a5, b0, b1, b2, b3, b4, b5, c0, c1, c2, c3, c4, c5⟩ := go3.out.flat
  go_wp2_with fail
  refine (h5.out _).mono ?_
  rintro e wd ⟨rfl, kd⟩
  replace gb := Lib.hid (below_and gb.out kd)
  replace go3 := Lib.hid (go3.out.later kd)
  clear kd a0 a1 a2 a3 a4 a5 b0 b1 b2 b3 b4 b5 c0 c1 c2 c3 c4 c5
  obtain ⟨a0, a1, a2, a3, a4, a5, b0, b1, b2, b3, b4, b5, c0, c1, c2, c3, c4, c5⟩ := go3.out.flat
  go_wp2_with fail
  refine (h6.out _).mono ?_
  rintro e wd ⟨rfl, kd⟩
  replace gb := Lib.hid (below_and gb.out kd)
  replace go3 := Lib.hid (go3.out.later kd)
  clear kd a0 a1 a2 a3 a4 a5 b0 b1 b2 b3 b4 b5 c0 c1 c2 c3 c4 c5
  obtain ⟨a0, a1, a2, a3, a4, a5, b0, b1, b2, b3, b4, b5, c0, c1, c2, c3, c4, c5⟩ := go3.out.flat
  go_wp2_with fail
  refine (h7.out _).mono ?_
  rintro e wd ⟨rfl, kd⟩
  go_wp2
  go_ret
  exact ⟨rfl, below_and gb.out kd⟩

theorem fixes_walk (v p : Int) (w : World) (v0 : -32768 ≤ v) (v1 : v ≤ 32767) (p0 : 0 ≤ p) (p1 : p ≤ 65535) :
    Calls Try.prog 5 #[.int .i16 v, .int .u16 p] w fun e w' => e = .returned (.bool true) ∧ Below w.heap.size w w' := by
  obtain ⟨n, hn⟩ : ∃ n, v.tmod 16000 = n := ⟨_, rfl⟩
  have hb : -16000 ≤ n ∧ n ≤ 15999 := by
    have := tmod_cases v 16000 (by omega)
    have h0 := Int.emod_nonneg v (by omega : (16000 : Int) ≠ 0)
    have h1 := Int.emod_lt_of_pos v (by omega : (0 : Int) < 16000)
    omega
  obtain ⟨n0, n1⟩ := hb
  have yA : numO 3 n 0 0 ⟨#[]⟩ = true := num_iff.2 ⟨.inl ⟨rfl, by omega, by omega⟩, rfl, rfl, rfl⟩
  have yB : numO 3 (n + 1) 0 0 ⟨#[]⟩ = true := num_iff.2 ⟨.inl ⟨rfl, by omega, by omega⟩, rfl, rfl, rfl⟩
  have yF : numO 4 (n * 65536) 0 0 ⟨#[]⟩ = true := num_iff.2 ⟨.inr ⟨rfl, by omega, by omega⟩, rfl, rfl, rfl⟩
  have yM : numO 4 (n * 65536 + p) 0 0 ⟨#[]⟩ = true := num_iff.2 ⟨.inr ⟨rfl, by omega, by omega⟩, rfl, rfl, rfl⟩
  have sA : sizeO 3 n = n * 65536 := rfl
  have sB : sizeO 3 (n + 1) = (n + 1) * 65536 := rfl
  have sF : sizeO 4 (n * 65536) = n * 65536 := rfl
  have sM : sizeO 4 (n * 65536 + p) = n * 65536 + p := rfl
  have mF : mayF (n * 65536) = true := (may_iff _).2 ⟨by omega, by omega⟩
  have h8 := Lib.hid (fun w => known10_any w)
  have h1 := fun w => numO_any 3 n 0 0 false ⟨#[]⟩ w
  have h2 := fun w => numO_any 4 (n * 65536) 0 0 false ⟨#[]⟩ w
  have e1 : numOk 3 n = true := mF
  have e2 : numOk 4 (n * 65536) = true := mF
  have e3 : numV 3 n = n * 65536 := by unfold numV; rw [e1]; rfl
  have e4 : numV 4 (n * 65536) = n * 65536 := by unfold numV; rw [e2]; rfl
  rw [e3, e1] at h1
  rw [e4, e2] at h2
  have h3 := fun w => same_num yA yF w
  have h4 := fun w => same_num yF yA w
  rw [sA, sF, show decide (n * 65536 = n * 65536) = true from decide_eq_true rfl] at h3
  rw [sA, sF, show decide (n * 65536 = n * 65536) = true from decide_eq_true rfl] at h4
  by_cases hp : p = 0
  · subst hp
    exact fixes_0 v n w v0 v1 n0 n1 hn h8 (Lib.hid h1) (Lib.hid h2) (Lib.hid h3) (Lib.hid h4)
  · have h5 := fun w => less_num yA yM w
    have h6 := fun w => less_num yM yB w
    have h7 := fun w => same_num yA yM w
    rw [sA, sM, show decide (n * 65536 < n * 65536 + p) = true from decide_eq_true (by omega)] at h5
    rw [sM, sB, show decide (n * 65536 + p < (n + 1) * 65536) = true from decide_eq_true (by omega)] at h6
    rw [sA, sM, show decide (n * 65536 = n * 65536 + p) = false from decide_eq_false (by omega)] at h7
    exact fixes_1 v p n w v0 v1 p0 p1 n0 n1 hn (by simp [hp]) h8 (Lib.hid h1) (Lib.hid h2) (Lib.hid h3) (Lib.hid h4) (Lib.hid h5) (Lib.hid h6) (Lib.hid h7)
end Go.Proofs.Ytelihdgpappklaa
