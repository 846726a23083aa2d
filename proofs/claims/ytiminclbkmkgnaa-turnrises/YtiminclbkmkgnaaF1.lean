/- Walks of fix: valid, checked, clamp, From, Add, Sub, rounded, Mul, Div. -/
import Derived.Test.YtiminclbkmkgnaaM6
import Derived.Test.YtiminclbkmkgnaaR2
import Derived.Test.YtiminclbkmkgnaaW7
import Derived.Laws.EntriesVeiled
namespace Go.Proofs.Ytiminclbkmkgnaa
open Go.RowKit
set_option linter.unusedVariables false

set_option maxHeartbeats 400000 in
theorem validF_any (a : Int) (w : World) : Calls Try.prog 47 #[.int .i64 a] w fun e w' => e = .returned (.bool (mayF a)) ∧ w = w' := by
  by_cases h1 : -1073741823 ≤ a
  · by_cases h2 : a ≤ 1073741823
    · have H := Lib.hid ((may_iff a).2 ⟨h1, h2⟩)
      go_enter Try.func47, Try.ntmps47
      go_wp2
      go_ret
      exact ⟨ret_bool H.out.symm, rfl⟩
    · have H := Lib.hid ((may_not a).2 (by omega))
      go_enter Try.func47, Try.ntmps47
      go_wp2
      go_ret
      exact ⟨ret_bool H.out.symm, rfl⟩
  · have H := Lib.hid ((may_not a).2 (by omega))
    go_enter Try.func47, Try.ntmps47
    go_wp2
    go_ret
    exact ⟨ret_bool H.out.symm, rfl⟩

set_option maxHeartbeats 400000 in
theorem checked_any (c : Int) (w : World) : Calls Try.prog 48 #[.int .i64 c] w fun e w' => e = .returned (.tuple #[.int .i64 (gate (mayF c) c), .bool (mayF c)]) ∧ w = w' := by
  have h1 := Lib.hid (fun w => validF_any c w)
  generalize mayF c = x at *
  cases x
  · go_enter Try.func48, Try.ntmps48
    go_wp2_with fail
    refine (h1.out _).mono ?_
    rintro e w' ⟨rfl, rfl⟩
    go_wp2
    go_ret2
    exact ⟨ret_ok rfl rfl, rfl⟩
  · go_enter Try.func48, Try.ntmps48
    go_wp2_with fail
    refine (h1.out _).mono ?_
    rintro e w' ⟨rfl, rfl⟩
    go_wp2
    go_ret2
    exact ⟨ret_ok rfl rfl, rfl⟩

set_option maxHeartbeats 400000 in
theorem clamp_any (a : Int) (w : World) : Calls Try.prog 40 #[.int .i64 a] w fun e w' => e = .returned (.int .i64 (clampF a)) ∧ w = w' := by
  go_enter Try.func40, Try.ntmps40
  go_wp2
  go_ret
  exact ⟨ret_int (by unfold clampF; repeat' split
                     all_goals omega), rfl⟩

theorem from_may (v : Int) : (-16383 ≤ v ∧ v ≤ 16383) ↔ mayF (v * 65536) = true := by rw [may_iff]; omega

set_option maxHeartbeats 1000000 in
theorem rounded_any (k b1 b2 : Nat) (a b v : Int) (ok : Bool) (w : World) (hk : Hid (Enters k))
    (hc : Hid (Calls Try.prog k #[.pointer (some ⟨b1, 0, none⟩), .pointer (some ⟨b2, 0, none⟩)] w fun e w' => e = .returned (.tuple #[.int .i64 v, .bool ok]) ∧ Below w.heap.size w w')) :
    Calls Try.prog 41 #[.int .i64 a, .int .i64 b, .func (.func k) #[] #[.pointer (some ⟨b1, 0, none⟩), .pointer (some ⟨b2, 0, none⟩)]] w
      fun e w' => e = .returned (.tuple #[.int .i64 (gate (mayF a && mayF b && (ok && mayF v)) v), .bool (mayF a && mayF b && (ok && mayF v))]) ∧ Below w.heap.size w w' := by
  have h1 := Lib.hid (fun w => validF_any a w)
  have h2 := Lib.hid (fun w => validF_any b w)
  have h3 := Lib.hid (fun w => checked_any v w)
  generalize mayF a = x at *
  generalize mayF b = y at *
  generalize mayF v = z at *
  cases x
  · go_enter Try.func41, Try.ntmps41
    go_wp2_with fail
    refine (h1.out _).mono ?_
    rintro e w' ⟨rfl, rfl⟩
    go_wp2
    go_ret2
    exact ⟨ret_ok rfl rfl, Below.refl _ _⟩
  · cases y
    · go_enter Try.func41, Try.ntmps41
      go_wp2_with fail
      refine (h1.out _).mono ?_
      rintro e w' ⟨rfl, rfl⟩
      go_wp2_with fail
      refine (h2.out _).mono ?_
      rintro e w' ⟨rfl, rfl⟩
      go_wp2
      go_ret2
      exact ⟨ret_ok rfl rfl, Below.refl _ _⟩
    · cases ok
      · go_enter Try.func41, Try.ntmps41
        go_wp2_with fail
        refine (h1.out _).mono ?_
        rintro e w' ⟨rfl, rfl⟩
        go_wp2_with fail
        refine (h2.out _).mono ?_
        rintro e w' ⟨rfl, rfl⟩
        go_wp2_with fail
        rw [hk.out, Oper.upon_enter]
        refine hc.out.mono ?_
        rintro e w1 ⟨rfl, k1⟩
        go_wp2
        go_ret2
        exact ⟨ret_ok rfl rfl, k1⟩
      · go_enter Try.func41, Try.ntmps41
        go_wp2_with fail
        refine (h1.out _).mono ?_
        rintro e w' ⟨rfl, rfl⟩
        go_wp2_with fail
        refine (h2.out _).mono ?_
        rintro e w' ⟨rfl, rfl⟩
        go_wp2_with fail
        rw [hk.out, Oper.upon_enter]
        refine hc.out.mono ?_
        rintro e w1 ⟨rfl, k1⟩
        go_wp2_with fail
        refine (h3.out _).mono ?_
        rintro e w' ⟨rfl, rfl⟩
        go_wp2
        go_ret2
        exact ⟨ret_ok rfl rfl, k1⟩

set_option maxHeartbeats 400000 in
theorem mul1_any (a b : Int) (b1 b2 : Nat) (w : World) (h1 : w.cell? ⟨b1, 0, none⟩ = some (.int .i64 a)) (h2 : w.cell? ⟨b2, 0, none⟩ = some (.int .i64 b))
    (a0 : -9223372036854775808 ≤ a) (a1 : a ≤ 9223372036854775807) (c0 : -9223372036854775808 ≤ b) (c1 : b ≤ 9223372036854775807) :
    Calls Try.prog 42 #[.pointer (some ⟨b1, 0, none⟩), .pointer (some ⟨b2, 0, none⟩)] w fun e w' => e = .returned (.tuple #[.int .i64 (valOf 65536 (near (a * b) 65536)), .bool (okOf 65536 (near (a * b) 65536))]) ∧ Below w.heap.size w w' := by
  have h := Lib.hid (fun w => muldiv_any a b 65536 w a0 a1 c0 c1 (by decide) (by decide))
  generalize valOf 65536 (near (a * b) 65536) = v at *
  generalize okOf 65536 (near (a * b) 65536) = t at *
  go_enter Try.func42, Try.ntmps42
  go_wp2_with fail
  refine (h.out _).mono ?_
  rintro e w1 ⟨rfl, k1⟩
  go_wp2
  go_ret2
  exact ⟨rfl, k1⟩

theorem entersMul : Enters 42 := enters_of Try.func42 (by kernel_rfl) (by kernel_rfl)
/-- The world behind the two boxed arguments. -/
abbrev W2b (a b : Int) (w : World) : World := (w.alloc (.cells #[.int .i64 a] 3)).alloc (.cells #[.int .i64 b] 3)
theorem w2b_facts (a b : Int) (w : World) :
    (W2b a b w).cell? ⟨w.heap.size, 0, none⟩ = some (.int .i64 a) ∧ (W2b a b w).cell? ⟨w.heap.size + 1, 0, none⟩ = some (.int .i64 b) ∧
    (W2b a b w).heap.size = w.heap.size + 2 ∧ Below w.heap.size w (W2b a b w) := by
  refine ⟨by simp [W2b, go_sem], by simp [W2b, go_sem], by simp, ?_⟩
  exact ((Below.refl _ _).alloc (Nat.le_refl _) _).alloc (by simp) _

set_option maxHeartbeats 1000000 in
theorem mul_core (a b v : Int) (t : Bool) (w : World) (h : Hid (Calls Try.prog 41 #[.int .i64 a, .int .i64 b, .func (.func 42) #[] #[.pointer (some ⟨w.heap.size, 0, none⟩), .pointer (some ⟨w.heap.size + 1, 0, none⟩)]] (W2b a b w)
      fun e w' => e = .returned (.tuple #[.int .i64 v, .bool t]) ∧ Below (W2b a b w).heap.size (W2b a b w) w')) :
    Calls Try.prog 36 #[.int .i64 a, .int .i64 b] w fun e w' => e = .returned (.tuple #[.int .i64 v, .bool t]) ∧ Below w.heap.size w w' := by
  go_enter Try.func36, Try.ntmps36
  go_wp2_with fail
  refine h.out.mono ?_
  rintro e w1 ⟨rfl, k1⟩
  go_wp2
  go_ret2
  exact ⟨rfl, (w2b_facts a b w).2.2.2.trans (k1.mono (by simp; omega))⟩

theorem mulF_any (a b : Int) (w : World) (a0 : -9223372036854775808 ≤ a) (a1 : a ≤ 9223372036854775807) (c0 : -9223372036854775808 ≤ b) (c1 : b ≤ 9223372036854775807) :
    Calls Try.prog 36 #[.int .i64 a, .int .i64 b] w fun e w' => e = .returned (.tuple #[.int .i64 (gate (okMul a b) (near (a * b) 65536)), .bool (okMul a b)]) ∧ Below w.heap.size w w' := by
  obtain ⟨f1, f2, f3, f4⟩ := w2b_facts a b w
  have h := rounded_any 42 w.heap.size (w.heap.size + 1) a b _ _ (W2b a b w) (Lib.hid entersMul) (Lib.hid (mul1_any a b _ _ (W2b a b w) f1 f2 a0 a1 c0 c1))
  rw [div_val, div_may] at h
  exact mul_core a b _ _ w (Lib.hid h)

end Go.Proofs.Ytiminclbkmkgnaa
