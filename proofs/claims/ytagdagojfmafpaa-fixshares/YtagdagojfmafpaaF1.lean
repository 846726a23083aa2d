/- Walks of fix: valid, checked, clamp, From, Add, Sub, rounded, Mul, Div. -/
import Derived.Test.YtagdagojfmafpaaM6
import Derived.Test.YtagdagojfmafpaaR2
import Derived.Test.YtagdagojfmafpaaW7
import Derived.Laws.EntriesVeiled
namespace Go.Proofs.Ytagdagojfmafpaa
open Go.RowKit
set_option linter.unusedVariables false

set_option maxHeartbeats 400000 in
theorem validF_any (a : Int) (w : World) : Calls Try.prog 34 #[.int .i64 a] w fun e w' => e = .returned (.bool (mayF a)) ∧ w = w' := by
  by_cases h1 : -1073741823 ≤ a
  · by_cases h2 : a ≤ 1073741823
    · have H := Lib.hid ((may_iff a).2 ⟨h1, h2⟩)
      go_enter Try.func34, Try.ntmps34
      go_wp2
      go_ret
      exact ⟨ret_bool H.out.symm, rfl⟩
    · have H := Lib.hid ((may_not a).2 (by omega))
      go_enter Try.func34, Try.ntmps34
      go_wp2
      go_ret
      exact ⟨ret_bool H.out.symm, rfl⟩
  · have H := Lib.hid ((may_not a).2 (by omega))
    go_enter Try.func34, Try.ntmps34
    go_wp2
    go_ret
    exact ⟨ret_bool H.out.symm, rfl⟩

set_option maxHeartbeats 400000 in
theorem checked_any (c : Int) (w : World) : Calls Try.prog 35 #[.int .i64 c] w fun e w' => e = .returned (.tuple #[.int .i64 (gate (mayF c) c), .bool (mayF c)]) ∧ w = w' := by
  have h1 := Lib.hid (fun w => validF_any c w)
  generalize mayF c = x at *
  cases x
  · go_enter Try.func35, Try.ntmps35
    go_wp2_with fail
    refine (h1.out _).mono ?_
    rintro e w' ⟨rfl, rfl⟩
    go_wp2
    go_ret2
    exact ⟨ret_ok rfl rfl, rfl⟩
  · go_enter Try.func35, Try.ntmps35
    go_wp2_with fail
    refine (h1.out _).mono ?_
    rintro e w' ⟨rfl, rfl⟩
    go_wp2
    go_ret2
    exact ⟨ret_ok rfl rfl, rfl⟩

set_option maxHeartbeats 400000 in
theorem clamp_any (a : Int) (w : World) : Calls Try.prog 43 #[.int .i64 a] w fun e w' => e = .returned (.int .i64 (clampF a)) ∧ w = w' := by
  go_enter Try.func43, Try.ntmps43
  go_wp2
  go_ret
  exact ⟨ret_int (by unfold clampF; repeat' split
                     all_goals omega), rfl⟩

theorem from_may (v : Int) : (-16383 ≤ v ∧ v ≤ 16383) ↔ mayF (v * 65536) = true := by rw [may_iff]; omega

set_option maxHeartbeats 400000 in
theorem from_any (v : Int) (w : World) : Calls Try.prog 9 #[.int .i64 v] w fun e w' => e = .returned (.tuple #[.int .i64 (gate (mayF (v * 65536)) (v * 65536)), .bool (mayF (v * 65536))]) ∧ w = w' := by
  have H := Lib.hid (from_may v)
  by_cases h1 : -16383 ≤ v
  · by_cases h2 : v ≤ 16383
    · have E := Lib.hid (H.out.1 ⟨h1, h2⟩)
      go_enter Try.func9, Try.ntmps9
      go_wp2
      go_ret2
      exact ⟨ret_ok (by unfold gate; rw [if_pos E.out]) E.out.symm, rfl⟩
    · have E := Lib.hid ((may_not (v * 65536)).2 (by omega))
      go_enter Try.func9, Try.ntmps9
      go_wp2
      go_ret2
      exact ⟨ret_ok (by unfold gate; rw [E.out]; rfl) E.out.symm, rfl⟩
  · have E := Lib.hid ((may_not (v * 65536)).2 (by omega))
    go_enter Try.func9, Try.ntmps9
    go_wp2
    go_ret2
    exact ⟨ret_ok (by unfold gate; rw [E.out]; rfl) E.out.symm, rfl⟩

set_option maxHeartbeats 400000 in
theorem add_any (a b : Int) (w : World) : Calls Try.prog 11 #[.int .i64 a, .int .i64 b] w fun e w' => e = .returned (.tuple #[.int .i64 (gate (okAdd a b) (a + b)), .bool (okAdd a b)]) ∧ w = w' := by
  have h1 := Lib.hid (fun w => validF_any a w)
  have h2 := Lib.hid (fun w => validF_any b w)
  have h3 := Lib.hid (fun w => checked_any (a + b) w)
  have hm := may_iff a
  have hn := may_iff b
  unfold okAdd
  generalize mayF (a + b) = z at *
  generalize mayF a = x at *
  generalize mayF b = y at *
  cases x
  · clear hm hn
    go_enter Try.func11, Try.ntmps11
    go_wp2_with fail
    refine (h1.out _).mono ?_
    rintro e w' ⟨rfl, rfl⟩
    go_wp2
    go_ret2
    exact ⟨ret_ok rfl rfl, rfl⟩
  · cases y
    · clear hm hn
      go_enter Try.func11, Try.ntmps11
      go_wp2_with fail
      refine (h1.out _).mono ?_
      rintro e w' ⟨rfl, rfl⟩
      go_wp2_with fail
      refine (h2.out _).mono ?_
      rintro e w' ⟨rfl, rfl⟩
      go_wp2
      go_ret2
      exact ⟨ret_ok rfl rfl, rfl⟩
    · obtain ⟨a0, a1⟩ := hm.1 rfl
      obtain ⟨b0, b1⟩ := hn.1 rfl
      clear hm hn
      go_enter Try.func11, Try.ntmps11
      go_wp2_with fail
      refine (h1.out _).mono ?_
      rintro e w' ⟨rfl, rfl⟩
      go_wp2_with fail
      refine (h2.out _).mono ?_
      rintro e w' ⟨rfl, rfl⟩
      go_wp2_with fail
      refine (h3.out _).mono ?_
      rintro e w' ⟨rfl, rfl⟩
      go_wp2
      go_ret2
      exact ⟨ret_ok rfl rfl, rfl⟩

set_option maxHeartbeats 400000 in
theorem sub_any (a b : Int) (w : World) : Calls Try.prog 13 #[.int .i64 a, .int .i64 b] w fun e w' => e = .returned (.tuple #[.int .i64 (gate (okSub a b) (a - b)), .bool (okSub a b)]) ∧ w = w' := by
  have h1 := Lib.hid (fun w => validF_any a w)
  have h2 := Lib.hid (fun w => validF_any b w)
  have h3 := Lib.hid (fun w => checked_any (a - b) w)
  have hm := may_iff a
  have hn := may_iff b
  unfold okSub
  generalize mayF (a - b) = z at *
  generalize mayF a = x at *
  generalize mayF b = y at *
  cases x
  · clear hm hn
    go_enter Try.func13, Try.ntmps13
    go_wp2_with fail
    refine (h1.out _).mono ?_
    rintro e w' ⟨rfl, rfl⟩
    go_wp2
    go_ret2
    exact ⟨ret_ok rfl rfl, rfl⟩
  · cases y
    · clear hm hn
      go_enter Try.func13, Try.ntmps13
      go_wp2_with fail
      refine (h1.out _).mono ?_
      rintro e w' ⟨rfl, rfl⟩
      go_wp2_with fail
      refine (h2.out _).mono ?_
      rintro e w' ⟨rfl, rfl⟩
      go_wp2
      go_ret2
      exact ⟨ret_ok rfl rfl, rfl⟩
    · obtain ⟨a0, a1⟩ := hm.1 rfl
      obtain ⟨b0, b1⟩ := hn.1 rfl
      clear hm hn
      go_enter Try.func13, Try.ntmps13
      go_wp2_with fail
      refine (h1.out _).mono ?_
      rintro e w' ⟨rfl, rfl⟩
      go_wp2_with fail
      refine (h2.out _).mono ?_
      rintro e w' ⟨rfl, rfl⟩
      go_wp2_with fail
      refine (h3.out _).mono ?_
      rintro e w' ⟨rfl, rfl⟩
      go_wp2
      go_ret2
      exact ⟨ret_ok rfl rfl, rfl⟩

set_option maxHeartbeats 1000000 in
theorem rounded_any (k b1 b2 : Nat) (a b v : Int) (ok : Bool) (w : World) (hk : Hid (Enters k))
    (hc : Hid (Calls Try.prog k #[.pointer (some ⟨b1, 0, none⟩), .pointer (some ⟨b2, 0, none⟩)] w fun e w' => e = .returned (.tuple #[.int .i64 v, .bool ok]) ∧ Below w.heap.size w w')) :
    Calls Try.prog 36 #[.int .i64 a, .int .i64 b, .func (.func k) #[] #[.pointer (some ⟨b1, 0, none⟩), .pointer (some ⟨b2, 0, none⟩)]] w
      fun e w' => e = .returned (.tuple #[.int .i64 (gate (mayF a && mayF b && (ok && mayF v)) v), .bool (mayF a && mayF b && (ok && mayF v))]) ∧ Below w.heap.size w w' := by
  have h1 := Lib.hid (fun w => validF_any a w)
  have h2 := Lib.hid (fun w => validF_any b w)
  have h3 := Lib.hid (fun w => checked_any v w)
  generalize mayF a = x at *
  generalize mayF b = y at *
  generalize mayF v = z at *
  cases x
  · go_enter Try.func36, Try.ntmps36
    go_wp2_with fail
    refine (h1.out _).mono ?_
    rintro e w' ⟨rfl, rfl⟩
    go_wp2
    go_ret2
    exact ⟨ret_ok rfl rfl, Below.refl _ _⟩
  · cases y
    · go_enter Try.func36, Try.ntmps36
      go_wp2_with fail
      refine (h1.out _).mono ?_
      rintro e w' ⟨rfl, rfl⟩
      go_wp2_with fail
      refine (h2.out _).mono ?_
      rintro e w' ⟨rfl, rfl⟩
      go_wp2
      go_ret2
      exact ⟨ret_ok rfl rfl, Below.refl _ _⟩
    · cases ok
      · go_enter Try.func36, Try.ntmps36
        go_wp2_with fail
        refine (h1.out _).mono ?_
        rintro e w' ⟨rfl, rfl⟩
        go_wp2_with fail
        refine (h2.out _).mono ?_
        rintro e w' ⟨rfl, rfl⟩
        go_wp2_with fail
        rw [hk.out, Oper.upon_enter]
        refine hc.out.mono ?_
        rintro e w1 ⟨rfl, k1⟩
        go_wp2
        go_ret2
        exact ⟨ret_ok rfl rfl, k1⟩
      · go_enter Try.func36, Try.ntmps36
        go_wp2_with fail
        refine (h1.out _).mono ?_
        rintro e w' ⟨rfl, rfl⟩
        go_wp2_with fail
        refine (h2.out _).mono ?_
        rintro e w' ⟨rfl, rfl⟩
        go_wp2_with fail
        rw [hk.out, Oper.upon_enter]
        refine hc.out.mono ?_
        rintro e w1 ⟨rfl, k1⟩
        go_wp2_with fail
        refine (h3.out _).mono ?_
        rintro e w' ⟨rfl, rfl⟩
        go_wp2
        go_ret2
        exact ⟨ret_ok rfl rfl, k1⟩

set_option maxHeartbeats 400000 in
theorem mul1_any (a b : Int) (b1 b2 : Nat) (w : World) (h1 : w.cell? ⟨b1, 0, none⟩ = some (.int .i64 a)) (h2 : w.cell? ⟨b2, 0, none⟩ = some (.int .i64 b))
    (a0 : -9223372036854775808 ≤ a) (a1 : a ≤ 9223372036854775807) (c0 : -9223372036854775808 ≤ b) (c1 : b ≤ 9223372036854775807) :
    Calls Try.prog 37 #[.pointer (some ⟨b1, 0, none⟩), .pointer (some ⟨b2, 0, none⟩)] w fun e w' => e = .returned (.tuple #[.int .i64 (valOf 65536 (near (a * b) 65536)), .bool (okOf 65536 (near (a * b) 65536))]) ∧ Below w.heap.size w w' := by
  have h := Lib.hid (fun w => muldiv_any a b 65536 w a0 a1 c0 c1 (by decide) (by decide))
  generalize valOf 65536 (near (a * b) 65536) = v at *
  generalize okOf 65536 (near (a * b) 65536) = t at *
  go_enter Try.func37, Try.ntmps37
  go_wp2_with fail
  refine (h.out _).mono ?_
  rintro e w1 ⟨rfl, k1⟩
  go_wp2
  go_ret2
  exact ⟨rfl, k1⟩

set_option maxHeartbeats 400000 in
theorem div1_any (a b : Int) (b1 b2 : Nat) (w : World) (h1 : w.cell? ⟨b1, 0, none⟩ = some (.int .i64 a)) (h2 : w.cell? ⟨b2, 0, none⟩ = some (.int .i64 b))
    (a0 : -9223372036854775808 ≤ a) (a1 : a ≤ 9223372036854775807) (c0 : -9223372036854775808 ≤ b) (c1 : b ≤ 9223372036854775807) :
    Calls Try.prog 40 #[.pointer (some ⟨b1, 0, none⟩), .pointer (some ⟨b2, 0, none⟩)] w fun e w' => e = .returned (.tuple #[.int .i64 (valOf b (near (a * 65536) b)), .bool (okOf b (near (a * 65536) b))]) ∧ Below w.heap.size w w' := by
  have h := Lib.hid (fun w => muldiv_any a 65536 b w a0 a1 (by decide) (by decide) c0 c1)
  generalize valOf b (near (a * 65536) b) = v at *
  generalize okOf b (near (a * 65536) b) = t at *
  go_enter Try.func40, Try.ntmps40
  go_wp2_with fail
  refine (h.out _).mono ?_
  rintro e w1 ⟨rfl, k1⟩
  go_wp2
  go_ret2
  exact ⟨rfl, k1⟩

theorem entersMul : Enters 37 := enters_of Try.func37 (by kernel_rfl) (by kernel_rfl)
theorem entersDiv : Enters 40 := enters_of Try.func40 (by kernel_rfl) (by kernel_rfl)

/-- The world behind the two boxed arguments. -/
abbrev W2b (a b : Int) (w : World) : World := (w.alloc (.cells #[.int .i64 a] 3)).alloc (.cells #[.int .i64 b] 3)
theorem w2b_facts (a b : Int) (w : World) :
    (W2b a b w).cell? ⟨w.heap.size, 0, none⟩ = some (.int .i64 a) ∧ (W2b a b w).cell? ⟨w.heap.size + 1, 0, none⟩ = some (.int .i64 b) ∧
    (W2b a b w).heap.size = w.heap.size + 2 ∧ Below w.heap.size w (W2b a b w) := by
  refine ⟨by simp [W2b, go_sem], by simp [W2b, go_sem], by simp, ?_⟩
  exact ((Below.refl _ _).alloc (Nat.le_refl _) _).alloc (by simp) _

set_option maxHeartbeats 1000000 in
theorem mul_core (a b v : Int) (t : Bool) (w : World) (h : Hid (Calls Try.prog 36 #[.int .i64 a, .int .i64 b, .func (.func 37) #[] #[.pointer (some ⟨w.heap.size, 0, none⟩), .pointer (some ⟨w.heap.size + 1, 0, none⟩)]] (W2b a b w)
      fun e w' => e = .returned (.tuple #[.int .i64 v, .bool t]) ∧ Below (W2b a b w).heap.size (W2b a b w) w')) :
    Calls Try.prog 15 #[.int .i64 a, .int .i64 b] w fun e w' => e = .returned (.tuple #[.int .i64 v, .bool t]) ∧ Below w.heap.size w w' := by
  go_enter Try.func15, Try.ntmps15
  go_wp2_with fail
  refine h.out.mono ?_
  rintro e w1 ⟨rfl, k1⟩
  go_wp2
  go_ret2
  exact ⟨rfl, (w2b_facts a b w).2.2.2.trans (k1.mono (by simp; omega))⟩

set_option maxHeartbeats 1000000 in
theorem div_core (a b v : Int) (t : Bool) (w : World) (h : Hid (Calls Try.prog 36 #[.int .i64 a, .int .i64 b, .func (.func 40) #[] #[.pointer (some ⟨w.heap.size, 0, none⟩), .pointer (some ⟨w.heap.size + 1, 0, none⟩)]] (W2b a b w)
      fun e w' => e = .returned (.tuple #[.int .i64 v, .bool t]) ∧ Below (W2b a b w).heap.size (W2b a b w) w')) :
    Calls Try.prog 17 #[.int .i64 a, .int .i64 b] w fun e w' => e = .returned (.tuple #[.int .i64 v, .bool t]) ∧ Below w.heap.size w w' := by
  go_enter Try.func17, Try.ntmps17
  go_wp2_with fail
  refine h.out.mono ?_
  rintro e w1 ⟨rfl, k1⟩
  go_wp2
  go_ret2
  exact ⟨rfl, (w2b_facts a b w).2.2.2.trans (k1.mono (by simp; omega))⟩

theorem mulF_any (a b : Int) (w : World) (a0 : -9223372036854775808 ≤ a) (a1 : a ≤ 9223372036854775807) (c0 : -9223372036854775808 ≤ b) (c1 : b ≤ 9223372036854775807) :
    Calls Try.prog 15 #[.int .i64 a, .int .i64 b] w fun e w' => e = .returned (.tuple #[.int .i64 (gate (okMul a b) (near (a * b) 65536)), .bool (okMul a b)]) ∧ Below w.heap.size w w' := by
  obtain ⟨f1, f2, f3, f4⟩ := w2b_facts a b w
  have h := rounded_any 37 w.heap.size (w.heap.size + 1) a b _ _ (W2b a b w) (Lib.hid entersMul) (Lib.hid (mul1_any a b _ _ (W2b a b w) f1 f2 a0 a1 c0 c1))
  rw [div_val, div_may] at h
  exact mul_core a b _ _ w (Lib.hid h)

theorem divF_any (a b : Int) (w : World) (a0 : -9223372036854775808 ≤ a) (a1 : a ≤ 9223372036854775807) (c0 : -9223372036854775808 ≤ b) (c1 : b ≤ 9223372036854775807) :
    Calls Try.prog 17 #[.int .i64 a, .int .i64 b] w fun e w' => e = .returned (.tuple #[.int .i64 (gate (okDiv a b) (near (a * 65536) b)), .bool (okDiv a b)]) ∧ Below w.heap.size w w' := by
  obtain ⟨f1, f2, f3, f4⟩ := w2b_facts a b w
  have h := rounded_any 40 w.heap.size (w.heap.size + 1) a b _ _ (W2b a b w) (Lib.hid entersDiv) (Lib.hid (div1_any a b _ _ (W2b a b w) f1 f2 a0 a1 c0 c1))
  rw [div_val, div_may] at h
  exact div_core a b _ _ w (Lib.hid h)
end Go.Proofs.Ytagdagojfmafpaa
