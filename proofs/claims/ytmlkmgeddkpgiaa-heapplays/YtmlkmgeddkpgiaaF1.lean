/- Walks of fix: valid, checked, clamp, From, Add, Sub, rounded, Mul, Div. -/
import Derived.Test.YtmlkmgeddkpgiaaM6
import Derived.Test.YtmlkmgeddkpgiaaB0
import Derived.Laws.EntriesVeiled
namespace Go.Proofs.Ytmlkmgeddkpgiaa
open Go.RowKit
set_option linter.unusedVariables false

set_option maxHeartbeats 400000 in
theorem validF_any (a : Int) (w : World) : Calls Try.prog 132 #[.int .i64 a] w fun e w' => e = .returned (.bool (mayF a)) ∧ w = w' := by
  by_cases h1 : -1073741823 ≤ a
  · by_cases h2 : a ≤ 1073741823
    · have H := Lib.hid ((may_iff a).2 ⟨h1, h2⟩)
      go_enter Try.func132, Try.ntmps132
      go_wp2
      go_ret
      exact ⟨ret_bool H.out.symm, rfl⟩
    · have H := Lib.hid ((may_not a).2 (by omega))
      go_enter Try.func132, Try.ntmps132
      go_wp2
      go_ret
      exact ⟨ret_bool H.out.symm, rfl⟩
  · have H := Lib.hid ((may_not a).2 (by omega))
    go_enter Try.func132, Try.ntmps132
    go_wp2
    go_ret
    exact ⟨ret_bool H.out.symm, rfl⟩

set_option maxHeartbeats 400000 in
theorem checked_any (c : Int) (w : World) : Calls Try.prog 133 #[.int .i64 c] w fun e w' => e = .returned (.tuple #[.int .i64 (gate (mayF c) c), .bool (mayF c)]) ∧ w = w' := by
  have h1 := Lib.hid (fun w => validF_any c w)
  generalize mayF c = x at *
  cases x
  · go_enter Try.func133, Try.ntmps133
    go_wp2_with fail
    refine (h1.out _).mono ?_
    rintro e w' ⟨rfl, rfl⟩
    go_wp2
    go_ret2
    exact ⟨ret_ok rfl rfl, rfl⟩
  · go_enter Try.func133, Try.ntmps133
    go_wp2_with fail
    refine (h1.out _).mono ?_
    rintro e w' ⟨rfl, rfl⟩
    go_wp2
    go_ret2
    exact ⟨ret_ok rfl rfl, rfl⟩

theorem from_may (v : Int) : (-16383 ≤ v ∧ v ≤ 16383) ↔ mayF (v * 65536) = true := by rw [may_iff]; omega

set_option maxHeartbeats 400000 in
theorem from_any (v : Int) (w : World) : Calls Try.prog 130 #[.int .i64 v] w fun e w' => e = .returned (.tuple #[.int .i64 (gate (mayF (v * 65536)) (v * 65536)), .bool (mayF (v * 65536))]) ∧ w = w' := by
  have H := Lib.hid (from_may v)
  by_cases h1 : -16383 ≤ v
  · by_cases h2 : v ≤ 16383
    · have E := Lib.hid (H.out.1 ⟨h1, h2⟩)
      go_enter Try.func130, Try.ntmps130
      go_wp2
      go_ret2
      exact ⟨ret_ok (by unfold gate; rw [if_pos E.out]) E.out.symm, rfl⟩
    · have E := Lib.hid ((may_not (v * 65536)).2 (by omega))
      go_enter Try.func130, Try.ntmps130
      go_wp2
      go_ret2
      exact ⟨ret_ok (by unfold gate; rw [E.out]; rfl) E.out.symm, rfl⟩
  · have E := Lib.hid ((may_not (v * 65536)).2 (by omega))
    go_enter Try.func130, Try.ntmps130
    go_wp2
    go_ret2
    exact ⟨ret_ok (by unfold gate; rw [E.out]; rfl) E.out.symm, rfl⟩

set_option maxHeartbeats 400000 in
theorem add_any (a b : Int) (w : World) : Calls Try.prog 131 #[.int .i64 a, .int .i64 b] w fun e w' => e = .returned (.tuple #[.int .i64 (gate (okAdd a b) (a + b)), .bool (okAdd a b)]) ∧ w = w' := by
  have h1 := Lib.hid (fun w => validF_any a w)
  have h2 := Lib.hid (fun w => validF_any b w)
  have h3 := Lib.hid (fun w => checked_any (a + b) w)
  have hm := may_iff a
  have hn := may_iff b
  unfold okAdd
  generalize mayF (a + b) = z at *
  generalize mayF a = x at *
  generalize mayF b = y at *
  cases x
  · clear hm hn
    go_enter Try.func131, Try.ntmps131
    go_wp2_with fail
    refine (h1.out _).mono ?_
    rintro e w' ⟨rfl, rfl⟩
    go_wp2
    go_ret2
    exact ⟨ret_ok rfl rfl, rfl⟩
  · cases y
    · clear hm hn
      go_enter Try.func131, Try.ntmps131
      go_wp2_with fail
      refine (h1.out _).mono ?_
      rintro e w' ⟨rfl, rfl⟩
      go_wp2_with fail
      refine (h2.out _).mono ?_
      rintro e w' ⟨rfl, rfl⟩
      go_wp2
      go_ret2
      exact ⟨ret_ok rfl rfl, rfl⟩
    · obtain ⟨a0, a1⟩ := hm.1 rfl
      obtain ⟨b0, b1⟩ := hn.1 rfl
      clear hm hn
      go_enter Try.func131, Try.ntmps131
      go_wp2_with fail
      refine (h1.out _).mono ?_
      rintro e w' ⟨rfl, rfl⟩
      go_wp2_with fail
      refine (h2.out _).mono ?_
      rintro e w' ⟨rfl, rfl⟩
      go_wp2_with fail
      refine (h3.out _).mono ?_
      rintro e w' ⟨rfl, rfl⟩
      go_wp2
      go_ret2
      exact ⟨ret_ok rfl rfl, rfl⟩

/-- The world behind the two boxed arguments. -/
abbrev W2b (a b : Int) (w : World) : World := (w.alloc (.cells #[.int .i64 a] 3)).alloc (.cells #[.int .i64 b] 3)
theorem w2b_facts (a b : Int) (w : World) :
    (W2b a b w).cell? ⟨w.heap.size, 0, none⟩ = some (.int .i64 a) ∧ (W2b a b w).cell? ⟨w.heap.size + 1, 0, none⟩ = some (.int .i64 b) ∧
    (W2b a b w).heap.size = w.heap.size + 2 ∧ Below w.heap.size w (W2b a b w) := by
  refine ⟨by simp [W2b, go_sem], by simp [W2b, go_sem], by simp, ?_⟩
  exact ((Below.refl _ _).alloc (Nat.le_refl _) _).alloc (by simp) _

end Go.Proofs.Ytmlkmgeddkpgiaa
