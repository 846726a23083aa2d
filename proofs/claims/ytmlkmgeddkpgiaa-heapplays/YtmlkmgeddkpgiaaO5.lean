/- Walks of the document's own answer for layer 10 (tympanref10): May at names and pieces, and whole. -/
import Derived.Test.YtmlkmgeddkpgiaaO4
namespace Go.Proofs.Ytmlkmgeddkpgiaa
open Go.RowKit
set_option linter.unusedVariables false

theorem rmay_5 (n a l : Int) (x : Bool) (s : ByteArray) (w : World) :
    Calls Try.prog 110 #[.agg #[.int .i64 5, .bool x, .int .i64 n, .int .i64 a, .int .i64 l, .string s]] w fun e w' => e = .returned (.bool (mayO 5 n a l s)) ∧ Below w.heap.size w w' := by
  obtain ⟨z, hz⟩ : ∃ z, mayO 5 n a l s = z := ⟨_, rfl⟩
  have M : mayO 5 n a l s = decide (s.size ≤ 100 ∧ n = 0 ∧ a = 0 ∧ l = 0) := rfl
  rw [hz] at M
  rw [hz]
  clear hz
  by_cases h : (s.size : Int) ≤ 100
  · have q : ∀ w, (binOp .eql 24 (.agg #[.int .i64 5, .bool x, .int .i64 n, .int .i64 a, .int .i64 l, .string s]) (.agg #[.int .i64 5, .bool x, .int .i64 0, .int .i64 0, .int .i64 0, .string s])).run Try.prog w = .ok (.bool z) w := fun w => by
      rw [eqO, M]
      have : s.size ≤ 100 := by omega
      simp [this]
    clear M
    go_enter Try.func110, Try.ntmps110
    go_wp2
    go_ret
    exact ⟨rfl, box2_below _ _ _⟩
  · have h' : 100 < (s.size : Int) := by omega
    have q : ∀ w, (binOp .eql 24 (.agg #[.int .i64 5, .bool x, .int .i64 n, .int .i64 a, .int .i64 l, .string s]) (.agg #[.int .i64 5, .bool x, .int .i64 0, .int .i64 0, .int .i64 0, .string (s.extract 0 100)])).run Try.prog w = .ok (.bool z) w := fun w => by
      rw [eqO, M]
      have e1 : ¬ s.size ≤ 100 := by omega
      have e2 : s ≠ s.extract 0 100 := fun e => by
        have := congrArg ByteArray.size e
        rw [ByteArray.size_extract] at this
        omega
      simp [e1, e2]
    clear M h
    go_enter Try.func110, Try.ntmps110
    go_wp2
    go_ret
    exact ⟨rfl, box2_below _ _ _⟩

set_option maxHeartbeats 400000 in
theorem rpiece_8 (n a l : Int) (x z p q r : Bool) (s : ByteArray) (w : World)
    (hz : ∀ w, (binOp .eql 24 (.agg #[.int .i64 8, .bool x, .int .i64 n, .int .i64 a, .int .i64 l, .string s]) (.agg #[.int .i64 8, .bool x, .int .i64 n, .int .i64 a, .int .i64 l, .string ⟨#[]⟩])).run Try.prog w = .ok (.bool z) w)
    (h1 : Hid (∀ w, Calls Try.prog 123 #[.int .i64 n, .int .i64 0, .int .i64 40000] w fun e w' => e = .returned (.bool p) ∧ w = w'))
    (h2 : Hid (∀ w, Calls Try.prog 123 #[.int .i64 a, .int .i64 0, .int .i64 40000] w fun e w' => e = .returned (.bool q) ∧ w = w')) (h3 : Hid (∀ w, Calls Try.prog 123 #[.int .i64 l, .int .i64 0, .int .i64 40000] w fun e w' => e = .returned (.bool r) ∧ w = w')) :
    Calls Try.prog 110 #[.agg #[.int .i64 8, .bool x, .int .i64 n, .int .i64 a, .int .i64 l, .string s]] w fun e w' => e = .returned (.bool (z && (p && (q && r)))) ∧ Below w.heap.size w w' := by
  cases z
  · go_enter Try.func110, Try.ntmps110
    go_wp2_with fail
    go_region
    go_wp2_with fail
    go_ret
    exact ⟨rfl, by repeat' (first | exact Below.refl _ _ | refine Below.drew ?_ | refine Below.alloc ?_ (by simp <;> omega) _)⟩
  · cases p
    · go_enter Try.func110, Try.ntmps110
      go_wp2_with fail
      go_region
      go_wp2_with fail
      refine (h1.out _).mono ?_
      rintro e wc ⟨rfl, rfl⟩
      go_wp2_with fail
      go_ret
      exact ⟨rfl, by repeat' (first | exact Below.refl _ _ | refine Below.drew ?_ | refine Below.alloc ?_ (by simp <;> omega) _)⟩
    · cases q
      · go_enter Try.func110, Try.ntmps110
        go_wp2_with fail
        go_region
        go_wp2_with fail
        refine (h1.out _).mono ?_
        rintro e wc ⟨rfl, rfl⟩
        go_wp2_with fail
        refine (h2.out _).mono ?_
        rintro e wc ⟨rfl, rfl⟩
        go_wp2_with fail
        go_ret
        exact ⟨rfl, by repeat' (first | exact Below.refl _ _ | refine Below.drew ?_ | refine Below.alloc ?_ (by simp <;> omega) _)⟩
      · go_enter Try.func110, Try.ntmps110
        go_wp2_with fail
        go_region
        go_wp2_with fail
        refine (h1.out _).mono ?_
        rintro e wc ⟨rfl, rfl⟩
        go_wp2_with fail
        refine (h2.out _).mono ?_
        rintro e wc ⟨rfl, rfl⟩
        go_wp2_with fail
        refine (h3.out _).mono ?_
        rintro e wc ⟨rfl, rfl⟩
        go_wp2_with fail
        go_ret
        exact ⟨rfl, by repeat' (first | exact Below.refl _ _ | refine Below.drew ?_ | refine Below.alloc ?_ (by simp <;> omega) _)⟩

set_option maxHeartbeats 400000 in
theorem rpiece_9 (n a l : Int) (x z p q r : Bool) (s : ByteArray) (w : World)
    (hz : ∀ w, (binOp .eql 24 (.agg #[.int .i64 9, .bool x, .int .i64 n, .int .i64 a, .int .i64 l, .string s]) (.agg #[.int .i64 9, .bool x, .int .i64 n, .int .i64 a, .int .i64 l, .string ⟨#[]⟩])).run Try.prog w = .ok (.bool z) w)
    (h1 : Hid (∀ w, Calls Try.prog 123 #[.int .i64 n, .int .i64 0, .int .i64 40000] w fun e w' => e = .returned (.bool p) ∧ w = w'))
    (h2 : Hid (∀ w, Calls Try.prog 123 #[.int .i64 a, .int .i64 0, .int .i64 40000] w fun e w' => e = .returned (.bool q) ∧ w = w')) (h3 : Hid (∀ w, Calls Try.prog 123 #[.int .i64 l, .int .i64 0, .int .i64 40000] w fun e w' => e = .returned (.bool r) ∧ w = w')) :
    Calls Try.prog 110 #[.agg #[.int .i64 9, .bool x, .int .i64 n, .int .i64 a, .int .i64 l, .string s]] w fun e w' => e = .returned (.bool (z && (p && (q && r)))) ∧ Below w.heap.size w w' := by
  cases z
  · go_enter Try.func110, Try.ntmps110
    go_wp2_with fail
    go_region
    go_wp2_with fail
    go_ret
    exact ⟨rfl, by repeat' (first | exact Below.refl _ _ | refine Below.drew ?_ | refine Below.alloc ?_ (by simp <;> omega) _)⟩
  · cases p
    · go_enter Try.func110, Try.ntmps110
      go_wp2_with fail
      go_region
      go_wp2_with fail
      refine (h1.out _).mono ?_
      rintro e wc ⟨rfl, rfl⟩
      go_wp2_with fail
      go_ret
      exact ⟨rfl, by repeat' (first | exact Below.refl _ _ | refine Below.drew ?_ | refine Below.alloc ?_ (by simp <;> omega) _)⟩
    · cases q
      · go_enter Try.func110, Try.ntmps110
        go_wp2_with fail
        go_region
        go_wp2_with fail
        refine (h1.out _).mono ?_
        rintro e wc ⟨rfl, rfl⟩
        go_wp2_with fail
        refine (h2.out _).mono ?_
        rintro e wc ⟨rfl, rfl⟩
        go_wp2_with fail
        go_ret
        exact ⟨rfl, by repeat' (first | exact Below.refl _ _ | refine Below.drew ?_ | refine Below.alloc ?_ (by simp <;> omega) _)⟩
      · go_enter Try.func110, Try.ntmps110
        go_wp2_with fail
        go_region
        go_wp2_with fail
        refine (h1.out _).mono ?_
        rintro e wc ⟨rfl, rfl⟩
        go_wp2_with fail
        refine (h2.out _).mono ?_
        rintro e wc ⟨rfl, rfl⟩
        go_wp2_with fail
        refine (h3.out _).mono ?_
        rintro e wc ⟨rfl, rfl⟩
        go_wp2_with fail
        go_ret
        exact ⟨rfl, by repeat' (first | exact Below.refl _ _ | refine Below.drew ?_ | refine Below.alloc ?_ (by simp <;> omega) _)⟩

end Go.Proofs.Ytmlkmgeddkpgiaa
