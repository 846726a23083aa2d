/- Walks of the document's own answer for layer 10 (tympanref10): in, May. -/
import Derived.Test.YtmlkmgeddkpgiaaO3
import Derived.Test.YtmlkmgeddkpgiaaF3
namespace Go.Proofs.Ytmlkmgeddkpgiaa
open Go.RowKit
set_option linter.unusedVariables false

theorem rin_any (v lo hi : Int) (w : World) : Calls Try.prog 123 #[.int .i64 v, .int .i64 lo, .int .i64 hi] w fun e w' => e = .returned (.bool (decide (lo ≤ v ∧ v ≤ hi))) ∧ w = w' := by
  by_cases h1 : lo ≤ v <;> by_cases h2 : v ≤ hi
  all_goals
    go_enter Try.func123, Try.ntmps123
    go_wp2
    go_ret
    exact ⟨ret_bool (by simp [h1, h2]), rfl⟩

theorem clamp_iff (n lo hi : Int) (h : lo ≤ hi) : n = min (max n lo) hi ↔ lo ≤ n ∧ n ≤ hi := by omega

theorem only_eq (k n a l lo hi m : Int) (x : Bool) (s : ByteArray) (h : n = m ↔ lo ≤ n ∧ n ≤ hi) : decide (k = k ∧ x = x ∧ n = m ∧ a = 0 ∧ l = 0 ∧ s = ⟨#[]⟩) = onlyP n a l s lo hi := by
  unfold onlyP
  apply decide_eq_decide.2
  constructor
  · rintro ⟨_, _, h1, h2, h3, h4⟩
    exact ⟨(h.1 h1).1, (h.1 h1).2, h2, h3, h4⟩
  · rintro ⟨h5, h6, h2, h3, h4⟩
    exact ⟨rfl, rfl, h.2 ⟨h5, h6⟩, h2, h3, h4⟩

/-- Two boxes. -/
theorem box2_below (w : World) (o o' : Obj) : Below w.heap.size w ((w.alloc o).alloc o') := below_and (box_below _ _) (box_below _ _)

theorem rmay_1 (n a l : Int) (x : Bool) (s : ByteArray) (w : World) :
    Calls Try.prog 110 #[.agg #[.int .i64 1, .bool x, .int .i64 n, .int .i64 a, .int .i64 l, .string s]] w fun e w' => e = .returned (.bool (mayO 1 n a l s)) ∧ Below w.heap.size w w' := by
  obtain ⟨z, hz⟩ : ∃ z, mayO 1 n a l s = z := ⟨_, rfl⟩
  have q : ∀ w, (binOp .eql 24 (.agg #[.int .i64 1, .bool x, .int .i64 n, .int .i64 a, .int .i64 l, .string s]) (.agg #[.int .i64 1, .bool x, .int .i64 0, .int .i64 0, .int .i64 0, .string ⟨#[]⟩])).run Try.prog w = .ok (.bool z) w := fun w => by
    rw [eqO, ← hz, only_eq 1 n a l 0 0 0 x s (by omega)]
    rfl
  rw [hz]
  clear hz
  go_enter Try.func110, Try.ntmps110
  go_wp2
  go_ret
  exact ⟨rfl, box2_below _ _ _⟩

theorem rmay_2 (n a l : Int) (x : Bool) (s : ByteArray) (w : World) :
    Calls Try.prog 110 #[.agg #[.int .i64 2, .bool x, .int .i64 n, .int .i64 a, .int .i64 l, .string s]] w fun e w' => e = .returned (.bool (mayO 2 n a l s)) ∧ Below w.heap.size w w' := by
  obtain ⟨z, hz⟩ : ∃ z, mayO 2 n a l s = z := ⟨_, rfl⟩
  have q : ∀ m, (n = m ↔ 0 ≤ n ∧ n ≤ 1) → ∀ w, (binOp .eql 24 (.agg #[.int .i64 2, .bool x, .int .i64 n, .int .i64 a, .int .i64 l, .string s]) (.agg #[.int .i64 2, .bool x, .int .i64 m, .int .i64 0, .int .i64 0, .string ⟨#[]⟩])).run Try.prog w = .ok (.bool z) w := fun m h w => by
    rw [eqO, ← hz, only_eq 2 n a l 0 1 m x s h]
    rfl
  rw [hz]
  clear hz
  have hc : n < 0 ∨ (0 ≤ n ∧ n ≤ 1) ∨ 1 < n := by omega
  rcases hc with h | ⟨h, h'⟩ | h
  · replace q := q 0 (by omega)
    go_enter Try.func110, Try.ntmps110
    go_wp2
    go_ret
    exact ⟨rfl, box2_below _ _ _⟩
  · replace q := q n (by omega)
    go_enter Try.func110, Try.ntmps110
    go_wp2
    go_ret
    exact ⟨rfl, box2_below _ _ _⟩
  · replace q := q 1 (by omega)
    go_enter Try.func110, Try.ntmps110
    go_wp2
    go_ret
    exact ⟨rfl, box2_below _ _ _⟩

theorem rmay_3 (n a l : Int) (x : Bool) (s : ByteArray) (w : World) :
    Calls Try.prog 110 #[.agg #[.int .i64 3, .bool x, .int .i64 n, .int .i64 a, .int .i64 l, .string s]] w fun e w' => e = .returned (.bool (mayO 3 n a l s)) ∧ Below w.heap.size w w' := by
  obtain ⟨z, hz⟩ : ∃ z, mayO 3 n a l s = z := ⟨_, rfl⟩
  have q : ∀ m, (n = m ↔ (-2147483647) ≤ n ∧ n ≤ 2147483647) → ∀ w, (binOp .eql 24 (.agg #[.int .i64 3, .bool x, .int .i64 n, .int .i64 a, .int .i64 l, .string s]) (.agg #[.int .i64 3, .bool x, .int .i64 m, .int .i64 0, .int .i64 0, .string ⟨#[]⟩])).run Try.prog w = .ok (.bool z) w := fun m h w => by
    rw [eqO, ← hz, only_eq 3 n a l (-2147483647) 2147483647 m x s h]
    rfl
  rw [hz]
  clear hz
  have hc : n < (-2147483647) ∨ ((-2147483647) ≤ n ∧ n ≤ 2147483647) ∨ 2147483647 < n := by omega
  rcases hc with h | ⟨h, h'⟩ | h
  · replace q := q (-2147483647) (by omega)
    go_enter Try.func110, Try.ntmps110
    go_wp2
    go_ret
    exact ⟨rfl, box2_below _ _ _⟩
  · replace q := q n (by omega)
    go_enter Try.func110, Try.ntmps110
    go_wp2
    go_ret
    exact ⟨rfl, box2_below _ _ _⟩
  · replace q := q 2147483647 (by omega)
    go_enter Try.func110, Try.ntmps110
    go_wp2
    go_ret
    exact ⟨rfl, box2_below _ _ _⟩

theorem rmay_4 (n a l : Int) (x : Bool) (s : ByteArray) (w : World) :
    Calls Try.prog 110 #[.agg #[.int .i64 4, .bool x, .int .i64 n, .int .i64 a, .int .i64 l, .string s]] w fun e w' => e = .returned (.bool (mayO 4 n a l s)) ∧ Below w.heap.size w w' := by
  obtain ⟨z, hz⟩ : ∃ z, mayO 4 n a l s = z := ⟨_, rfl⟩
  have q : ∀ m, (n = m ↔ (-1073741823) ≤ n ∧ n ≤ 1073741823) → ∀ w, (binOp .eql 24 (.agg #[.int .i64 4, .bool x, .int .i64 n, .int .i64 a, .int .i64 l, .string s]) (.agg #[.int .i64 4, .bool x, .int .i64 m, .int .i64 0, .int .i64 0, .string ⟨#[]⟩])).run Try.prog w = .ok (.bool z) w := fun m h w => by
    rw [eqO, ← hz, only_eq 4 n a l (-1073741823) 1073741823 m x s h]
    rfl
  rw [hz]
  clear hz
  have hc : n < (-1073741823) ∨ ((-1073741823) ≤ n ∧ n ≤ 1073741823) ∨ 1073741823 < n := by omega
  rcases hc with h | ⟨h, h'⟩ | h
  · replace q := q (-1073741823) (by omega)
    go_enter Try.func110, Try.ntmps110
    go_wp2
    go_ret
    exact ⟨rfl, box2_below _ _ _⟩
  · replace q := q n (by omega)
    go_enter Try.func110, Try.ntmps110
    go_wp2
    go_ret
    exact ⟨rfl, box2_below _ _ _⟩
  · replace q := q 1073741823 (by omega)
    go_enter Try.func110, Try.ntmps110
    go_wp2
    go_ret
    exact ⟨rfl, box2_below _ _ _⟩

theorem rmay_6 (n a l : Int) (x : Bool) (s : ByteArray) (w : World) :
    Calls Try.prog 110 #[.agg #[.int .i64 6, .bool x, .int .i64 n, .int .i64 a, .int .i64 l, .string s]] w fun e w' => e = .returned (.bool (mayO 6 n a l s)) ∧ Below w.heap.size w w' := by
  obtain ⟨z, hz⟩ : ∃ z, mayO 6 n a l s = z := ⟨_, rfl⟩
  have q : ∀ w, (binOp .eql 24 (.agg #[.int .i64 6, .bool x, .int .i64 n, .int .i64 a, .int .i64 l, .string s]) (.agg #[.int .i64 6, .bool x, .int .i64 0, .int .i64 0, .int .i64 0, .string ⟨#[]⟩])).run Try.prog w = .ok (.bool z) w := fun w => by
    rw [eqO, ← hz, only_eq 6 n a l 0 0 0 x s (by omega)]
    rfl
  rw [hz]
  clear hz
  go_enter Try.func110, Try.ntmps110
  go_wp2
  go_ret
  exact ⟨rfl, box2_below _ _ _⟩

theorem rmay_7 (n a l : Int) (x : Bool) (s : ByteArray) (w : World) :
    Calls Try.prog 110 #[.agg #[.int .i64 7, .bool x, .int .i64 n, .int .i64 a, .int .i64 l, .string s]] w fun e w' => e = .returned (.bool (mayO 7 n a l s)) ∧ Below w.heap.size w w' := by
  obtain ⟨z, hz⟩ : ∃ z, mayO 7 n a l s = z := ⟨_, rfl⟩
  have q : ∀ m, (n = m ↔ 1 ≤ n ∧ n ≤ 200) → ∀ w, (binOp .eql 24 (.agg #[.int .i64 7, .bool x, .int .i64 n, .int .i64 a, .int .i64 l, .string s]) (.agg #[.int .i64 7, .bool x, .int .i64 m, .int .i64 0, .int .i64 0, .string ⟨#[]⟩])).run Try.prog w = .ok (.bool z) w := fun m h w => by
    rw [eqO, ← hz, only_eq 7 n a l 1 200 m x s h]
    rfl
  rw [hz]
  clear hz
  have hc : n < 1 ∨ (1 ≤ n ∧ n ≤ 200) ∨ 200 < n := by omega
  rcases hc with h | ⟨h, h'⟩ | h
  · replace q := q 1 (by omega)
    go_enter Try.func110, Try.ntmps110
    go_wp2
    go_ret
    exact ⟨rfl, box2_below _ _ _⟩
  · replace q := q n (by omega)
    go_enter Try.func110, Try.ntmps110
    go_wp2
    go_ret
    exact ⟨rfl, box2_below _ _ _⟩
  · replace q := q 200 (by omega)
    go_enter Try.func110, Try.ntmps110
    go_wp2
    go_ret
    exact ⟨rfl, box2_below _ _ _⟩

theorem rmay_10 (n a l : Int) (x : Bool) (s : ByteArray) (w : World) :
    Calls Try.prog 110 #[.agg #[.int .i64 10, .bool x, .int .i64 n, .int .i64 a, .int .i64 l, .string s]] w fun e w' => e = .returned (.bool (mayO 10 n a l s)) ∧ Below w.heap.size w w' := by
  obtain ⟨z, hz⟩ : ∃ z, mayO 10 n a l s = z := ⟨_, rfl⟩
  have q : ∀ m, (n = m ↔ 0 ≤ n ∧ n ≤ 40000) → ∀ w, (binOp .eql 24 (.agg #[.int .i64 10, .bool x, .int .i64 n, .int .i64 a, .int .i64 l, .string s]) (.agg #[.int .i64 10, .bool x, .int .i64 m, .int .i64 0, .int .i64 0, .string ⟨#[]⟩])).run Try.prog w = .ok (.bool z) w := fun m h w => by
    rw [eqO, ← hz, only_eq 10 n a l 0 40000 m x s h]
    rfl
  rw [hz]
  clear hz
  have hc : n < 0 ∨ (0 ≤ n ∧ n ≤ 40000) ∨ 40000 < n := by omega
  rcases hc with h | ⟨h, h'⟩ | h
  · replace q := q 0 (by omega)
    go_enter Try.func110, Try.ntmps110
    go_wp2
    go_ret
    exact ⟨rfl, box2_below _ _ _⟩
  · replace q := q n (by omega)
    go_enter Try.func110, Try.ntmps110
    go_wp2
    go_ret
    exact ⟨rfl, box2_below _ _ _⟩
  · replace q := q 40000 (by omega)
    go_enter Try.func110, Try.ntmps110
    go_wp2
    go_ret
    exact ⟨rfl, box2_below _ _ _⟩

theorem rmay_11 (n a l : Int) (x : Bool) (s : ByteArray) (w : World) :
    Calls Try.prog 110 #[.agg #[.int .i64 11, .bool x, .int .i64 n, .int .i64 a, .int .i64 l, .string s]] w fun e w' => e = .returned (.bool (mayO 11 n a l s)) ∧ Below w.heap.size w w' := by
  obtain ⟨z, hz⟩ : ∃ z, mayO 11 n a l s = z := ⟨_, rfl⟩
  have q : ∀ m, (n = m ↔ 1 ≤ n ∧ n ≤ 2147483647) → ∀ w, (binOp .eql 24 (.agg #[.int .i64 11, .bool x, .int .i64 n, .int .i64 a, .int .i64 l, .string s]) (.agg #[.int .i64 11, .bool x, .int .i64 m, .int .i64 0, .int .i64 0, .string ⟨#[]⟩])).run Try.prog w = .ok (.bool z) w := fun m h w => by
    rw [eqO, ← hz, only_eq 11 n a l 1 2147483647 m x s h]
    rfl
  rw [hz]
  clear hz
  have hc : n < 1 ∨ (1 ≤ n ∧ n ≤ 2147483647) ∨ 2147483647 < n := by omega
  rcases hc with h | ⟨h, h'⟩ | h
  · replace q := q 1 (by omega)
    go_enter Try.func110, Try.ntmps110
    go_wp2
    go_ret
    exact ⟨rfl, box2_below _ _ _⟩
  · replace q := q n (by omega)
    go_enter Try.func110, Try.ntmps110
    go_wp2
    go_ret
    exact ⟨rfl, box2_below _ _ _⟩
  · replace q := q 2147483647 (by omega)
    go_enter Try.func110, Try.ntmps110
    go_wp2
    go_ret
    exact ⟨rfl, box2_below _ _ _⟩

end Go.Proofs.Ytmlkmgeddkpgiaa
