/- number, and three numbers in a row. -/
import Derived.Test.YtelihdgpappklaaO8
import Derived.Test.YtelihdgpappklaaH1
namespace Go.Proofs.Ytelihdgpappklaa
open Go.RowKit
set_option linter.unusedVariables false

def numK (x : Bool) : Int := if x = true then 4 else 3
def numN (v : Int) (x : Bool) : Int := if x = true then v % 2147483647 - 1073741823 else v % 4294967295 - 2147483647
theorem numO_yes (v : Int) (x : Bool) : numO (numK x) (numN v x) 0 0 ⟨#[]⟩ = true := by
  rw [num_iff]
  cases x
  · have h0 := Int.emod_nonneg v (by omega : (4294967295 : Int) ≠ 0)
    have h1 := Int.emod_lt_of_pos v (by omega : (0 : Int) < 4294967295)
    refine ⟨.inl ⟨rfl, ?_, ?_⟩, rfl, rfl, rfl⟩ <;> simp [numN] <;> omega
  · have h0 := Int.emod_nonneg v (by omega : (2147483647 : Int) ≠ 0)
    have h1 := Int.emod_lt_of_pos v (by omega : (0 : Int) < 2147483647)
    refine ⟨.inr ⟨rfl, ?_, ?_⟩, rfl, rfl, rfl⟩ <;> simp [numN] <;> omega

theorem number_any (v : Int) (x : Bool) (w : World) : Calls Try.prog 19 #[.int .i64 v, .bool x] w fun e w' => e = .returned (.agg #[.int .i64 (numK x), .bool false, .int .i64 (numN v x), .int .i64 0, .int .i64 0, .string ⟨#[]⟩]) ∧ Below w.heap.size w w' := by
  cases x
  · have h := Lib.hid (fun w => place_any v 4294967295 w (by omega) (by omega))
    have h0 := Int.emod_nonneg v (by omega : (4294967295 : Int) ≠ 0)
    have h1 := Int.emod_lt_of_pos v (by omega : (0 : Int) < 4294967295)
    have N : Hid (numN v false = v % 4294967295 - 2147483647) := Lib.hid (by simp [numN])
    generalize v % 4294967295 = r at *
    go_enter Try.func19, Try.ntmps19
    go_wp2_with fail
    refine (h.out _).mono ?_
    rintro e wc ⟨rfl, rfl⟩
    go_wp2
    (try simp only [Exit.inBlock, Exit.then])
    refine bodyPost_ret (results_cell_row rfl _ _ _ _ _ _ _ rfl (heap_alloc_new _ _) Try.underlying23 rfl (by kernel_rfl)) rfl ⟨?_, box_below _ _⟩
    rw [N.out]
    rfl
  · have h := Lib.hid (fun w => place_any v 2147483647 w (by omega) (by omega))
    have h0 := Int.emod_nonneg v (by omega : (2147483647 : Int) ≠ 0)
    have h1 := Int.emod_lt_of_pos v (by omega : (0 : Int) < 2147483647)
    have N : Hid (numN v true = v % 2147483647 - 1073741823) := Lib.hid (by simp [numN])
    generalize v % 2147483647 = r at *
    go_enter Try.func19, Try.ntmps19
    go_wp2_with fail
    refine (h.out _).mono ?_
    rintro e wc ⟨rfl, rfl⟩
    go_wp2
    (try simp only [Exit.inBlock, Exit.then])
    refine bodyPost_ret (results_cell_row rfl _ _ _ _ _ _ _ rfl (heap_alloc_new _ _) Try.underlying23 rfl (by kernel_rfl)) rfl ⟨?_, box_below _ _⟩
    rw [N.out]
    rfl
end Go.Proofs.Ytelihdgpappklaa
