/- Walks of the document's own answer for layer 3 (tympanref3). -/
import Derived.Test.YtelihdgpappklaaM6
import Derived.Test.YtelihdgpappklaaB0
namespace Go.Proofs.Ytelihdgpappklaa
open Go.RowKit
set_option linter.unusedVariables false

set_option maxHeartbeats 400000 in
theorem rmay_any (a : Int) (w : World) : Calls Try.prog 26 #[.int .i64 a] w fun e w' => e = .returned (.bool (mayF a)) ∧ w = w' := by
  by_cases h1 : -1073741823 ≤ a
  · by_cases h2 : a ≤ 1073741823
    · have H := Lib.hid ((may_iff a).2 ⟨h1, h2⟩)
      go_enter Try.func26, Try.ntmps26
      go_wp2
      go_ret
      exact ⟨ret_bool H.out.symm, rfl⟩
    · have H := Lib.hid ((may_not a).2 (by omega))
      go_enter Try.func26, Try.ntmps26
      go_wp2
      go_ret
      exact ⟨ret_bool H.out.symm, rfl⟩
  · have H := Lib.hid ((may_not a).2 (by omega))
    go_enter Try.func26, Try.ntmps26
    go_wp2
    go_ret
    exact ⟨ret_bool H.out.symm, rfl⟩

set_option maxHeartbeats 400000 in
theorem rheld_any (c : Int) (ok : Bool) (w : World) : Calls Try.prog 35 #[.int .i64 c, .bool ok] w fun e w' => e = .returned (.tuple #[.int .i64 (gate (ok && mayF c) c), .bool (ok && mayF c)]) ∧ w = w' := by
  have h1 := Lib.hid (fun w => rmay_any c w)
  generalize mayF c = x at *
  cases ok
  · go_enter Try.func35, Try.ntmps35
    go_wp2
    go_ret2
    exact ⟨ret_ok rfl rfl, rfl⟩
  · cases x
    · go_enter Try.func35, Try.ntmps35
      go_wp2_with fail
      refine (h1.out _).mono ?_
      rintro e w' ⟨rfl, rfl⟩
      go_wp2
      go_ret2
      exact ⟨ret_ok rfl rfl, rfl⟩
    · go_enter Try.func35, Try.ntmps35
      go_wp2_with fail
      refine (h1.out _).mono ?_
      rintro e w' ⟨rfl, rfl⟩
      go_wp2
      go_ret2
      exact ⟨ret_ok rfl rfl, rfl⟩

set_option maxHeartbeats 400000 in
theorem rfrom_any (v : Int) (w : World) : Calls Try.prog 27 #[.int .i64 v] w fun e w' => e = .returned (.tuple #[.int .i64 (gate (mayF (v * 65536)) (v * 65536)), .bool (mayF (v * 65536))]) ∧ w = w' := by
  have h1 := Lib.hid (fun w => rmay_any v w)
  have h2 := Lib.hid (fun w => rheld_any (v * 65536) true w)
  have hm := may_iff v
  have hn := may_iff (v * 65536)
  generalize mayF (v * 65536) = y at *
  generalize mayF v = x at *
  cases x
  · have hv : ¬(-1073741823 ≤ v ∧ v ≤ 1073741823) := fun h => by have := hm.2 h; simp at this
    have hy : y = false := by
      cases y
      · rfl
      · have := hn.1 rfl; omega
    subst hy
    clear hm hn hv
    go_enter Try.func27, Try.ntmps27
    go_wp2_with fail
    refine (h1.out _).mono ?_
    rintro e w' ⟨rfl, rfl⟩
    go_wp2
    go_ret2
    exact ⟨ret_ok rfl rfl, rfl⟩
  · obtain ⟨v0, v1⟩ := hm.1 rfl
    clear hm hn
    go_enter Try.func27, Try.ntmps27
    go_wp2_with fail
    refine (h1.out _).mono ?_
    rintro e w' ⟨rfl, rfl⟩
    go_wp2_with fail
    refine (h2.out _).mono ?_
    rintro e w' ⟨rfl, rfl⟩
    go_wp2
    go_ret2
    exact ⟨ret_ok rfl rfl, rfl⟩

end Go.Proofs.Ytelihdgpappklaa
