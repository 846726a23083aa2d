/- Walks of the document's own answer for layer 3 (tympanref3). -/
import Derived.Test.YtagdagojfmafpaaM6
import Derived.Test.YtagdagojfmafpaaR6
import Derived.Test.YtagdagojfmafpaaW10
import Derived.Laws.Bits128
namespace Go.Proofs.Ytagdagojfmafpaa
open Go.RowKit
set_option linter.unusedVariables false

set_option maxHeartbeats 400000 in
theorem rmay_any (a : Int) (w : World) : Calls Try.prog 32 #[.int .i64 a] w fun e w' => e = .returned (.bool (mayF a)) ∧ w = w' := by
  by_cases h1 : -1073741823 ≤ a
  · by_cases h2 : a ≤ 1073741823
    · have H := Lib.hid ((may_iff a).2 ⟨h1, h2⟩)
      go_enter Try.func32, Try.ntmps32
      go_wp2
      go_ret
      exact ⟨ret_bool H.out.symm, rfl⟩
    · have H := Lib.hid ((may_not a).2 (by omega))
      go_enter Try.func32, Try.ntmps32
      go_wp2
      go_ret
      exact ⟨ret_bool H.out.symm, rfl⟩
  · have H := Lib.hid ((may_not a).2 (by omega))
    go_enter Try.func32, Try.ntmps32
    go_wp2
    go_ret
    exact ⟨ret_bool H.out.symm, rfl⟩

set_option maxHeartbeats 400000 in
theorem rheld_any (c : Int) (ok : Bool) (w : World) : Calls Try.prog 33 #[.int .i64 c, .bool ok] w fun e w' => e = .returned (.tuple #[.int .i64 (gate (ok && mayF c) c), .bool (ok && mayF c)]) ∧ w = w' := by
  have h1 := Lib.hid (fun w => rmay_any c w)
  generalize mayF c = x at *
  cases ok
  · go_enter Try.func33, Try.ntmps33
    go_wp2
    go_ret2
    exact ⟨ret_ok rfl rfl, rfl⟩
  · cases x
    · go_enter Try.func33, Try.ntmps33
      go_wp2_with fail
      refine (h1.out _).mono ?_
      rintro e w' ⟨rfl, rfl⟩
      go_wp2
      go_ret2
      exact ⟨ret_ok rfl rfl, rfl⟩
    · go_enter Try.func33, Try.ntmps33
      go_wp2_with fail
      refine (h1.out _).mono ?_
      rintro e w' ⟨rfl, rfl⟩
      go_wp2
      go_ret2
      exact ⟨ret_ok rfl rfl, rfl⟩

set_option maxHeartbeats 400000 in
theorem rcut_any (a : Int) (w : World) : Calls Try.prog 44 #[.int .i64 a] w fun e w' => e = .returned (.int .i64 (clampF a)) ∧ w = w' := by
  go_enter Try.func44, Try.ntmps44
  go_wp2
  go_ret
  exact ⟨ret_int (by unfold clampF; repeat' split
                     all_goals omega), rfl⟩

set_option maxHeartbeats 400000 in
theorem rfrom_any (v : Int) (w : World) : Calls Try.prog 10 #[.int .i64 v] w fun e w' => e = .returned (.tuple #[.int .i64 (gate (mayF (v * 65536)) (v * 65536)), .bool (mayF (v * 65536))]) ∧ w = w' := by
  have h1 := Lib.hid (fun w => rmay_any v w)
  have h2 := Lib.hid (fun w => rheld_any (v * 65536) true w)
  have hm := may_iff v
  have hn := may_iff (v * 65536)
  generalize mayF (v * 65536) = y at *
  generalize mayF v = x at *
  cases x
  · have hv : ¬(-1073741823 ≤ v ∧ v ≤ 1073741823) := fun h => by have := hm.2 h; simp at this
    have hy : y = false := by
      cases y
      · rfl
      · have := hn.1 rfl; omega
    subst hy
    clear hm hn hv
    go_enter Try.func10, Try.ntmps10
    go_wp2_with fail
    refine (h1.out _).mono ?_
    rintro e w' ⟨rfl, rfl⟩
    go_wp2
    go_ret2
    exact ⟨ret_ok rfl rfl, rfl⟩
  · obtain ⟨v0, v1⟩ := hm.1 rfl
    clear hm hn
    go_enter Try.func10, Try.ntmps10
    go_wp2_with fail
    refine (h1.out _).mono ?_
    rintro e w' ⟨rfl, rfl⟩
    go_wp2_with fail
    refine (h2.out _).mono ?_
    rintro e w' ⟨rfl, rfl⟩
    go_wp2
    go_ret2
    exact ⟨ret_ok rfl rfl, rfl⟩

set_option maxHeartbeats 400000 in
theorem radd_any (a b : Int) (w : World) : Calls Try.prog 12 #[.int .i64 a, .int .i64 b] w fun e w' => e = .returned (.tuple #[.int .i64 (gate (okAdd a b) (a + b)), .bool (okAdd a b)]) ∧ w = w' := by
  have h1 := Lib.hid (fun w => rmay_any a w)
  have h2 := Lib.hid (fun w => rmay_any b w)
  have h3 := Lib.hid (fun w => rheld_any (a + b) true w)
  have hm := may_iff a
  have hn := may_iff b
  unfold okAdd
  generalize mayF (a + b) = z at *
  generalize mayF a = x at *
  generalize mayF b = y at *
  cases x
  · clear hm hn
    go_enter Try.func12, Try.ntmps12
    go_wp2_with fail
    refine (h1.out _).mono ?_
    rintro e w' ⟨rfl, rfl⟩
    go_wp2
    go_ret2
    exact ⟨ret_ok rfl rfl, rfl⟩
  · cases y
    · clear hm hn
      go_enter Try.func12, Try.ntmps12
      go_wp2_with fail
      refine (h1.out _).mono ?_
      rintro e w' ⟨rfl, rfl⟩
      go_wp2_with fail
      refine (h2.out _).mono ?_
      rintro e w' ⟨rfl, rfl⟩
      go_wp2
      go_ret2
      exact ⟨ret_ok rfl rfl, rfl⟩
    · obtain ⟨a0, a1⟩ := hm.1 rfl
      obtain ⟨b0, b1⟩ := hn.1 rfl
      clear hm hn
      go_enter Try.func12, Try.ntmps12
      go_wp2_with fail
      refine (h1.out _).mono ?_
      rintro e w' ⟨rfl, rfl⟩
      go_wp2_with fail
      refine (h2.out _).mono ?_
      rintro e w' ⟨rfl, rfl⟩
      go_wp2_with fail
      refine (h3.out _).mono ?_
      rintro e w' ⟨rfl, rfl⟩
      go_wp2
      go_ret2
      exact ⟨ret_ok rfl rfl, rfl⟩

set_option maxHeartbeats 400000 in
theorem rsub_any (a b : Int) (w : World) : Calls Try.prog 14 #[.int .i64 a, .int .i64 b] w fun e w' => e = .returned (.tuple #[.int .i64 (gate (okSub a b) (a - b)), .bool (okSub a b)]) ∧ w = w' := by
  have h1 := Lib.hid (fun w => rmay_any a w)
  have h2 := Lib.hid (fun w => rmay_any b w)
  have h3 := Lib.hid (fun w => rheld_any (a - b) true w)
  have hm := may_iff a
  have hn := may_iff b
  unfold okSub
  generalize mayF (a - b) = z at *
  generalize mayF a = x at *
  generalize mayF b = y at *
  cases x
  · clear hm hn
    go_enter Try.func14, Try.ntmps14
    go_wp2_with fail
    refine (h1.out _).mono ?_
    rintro e w' ⟨rfl, rfl⟩
    go_wp2
    go_ret2
    exact ⟨ret_ok rfl rfl, rfl⟩
  · cases y
    · clear hm hn
      go_enter Try.func14, Try.ntmps14
      go_wp2_with fail
      refine (h1.out _).mono ?_
      rintro e w' ⟨rfl, rfl⟩
      go_wp2_with fail
      refine (h2.out _).mono ?_
      rintro e w' ⟨rfl, rfl⟩
      go_wp2
      go_ret2
      exact ⟨ret_ok rfl rfl, rfl⟩
    · obtain ⟨a0, a1⟩ := hm.1 rfl
      obtain ⟨b0, b1⟩ := hn.1 rfl
      clear hm hn
      go_enter Try.func14, Try.ntmps14
      go_wp2_with fail
      refine (h1.out _).mono ?_
      rintro e w' ⟨rfl, rfl⟩
      go_wp2_with fail
      refine (h2.out _).mono ?_
      rintro e w' ⟨rfl, rfl⟩
      go_wp2_with fail
      refine (h3.out _).mono ?_
      rintro e w' ⟨rfl, rfl⟩
      go_wp2
      go_ret2
      exact ⟨ret_ok rfl rfl, rfl⟩

set_option maxHeartbeats 400000 in
theorem rmulF_any (a b : Int) (w : World) (ha0 : -9223372036854775808 ≤ a) (ha1 : a ≤ 9223372036854775807) (hb0 : -9223372036854775808 ≤ b) (hb1 : b ≤ 9223372036854775807) :
    Calls Try.prog 16 #[.int .i64 a, .int .i64 b] w fun e w' => e = .returned (.tuple #[.int .i64 (gate (okMul a b) (near (a * b) 65536)), .bool (okMul a b)]) ∧ Below w.heap.size w w' := by
  have h1 := Lib.hid (fun w => rmay_any a w)
  have h2 := Lib.hid (fun w => rmay_any b w)
  have h3 := Lib.hid (fun w => rmuldiv_any a b 65536 w (by omega) (by omega) (by omega) (by omega) (by omega) (by omega))
  have h4 := Lib.hid (fun w => rheld_any (valOf 65536 (near (a * b) 65536)) (okOf 65536 (near (a * b) 65536)) w)
  have hm := may_iff a
  have hn := may_iff b
  have e1 := div_val 65536 (near (a * b) 65536) (mayF a && mayF b)
  have e2 := div_may 65536 (near (a * b) 65536)
  have e3 : okMul a b = (mayF a && mayF b && (decide ((65536 : Int) ≠ 0) && mayF (near (a * b) 65536))) := rfl
  rw [e3, ← e1, ← e2]
  clear e1 e2 e3
  generalize (okOf 65536 (near (a * b) 65536) && mayF (valOf 65536 (near (a * b) 65536))) = z at *
  generalize okOf 65536 (near (a * b) 65536) = t at *
  generalize valOf 65536 (near (a * b) 65536) = v at *
  generalize mayF a = x at *
  generalize mayF b = y at *
  cases x
  · clear hm hn
    go_enter Try.func16, Try.ntmps16
    go_wp2_with fail
    refine (h1.out _).mono ?_
    rintro e w' ⟨rfl, rfl⟩
    go_wp2
    go_ret2
    exact ⟨ret_ok rfl rfl, Below.refl _ _⟩
  · cases y
    · clear hm hn
      go_enter Try.func16, Try.ntmps16
      go_wp2_with fail
      refine (h1.out _).mono ?_
      rintro e w' ⟨rfl, rfl⟩
      go_wp2_with fail
      refine (h2.out _).mono ?_
      rintro e w' ⟨rfl, rfl⟩
      go_wp2
      go_ret2
      exact ⟨ret_ok rfl rfl, Below.refl _ _⟩
    · obtain ⟨a0, a1⟩ := hm.1 rfl
      obtain ⟨b0, b1⟩ := hn.1 rfl
      clear hm hn
      go_enter Try.func16, Try.ntmps16
      go_wp2_with fail
      refine (h1.out _).mono ?_
      rintro e w' ⟨rfl, rfl⟩
      go_wp2_with fail
      refine (h2.out _).mono ?_
      rintro e w' ⟨rfl, rfl⟩
      go_wp2_with fail
      refine (h3.out _).mono ?_
      rintro e w1 ⟨rfl, k1⟩
      go_wp2_with fail
      refine (h4.out _).mono ?_
      rintro e w' ⟨rfl, rfl⟩
      go_wp2
      go_ret2
      exact ⟨ret_ok rfl rfl, k1⟩

set_option maxHeartbeats 400000 in
theorem rdivF_any (a b : Int) (w : World) (ha0 : -9223372036854775808 ≤ a) (ha1 : a ≤ 9223372036854775807) (hb0 : -9223372036854775808 ≤ b) (hb1 : b ≤ 9223372036854775807) :
    Calls Try.prog 18 #[.int .i64 a, .int .i64 b] w fun e w' => e = .returned (.tuple #[.int .i64 (gate (okDiv a b) (near (a * 65536) b)), .bool (okDiv a b)]) ∧ Below w.heap.size w w' := by
  have h1 := Lib.hid (fun w => rmay_any a w)
  have h2 := Lib.hid (fun w => rmay_any b w)
  have h3 := Lib.hid (fun w => rmuldiv_any a 65536 b w (by omega) (by omega) (by omega) (by omega) (by omega) (by omega))
  have h4 := Lib.hid (fun w => rheld_any (valOf b (near (a * 65536) b)) (okOf b (near (a * 65536) b)) w)
  have hm := may_iff a
  have hn := may_iff b
  have e1 := div_val b (near (a * 65536) b) (mayF a && mayF b)
  have e2 := div_may b (near (a * 65536) b)
  have e3 : okDiv a b = (mayF a && mayF b && (decide (b ≠ 0) && mayF (near (a * 65536) b))) := rfl
  rw [e3, ← e1, ← e2]
  clear e1 e2 e3
  generalize (okOf b (near (a * 65536) b) && mayF (valOf b (near (a * 65536) b))) = z at *
  generalize okOf b (near (a * 65536) b) = t at *
  generalize valOf b (near (a * 65536) b) = v at *
  generalize mayF a = x at *
  generalize mayF b = y at *
  cases x
  · clear hm hn
    go_enter Try.func18, Try.ntmps18
    go_wp2_with fail
    refine (h1.out _).mono ?_
    rintro e w' ⟨rfl, rfl⟩
    go_wp2
    go_ret2
    exact ⟨ret_ok rfl rfl, Below.refl _ _⟩
  · cases y
    · clear hm hn
      go_enter Try.func18, Try.ntmps18
      go_wp2_with fail
      refine (h1.out _).mono ?_
      rintro e w' ⟨rfl, rfl⟩
      go_wp2_with fail
      refine (h2.out _).mono ?_
      rintro e w' ⟨rfl, rfl⟩
      go_wp2
      go_ret2
      exact ⟨ret_ok rfl rfl, Below.refl _ _⟩
    · obtain ⟨a0, a1⟩ := hm.1 rfl
      obtain ⟨b0, b1⟩ := hn.1 rfl
      clear hm hn
      go_enter Try.func18, Try.ntmps18
      go_wp2_with fail
      refine (h1.out _).mono ?_
      rintro e w' ⟨rfl, rfl⟩
      go_wp2_with fail
      refine (h2.out _).mono ?_
      rintro e w' ⟨rfl, rfl⟩
      go_wp2_with fail
      refine (h3.out _).mono ?_
      rintro e w1 ⟨rfl, k1⟩
      go_wp2_with fail
      refine (h4.out _).mono ?_
      rintro e w' ⟨rfl, rfl⟩
      go_wp2
      go_ret2
      exact ⟨ret_ok rfl rfl, k1⟩

end Go.Proofs.Ytagdagojfmafpaa
