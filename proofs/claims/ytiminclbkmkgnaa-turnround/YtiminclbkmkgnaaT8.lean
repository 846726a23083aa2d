/- turn.Dir: what it answers. -/
import Derived.Test.YtiminclbkmkgnaaT7
namespace Go.Proofs.Ytiminclbkmkgnaa
open Go.RowKit
set_option linter.unusedVariables false

theorem tdirs (y x : Int) (hy : mayF y = true) (hx : mayF x = true) (hn : ¬(y = 0 ∧ x = 0)) : TDirs (begP y x) y x (sideN (uP y x) (vP y x)) (RP y x) := by
  obtain ⟨y0, y1⟩ := (may_iff y).1 hy
  obtain ⟨x0, x1⟩ := (may_iff x).1 hx
  obtain ⟨hb, he⟩ := dir_facts y x hy hx hn
  obtain ⟨b0, b1⟩ := beg_bd y x
  refine ⟨?_, rp_zero y x, hb, he, ?_⟩
  · intro k d nb ny nx w hk hd hc
    rw [hd, ← side_is y x k hk]
    exact side_any _ _ y x nb ny nx w (by omega) (by omega) b0 b1 y0 y1 x0 x1 hc
  · intro k hk h0 h1
    have a := hb k
    have c := hb (k + 1)
    have s := near_share _ _ h0 h1
    exact ⟨_, s.1, s.2, (rp_succ y x k).symm, fun w => ratio_any _ _ w h0 a.2 c.1 h1⟩

theorem asks (y x : Int) (w : World) (hy : mayF y = true) (hx : mayF x = true) (hn : ¬(y = 0 ∧ x = 0)) :
    Asks (w.heap.size + 1 + 1 + 1) (sideN (uP y x) (vP y x)) (V4 (begP y x) y x w) := by
  obtain ⟨hc, hf, hsz, hb⟩ := v4_facts (begP y x) y x w
  intro k w1 hk kb
  exact test_any (k : Int) _ _ _ _ _ w1 (cell_later kb hf) (Lib.hid ((tdirs y x hy hx hn).s k _ _ _ _ w1 (by omega) rfl (hc.later kb)))

theorem sides_fall (y x : Int) (hn : ¬(y = 0 ∧ x = 0)) (j k : Nat) (h : j ≤ k) (hk : k < 91) : sideN (uP y x) (vP y x) k ≤ sideN (uP y x) (vP y x) j := by
  obtain ⟨hu, hv⟩ := quad_uv y x hn
  have := side_downs _ _ hu hv (k - j) j (by omega)
  have e : j + (k - j) = k := by omega
  rwa [e] at this

set_option maxHeartbeats 400000 in
theorem dir_y (y x : Int) (w : World) (m1 : Hid (∀ w, Calls Try.prog 15 #[.int .i64 y] w fun e w' => e = .returned (.bool false) ∧ w = w')) :
    Calls Try.prog 9 #[.int .i64 y, .int .i64 x] w fun e w' => e = .returned (.tuple #[.int .i64 0, .bool false]) ∧ Below w.heap.size w w' := by
  go_enter Try.func9, Try.ntmps9
  go_wp2_with fail
  refine (m1.out _).mono ?_
  rintro e w' ⟨rfl, rfl⟩
  go_wp2
  go_ret2
  exact ⟨rfl, (w2b_facts y x w).2.2.2⟩

set_option maxHeartbeats 400000 in
theorem dir_x (y x : Int) (w : World) (m1 : Hid (∀ w, Calls Try.prog 15 #[.int .i64 y] w fun e w' => e = .returned (.bool true) ∧ w = w'))
    (m2 : Hid (∀ w, Calls Try.prog 15 #[.int .i64 x] w fun e w' => e = .returned (.bool false) ∧ w = w')) :
    Calls Try.prog 9 #[.int .i64 y, .int .i64 x] w fun e w' => e = .returned (.tuple #[.int .i64 0, .bool false]) ∧ Below w.heap.size w w' := by
  go_enter Try.func9, Try.ntmps9
  go_wp2_with fail
  refine (m1.out _).mono ?_
  rintro e w' ⟨rfl, rfl⟩
  go_wp2_with fail
  refine (m2.out _).mono ?_
  rintro e w' ⟨rfl, rfl⟩
  go_wp2
  go_ret2
  exact ⟨rfl, (w2b_facts y x w).2.2.2⟩

set_option maxHeartbeats 400000 in
theorem dir_zero (w : World) (m1 : Hid (∀ w, Calls Try.prog 15 #[.int .i64 0] w fun e w' => e = .returned (.bool true) ∧ w = w')) :
    Calls Try.prog 9 #[.int .i64 0, .int .i64 0] w fun e w' => e = .returned (.tuple #[.int .i64 0, .bool false]) ∧ Below w.heap.size w w' := by
  go_enter Try.func9, Try.ntmps9
  go_wp2_with fail
  refine (m1.out _).mono ?_
  rintro e w' ⟨rfl, rfl⟩
  go_wp2_with fail
  refine (m1.out _).mono ?_
  rintro e w' ⟨rfl, rfl⟩
  go_wp2
  go_ret2
  exact ⟨rfl, (w2b_facts 0 0 w).2.2.2⟩

theorem dir_any (y x : Int) (w : World) : Calls Try.prog 9 #[.int .i64 y, .int .i64 x] w fun e w' => e = .returned (.tuple #[.int .i64 (gate (okDir y x) (dirP y x)), .bool (okDir y x)]) ∧ Below w.heap.size w w' := by
  have m1 := Lib.hid (fun w => validT_any y w)
  have m2 := Lib.hid (fun w => validT_any x w)
  cases hy : mayF y
  · rw [okDir_y y x hy]
    rw [hy] at m1
    exact dir_y y x w m1
  · rw [hy] at m1
    cases hx : mayF x
    · rw [okDir_x y x hx]
      rw [hx] at m2
      exact dir_x y x w m1 m2
    · rw [hx] at m2
      by_cases hn : y = 0 ∧ x = 0
      · obtain ⟨rfl, rfl⟩ := hn
        rw [okDir_0]
        exact dir_zero w m1
      · rw [okDir_yes y x hy hx hn]
        obtain ⟨b0, b1⟩ := beg_bd y x
        have hs := search_any (w.heap.size + 1 + 1 + 1) (sideN (uP y x) (vP y x)) (V4 (begP y x) y x w) (Lib.hid (fun j k h hk => sides_fall y x hn j k h hk)) (Lib.hid (asks y x w hy hx hn))
        exact (dir_yes y x (begP y x) _ _ w (by omega) b0 b1 m1 m2 (Lib.hid (fun w => quadrant_any y x w)) (Lib.hid hs) (Lib.hid (tdirs y x hy hx hn))).mono fun e w' h => dir_of_res y x hn w w' e h
end Go.Proofs.Ytiminclbkmkgnaa
