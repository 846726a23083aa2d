/- tympanref4.Dir: what it answers. -/
import Derived.Test.YtiminclbkmkgnaaT4
namespace Go.Proofs.Ytiminclbkmkgnaa
open Go.RowKit
set_option linter.unusedVariables false

def RP (y x : Int) (m : Nat) : Int := (begP y x + partAt (uP y x) (vP y x) m) % 23592960

theorem beg_bd (y x : Int) : 0 ≤ begP y x ∧ begP y x ≤ 17694720 := by have := quad_lt y x; unfold begP; omega
theorem rp_zero (y x : Int) : RP y x 0 = begP y x := by
  have := beg_bd y x
  unfold RP partAt
  rw [if_pos rfl]; omega
theorem rp_succ (y x : Int) (k : Nat) : RP y x (k + 1) = (begP y x + (k : Int) * 65536 + near (sideN (uP y x) (vP y x) k * 65536) (sideN (uP y x) (vP y x) k - sideN (uP y x) (vP y x) (k + 1))) % 23592960 := by
  unfold RP partAt
  rw [if_neg (by omega), Nat.add_sub_cancel, Int.add_assoc]

theorem okDir_yes (y x : Int) (hy : mayF y = true) (hx : mayF x = true) (hn : ¬(y = 0 ∧ x = 0)) : okDir y x = true := by
  unfold okDir
  rw [hy, hx]
  by_cases h : y = 0
  · have h' : x ≠ 0 := fun h' => hn ⟨h, h'⟩
    simp [h']
  · simp [h]
theorem okDir_y (y x : Int) (hy : mayF y = false) : okDir y x = false := by unfold okDir; rw [hy]; rfl
theorem okDir_x (y x : Int) (hx : mayF x = false) : okDir y x = false := by unfold okDir; rw [hx, Bool.and_false]; rfl
theorem okDir_0 : okDir 0 0 = false := by decide

theorem dir_facts (y x : Int) (hy : mayF y = true) (hx : mayF x = true) (hn : ¬(y = 0 ∧ x = 0)) :
    (∀ k, -70368744112128 ≤ sideN (uP y x) (vP y x) k ∧ sideN (uP y x) (vP y x) k ≤ 70368744112128) ∧ sideN (uP y x) (vP y x) 90 ≤ 0 := by
  obtain ⟨y0, y1⟩ := (may_iff y).1 hy
  obtain ⟨x0, x1⟩ := (may_iff x).1 hx
  obtain ⟨hu, hv⟩ := quad_uv y x hn
  obtain ⟨hu', hv'⟩ := uv_bd y x y0 y1 x0 x1
  exact ⟨fun k => side_bd _ _ k hu hv hu' hv', Int.le_of_lt (side_end _ _ hu hv)⟩

theorem rdirs (y x : Int) (hy : mayF y = true) (hx : mayF x = true) (hn : ¬(y = 0 ∧ x = 0)) : RDirs (begP y x) y x (sideN (uP y x) (vP y x)) (RP y x) := by
  obtain ⟨y0, y1⟩ := (may_iff y).1 hy
  obtain ⟨x0, x1⟩ := (may_iff x).1 hx
  obtain ⟨hb, he⟩ := dir_facts y x hy hx hn
  obtain ⟨b0, b1⟩ := beg_bd y x
  refine ⟨fun w => rquarter_any y x w, ?_, rp_zero y x, hb, he, ?_⟩
  · intro k deg w hk hd
    rw [hd, ← side_is y x k hk]
    exact rside_any _ y x w y0 y1 x0 x1
  · intro k deg w hk hd h0 h1
    have a := hb k
    have c := hb (k + 1)
    rw [rp_succ, ← hd]
    exact rbetween_any deg _ _ w (by omega) (by omega) h0 (by omega) (by omega) h1

theorem dir_of_res (y x : Int) (hn : ¬(y = 0 ∧ x = 0)) (w w' : World) (e : Ending) (h : DirRes (sideN (uP y x) (vP y x)) (RP y x) w e w') :
    e = .returned (.tuple #[.int .i64 (dirP y x), .bool true]) ∧ Below w.heap.size w w' := by
  obtain ⟨m, hm, h1, h2, he, hb⟩ := h
  have hk := kOf_is _ _ m hm h1 h2
  refine ⟨?_, hb⟩
  rw [he]
  unfold RP dirP partN
  rw [hk]

set_option maxHeartbeats 400000 in
theorem rdir_zero (w : World) : Calls Try.prog 10 #[.int .i64 0, .int .i64 0] w fun e w' => e = .returned (.tuple #[.int .i64 0, .bool false]) ∧ Below w.heap.size w w' := by
  go_enter Try.func10, Try.ntmps10
  go_wp2
  go_ret2
  exact ⟨rfl, Below.refl _ _⟩

set_option maxHeartbeats 400000 in
theorem rdir_x (y x : Int) (w : World) (hx : ¬(-1073741823 ≤ x ∧ x ≤ 1073741823)) (m1 : Hid (∀ w, Calls Try.prog 22 #[.int .i64 x] w fun e w' => e = .returned (.bool false) ∧ w = w')) :
    Calls Try.prog 10 #[.int .i64 y, .int .i64 x] w fun e w' => e = .returned (.tuple #[.int .i64 0, .bool false]) ∧ Below w.heap.size w w' := by
  have hz : (x == 0) = false := by simp; omega
  clear hx
  go_enter Try.func10, Try.ntmps10
  go_wp2_with fail
  refine (m1.out _).mono ?_
  rintro e w' ⟨rfl, rfl⟩
  go_wp2
  go_ret2
  exact ⟨rfl, Below.refl _ _⟩

set_option maxHeartbeats 400000 in
theorem rdir_y (y x : Int) (w : World) (hy : ¬(-1073741823 ≤ y ∧ y ≤ 1073741823)) (m1 : Hid (∀ w, Calls Try.prog 22 #[.int .i64 x] w fun e w' => e = .returned (.bool true) ∧ w = w'))
    (m2 : Hid (∀ w, Calls Try.prog 22 #[.int .i64 y] w fun e w' => e = .returned (.bool false) ∧ w = w')) :
    Calls Try.prog 10 #[.int .i64 y, .int .i64 x] w fun e w' => e = .returned (.tuple #[.int .i64 0, .bool false]) ∧ Below w.heap.size w w' := by
  have hz : (y == 0) = false := by simp; omega
  clear hy
  by_cases h : x = 0
  · have hx : (x == 0) = true := by simpa using h
    clear h
    go_enter Try.func10, Try.ntmps10
    go_wp2_with fail
    refine (m1.out _).mono ?_
    rintro e w' ⟨rfl, rfl⟩
    go_wp2_with fail
    refine (m2.out _).mono ?_
    rintro e w' ⟨rfl, rfl⟩
    go_wp2
    go_ret2
    exact ⟨rfl, Below.refl _ _⟩
  · have hx : (x == 0) = false := by simpa using h
    clear h
    go_enter Try.func10, Try.ntmps10
    go_wp2_with fail
    refine (m1.out _).mono ?_
    rintro e w' ⟨rfl, rfl⟩
    go_wp2_with fail
    refine (m2.out _).mono ?_
    rintro e w' ⟨rfl, rfl⟩
    go_wp2
    go_ret2
    exact ⟨rfl, Below.refl _ _⟩

theorem rdir_any (y x : Int) (w : World) : Calls Try.prog 10 #[.int .i64 y, .int .i64 x] w fun e w' => e = .returned (.tuple #[.int .i64 (gate (okDir y x) (dirP y x)), .bool (okDir y x)]) ∧ Below w.heap.size w w' := by
  by_cases hn : y = 0 ∧ x = 0
  · obtain ⟨rfl, rfl⟩ := hn
    rw [okDir_0]
    exact rdir_zero w
  · have m1 := Lib.hid (fun w => rmay_any x w)
    have m2 := Lib.hid (fun w => rmay_any y w)
    cases hx : mayF x
    · rw [okDir_x y x hx]
      rw [hx] at m1
      exact rdir_x y x w ((may_not x).1 hx) m1
    · rw [hx] at m1
      cases hy : mayF y
      · rw [okDir_y y x hy]
        rw [hy] at m2
        exact rdir_y y x w ((may_not y).1 hy) m1 m2
      · rw [hy] at m2
        rw [okDir_yes y x hy hx hn]
        obtain ⟨b0, b1⟩ := beg_bd y x
        exact (rdir_yes y x (begP y x) _ _ w (by omega) b0 b1 m1 m2 (Lib.hid (rdirs y x hy hx hn))).mono fun e w' h => dir_of_res y x hn w w' e h
end Go.Proofs.Ytiminclbkmkgnaa
