/- Walk of tympanref4.Dir. -/
import Derived.Test.YtiminclbkmkgnaaT3
namespace Go.Proofs.Ytiminclbkmkgnaa
open Go.RowKit
set_option linter.unusedVariables false

/-- The answer of a search through the degrees of a quarter: m is the first with S m not above 0. -/
def DirRes (S R : Nat → Int) (w : World) (e : Ending) (w' : World) : Prop :=
  ∃ m : Nat, m ≤ 90 ∧ (∀ j, j < m → 0 < S j) ∧ (m < 90 → S m ≤ 0) ∧ e = .returned (.tuple #[.int .i64 (R m), .bool true]) ∧ Below w.heap.size w w'

/-- What the calls of one search answer. -/
structure RDirs (b y x : Int) (S R : Nat → Int) : Prop where
  q : ∀ w, Calls Try.prog 23 #[.int .i64 y, .int .i64 x] w fun e w' => e = .returned (.int .i64 b) ∧ w = w'
  s : ∀ (k : Nat) (deg : Int) (w : World), k < 91 → deg = b + (k : Int) * 65536 → Calls Try.prog 24 #[.int .i64 deg, .int .i64 y, .int .i64 x] w fun e w' => e = .returned (.int .i64 (S k)) ∧ Below w.heap.size w w'
  z : R 0 = b
  bd : ∀ k, -70368744112128 ≤ S k ∧ S k ≤ 70368744112128
  e : S 90 ≤ 0
  r : ∀ (k : Nat) (deg : Int) (w : World), k < 90 → deg = b + (k : Int) * 65536 → 0 < S k → S (k + 1) ≤ 0 →
    Calls Try.prog 25 #[.int .i64 deg, .int .i64 (S k), .int .i64 (S (k + 1))] w fun e w' => e = .returned (.int .i64 (R (k + 1))) ∧ Below w.heap.size w w'

set_option maxHeartbeats 1000000 in
theorem rdir_yes (y x b : Int) (S R : Nat → Int) (w : World) (hn : ¬(x = 0 ∧ y = 0)) (b0 : 0 ≤ b) (b1 : b ≤ 17694720)
    (m1 : Hid (∀ w, Calls Try.prog 22 #[.int .i64 x] w fun e w' => e = .returned (.bool true) ∧ w = w'))
    (m2 : Hid (∀ w, Calls Try.prog 22 #[.int .i64 y] w fun e w' => e = .returned (.bool true) ∧ w = w'))
    (H : Hid (RDirs b y x S R)) :
    Calls Try.prog 10 #[.int .i64 y, .int .i64 x] w (DirRes S R w) := by
  have hz : ((x == 0) = true ∧ (y == 0) = false) ∨ (x == 0) = false := by
    by_cases h : x = 0
    · left; constructor
      · simpa using h
      · simp; omega
    · right; simpa using h
  go_enter Try.func10, Try.ntmps10
  go_upto_region 1 with fail
  go_cut [25] from 6 to 66 (fun c wx => c = .bool false ∧ w = wx)
  case first =>
    rcases hz with ⟨hx, hy⟩ | hx
    · clear hn
      go_wp2_with fail
      refine (m1.out _).mono ?_
      rintro e w' ⟨rfl, rfl⟩
      go_wp2_with fail
      refine (m2.out _).mono ?_
      rintro e w' ⟨rfl, rfl⟩
      go_wp2_with fail
      go_meet
      exact ⟨rfl, rfl⟩
    · clear hn
      go_wp2_with fail
      refine (m1.out _).mono ?_
      rintro e w' ⟨rfl, rfl⟩
      go_wp2_with fail
      refine (m2.out _).mono ?_
      rintro e w' ⟨rfl, rfl⟩
      go_wp2_with fail
      go_meet
      exact ⟨rfl, rfl⟩
  case rest =>
    obtain ⟨rfl, rfl⟩ := hcut
    clear hz hn
    go_wp2_with fail
    refine (H.out.q _).mono ?_
    rintro e w' ⟨rfl, rfl⟩
    go_wp2_with fail
    refine (H.out.s 0 b _ (by omega) (by omega)).mono ?_
    rintro e w1 ⟨rfl, k1⟩
    by_cases hs0 : S 0 ≤ 0
    · go_wp2
      go_ret2
      exact ⟨0, by omega, fun j hj => absurd hj (by omega), fun _ => hs0, ret_ok H.out.z.symm rfl, k1⟩
    · have hs0' : 0 < S 0 := by omega
      clear hs0
      have P0 := Lib.hid hs0'
      go_wp2
      clear hs0'
      go_loopw [7, 8] (fun f i wr => ∃ n : Nat, n < 90 ∧ i = .int .i64 ((n : Int) + 1) ∧ f = .int .i64 (S n) ∧ Hid (∀ j, j ≤ n → 0 < S j) ∧ Below w.heap.size w wr)
        (fun _ i _ => 90 - (intOf i).toNat)
      case atStart => exact ⟨0, by omega, rfl, rfl, Lib.hid (fun j hj => by have : j = 0 := by omega
                                                                            subst this; exact P0.out), k1⟩
      case round =>
        obtain ⟨n, hn, rfl, rfl, hp, kr⟩ := hrel
        have kr := Lib.hid kr
        by_cases h90 : n + 1 < 90
        · go_wp2_with fail
          refine (H.out.s (n + 1) _ _ (by omega) (by omega)).mono ?_
          rintro e w2 ⟨rfl, k2⟩
          have k3 := Lib.hid (kr.out.trans (k2.mono kr.out.size))
          clear k2
          by_cases hs : S (n + 1) ≤ 0
          · have hs' := Lib.hid hs
            go_wp2_with fail
            refine (H.out.r n _ _ (by omega) (by omega) (hp.out n (by omega)) hs'.out).mono ?_
            rintro e w3 ⟨rfl, k4⟩
            go_wp2
            go_ret2
            exact ⟨n + 1, by omega, fun j hj => hp.out j (by omega), fun _ => hs'.out, ret_ok rfl rfl, k3.out.trans (k4.mono k3.out.size)⟩
          · have hs' := Lib.hid (show 0 < S (n + 1) by omega)
            go_wp2
            go_roundw
            case rel => exact ⟨n + 1, by omega, by go_num, rfl, Lib.hid (fun j hj => by
                by_cases h : j ≤ n
                · exact hp.out j h
                · have : j = n + 1 := by omega
                  subst this; exact hs'.out), k3.out⟩
            case measure => simp [intOf]; omega
        · obtain rfl : n = 89 := by omega
          go_wp2_with fail
          refine (H.out.s 90 _ _ (by omega) (by omega)).mono ?_
          rintro e w2 ⟨rfl, k2⟩
          have k3 := Lib.hid (kr.out.trans (k2.mono kr.out.size))
          clear k2
          go_wp2_with fail
          refine (H.out.r 89 _ _ (by omega) (by omega) (hp.out 89 (by omega)) H.out.e).mono ?_
          rintro e w3 ⟨rfl, k4⟩
          go_wp2
          go_ret2
          exact ⟨90, by omega, fun j hj => hp.out j (by omega), fun h => absurd h (by omega), ret_ok rfl rfl, k3.out.trans (k4.mono k3.out.size)⟩
end Go.Proofs.Ytiminclbkmkgnaa
