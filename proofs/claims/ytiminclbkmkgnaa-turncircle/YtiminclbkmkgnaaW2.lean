/- The walk of math/bits.Div64. -/
import Derived.Test.YtiminclbkmkgnaaW1
import Derived.Test.YtiminclbkmkgnaaM2
import Derived.Test.YtiminclbkmkgnaaShelf
import Derived.Deep.CutBlock
import Derived.Deep.DeepCutAuto
import Derived.Deep.LoopGhost
namespace Go.Proofs.Ytiminclbkmkgnaa
open Go.RowKit
set_option linter.unusedVariables false

set_option maxHeartbeats 400000 in
set_option maxRecDepth 100000 in
theorem div64_low (lo y : Int) (w : World) (hl0 : 0 ≤ lo) (hl1 : lo < 18446744073709551616) (hy0 : 0 < y) (hy1 : y < 18446744073709551616) :
    Calls Try.prog 38 #[.int .u64 0, .int .u64 lo, .int .u64 y] w fun e w' => e = .returned (.tuple #[.int .u64 (lo / y), .int .u64 (lo % y)]) ∧ Below w.heap.size w w' := by
  have z1 : (y == 0) = false := by simp; omega
  go_enter Try.func38, Try.ntmps38
  go_wp2
  go_region
  all_goals go_wp2
  all_goals go_ret2
  exact ⟨rfl, (Below.refl _ _).drew⟩

set_option maxHeartbeats 1000000 in
set_option maxRecDepth 100000 in
theorem div64_core (hi lo y s Y y1 y0 A L N U u1 u0 p p' N' : Int) (w : World) (hh0 : 0 < hi) (hh1 : hi < y) (hl0 : 0 ≤ lo) (hl1 : lo < 18446744073709551616) (hy1 : y < 18446744073709551616)
   (hs : 0 ≤ s) (hs1 : s < 64)
   (hlz : ∀ w, Calls Try.prog 44 #[.int .u64 y] w fun e w' => e = .returned (.int .i64 s) ∧ w = w')
   (eY : IntKind.u64.wrap (y * 2 ^ s.toNat) = Y) (e1 : Y / 4294967296 = y1) (e0 : bits .and .u64 Y 4294967295 = y0)
   (eA : IntKind.u64.wrap (hi * 2 ^ s.toNat) = A) (eL : lo / 2 ^ (64 - s).toNat = L) (eN : bits .or .u64 A L = N)
   (eU : IntKind.u64.wrap (lo * 2 ^ s.toNat) = U) (eu1 : U / 4294967296 = u1) (eu0 : bits .and .u64 U 4294967295 = u0)
   (ep : IntKind.u64.wrap (N / y1 * y1) = p) (ep' : IntKind.u64.wrap (N' / y1 * y1) = p')
   (eN' : IntKind.u64.wrap (IntKind.u64.wrap (IntKind.u64.wrap (N * 4294967296) + u1) - IntKind.u64.wrap (qd N u1 Y * Y)) = N')
   (b1 : 2147483648 ≤ y1) (b1' : y1 < 4294967296) (b0 : 0 ≤ y0) (b0' : y0 < 4294967296)
   (bN : 0 ≤ N) (bN' : N < Y) (bY : Y < 18446744073709551616) (bu1 : 0 ≤ u1) (bu1' : u1 < 4294967296) (bu0 : 0 ≤ u0) (bu0' : u0 < 4294967296)
   (hH : Hid (Halves Y y1 y0)) (ep0 : Hid (p = N / y1 * y1)) (ep0' : Hid (p' = N' / y1 * y1))
   (bp : 0 ≤ p) (bp' : p ≤ N) (cp : 0 ≤ p') (cp' : p' ≤ N') (cN : 0 ≤ N') (cN' : N' < Y) :
    Calls Try.prog 38 #[.int .u64 hi, .int .u64 lo, .int .u64 y] w fun e w' => e = .returned (.tuple #[.int .u64 (qd N u1 Y * 4294967296 + qd N' u0 Y), .int .u64 (IntKind.u64.wrap (IntKind.u64.wrap (IntKind.u64.wrap (N' * 4294967296) + u0) - IntKind.u64.wrap (qd N' u0 Y * Y)) / 2 ^ s.toNat)]) ∧ w = w' := by
  have z1 : (y == 0) = false := by simp; omega
  have z2 : (hi == 0) = false := by simp; omega
  have z3 : decide (y ≤ hi) = false := by simp; omega
  have hst := Lib.hid (guess_start hH.out bN bN' bu1 bu1' p ep0.out)
  have hst' := Lib.hid (guess_start hH.out cN cN' bu0 bu0' p' ep0'.out)
  obtain ⟨bq, bq'⟩ := qd_lt N u1 Y (by omega) bN' bN bu1 bu1'
  obtain ⟨cq, cq'⟩ := qd_lt N' u0 Y (by omega) cN' cN bu0 bu0'
  have H := Lib.hid hlz
  clear hlz
  go_enter Try.func38, Try.ntmps38
  go_upto_block 0 with (go_at_call 44; refine (H.out _).mono ?_; rintro e w' ⟨rfl, rfl⟩)
  go_cut [15, 16] (fun q r w' => q = .int .u64 (qd N u1 Y) ∧ w = w')
  case first =>
    go_wp2_with fail
    go_loop [15, 16] (fun q r => ∃ a b : Int, Guess N u1 Y y1 a b ∧ q = .int .u64 a ∧ r = .int .u64 b) (fun q _ => (intOf q).toNat)
    case atStart => exact ⟨_, _, hst.out, rfl, rfl⟩
    case round =>
      obtain ⟨a, b, hg, rfl, rfl⟩ := hrel
      obtain ⟨g1', g2, g3, g4, g5, g6⟩ := hg
      have hg := Lib.hid (show Guess N u1 Y y1 a b from ⟨g1', g2, g3, g4, g5, g6⟩)
      clear g1'
      by_cases hbig : 4294967296 ≤ a
      · have hq : qd N u1 Y < a := by omega
        by_cases hbr : 4294967296 ≤ b + y1
        · have hout := Lib.hid (guess_out_break hH.out hg.out hq bu1 hbr)
          go_wp2
          go_meet
          case rel => exact ⟨by rw [hout.out], rfl⟩
        · have hn := Lib.hid (guess_next hg.out hq bq (by omega) (by omega))
          go_wp2
          go_round
          case rel => exact ⟨_, _, hn.out, rfl, rfl⟩
          case measure => simp [intOf]; omega
      · obtain ⟨t1, t2, t3⟩ := small_mul g4 (by omega : a < 4294967296) b0 b0'
        obtain ⟨t, ht⟩ : ∃ t, a * y0 = t := ⟨_, rfl⟩
        have t1' : IntKind.u64.wrap (a * y0) = t := t1.trans ht
        rw [ht] at t2 t3
        have ht := Lib.hid ht
        clear t1
        by_cases hc : 4294967296 * b + u1 < t
        · have hq : qd N u1 Y < a := guess_hi hH.out hg.out (by rw [ht.out]; exact hc)
          by_cases hbr : 4294967296 ≤ b + y1
          · have hout := Lib.hid (guess_out_break hH.out hg.out hq bu1 hbr)
            go_wp2
            go_meet
            case rel => exact ⟨by rw [hout.out], rfl⟩
          · have hn := Lib.hid (guess_next hg.out hq bq (by omega) (by omega))
            go_wp2
            go_round
            case rel => exact ⟨_, _, hn.out, rfl, rfl⟩
            case measure => simp [intOf]; omega
        · have hout := Lib.hid (guess_out_low hH.out hg.out (by rw [ht.out]; omega))
          go_wp2
          go_meet
          case rel => exact ⟨by rw [hout.out], rfl⟩
  case rest =>
    obtain ⟨rfl, rfl⟩ := hcut
    go_upto_block 2 with (fail)
    go_cut [18, 16] (fun q r w' => q = .int .u64 (qd N' u0 Y) ∧ w = w')
    case first =>
      go_wp2_with fail
      go_loop [18, 16] (fun q r => ∃ a b : Int, Guess N' u0 Y y1 a b ∧ q = .int .u64 a ∧ r = .int .u64 b) (fun q _ => (intOf q).toNat)
      case atStart => exact ⟨_, _, hst'.out, rfl, rfl⟩
      case round =>
        obtain ⟨a, b, hg, rfl, rfl⟩ := hrel
        obtain ⟨g1', g2, g3, g4, g5, g6⟩ := hg
        have hg := Lib.hid (show Guess N' u0 Y y1 a b from ⟨g1', g2, g3, g4, g5, g6⟩)
        clear g1'
        by_cases hbig : 4294967296 ≤ a
        · have hq : qd N' u0 Y < a := by omega
          by_cases hbr : 4294967296 ≤ b + y1
          · have hout := Lib.hid (guess_out_break hH.out hg.out hq bu0 hbr)
            go_wp2
            go_meet
            case rel => exact ⟨by rw [hout.out], rfl⟩
          · have hn := Lib.hid (guess_next hg.out hq cq (by omega) (by omega))
            go_wp2
            go_round
            case rel => exact ⟨_, _, hn.out, rfl, rfl⟩
            case measure => simp [intOf]; omega
        · obtain ⟨t1, t2, t3⟩ := small_mul g4 (by omega : a < 4294967296) b0 b0'
          obtain ⟨t, ht⟩ : ∃ t, a * y0 = t := ⟨_, rfl⟩
          have t1' : IntKind.u64.wrap (a * y0) = t := t1.trans ht
          rw [ht] at t2 t3
          have ht := Lib.hid ht
          clear t1
          by_cases hc : 4294967296 * b + u0 < t
          · have hq : qd N' u0 Y < a := guess_hi hH.out hg.out (by rw [ht.out]; exact hc)
            by_cases hbr : 4294967296 ≤ b + y1
            · have hout := Lib.hid (guess_out_break hH.out hg.out hq bu0 hbr)
              go_wp2
              go_meet
              case rel => exact ⟨by rw [hout.out], rfl⟩
            · have hn := Lib.hid (guess_next hg.out hq cq (by omega) (by omega))
              go_wp2
              go_round
              case rel => exact ⟨_, _, hn.out, rfl, rfl⟩
              case measure => simp [intOf]; omega
          · have hout := Lib.hid (guess_out_low hH.out hg.out (by rw [ht.out]; omega))
            go_wp2
            go_meet
            case rel => exact ⟨by rw [hout.out], rfl⟩
    case rest =>
      obtain ⟨rfl, rfl⟩ := hcut
      go_wp2
      go_ret2
      exact ⟨rfl, rfl⟩
end Go.Proofs.Ytiminclbkmkgnaa
