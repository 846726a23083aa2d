/- Walks of turn: valid, quadrant, ratio, the two function literals of Dir, sort.Search over them. -/
import Derived.Test.YtiminclbkmkgnaaT2
import Derived.BigQuiet
import Derived.Laws.EntriesVeiled
namespace Go.Proofs.Ytiminclbkmkgnaa
open Go.RowKit
set_option linter.unusedVariables false

set_option maxHeartbeats 400000 in
theorem validT_any (a : Int) (w : World) : Calls Try.prog 15 #[.int .i64 a] w fun e w' => e = .returned (.bool (mayF a)) ∧ w = w' := by
  by_cases h1 : -1073741823 ≤ a
  · by_cases h2 : a ≤ 1073741823
    · have E := Lib.hid ((may_iff a).2 ⟨h1, h2⟩)
      go_enter Try.func15, Try.ntmps15
      go_wp2
      go_ret
      exact ⟨ret_bool E.out.symm, rfl⟩
    · have E := Lib.hid ((may_not a).2 (by omega))
      go_enter Try.func15, Try.ntmps15
      go_wp2
      go_ret
      exact ⟨ret_bool E.out.symm, rfl⟩
  · have E := Lib.hid ((may_not a).2 (by omega))
    go_enter Try.func15, Try.ntmps15
    go_wp2
    go_ret
    exact ⟨ret_bool E.out.symm, rfl⟩

theorem below_drewN (w : World) (n : Nat) : Below w.heap.size w (w.drewN n) := ⟨rfl, rfl, rfl, Nat.le_refl _, fun _ _ => rfl⟩

theorem quad_begT (y x : Int) : begP y x = if 0 < x ∧ 0 ≤ y then 0 else if x ≤ 0 ∧ 0 < y then 5898240 else if x < 0 then 11796480 else 17694720 := by
  unfold begP quadP
  repeat' split
  all_goals rfl

set_option maxHeartbeats 400000 in
theorem quadrant_any (y x : Int) (w : World) : Calls Try.prog 16 #[.int .i64 y, .int .i64 x] w fun e w' => e = .returned (.int .i64 (begP y x)) ∧ w = w' := by
  have H := Lib.hid (quad_begT y x)
  generalize begP y x = b at *
  by_cases h1 : 0 < x
  · by_cases h2 : 0 ≤ y
    · have E := Lib.hid (H.out.trans (if_pos ⟨h1, h2⟩))
      go_enter Try.func16, Try.ntmps16
      go_wp2
      go_ret
      exact ⟨ret_int E.out.symm, rfl⟩
    · have E := Lib.hid (H.out.trans ((if_neg (by omega)).trans ((if_neg (by omega)).trans (if_neg (by omega)))))
      go_enter Try.func16, Try.ntmps16
      go_wp2
      go_ret
      exact ⟨ret_int E.out.symm, rfl⟩
  · by_cases h2 : 0 < y
    · have E := Lib.hid (H.out.trans ((if_neg (by omega)).trans (if_pos (by omega))))
      go_enter Try.func16, Try.ntmps16
      go_wp2
      go_ret
      exact ⟨ret_int E.out.symm, rfl⟩
    · by_cases h3 : x < 0
      · have E := Lib.hid (H.out.trans ((if_neg (by omega)).trans ((if_neg (by omega)).trans (if_pos h3))))
        go_enter Try.func16, Try.ntmps16
        go_wp2
        go_ret
        exact ⟨ret_int E.out.symm, rfl⟩
      · have E := Lib.hid (H.out.trans ((if_neg (by omega)).trans ((if_neg (by omega)).trans (if_neg h3))))
        go_enter Try.func16, Try.ntmps16
        go_wp2
        go_ret
        exact ⟨ret_int E.out.symm, rfl⟩

set_option maxHeartbeats 1000000 in
theorem ratio_core (a b q r v m : Int) (w : World) (a0 : 0 < a) (a1 : a ≤ 70368744112128) (b0 : 0 < b) (b1 : b ≤ 140737488224256)
    (en : IntKind.i64.wrap (a * 65536) = a * 65536) (eq : (a * 65536).tdiv b = q) (er : (a * 65536).tmod b = r) (q0 : 0 ≤ q) (q1 : q ≤ 65536) (r0 : 0 ≤ r) (r1 : r < b) (em : q.tmod 2 = m)
    (hc : (2 * r < b ∧ v = q) ∨ (b < 2 * r ∧ v = q + 1) ∨ (2 * r = b ∧ m = 0 ∧ v = q) ∨ (2 * r = b ∧ m = 1 ∧ v = q + 1)) :
    Calls Try.prog 21 #[.int .i64 a, .int .i64 b] w fun e w' => e = .returned (.int .i64 v) ∧ Below w.heap.size w w' := by
  have bz : (b == 0) = false := by simp; omega
  rcases hc with ⟨h, rfl⟩ | ⟨h, rfl⟩ | ⟨h, hm, rfl⟩ | ⟨h, hm, rfl⟩
  · go_enter Try.func21, Try.ntmps21
    go_wp2
    go_quiet (fail)
    go_wp2
    go_ret
    exact ⟨rfl, below_drewN w nq⟩
  · go_enter Try.func21, Try.ntmps21
    go_wp2
    go_quiet (fail)
    go_wp2
    go_ret
    exact ⟨rfl, below_drewN w nq⟩
  · go_enter Try.func21, Try.ntmps21
    go_wp2
    go_quiet (fail)
    go_wp2
    go_ret
    exact ⟨rfl, below_drewN w nq⟩
  · go_enter Try.func21, Try.ntmps21
    go_wp2
    go_quiet (fail)
    go_wp2
    go_ret
    exact ⟨rfl, below_drewN w nq⟩

theorem ratio_any (a f : Int) (w : World) (a0 : 0 < a) (a1 : a ≤ 70368744112128) (f0 : -70368744112128 ≤ f) (f1 : f ≤ 0) :
    Calls Try.prog 21 #[.int .i64 a, .int .i64 (a - f)] w fun e w' => e = .returned (.int .i64 (near (a * 65536) (a - f))) ∧ Below w.heap.size w w' := by
  have hd : 0 < a - f := by omega
  have hs := near_share a f a0 f1
  have hn : 0 ≤ a * 65536 := by omega
  have e1 : (a * 65536).tdiv (a - f) = a * 65536 / (a - f) := Int.tdiv_eq_ediv_of_nonneg hn
  have e2 : (a * 65536).tmod (a - f) = a * 65536 % (a - f) := Int.tmod_eq_emod_of_nonneg hn
  have r0 := Int.emod_nonneg (a * 65536) (by omega : a - f ≠ 0)
  have r1 := Int.emod_lt_of_pos (a * 65536) hd
  have q0 := Int.ediv_nonneg hn (by omega : 0 ≤ a - f)
  have q1 : a * 65536 / (a - f) ≤ 65536 := by
    have h := Int.ediv_le_ediv hd (show a * 65536 ≤ 65536 * (a - f) by omega)
    rw [Int.mul_ediv_cancel _ (by omega)] at h
    exact h
  have e3 : (a * 65536 / (a - f)).tmod 2 = a * 65536 / (a - f) % 2 := Int.tmod_eq_emod_of_nonneg q0
  have hw : IntKind.i64.wrap (a * 65536) = a * 65536 := IntWalk.i64_in _ (by omega)
  have hm : mag (a - f) = a - f := by unfold mag; rw [if_neg (by omega)]
  refine ratio_core a (a - f) _ _ _ _ w a0 a1 hd (by omega) hw e1 e2 q0 q1 r0 r1 e3 ?_
  unfold near
  rw [sdiv_pos _ _ hd, smod_pos _ _ hd, hm]
  generalize a * 65536 / (a - f) = q at *
  generalize a * 65536 % (a - f) = r at *
  repeat' split
  all_goals omega

/-- The captured variables of the first literal. -/
structure Capt (b y x : Int) (nb ny nx : Nat) (w : World) : Prop where
  b : w.cell? ⟨nb, 0, none⟩ = some (.int .i64 b)
  y : w.cell? ⟨ny, 0, none⟩ = some (.int .i64 y)
  x : w.cell? ⟨nx, 0, none⟩ = some (.int .i64 x)
theorem Capt.later {b y x : Int} {nb ny nx : Nat} {w w' : World} (h : Capt b y x nb ny nx w) (k : Below w.heap.size w w') : Capt b y x nb ny nx w' :=
  ⟨cell_later k h.b, cell_later k h.y, cell_later k h.x⟩

set_option maxHeartbeats 1000000 in
theorem side_core (k b y x d c s p q : Int) (nb ny nx : Nat) (w : World) (k0 : 0 ≤ k) (k1 : k ≤ 90) (b0 : 0 ≤ b) (b1 : b ≤ 17694720)
    (e1 : IntKind.i64.wrap (k * 65536) = k * 65536) (e2 : IntKind.i64.wrap (b + k * 65536) = d) (e3 : IntKind.i64.wrap (c * y) = p) (e4 : IntKind.i64.wrap (s * x) = q) (e5 : IntKind.i64.wrap (p - q) = p - q)
    (hb : w.cell? ⟨nb, 0, none⟩ = some (.int .i64 b)) (hy : w.cell? ⟨ny, 0, none⟩ = some (.int .i64 y)) (hx : w.cell? ⟨nx, 0, none⟩ = some (.int .i64 x))
    (c1 : Hid (∀ w, Calls Try.prog 13 #[.int .i64 d] w fun e w' => e = .returned (.int .i64 c) ∧ Below w.heap.size w w'))
    (c2 : Hid (∀ w, Calls Try.prog 11 #[.int .i64 d] w fun e w' => e = .returned (.int .i64 s) ∧ Below w.heap.size w w')) :
    Calls Try.prog 17 #[.int .i64 k, .pointer (some ⟨nb, 0, none⟩), .pointer (some ⟨ny, 0, none⟩), .pointer (some ⟨nx, 0, none⟩)] w fun e w' => e = .returned (.int .i64 (p - q)) ∧ Below w.heap.size w w' := by
  go_enter Try.func17, Try.ntmps17
  go_wp2_with fail
  go_region_held3 (fun wx => wx.cell? ⟨nb, 0, none⟩ = some (.int .i64 b) ∧ wx.cell? ⟨ny, 0, none⟩ = some (.int .i64 y) ∧ wx.cell? ⟨nx, 0, none⟩ = some (.int .i64 x))
    (first | exact ⟨cell_later kd (cell_later kc hb), cell_later kd (cell_later kc hy), cell_later kd (cell_later kc hx)⟩ | exact ⟨cell_later kc hb, cell_later kc hy, cell_later kc hx⟩ | exact ⟨hb, hy, hx⟩ | go_keep)
    (first | (go_at_call 13; refine (c1.out _).mono ?_; rintro e wc ⟨rfl, kc⟩) | (go_at_call 11; refine (c2.out _).mono ?_; rintro e wd ⟨rfl, kd⟩))
  go_wp2
  go_ret
  exact ⟨rfl, (below_drew kc).trans (kd.mono (below_drew kc).size)⟩

theorem times_bdT (c y : Int) (hc : -65536 ≤ c ∧ c ≤ 65536) (h0 : -1073741823 ≤ y) (h1 : y ≤ 1073741823) : -70368744112128 ≤ c * y ∧ c * y ≤ 70368744112128 := by
  rcases Int.le_total 0 y with hy | hy
  · have a := Int.mul_le_mul_of_nonneg_right hc.1 hy
    have b := Int.mul_le_mul_of_nonneg_right hc.2 hy
    omega
  · have a := Int.mul_le_mul_of_nonpos_right hc.1 hy
    have b := Int.mul_le_mul_of_nonpos_right hc.2 hy
    omega

theorem side_any (k b y x : Int) (nb ny nx : Nat) (w : World) (k0 : 0 ≤ k) (k1 : k ≤ 90) (b0 : 0 ≤ b) (b1 : b ≤ 17694720)
    (y0 : -1073741823 ≤ y) (y1 : y ≤ 1073741823) (x0 : -1073741823 ≤ x) (x1 : x ≤ 1073741823) (hc : Capt b y x nb ny nx w) :
    Calls Try.prog 17 #[.int .i64 k, .pointer (some ⟨nb, 0, none⟩), .pointer (some ⟨ny, 0, none⟩), .pointer (some ⟨nx, 0, none⟩)] w
      fun e w' => e = .returned (.int .i64 (cosP (b + k * 65536) * y - sinP (b + k * 65536) * x)) ∧ Below w.heap.size w w' := by
  have h1 := times_bdT _ y (cosP_in (b + k * 65536)) y0 y1
  have h2 := times_bdT _ x (sinP_in (b + k * 65536)) x0 x1
  exact side_core k b y x (b + k * 65536) _ _ _ _ nb ny nx w k0 k1 b0 b1 (IntWalk.i64_in _ (by omega)) (IntWalk.i64_in _ (by omega)) (IntWalk.i64_in _ (by omega)) (IntWalk.i64_in _ (by omega)) (IntWalk.i64_in _ (by omega))
    hc.b hc.y hc.x (Lib.hid (fun w => cos_any _ w)) (Lib.hid (fun w => sin_any _ w))

/-- The function value of the first literal. -/
abbrev sideF (nb ny nx : Nat) : Value := .func (.func 17) #[] #[.pointer (some ⟨nb, 0, none⟩), .pointer (some ⟨ny, 0, none⟩), .pointer (some ⟨nx, 0, none⟩)]

set_option maxHeartbeats 400000 in
theorem test_any (k s : Int) (nf nb ny nx : Nat) (w : World) (hf : w.cell? ⟨nf, 0, none⟩ = some (sideF nb ny nx))
    (c : Hid (Calls Try.prog 17 #[.int .i64 k, .pointer (some ⟨nb, 0, none⟩), .pointer (some ⟨ny, 0, none⟩), .pointer (some ⟨nx, 0, none⟩)] w fun e w' => e = .returned (.int .i64 s) ∧ Below w.heap.size w w')) :
    Calls Try.prog 19 #[.int .i64 k, .pointer (some ⟨nf, 0, none⟩)] w fun e w' => e = .returned (.bool (decide (s ≤ 0))) ∧ Below w.heap.size w w' := by
  go_enter Try.func19, Try.ntmps19
  go_wp2_with fail
  refine c.out.mono ?_
  rintro e w1 ⟨rfl, k1⟩
  go_wp2
  go_ret
  exact ⟨rfl, k1⟩

/-- The second literal answers, in every world that grows from w, whether S k is not above 0. -/
def Asks (nf : Nat) (S : Nat → Int) (w : World) : Prop :=
  ∀ (k : Nat) (w1 : World), k < 90 → Below w.heap.size w w1 →
    Calls Try.prog 19 #[.int .i64 (k : Int), .pointer (some ⟨nf, 0, none⟩)] w1 fun e w2 => e = .returned (.bool (decide (S k ≤ 0))) ∧ Below w1.heap.size w1 w2

def Finds (S : Nat → Int) (w : World) (e : Ending) (w' : World) : Prop :=
  ∃ m : Nat, m ≤ 90 ∧ (∀ j, j < m → 0 < S j) ∧ (m < 90 → S m ≤ 0) ∧ e = .returned (.int .i64 (m : Int)) ∧ Below w.heap.size w w'

set_option maxHeartbeats 1000000 in
theorem search_any (nf : Nat) (S : Nat → Int) (w : World) (hS : Hid (∀ j k, j ≤ k → k < 91 → S k ≤ S j)) (H : Hid (Asks nf S w)) :
    Calls Try.prog 18 #[.int .i64 90, .func (.func 19) #[] #[.pointer (some ⟨nf, 0, none⟩)]] w (Finds S w) := by
  go_enter Try.func18, Try.ntmps18
  go_wp2
  go_loopw [5, 6] (fun i j wr => ∃ a b : Nat, a ≤ b ∧ b ≤ 90 ∧ i = .int .i64 (a : Int) ∧ j = .int .i64 (b : Int) ∧ Hid (∀ t, t < a → 0 < S t) ∧ Hid (b < 90 → S b ≤ 0) ∧ Below w.heap.size w wr)
    (fun i j _ => (intOf j).toNat - (intOf i).toNat)
  case atStart => exact ⟨0, 90, by omega, by omega, rfl, rfl, Lib.hid (fun t ht => absurd ht (by omega)), Lib.hid (fun h => absurd h (by omega)), Below.refl _ _⟩
  case round =>
    obtain ⟨a, b, hab, hb, rfl, rfl, p1, p2, kr⟩ := hrel
    have kr := Lib.hid kr
    by_cases hlt : a < b
    · obtain ⟨h, hh⟩ : ∃ h : Nat, (a + b) / 2 = h := ⟨_, rfl⟩
      have hi : ((a : Int) + (b : Int)) / 2 = (h : Int) := by omega
      have hl : (a : Int) < (b : Int) := by omega
      have h1 : a ≤ h := by omega
      have h2 : h < b := by omega
      clear hh
      have c := Lib.hid (H.out h wr (by omega) kr.out)
      go_wp2_with fail
      refine c.out.mono ?_
      rintro e w2 ⟨rfl, k2⟩
      have k3 := Lib.hid (kr.out.trans (k2.mono kr.out.size))
      clear k2 c
      cases hd : decide (S h ≤ 0)
      · have hs' := Lib.hid (show 0 < S h by have := of_decide_eq_false hd; omega)
        clear hd
        go_wp2
        go_roundw
        case rel => exact ⟨h + 1, b, by omega, by omega, by go_num, rfl, Lib.hid (fun t ht => by
            have := hS.out t h (by omega) (by omega)
            have := hs'.out
            omega), p2, k3.out⟩
        case measure => simp [intOf]; omega
      · have hs' := Lib.hid (of_decide_eq_true hd)
        clear hd
        go_wp2
        go_roundw
        case rel => exact ⟨a, h, by omega, by omega, rfl, rfl, p1, Lib.hid (fun _ => hs'.out), k3.out⟩
        case measure => simp [intOf]; omega
    · obtain rfl : a = b := by omega
      go_wp2
      go_ret
      exact ⟨a, hb, p1.out, p2.out, rfl, kr.out⟩
end Go.Proofs.Ytiminclbkmkgnaa
