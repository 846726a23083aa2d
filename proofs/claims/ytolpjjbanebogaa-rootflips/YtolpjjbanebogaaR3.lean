/- Walks of root: scaled and its two function literals, Cut. -/
import Derived.Test.YtolpjjbanebogaaR2
import Derived.Test.YtolpjjbanebogaaW7
import Derived.Laws.EntriesVeiled
namespace Go.Proofs.Ytolpjjbanebogaa
open Go.RowKit
set_option linter.unusedVariables false

set_option maxHeartbeats 400000 in
theorem against_any (v q d : Int) (bq bd : Nat) (w : World) (hq : w.cell? ⟨bq, 0, none⟩ = some (.int .i64 q)) (hd : w.cell? ⟨bd, 0, none⟩ = some (.int .i64 d))
    (v0 : 0 ≤ v) (v1 : v ≤ 140737488355328) (s0 : 0 ≤ q * q) (s1 : q * q ≤ 4611686018427387904) (d0 : 0 ≤ d) (d1 : d ≤ 2147483648) (q0 : -2147483648 ≤ q) (q1 : q ≤ 2147483648) :
    Calls Try.prog 34 #[.int .i64 v, .pointer (some ⟨bq, 0, none⟩), .pointer (some ⟨bd, 0, none⟩)] w fun e w' => e = .returned (.int .i64 (cmpI (v * v) (q * q * d))) ∧ Below w.heap.size w w' := by
  have hC := Lib.hid (fun w => cmp_any v v (q * q) d w (by omega) (by omega) (by omega) (by omega) (by omega) (by omega) (by omega) (by omega))
  go_enter Try.func34, Try.ntmps34
  go_wp2_with fail
  refine (hC.out _).mono ?_
  rintro e w1 ⟨rfl, k1⟩
  go_wp2
  go_ret
  exact ⟨rfl, k1⟩

theorem cmp_fit (n v : Int) : decide (cmpI (v * v) n ≤ 0) = fitF n v := by
  unfold fitF cmpI
  exact decide_eq_decide.mpr (by repeat' split
                                 all_goals omega)

set_option maxHeartbeats 400000 in
theorem under_any (v q d : Int) (bq bd ba : Nat) (w : World) (hq : w.cell? ⟨bq, 0, none⟩ = some (.int .i64 q)) (hd : w.cell? ⟨bd, 0, none⟩ = some (.int .i64 d))
    (ha : w.cell? ⟨ba, 0, none⟩ = some (.func (.func 34) #[] #[.pointer (some ⟨bq, 0, none⟩), .pointer (some ⟨bd, 0, none⟩)]))
    (v0 : 0 ≤ v) (v1 : v ≤ 140737488355328) (s0 : 0 ≤ q * q) (s1 : q * q ≤ 4611686018427387904) (d0 : 0 ≤ d) (d1 : d ≤ 2147483648) (q0 : -2147483648 ≤ q) (q1 : q ≤ 2147483648) :
    Calls Try.prog 35 #[.int .u64 v, .pointer (some ⟨ba, 0, none⟩)] w fun e w' => e = .returned (.bool (fitF (q * q * d) v)) ∧ Below w.heap.size w w' := by
  have hA := Lib.hid (against_any v q d bq bd w hq hd v0 v1 s0 s1 d0 d1 q0 q1)
  clear hq hd
  have hF := Lib.hid (cmp_fit (q * q * d) v)
  go_enter Try.func35, Try.ntmps35
  go_wp2_with fail
  refine hA.out.mono ?_
  rintro e w1 ⟨rfl, k1⟩
  go_wp2
  go_ret
  exact ⟨ret_bool hF.out, k1⟩

theorem enters35 : Enters 35 := enters_of Try.func35 (by kernel_rfl) (by kernel_rfl)

theorem greatest47 (q d : Int) (bq bd ba : Nat) (w : World) (hq : w.cell? ⟨bq, 0, none⟩ = some (.int .i64 q)) (hd : w.cell? ⟨bd, 0, none⟩ = some (.int .i64 d))
    (ha : w.cell? ⟨ba, 0, none⟩ = some (.func (.func 34) #[] #[.pointer (some ⟨bq, 0, none⟩), .pointer (some ⟨bd, 0, none⟩)]))
    (lq : bq < w.heap.size) (ld : bd < w.heap.size) (la : ba < w.heap.size)
    (d0 : 0 ≤ d) (d1 : d ≤ 2147483648) (q0 : -2147483648 ≤ q) (q1 : q ≤ 2147483648) :
    Calls Try.prog 26 #[.int .i64 47, .func (.func 35) #[] #[.pointer (some ⟨ba, 0, none⟩)]] w fun e w' => e = .returned (.int .u64 (isq (q * q * d))) ∧ Below w.heap.size w w' := by
  obtain ⟨a0, a1, a2, a3⟩ := qqd_bd q d q0 q1 d0 d1
  refine (greatest_any 35 ba 47 (fitF (q * q * d)) w (by decide) (Lib.hid enters35) (Lib.hid (by unfold fitF; simpa using a2)) (Lib.hid ?_)).mono ?_
  · intro x w1 x0 x1 hB
    have x1 : x < 140737488355328 := by simpa using x1
    exact under_any x q d bq bd ba w1 ((hB.cell (p := ⟨bq, 0, none⟩) lq).trans hq) ((hB.cell (p := ⟨bd, 0, none⟩) ld).trans hd) ((hB.cell (p := ⟨ba, 0, none⟩) la).trans ha) x0 (by omega) a0 a1 d0 d1 q0 q1
  · rintro e w' ⟨x, ⟨x0, _, x2, x3, x4⟩, rfl, hB⟩
    refine ⟨ret_int (isq_is a2 (by omega) ⟨x0, by simpa [fitF] using x3, ?_⟩).symm, hB⟩
    simp only [Int.pow_zero] at x2 x4
    have e : (2 : Int) ^ 47 = 140737488355328 := by decide
    rw [e] at x2 x4
    rcases Int.lt_or_le (x + 1) 140737488355328 with h | h
    · have := x4 h
      simpa [fitF] using this
    · have h1 : x + 1 = 140737488355328 := by omega
      rw [h1]; omega

theorem isq_bd47 (n : Int) (hn : 0 ≤ n) (hn' : n ≤ 9903520314283042199192993792) : 0 ≤ isq n ∧ isq n < 140737488355328 ∧ isq n * isq n ≤ n := by
  obtain ⟨r0, r1, r2⟩ := isq_root n hn (by omega)
  have := lt_of_sq (by decide : (0 : Int) ≤ 140737488355328) (by omega : isq n * isq n < 140737488355328 * 140737488355328)
  exact ⟨r0, this, r1⟩

/-- The world behind scaled's three variables. -/
abbrev W3 (q d : Int) (w : World) : World :=
  ((w.alloc (.cells #[.int .i64 q] 3)).alloc (.cells #[.int .i64 d] 3)).alloc (.cells #[.func (.func 34) #[] #[.pointer (some ⟨w.heap.size, 0, none⟩), .pointer (some ⟨w.heap.size + 1, 0, none⟩)]] 39)

theorem w3_facts (q d : Int) (w : World) :
    (W3 q d w).cell? ⟨w.heap.size, 0, none⟩ = some (.int .i64 q) ∧ (W3 q d w).cell? ⟨w.heap.size + 1, 0, none⟩ = some (.int .i64 d) ∧
    (W3 q d w).cell? ⟨w.heap.size + 1 + 1, 0, none⟩ = some (.func (.func 34) #[] #[.pointer (some ⟨w.heap.size, 0, none⟩), .pointer (some ⟨w.heap.size + 1, 0, none⟩)]) ∧
    (W3 q d w).heap.size = w.heap.size + 3 ∧ Below w.heap.size w (W3 q d w) := by
  refine ⟨by simp [W3, go_sem], by simp [W3, go_sem], by simp [W3, go_sem], by simp, ?_⟩
  exact (((Below.refl _ _).alloc (Nat.le_refl _) _).alloc (by simp) _).alloc (by simp; omega) _

theorem w3_after (q d : Int) (w w1 : World) (h : Below (W3 q d w).heap.size (W3 q d w) w1) :
    w1.cell? ⟨w.heap.size, 0, none⟩ = some (.int .i64 q) ∧ w1.cell? ⟨w.heap.size + 1, 0, none⟩ = some (.int .i64 d) ∧
    w1.cell? ⟨w.heap.size + 1 + 1, 0, none⟩ = some (.func (.func 34) #[] #[.pointer (some ⟨w.heap.size, 0, none⟩), .pointer (some ⟨w.heap.size + 1, 0, none⟩)]) ∧ Below w.heap.size w w1 := by
  obtain ⟨f1, f2, f3, f4, f5⟩ := w3_facts q d w
  refine ⟨(h.cell (p := ⟨w.heap.size, 0, none⟩) (by simp; omega)).trans f1, (h.cell (p := ⟨w.heap.size + 1, 0, none⟩) (by simp)).trans f2, (h.cell (p := ⟨w.heap.size + 1 + 1, 0, none⟩) (by simp)).trans f3, ?_⟩
  exact f5.trans (h.mono (by omega))

set_option maxHeartbeats 400000 in
theorem scaled_pos (q d : Int) (w : World) (d0 : 0 ≤ d) (d1 : d ≤ 2147483648) (q0 : 0 ≤ q) (q1 : q ≤ 2147483648) :
    Calls Try.prog 24 #[.int .i64 q, .int .i64 d] w fun e w' => e = .returned (.int .i64 (rt q d)) ∧ Below w.heap.size w w' := by
  obtain ⟨a0, a1, a2, a3⟩ := qqd_bd q d (by omega) q1 d0 d1
  obtain ⟨i0, i1, i2⟩ := isq_bd47 _ a2 a3
  have hr : rt q d = isq (q * q * d) := by unfold rt; rw [if_pos q0]
  have HR := Lib.hid hr
  obtain ⟨f1, f2, f3, f4, f5⟩ := w3_facts q d w
  have hG := Lib.hid (greatest47 q d _ _ _ _ f1 f2 f3 (by omega) (by omega) (by omega) d0 d1 (by omega) q1)
  clear hr f1 f2 f3 f4 f5 a2 a3
  generalize isq (q * q * d) = r at *
  go_enter Try.func24, Try.ntmps24
  go_wp2_with fail
  refine hG.out.mono ?_
  rintro e w1 ⟨rfl, k1⟩
  obtain ⟨g1, g2, g3, g4⟩ := w3_after q d w w1 k1
  have G4 := Lib.hid g4
  clear k1 g2 g3
  go_wp2
  go_ret
  exact ⟨ret_int HR.out.symm, G4.out⟩

set_option maxHeartbeats 400000 in
theorem scaled_neg (q d : Int) (w : World) (d0 : 0 ≤ d) (d1 : d ≤ 2147483648) (q0 : -2147483648 ≤ q) (q1 : q < 0) :
    Calls Try.prog 24 #[.int .i64 q, .int .i64 d] w fun e w' => e = .returned (.int .i64 (rt q d)) ∧ Below w.heap.size w w' := by
  obtain ⟨a0, a1, a2, a3⟩ := qqd_bd q d q0 (by omega) d0 d1
  obtain ⟨i0, i1, i2⟩ := isq_bd47 _ a2 a3
  have hr : rt q d = -(if isq (q * q * d) * isq (q * q * d) < q * q * d then isq (q * q * d) + 1 else isq (q * q * d)) := by unfold rt; rw [if_neg (by omega)]; rfl
  have HR := Lib.hid hr
  obtain ⟨f1, f2, f3, f4, f5⟩ := w3_facts q d w
  have hG := Lib.hid (greatest47 q d _ _ _ _ f1 f2 f3 (by omega) (by omega) (by omega) d0 d1 q0 (by omega))
  clear hr f1 f2 f3 f4 f5
  have hA := Lib.hid (fun bq bd w h1 h2 => against_any (isq (q * q * d)) q d bq bd w h1 h2 i0 (by omega) a0 a1 d0 d1 q0 (by omega))
  generalize isq (q * q * d) = r at *
  by_cases hl : r * r < q * q * d
  · rw [if_pos hl] at HR
    rw [cmp_n hl] at hA
    clear a2 a3 i2 hl
    go_enter Try.func24, Try.ntmps24
    go_wp2_with fail
    refine hG.out.mono ?_
    rintro e w1 ⟨rfl, k1⟩
    obtain ⟨g1, g2, g3, g4⟩ := w3_after q d w w1 k1
    have G4 := Lib.hid g4
    have hA1 := Lib.hid (hA.out _ _ w1 g1 g2)
    clear k1 g2
    go_wp2_with fail
    refine hA1.out.mono ?_
    rintro e w2 ⟨rfl, k2⟩
    go_wp2
    go_ret
    exact ⟨ret_int HR.out.symm, G4.out.trans (k2.mono G4.out.size)⟩
  · rw [if_neg hl] at HR
    have e0 : cmpI (r * r) (q * q * d) = 0 := by unfold cmpI; rw [if_neg hl, if_neg (by omega)]
    rw [e0] at hA
    clear a2 a3 i2 hl e0
    go_enter Try.func24, Try.ntmps24
    go_wp2_with fail
    refine hG.out.mono ?_
    rintro e w1 ⟨rfl, k1⟩
    obtain ⟨g1, g2, g3, g4⟩ := w3_after q d w w1 k1
    have G4 := Lib.hid g4
    have hA1 := Lib.hid (hA.out _ _ w1 g1 g2)
    clear k1 g2
    go_wp2_with fail
    refine hA1.out.mono ?_
    rintro e w2 ⟨rfl, k2⟩
    go_wp2
    go_ret
    exact ⟨ret_int HR.out.symm, G4.out.trans (k2.mono G4.out.size)⟩

theorem scaled_any (q d : Int) (w : World) (d0 : 0 ≤ d) (d1 : d ≤ 2147483648) (q0 : -2147483648 ≤ q) (q1 : q ≤ 2147483648) :
    Calls Try.prog 24 #[.int .i64 q, .int .i64 d] w fun e w' => e = .returned (.int .i64 (rt q d)) ∧ Below w.heap.size w w' := by
  rcases Int.lt_or_le q 0 with h | h
  · exact scaled_neg q d w d0 d1 q0 h
  · exact scaled_pos q d w d0 d1 h q1

/-- What Cut answers. -/
def okC (p q d m : Int) : Bool := validR p 1152921504606846976 q d && divOkR m
def valC (p q d m : Int) : Int := if okC p q d m = true then cutR p q d m else 0

theorem ediv_bd (a m : Int) (hm : 1 ≤ m) (a0 : -9223372036854775808 ≤ a) (a1 : a ≤ 9223372036854775807) : -9223372036854775808 ≤ a / m ∧ a / m ≤ 9223372036854775807 := by
  constructor
  · rw [Int.le_ediv_iff_mul_le (by omega)]; omega
  · have : a / m < 9223372036854775807 + 1 := by
      rw [Int.ediv_lt_iff_lt_mul (by omega)]; omega
    omega

set_option maxHeartbeats 400000 in
theorem cutR_any (p q d m : Int) (w : World) (m0 : -9223372036854775808 ≤ m) (m1 : m ≤ 9223372036854775807) :
    Calls Try.prog 11 #[.int .i64 p, .int .i64 q, .int .i64 d, .int .i64 m] w fun e w' => e = .returned (.tuple #[.int .i64 (valC p q d m), .bool (okC p q d m)]) ∧ Below w.heap.size w w' := by
  have hv := Lib.hid (valid_any p 1152921504606846976 q d w (by decide) (by decide))
  have hval : valC p q d m = if okC p q d m = true then cutR p q d m else 0 := rfl
  have HV := Lib.hid hval
  clear hval
  by_cases h : validR p 1152921504606846976 q d = true
  · rw [h] at hv
    have hb : -1152921504606846976 ≤ p ∧ p ≤ 1152921504606846976 ∧ -2147483648 ≤ q ∧ q ≤ 2147483648 ∧ 0 ≤ d ∧ d ≤ 2147483648 := of_decide_eq_true h
    have e1 : okC p q d m = divOkR m := by unfold okC; rw [h]; rfl
    obtain ⟨p0, p1, q0, q1, d0, d1⟩ := hb
    by_cases h2 : m < 1
    · have e2 : okC p q d m = false := by rw [e1]; exact decide_eq_false (by omega)
      rw [e2, if_neg (by decide)] at HV
      have E := Lib.hid e2
      clear h e1 e2
      go_enter Try.func11, Try.ntmps11
      go_wp2_with (first | (go_at_call 17; refine hv.out.mono ?_; rintro e w' ⟨rfl, rfl⟩))
      go_ret2
      exact ⟨ret_ok HV.out.symm E.out.symm, Below.refl _ _⟩
    · by_cases h3 : 1099511627776 < m
      · have e2 : okC p q d m = false := by rw [e1]; exact decide_eq_false (by omega)
        rw [e2, if_neg (by decide)] at HV
        have E := Lib.hid e2
        clear h e1 e2
        go_enter Try.func11, Try.ntmps11
        go_wp2_with (first | (go_at_call 17; refine hv.out.mono ?_; rintro e w' ⟨rfl, rfl⟩))
        go_ret2
        exact ⟨ret_ok HV.out.symm E.out.symm, Below.refl _ _⟩
      · have e2 : okC p q d m = true := by rw [e1]; exact decide_eq_true (by omega)
        rw [if_pos e2] at HV
        have hs := Lib.hid (scaled_any q d w d0 d1 q0 q1)
        obtain ⟨_, _, r0, r1⟩ := rt_bd q d q0 q1 d0 d1
        have hF := Lib.hid (fun w => floor_any (p + rt q d) 1 m w (by omega) (by omega) (by decide) (by decide) m0 m1)
        have eF : sdiv ((p + rt q d) * 1) m = cutR p q d m := by unfold sdiv cutR; rw [if_neg (by omega), Int.mul_one]
        have eO : okOf m (cutR p q d m) = true := by
          obtain ⟨b0, b1⟩ := ediv_bd (p + rt q d) m (by omega) (by omega) (by omega)
          exact decide_eq_true ⟨by omega, b0, b1⟩
        have eV : valOf m (cutR p q d m) = cutR p q d m := by unfold valOf; rw [eO]; simp
        rw [eF, eO, eV] at hF
        rw [e2, HV.out]
        clear h e1 e2 eF eO eV HV
        generalize rt q d = r at *
        go_enter Try.func11, Try.ntmps11
        go_wp2_with (first | (go_at_call 17; refine hv.out.mono ?_; rintro e w' ⟨rfl, rfl⟩))
        refine hs.out.mono ?_
        rintro e w1 ⟨rfl, k1⟩
        go_wp2_with fail
        refine (hF.out _).mono ?_
        rintro e w2 ⟨rfl, k2⟩
        go_wp2
        go_ret2
        exact ⟨rfl, k1.trans (k2.mono k1.size)⟩
  · have h' : validR p 1152921504606846976 q d = false := by simpa using h
    rw [h'] at hv
    have e2 : okC p q d m = false := by unfold okC; rw [h']; rfl
    rw [e2, if_neg (by decide)] at HV
    have E := Lib.hid e2
    clear h h' e2
    go_enter Try.func11, Try.ntmps11
    go_wp2_with (first | (go_at_call 17; refine hv.out.mono ?_; rintro e w' ⟨rfl, rfl⟩))
    go_ret2
    exact ⟨ret_ok HV.out.symm E.out.symm, Below.refl _ _⟩
end Go.Proofs.Ytolpjjbanebogaa
