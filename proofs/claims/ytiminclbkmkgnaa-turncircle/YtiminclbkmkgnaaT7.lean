/- Walk of turn.Dir. -/
import Derived.Test.YtiminclbkmkgnaaT5
import Derived.Test.YtiminclbkmkgnaaT6
namespace Go.Proofs.Ytiminclbkmkgnaa
open Go.RowKit
set_option linter.unusedVariables false

/-- The world behind Dir's own variables: y, x, begin, side. -/
abbrev V4 (b y x : Int) (w : World) : World :=
  ((W2b y x w).alloc (.cells #[.int .i64 b] 3)).alloc (.cells #[sideF (w.heap.size + 1 + 1) w.heap.size (w.heap.size + 1)] 25)
theorem v4_facts (b y x : Int) (w : World) :
    Capt b y x (w.heap.size + 1 + 1) w.heap.size (w.heap.size + 1) (V4 b y x w) ∧ (V4 b y x w).cell? ⟨w.heap.size + 1 + 1 + 1, 0, none⟩ = some (sideF (w.heap.size + 1 + 1) w.heap.size (w.heap.size + 1)) ∧
    (V4 b y x w).heap.size = w.heap.size + 4 ∧ Below w.heap.size w (V4 b y x w) := by
  refine ⟨⟨by simp [V4, W2b, go_sem], by simp [V4, W2b, go_sem], by simp [V4, W2b, go_sem]⟩, by simp [V4, W2b, go_sem], by simp, ?_⟩
  exact ((((Below.refl _ _).alloc (Nat.le_refl _) _).alloc (by simp) _).alloc (by simp; omega) _).alloc (by simp; omega) _

/-- What the calls of one search answer. -/
structure TDirs (b y x : Int) (S R : Nat → Int) : Prop where
  s : ∀ (k : Nat) (d : Int) (nb ny nx : Nat) (w : World), k < 91 → d = (k : Int) → Capt b y x nb ny nx w →
    Calls Try.prog 17 #[.int .i64 d, .pointer (some ⟨nb, 0, none⟩), .pointer (some ⟨ny, 0, none⟩), .pointer (some ⟨nx, 0, none⟩)] w fun e w' => e = .returned (.int .i64 (S k)) ∧ Below w.heap.size w w'
  z : R 0 = b
  bd : ∀ k, -70368744112128 ≤ S k ∧ S k ≤ 70368744112128
  e : S 90 ≤ 0
  r : ∀ (k : Nat), k < 90 → 0 < S k → S (k + 1) ≤ 0 → ∃ n, 0 ≤ n ∧ n ≤ 65536 ∧ (b + (k : Int) * 65536 + n) % 23592960 = R (k + 1) ∧
    ∀ w, Calls Try.prog 21 #[.int .i64 (S k), .int .i64 (S k - S (k + 1))] w fun e w' => e = .returned (.int .i64 n) ∧ Below w.heap.size w w'

set_option maxHeartbeats 1000000 in
theorem dir_yes (y x b : Int) (S R : Nat → Int) (w : World) (hn : ¬(x = 0 ∧ y = 0)) (b0 : 0 ≤ b) (b1 : b ≤ 17694720)
    (m1 : Hid (∀ w, Calls Try.prog 15 #[.int .i64 y] w fun e w' => e = .returned (.bool true) ∧ w = w'))
    (m2 : Hid (∀ w, Calls Try.prog 15 #[.int .i64 x] w fun e w' => e = .returned (.bool true) ∧ w = w'))
    (mq : Hid (∀ w, Calls Try.prog 16 #[.int .i64 y, .int .i64 x] w fun e w' => e = .returned (.int .i64 b) ∧ w = w'))
    (hs : Hid (Calls Try.prog 18 #[.int .i64 90, .func (.func 19) #[] #[.pointer (some ⟨w.heap.size + 1 + 1 + 1, 0, none⟩)]] (V4 b y x w) (Finds S (V4 b y x w))))
    (H : Hid (TDirs b y x S R)) :
    Calls Try.prog 9 #[.int .i64 y, .int .i64 x] w (DirRes S R w) := by
  have hz : ((x == 0) = true ∧ (y == 0) = false) ∨ (x == 0) = false := by
    by_cases h : x = 0
    · left; constructor
      · simpa using h
      · simp; omega
    · right; simpa using h
  clear hn
  go_enter Try.func9, Try.ntmps9
  go_upto_region 1 with fail
  go_cut [26] from 6 to 54 (fun c wx => c = .bool false ∧ W2b y x w = wx)
  case first =>
    rcases hz with ⟨hx, hy⟩ | hx
    · go_wp2_with fail
      refine (m1.out _).mono ?_
      rintro e w' ⟨rfl, rfl⟩
      go_wp2_with fail
      refine (m2.out _).mono ?_
      rintro e w' ⟨rfl, rfl⟩
      go_wp2_with fail
      go_meet
      exact ⟨rfl, rfl⟩
    · go_wp2_with fail
      refine (m1.out _).mono ?_
      rintro e w' ⟨rfl, rfl⟩
      go_wp2_with fail
      refine (m2.out _).mono ?_
      rintro e w' ⟨rfl, rfl⟩
      go_wp2_with fail
      go_meet
      exact ⟨rfl, rfl⟩
  case rest =>
    obtain ⟨rfl, rfl⟩ := hcut
    clear hz
    go_wp2_with fail
    refine (mq.out _).mono ?_
    rintro e w' ⟨rfl, rfl⟩
    go_wp2_with fail
    refine hs.out.mono ?_
    clear hs m1 m2 mq
    rintro e ws ⟨m, hm, hp, hq, rfl, ks⟩
    obtain ⟨hc, hf, hsz, hb⟩ := v4_facts b y x w
    have hp := Lib.hid hp
    have hq := Lib.hid hq
    have kk := Lib.hid (hb.trans (ks.mono (by omega)))
    have g1 := cell_later ks hc.b
    have g2 := cell_later ks hc.y
    have g3 := cell_later ks hc.x
    have g4 := cell_later ks hf
    rename_i hp0 hq0
    clear hp0 hq0 ks hc hf hsz hb
    generalize w.heap.size + 1 + 1 + 1 = nf at *
    generalize w.heap.size + 1 + 1 = nb at *
    generalize w.heap.size + 1 = nx at *
    by_cases hm0 : m = 0
    · subst hm0
      go_wp2
      go_ret2
      exact ⟨0, by omega, hp.out, hq.out, ret_ok H.out.z.symm rfl, kk.out⟩
    · obtain ⟨j, rfl⟩ : ∃ j, m = j + 1 := ⟨m - 1, by omega⟩
      have s0 := hp.out j (by omega)
      have s1 : S (j + 1) ≤ 0 := by
        by_cases h : j + 1 < 90
        · exact hq.out h
        · have h' : j + 1 = 90 := by omega
          rw [h']; exact H.out.e
      obtain ⟨n, n0, n1, hR, hr⟩ := H.out.r j (by omega) s0 s1
      have cr := Lib.hid hr
      have hR := Lib.hid hR
      obtain ⟨t0, t1⟩ := H.out.bd j
      obtain ⟨v0, v1⟩ := H.out.bd (j + 1)
      have ca := Lib.hid (fun nb ny nx w => H.out.s j (j : Int) nb ny nx w (by omega) rfl)
      have cb := Lib.hid (fun nb ny nx w => H.out.s (j + 1) ((j + 1 : Nat) : Int) nb ny nx w (by omega) rfl)
      have cc := Lib.hid (fun w => reduced_any (b + (j : Int) * 65536 + n) w)
      have ed : ((j + 1 : Nat) : Int) - 1 = (j : Int) := by omega
      have i0 : (0 : Int) ≤ (j : Int) := by omega
      have i1 : (j : Int) < 90 := by omega
      have i2 : (0 : Int) < ((j + 1 : Nat) : Int) := by omega
      have i3 : ((j + 1 : Nat) : Int) ≤ 90 := by omega
      have FIN := Lib.hid (show ∀ w', Below w.heap.size w w' → DirRes S R w (.returned (.tuple #[.int .i64 (R (j + 1)), .bool true])) w' from
        fun w' kb => ⟨j + 1, hm, hp.out, hq.out, rfl, kb⟩)
      clear hr s0 s1 hp hq H hm hm0
      rename_i hR0
      clear hR0
      rw [hR.out] at cc
      clear hR
      generalize R (j + 1) = rr at *
      generalize S (j + 1) = sb at *
      generalize S j = sa at *
      generalize hk0 : (j : Int) = k0 at *
      generalize hk1 : ((j + 1 : Nat) : Int) = k1 at *
      clear hk0 hk1
      have e1 : IntKind.i64.wrap (k1 - 1) = k0 := by rw [ed]; exact IntWalk.i64_in _ (by omega)
      have e2 : IntKind.i64.wrap (k0 * 65536) = k0 * 65536 := IntWalk.i64_in _ (by omega)
      have e3 : IntKind.i64.wrap (b + k0 * 65536) = b + k0 * 65536 := IntWalk.i64_in _ (by omega)
      have e4 : IntKind.i64.wrap (b + k0 * 65536 + n) = b + k0 * 65536 + n := IntWalk.i64_in _ (by omega)
      have e5 : IntKind.i64.wrap (sa - sb) = sa - sb := IntWalk.i64_in _ (by omega)
      clear ed
      go_wp2_with fail
      go_region_held3 (fun wx => wx.cell? ⟨nf, 0, none⟩ = some (sideF nb w.heap.size nx) ∧ wx.cell? ⟨nb, 0, none⟩ = some (.int .i64 b))
        (first | exact ⟨cell_later kd (cell_later kc g4), cell_later kd (cell_later kc g1)⟩ | exact ⟨cell_later kc g4, cell_later kc g1⟩ | exact ⟨g4, g1⟩ | go_keep)
        (first | (go_at_call_of 17 (Value.int IntKind.i64 k0); refine (ca.out nb w.heap.size nx _ ?_).mono ?_; (exact ⟨g1, g2, g3⟩); rintro e wc ⟨rfl, kc⟩) | (go_at_call_of 17 (Value.int IntKind.i64 k1); refine (cb.out nb w.heap.size nx _ ?_).mono ?_; (exact ⟨cell_later kc g1, cell_later kc g2, cell_later kc g3⟩); rintro e wd ⟨rfl, kd⟩))
      have k5 := Lib.hid ((kk.out.trans ((below_drew kc).mono kk.out.size)).trans (kd.mono (Nat.le_trans kk.out.size (below_drew kc).size)))
      have g5 := cell_later kd (cell_later kc g1)
      clear kc kd g1 g2 g3 g4
      go_wp2_with fail
      go_region_held3 (fun wx => wx.cell? ⟨nb, 0, none⟩ = some (.int .i64 b))
        (first | exact cell_later kf g5 | exact g5 | go_keep)
        (first | (go_at_call 21; refine (cr.out _).mono ?_; rintro e wf ⟨rfl, kf⟩) | (go_at_call 20; refine (cc.out _).mono ?_; rintro e wg ⟨rfl, rfl⟩))
      go_wp2
      go_ret2
      exact FIN.out _ (k5.out.trans ((below_drew kf).mono k5.out.size))
end Go.Proofs.Ytiminclbkmkgnaa
