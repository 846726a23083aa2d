/- ScopeHides: the walk. -/
import Derived.Test.YtlkbnldpecolbaaPD
namespace Go.Proofs.Ytlkbnldpecolbaa
open Go.RowKit
set_option linter.unusedVariables false
set_option linter.unusedSimpArgs false
set_option maxRecDepth 1000000
set_option maxHeartbeats 4000000

-- omega without the facts that speak of wrapped numbers
set_option hygiene false in
local macro "omg" : tactic => `(tactic| ((try clear q1); (try clear q2); (try clear q3); (try clear q4); (try clear q5); (try clear q6); (try clear v1); (try clear v2); (try clear v3); (try clear v4); (try clear v5); (try clear v6); (try clear v7); (try clear v1'); (try clear v2'); (try clear v3'); (try clear v4'); (try clear v5'); (try clear v6'); (try clear v7'); omega))
/-- How it goes on behind the first loop, in the three cases. -/
theorem hides_add_zero (k : ByteArray) (b c : Int) (hb0 : 0 ≤ b) (hb1 : b ≤ 255) (hc0 : 0 ≤ c) (hc1 : c ≤ 255) (r p : Nat) (hr : b.tmod 10 = r) (hp : c.tmod 2 = p) (hz : r = 0 ∧ ¬ r % 2 = p) (w : World) : Calls Try.prog 3 #[.string k, .int .u8 b, .int .u8 c, .bool true] w fun e w' => e = .returned (.bool true) ∧ Below w.heap.size w w' := by
  have hr2 : r < 10 := by rw [Int.tmod_eq_emod_of_nonneg hb0] at hr; omg
  have hp2 : p < 2 := by rw [Int.tmod_eq_emod_of_nonneg hc0] at hp; omg
  have HR := Lib.hid hr2
  have HP2 := Lib.hid hp2
  have HZ := Lib.hid hz
  clear hz
  have q1 : IntKind.i64.wrap b = b := IntWalk.i64_in _ (by omg)
  have q2 : wrap64 b = b := by rw [← IntWalk.i64_left]; exact q1
  have q3 : IntKind.i64.wrap c = c := IntWalk.i64_in _ (by omg)
  have q4 : wrap64 c = c := by rw [← IntWalk.i64_left]; exact q3
  have q5 : IntKind.i64.wrap (1 + (r : Int)) = ((r + 1 : Nat) : Int) := by rw [IntWalk.i64_in _ (by omg)]; omg
  have q6 : wrap64 (1 + (r : Int)) = ((r + 1 : Nat) : Int) := by rw [← IntWalk.i64_left]; exact q5
  clear hr2 hp2 hb0 hb1 hc0 hc1
  go_enter Try.func3, Try.ntmps3
  go_wp2_with fail
  refine (scKnown _).mono ?_
  rintro e w2 ⟨rfl, k2⟩
  have K2 := Lib.hid k2
  clear k2
  by_cases hs : (100 : Int) < k.size
  · go_wp2
    go_ret
    exact ⟨rfl, K2.out⟩
  obtain ⟨nm, hn⟩ : ∃ nm, (⟨#[97, 100, 100]⟩ : ByteArray) = nm := ⟨_, rfl⟩
  have HS : Hid (nm.size ≤ 100) := Lib.hid (by rw [← hn]; decide)
  obtain ⟨m, hm⟩ : ∃ m, r + 1 = m := ⟨_, rfl⟩
  rw [hm] at q5 q6
  have HM := Lib.hid hm
  clear hm
  go_wp2_with fail
  refine (new_any _).mono ?_
  rintro e w3 ⟨rfl, rfl⟩
  go_wp2_with fail
  refine (Rs.begin (w0 := w) (bs := []) K2.out (by simp) (by simp)).mono ?_
  rintro e w4 ⟨sb, rfl, r4⟩
  obtain ⟨hb, hhb⟩ : ∃ hb, w2.heap.size = hb := ⟨_, rfl⟩
  rw [hhb] at r4 ⊢
  have R := Lib.hid r4
  clear r4 hhb K2
  go_wp2_with fail
  (try rw [hn])
  clear hn
  refine (scName _ _).mono ?_
  rintro e w5 ⟨rfl, kk⟩
  replace R := Lib.hid (R.out.later kk)
  clear kk
  obtain ⟨E0, h1⟩ : ∃ E0, fndE ds0 [sysO, usrO] (nmO nm) = E0 := ⟨_, rfl⟩
  obtain ⟨⟨ko, xo, no, ao, lo, so⟩, h2⟩ : ∃ O0, fndO ds0 [sysO, usrO] (nmO nm) = O0 := ⟨_, rfl⟩
  obtain ⟨⟨kv, xv, nv, av, lv, sv⟩, h3⟩ : ∃ V0, fndV ds0 [sysO, usrO] (nmO nm) = V0 := ⟨_, rfl⟩
  have FW := Lib.hid (And.intro h1 (And.intro h2 h3))
  clear h1 h2 h3
  go_wp2_with fail
  have hc := R.out.leaf fun out h => xFind h (nmO nm)
  rw [FW.out.1, FW.out.2.1, FW.out.2.2] at hc
  simp only [Ob.val, dO, cntO] at hc
  refine hc.mono ?_
  rintro e w6 ⟨rfl, rr⟩
  replace R := Lib.hid rr
  clear hc rr
  go_upto_region 12 with fail
  obtain ⟨w6b, ee, rr⟩ := R.out.two (⟨kv, xv, nv, av, lv, sv⟩) (⟨ko, xo, no, ao, lo, so⟩)
  (try simp only [sysO] at ee rr)
  rw [ee]
  replace R := Lib.hid rr
  clear ee rr
  obtain ⟨wa, hwa⟩ : ∃ wa, wa = w6b := ⟨_, rfl⟩
  rw [← hwa] at R ⊢
  clear hwa
  obtain ⟨B12, hB12⟩ : ∃ B12, w6.heap.size = B12 := ⟨_, rfl⟩
  obtain ⟨B13, hB13⟩ : ∃ B13, w6.heap.size + 1 = B13 := ⟨_, rfl⟩
  simp only [hB13] at R ⊢
  simp only [hB12] at R ⊢
  clear hB12 hB13
  go_wp2_with fail
  go_loopw [16] (fun x wr => ∃ j : Nat, j ≤ m ∧ x = .int .i64 j ∧ Rs w hb sb (dsH nm p j) (LH j) [(B13, obObj ko xo no ao lo so), (B12, obObj kv xv nv av lv sv)] wr) (fun x _ => m - (intOf x).toNat)
  case atStart => exact ⟨0, Nat.zero_le _, rfl, R.out⟩
  case round =>
    obtain ⟨j, hj, rfl, rj⟩ := hrel
    clear R
    have R := Lib.hid rj
    clear rj
    by_cases hlt : j < m
    · have t1 : (j : Int) < m := by omg
      have HJ := Lib.hid hlt
      have v1 : IntKind.i64.wrap ((j : Int) + 1) = (j : Int) + 1 := IntWalk.i64_in _ (by have := HM.out; have := HR.out; omg)
      have v2 : wrap64 ((j : Int) + 1) = (j : Int) + 1 := by rw [← IntWalk.i64_left]; exact v1
      obtain ⟨A, hA⟩ : ∃ A : Int, A = ((j % 2 : Nat) : Int) := ⟨_, rfl⟩
      have v3 : (j : Int).tmod 2 = A := by rw [Int.tmod_eq_emod_of_nonneg (by omg), hA]; omg
      have hjm : j ≤ 10 := by have := HM.out; have := HR.out; omg
      have HJM := Lib.hid hjm
      clear hj hlt hjm
      go_wp2_with fail
      have hc := R.out.call fun out h => xNewH h HJM.out
      refine hc.mono ?_
      rintro e wb ⟨rfl, rr⟩
      replace R := Lib.hid rr
      clear hc rr 
      go_upto_region 17 with fail
      obtain ⟨wc, ee, rr⟩ := R.out.one (dO j)
      simp only [dO] at ee rr
      rw [ee]
      replace R := Lib.hid rr
      clear ee rr
      obtain ⟨⟨c0, c1, c2, c3, c4, c5⟩, _⟩ := cells6 R.out.at0
      go_wp2_with fail
      have hc := R.out.call fun out h => xBeginH h HJM.out
      refine hc.mono ?_
      rintro e wd ⟨rfl, rr⟩
      replace R := Lib.hid rr
      clear hc rr c0 c1 c2 c3 c4 c5
      by_cases hjp : j % 2 = p
      · have HJP := Lib.hid hjp
        have hAP : A = (p : Int) := by rw [hA, hjp]
        clear hA hjp
        go_wp2_with fail
        refine (scName _ _).mono ?_
        rintro e we ⟨rfl, kk⟩
        replace R := Lib.hid (R.out.later kk)
        clear kk
        go_wp2_with fail
        have hc := R.out.call fun out h => xDefH h HS.out HJM.out HJP.out
        refine hc.mono ?_
        rintro e wf ⟨rfl, rr⟩
        replace R := Lib.hid rr
        clear hc rr 
        go_wp2
        go_roundw
        case rel => exact ⟨j + 1, HJ.out, by simp, R.out.sub (List.sublist_cons_self _ _)⟩
        case measure => simp [intOf]; have := HJ.out; omg
      · have HJP := Lib.hid hjp
        have hAP : ¬ A = (p : Int) := by rw [hA]; omg
        clear hA hjp
        have R2 := R.out
        rw [← dsH_no HJP.out] at R2
        replace R := Lib.hid R2
        clear R2
        go_wp2
        go_roundw
        case rel => exact ⟨j + 1, HJ.out, by simp, R.out.sub (List.sublist_cons_self _ _)⟩
        case measure => simp [intOf]; have := HJ.out; omg
    · obtain rfl : j = m := by omg
      clear hlt hj
      obtain ⟨A, hA⟩ : ∃ A : Int, A = ((r % 2 : Nat) : Int) := ⟨_, rfl⟩
      have v3 : (r : Int).tmod 2 = A := by rw [Int.tmod_eq_emod_of_nonneg (by omg), hA]; omg
      have v4 : IntKind.i64.wrap ((j : Int) - 1) = r := by rw [IntWalk.i64_in _ (by have := HM.out; have := HR.out; omg)]; have := HM.out; omg
      have v5 : wrap64 ((j : Int) - 1) = r := by rw [← IntWalk.i64_left]; exact v4
      obtain ⟨hr0, hrp⟩ := HZ.out
      have hAP : ¬ A = (p : Int) := by rw [hA]; omg
      have FF : Hid (fndE (dsH nm p j) (LH j) (nmO nm) = E0 ∧ fndO (dsH nm p j) (LH j) (nmO nm) = ⟨ko, xo, no, ao, lo, so⟩ ∧ fndV (dsH nm p j) (LH j) (nmO nm) = ⟨kv, xv, nv, av, lv, sv⟩) := Lib.hid (by
        have g1 := hide_no (m := j) HS.out (j := r) (by have := HM.out; omg) hrp
        have g2 := hide_was (nm := nm) (p := p) HS.out j
        rw [HM.out, hr0] at g1
        exact ⟨g1.1.trans (g2.1.trans FW.out.1), g1.2.1.trans (g2.2.1.trans FW.out.2.1), g1.2.2.trans (g2.2.2.trans FW.out.2.2)⟩)
      have v6 : IntKind.i64.wrap ((r : Int) - 1) = -1 := by rw [hr0]; rfl
      have v7 : wrap64 ((r : Int) - 1) = -1 := by rw [← IntWalk.i64_left]; exact v6
      clear hA hrp hr0
      go_wp2_with fail
      refine (scName _ _).mono ?_
      rintro e wg ⟨rfl, kk⟩
      replace R := Lib.hid (R.out.later kk)
      clear kk
      go_wp2_with fail
      have hc := R.out.leaf fun out h => xFind h (nmO nm)
      rw [FF.out.1, FF.out.2.1, FF.out.2.2] at hc
      simp only [Ob.val, dO, cntO] at hc
      refine hc.mono ?_
      rintro e wh ⟨rfl, rr⟩
      replace R := Lib.hid rr
      clear hc rr
      go_upto_region 25 with fail
      obtain ⟨whb, ee, rr⟩ := R.out.two (⟨kv, xv, nv, av, lv, sv⟩) (⟨ko, xo, no, ao, lo, so⟩)
      (try simp only [dO, cntO] at ee rr)
      rw [ee]
      replace R := Lib.hid rr
      clear ee rr
      obtain ⟨⟨c0, c1, c2, c3, c4, c5⟩, _⟩ := cells6 R.out.at1
      obtain ⟨⟨d0, d1, d2, d3, d4, d5⟩, _⟩ := cells6 R.out.at3
      go_wp2_with fail
      replace R := Lib.hid (R.out.sub ((List.sublist_cons_self _ _).trans (List.sublist_cons_self _ _)))
      clear c0 c1 c2 c3 c4 c5 d0 d1 d2 d3 d4 d5
      go_loopw [23] (fun x wr => ∃ i : Nat, i ≤ j ∧ x = .int .i64 i ∧ Rs w hb sb (dsH nm p j) (LH (j - i)) [(B13, obObj ko xo no ao lo so), (B12, obObj kv xv nv av lv sv)] wr) (fun x _ => j - (intOf x).toNat)
      case atStart => exact ⟨0, Nat.zero_le _, rfl, R.out⟩
      case round =>
        obtain ⟨i, hi, rfl, rj⟩ := hrel
        clear R
        by_cases hlt : i < j
        · obtain ⟨q, hq⟩ : ∃ q, j - i = q + 1 := ⟨j - i - 1, by omg⟩
          rw [hq] at rj
          have R := Lib.hid rj
          have t1 : (i : Int) < j := by omg
          have HJ := Lib.hid hlt
          have HQ : Hid (j - (i + 1) = q) := Lib.hid (by omg)
          have v1 : IntKind.i64.wrap ((i : Int) + 1) = (i : Int) + 1 := IntWalk.i64_in _ (by have := HM.out; have := HR.out; omg)
          have v2 : wrap64 ((i : Int) + 1) = (i : Int) + 1 := by rw [← IntWalk.i64_left]; exact v1
          clear hi hlt hq rj
          go_wp2_with fail
          have hc := R.out.call fun out h => xEndH h
          refine hc.mono ?_
          rintro e wi ⟨rfl, rr⟩
          replace R := Lib.hid rr
          clear hc rr 
          go_wp2
          go_roundw
          case rel => exact ⟨i + 1, HJ.out, by simp, by rw [HQ.out]; exact R.out⟩
          case measure => simp [intOf]; have := HJ.out; omg
        · obtain rfl : i = j := by omg
          rw [Nat.sub_self] at rj
          have R := Lib.hid rj
          clear hi hlt rj
          go_wp2_with fail
          refine (scName _ _).mono ?_
          rintro e wk ⟨rfl, kk⟩
          replace R := Lib.hid (R.out.later kk)
          clear kk
          have FZ : Hid (fndE (dsH nm p i) (LH 0) (nmO nm) = E0 ∧ fndO (dsH nm p i) (LH 0) (nmO nm) = ⟨ko, xo, no, ao, lo, so⟩ ∧ fndV (dsH nm p i) (LH 0) (nmO nm) = ⟨kv, xv, nv, av, lv, sv⟩) := Lib.hid (by
            have g2 := hide_was (nm := nm) (p := p) HS.out i
            exact ⟨g2.1.trans FW.out.1, g2.2.1.trans FW.out.2.1, g2.2.2.trans FW.out.2.2⟩)
          go_wp2_with fail
          have hc := R.out.leaf fun out h => xFind h (nmO nm)
          rw [FZ.out.1, FZ.out.2.1, FZ.out.2.2] at hc
          simp only [Ob.val, dO, cntO] at hc
          refine hc.mono ?_
          rintro e wl ⟨rfl, rr⟩
          replace R := Lib.hid rr
          clear hc rr
          go_upto_region 33 with fail
          obtain ⟨wlb, ee, rr⟩ := R.out.two (⟨kv, xv, nv, av, lv, sv⟩) (⟨ko, xo, no, ao, lo, so⟩)
          (try simp only [sysO] at ee rr)
          rw [ee]
          replace R := Lib.hid rr
          clear ee rr
          obtain ⟨⟨c0, c1, c2, c3, c4, c5⟩, _⟩ := cells6 R.out.at1
          obtain ⟨⟨d0, d1, d2, d3, d4, d5⟩, _⟩ := cells6 R.out.at0
          obtain ⟨⟨e0, e1, e2, e3, e4, e5⟩, _⟩ := cells6 R.out.at3
          obtain ⟨⟨f0, f1, f2, f3, f4, f5⟩, _⟩ := cells6 R.out.at2
          go_wp2_with fail
          have hc := R.out.leaf fun out h => (xDepth h).mono fun e w' q => ⟨q.1, q.2 ▸ Below.refl _ _⟩
          refine hc.mono ?_
          rintro e wm ⟨rfl, rr⟩
          have B := Lib.hid rr.below
          clear hc rr c0 c1 c2 c3 c4 c5 d0 d1 d2 d3 d4 d5 e0 e1 e2 e3 e4 e5 f0 f1 f2 f3 f4 f5
          go_wp2
          go_ret
          exact ⟨rfl, B.out⟩
end Go.Proofs.Ytlkbnldpecolbaa
