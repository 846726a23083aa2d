/- The walk of DictLast. -/
import Derived.Test.YtigboibcgpfphaaY9
namespace Go.Proofs.Ytigboibcgpfphaa
open Go.RowKit Go.Maps
set_option linter.unusedVariables false

theorem lNew {own : Nat → Prop} {hb : Nat} {w : World} (h : Sep own hb [] w) : Calls Try.prog 33 #[ptr hb, .int .i64 40] w fun e w' => e = .returned (.tuple #[obV 10 false 0 0 0 ⟨#[]⟩, .int .i64 0]) ∧ Sep own hb (oP [] 40) w' ∧ Kept own w w' := by
  refine (sNewDict h h.lt 40 (by decide) (by decide) (by simp [usedP])).mono ?_
  rintro e w' ⟨rfl, s, q⟩
  exact ⟨rfl, s, q⟩

theorem lNum {k : Nat} {w : World} {k1 n1 a1 l1 : Int} {x1 : Bool} {s1 : ByteArray} (hk : k < 256) (e : kNum k = ⟨k1, x1, n1, a1, l1, s1⟩) : Calls Try.prog 35 #[.int .i64 k, zeroOb] w fun e w' => e = .returned (obV k1 x1 n1 a1 l1 s1) ∧ Below w.heap.size w w' := by
  have := key_num k hk w
  rw [e] at this
  exact this

theorem eqSelf (k n a l : Int) (x : Bool) (s : ByteArray) (w : World) :
    (binOp .eql 26 (obV k x n a l s) (obV k x n a l s)).run Try.prog w = .ok (.bool true) w := by
  have h := eqO k n a l k n a l x x s s w
  simpa using h

set_option maxHeartbeats 2000000 in
set_option maxRecDepth 100000 in
theorem last_core (a0 a1 : Option Addr) (len0 cap0 len1 cap1 ask : Nat) (F : Nat → Nat) (G : Nat → Int) (w : World)
    (H0 : Hid (∀ i, i < len0 → ∃ x, a0 = some x ∧ w.cell? (x.add i) = some (.int .u8 (F i)) ∧ F i < 256))
    (H1 : Hid (∀ i, i < len1 → ∃ x, a1 = some x ∧ w.cell? (x.add i) = some (.int .i16 (G i)) ∧ -32768 ≤ G i ∧ G i ≤ 32767)) (hask : ask < 256) :
    Calls Try.prog 7 #[.slice a0 len0 cap0, .slice a1 len1 cap1, .int .u8 ask] w fun e w' => e = .returned (.bool true) ∧ Below w.heap.size w w' := by
  have ew : IntKind.i64.wrap (ask : Int) = ask := wrapi_in _ (by omega) (by omega)
  have HA := Lib.hid hask
  obtain ⟨⟨k1, x1, n1, c1, l1, s1⟩, hn1⟩ : ∃ o, kNum ask = o := ⟨_, rfl⟩
  obtain ⟨⟨k2, x2, n2, c2, l2, s2⟩, hn2⟩ : ∃ o, kKey ask = o := ⟨_, rfl⟩
  have HN1 := Lib.hid hn1
  have HN2 := Lib.hid hn2
  go_enter Try.func7, Try.ntmps7
  go_wp2_with fail
  refine (dknown_any w).mono ?_
  rintro e w0 ⟨rfl, k0'⟩
  have K0 := Lib.hid k0'
  clear k0'
  go_wp2_with fail
  refine (new_any w0).mono ?_
  rintro e w1 ⟨rfl, rfl⟩
  obtain ⟨w1, e1', s1', b1''⟩ : ∃ w1, w0.alloc (.cells #[.slice none 0 0, .int .i64 0] 86) = w1 ∧ Sep (fun b => b < w0.heap.size) w0.heap.size [] w1 ∧ Below w0.heap.size w0 w1 := ⟨_, rfl, Sep.new w0, box_below _ _⟩
  rw [e1']
  have S1 := Lib.hid s1'
  have B1 := Lib.hid b1''
  clear e1' s1' b1''
  go_wp2_with fail
  refine (lNew S1.out).mono ?_
  rintro e w2 ⟨rfl, s2', k2'⟩
  have S2 : Hid (Sep (fun b => b < w0.heap.size) w0.heap.size (oP [] 40) w2) := Lib.hid s2'
  have B2 : Hid (Below w0.heap.size w0 w2) := Lib.hid (B1.out.trans (k2'.below fun _ h => h))
  clear s2' k2'
  go_upto_region 5 with fail
  obtain ⟨w3, e3', s3', k3', o3⟩ := S2.out.box_ob 10 false 0 0 0 ⟨#[]⟩
  rw [e3']
  have S3 := Lib.hid s3'
  have B3 : Hid (Below w0.heap.size w0 w3) := Lib.hid (B2.out.trans (k3'.below fun _ h => h))
  have O3' := Lib.hid o3
  clear e3' s3' k3' o3
  go_upto_region 8 with fail
  obtain ⟨w4, e4', s4', k4', o4⟩ := S3.out.box_ob 0 false 0 0 0 ⟨#[]⟩
  rw [e4']
  have S4 := Lib.hid s4'
  have B4 : Hid (Below w0.heap.size w0 w4) := Lib.hid (B3.out.trans (k4'.below fun _ h => .inl h))
  have D4 : Hid (w4.heap[w2.heap.size]? = some (obObj 10 false 0 0 0 ⟨#[]⟩)) := Lib.hid ((k4'.block _ (.inr rfl)).trans O3'.out)
  have W4 := Lib.hid o4
  have N4 : Hid (w2.heap.size ≠ w3.heap.size ∧ w0.heap.size ≤ w3.heap.size) := Lib.hid ⟨by have := blk_lt O3'.out; omega, B3.out.size⟩
  clear e4' s4' k4' o4
  go_wp2_with fail
  refine (lNum HA.out HN1.out).mono ?_
  rintro e w5 ⟨rfl, k5'⟩
  have S5 := Lib.hid (S4.out.below k5').1
  have KP := Lib.hid (S4.out.below k5').2
  clear k5'
  go_wp2_with fail
  refine (lKey (a := ask) S5.out HN1.out HN2.out).mono ?_
  rintro e w6 ⟨rfl, s6', k6'⟩
  have S6 := Lib.hid s6'
  have KQ := Lib.hid (KP.out.trans k6')
  clear s6' k6'
  go_upto_region 9 with fail
  obtain ⟨w7, e7', s7', k7', o7⟩ := S6.out.box_ob k2 x2 n2 c2 l2 s2
  rw [e7']
  have ST : Hid (LSt w0.heap.size w0.heap.size (oP [] 40) w0 w7 w2.heap.size w3.heap.size w6.heap.size Ob.zero ⟨k2, x2, n2, c2, l2, s2⟩) := Lib.hid
    ⟨s7', (k7'.block _ (.inl (.inr rfl))).trans ((KQ.out.block _ (.inl (.inr rfl))).trans D4.out), (k7'.block _ (.inr rfl)).trans ((KQ.out.block _ (.inr rfl)).trans W4.out), o7, B4.out.trans ((KQ.out.trans k7').below fun _ h => .inl (.inl h)), N4.out.1, by have := blk_lt ((KQ.out.block _ (.inr rfl)).trans W4.out); omega, N4.out.2⟩
  clear e7' s7' k7' o7 S1 S2 S3 S4 S5 S6 B1 B2 B3 B4 D4 W4 N4 KP KQ O3'
  go_wp2
  go_loopw [13] (fun i wr => ∃ (j : Nat) (ps : List (Ob × Ob)) (want : Option Ob), j ≤ len0 ∧ j ≤ 40 ∧ i = .int .i64 j ∧ LastS (kKey ask) want j ps ∧ LSt w0.heap.size w0.heap.size (oP ps 40) w0 wr w2.heap.size w3.heap.size w6.heap.size (want.getD Ob.zero) ⟨k2, x2, n2, c2, l2, s2⟩) (fun i _ => len0 - (intOf i).toNat)
  case atStart => exact ⟨0, [], none, Nat.zero_le _, by decide, rfl, LastS.zero _, ST.out⟩
  case round =>
    obtain ⟨j, ps, want, hj, hj4, rfl, hL, hr⟩ := hrel
    have HR := Lib.hid hr
    have HL := Lib.hid hL
    clear hr hL
    by_cases hlt : j < len0
    · by_cases h40 : j < 40
      · obtain ⟨x, ex, hx, hz⟩ := H0.out j hlt
        subst ex
        have hxr := cell_later (K0.out.trans (HR.out.below.mono K0.out.size)) hx
        obtain ⟨z, hzz⟩ : ∃ z, F j = z := ⟨_, rfl⟩
        rw [hzz] at hz hx hxr
        have ez : IntKind.i64.wrap (z : Int) = z := wrapi_in _ (by omega) (by omega)
        have HZ := Lib.hid hz
        have t1 : (j : Int) < len0 := by omega
        have t2 : (j : Int) < 40 := by omega
        have t3 : (0 : Int) ≤ j := by omega
        have HW : Hid ((j : Int) + 1 = ((j + 1 : Nat) : Int)) := Lib.hid (by omega)
        obtain ⟨⟨p1, y1, m1, d1, r1, u1⟩, hm1⟩ : ∃ o, kNum z = o := ⟨_, rfl⟩
        obtain ⟨⟨p2, y2, m2, d2, r2, u2⟩, hm2⟩ : ∃ o, kKey z = o := ⟨_, rfl⟩
        have HM1 := Lib.hid hm1
        have HM2 := Lib.hid hm2
        clear hx hm1 hm2 hzz hz
        go_wp2_with fail
        refine (lNum HZ.out HM1.out).mono ?_
        rintro e wa ⟨rfl, ka⟩
        have RA := Lib.hid (HR.out.later ka)
        have KA := Lib.hid ka
        clear ka hxr ez
        go_upto_region 13 with fail
        obtain ⟨wb, eb, sb, kb, ob⟩ := RA.out.sep.box_ob p1 y1 m1 d1 r1 u1
        rw [eb]
        have SB := Lib.hid sb
        have RB := Lib.hid (RA.out.put (sb.sub fun _ h => .inl h) kb fun _ h => h)
        have DB := Lib.hid ob
        have NB : Hid (wa.heap.size ≠ w2.heap.size ∧ wa.heap.size ≠ w3.heap.size ∧ wa.heap.size ≠ w6.heap.size) := Lib.hid ⟨by have := blk_lt RA.out.d; omega, by have := blk_lt RA.out.want; omega, by have := blk_lt RA.out.q; omega⟩
        obtain ⟨b0, b1, b2, b3, b4, b5⟩ := ob_cells ob
        clear eb sb kb ob
        go_wp2_with fail
        refine (lKey (a := z) SB.out HM1.out HM2.out).mono ?_
        rintro e wc ⟨rfl, sc, kc⟩
        have SC := Lib.hid sc
        have RC := Lib.hid (RB.out.put sc kc fun _ h => .inl h)
        have DC' := Lib.hid ((kc.block _ (.inr rfl)).trans DB.out)
        clear sc kc b0 b1 b2 b3 b4 b5
        go_upto_region 14 with fail
        obtain ⟨wd, ed, sd, kd, od⟩ := SC.out.box_ob p2 y2 m2 d2 r2 u2
        rw [ed]
        have SD := Lib.hid sd
        have RD := Lib.hid (RC.out.put (sd.sub fun _ h => .inl h) kd fun _ h => .inl h)
        have DD' := Lib.hid ((kd.block _ (.inr rfl)).trans DC'.out)
        obtain ⟨b0, b1, b2, b3, b4, b5⟩ := ob_cells od
        obtain ⟨c0, c1', c2', c3, c4, c5⟩ := ob_cells RD.out.q
        clear ed sd kd od
        go_wp2_with fail
        refine (lSame (w := wd) (a := z) (ask := ask) HM2.out HN2.out).mono ?_
        rintro e we ⟨rfl, ke⟩
        have RE := Lib.hid (RD.out.later ke)
        have SE : Hid (Sep (fun b => O3 w0.heap.size w2.heap.size w3.heap.size w6.heap.size b ∨ b = wa.heap.size) w0.heap.size (oP ps 40) we) := Lib.hid ((SD.out.below ke).1.sub fun _ h => .inl h)
        have DE := Lib.hid ((ke.block _ (blk_lt DD'.out)).trans DD'.out)
        have WE := Lib.hid (K0.out.trans (RE.out.below.mono K0.out.size))
        clear ke b0 b1 b2 b3 b4 b5 c0 c1' c2' c3 c4 c5 SB SC SD RA RB RC RD DB DC' DD' KA
        obtain ⟨is, his⟩ : ∃ is, decide (isKey (kKey ask) (kKey z)) = is := ⟨_, rfl⟩
        rw [his]
        have HIS := Lib.hid his
        clear his
        obtain ⟨b0, b1, b2, b3, b4, b5⟩ := ob_cells DE.out
        obtain ⟨c0, c1', c2', c3, c4, c5⟩ := ob_cells RE.out.d
        by_cases hge : len1 ≤ j
        · have t4 : (len1 : Int) ≤ j := by omega
          clear hge
          go_wp2_with fail
          refine (lDrop SE.out HL.out (by omega) HM1.out).mono ?_
          rintro e wf ⟨rfl, sf, kf⟩
          have RF := Lib.hid (RE.out.put sf kf fun _ h => .inl h)
          have HL2 := Lib.hid (HL.out.drop z)
          clear sf kf b0 b1 b2 b3 b4 b5 c0 c1' c2' c3 c4 c5 SE RE DE
          cases is
          · rw [if_neg (of_decide_eq_false HIS.out)] at HL2
            go_wp2
            go_roundw
            case rel => exact ⟨j + 1, _, want, hlt, h40, congrArg (Value.int .i64) HW.out, HL2.out, RF.out⟩
            case measure => exact measure_one len0 j _ HW.out hlt
          · rw [if_pos (of_decide_eq_true HIS.out)] at HL2
            obtain ⟨⟨c0, c1', c2', c3, c4, c5⟩, f0, f1, f2, f3, f4, f5⟩ := cells6 RF.out.want
            go_wp2
            go_roundw
            case rel => exact ⟨j + 1, _, none, hlt, h40, congrArg (Value.int .i64) HW.out, HL2.out, RF.out.write Ob.zero⟩
            case measure => exact measure_one len0 j _ HW.out hlt
        · obtain ⟨xv, ex1, hxv, hv1, hv2⟩ := H1.out j (by omega)
          subst ex1
          have hxr := cell_later WE.out hxv
          obtain ⟨v, hv⟩ : ∃ v, G j = v := ⟨_, rfl⟩
          rw [hv] at hxr hv1 hv2
          have ev : IntKind.i64.wrap v = v := wrapi_in _ (by omega) (by omega)
          have HV := Lib.hid (show -32768 ≤ v ∧ v ≤ 32767 from ⟨hv1, hv2⟩)
          have t4 : decide (len1 ≤ j) = false := decide_eq_false hge
          have t5 : (j : Int) < len1 := by omega
          clear hge hxv hv
          clear b0 b1 b2 b3 b4 b5 c0 c1' c2' c3 c4 c5
          go_upto_region 21 with fail
          obtain ⟨wg, eg, sg, kg, og⟩ := SE.out.box_ob 3 false v 0 0 ⟨#[]⟩
          rw [eg]
          have SG := Lib.hid sg
          have RG := Lib.hid (RE.out.put (sg.sub fun _ h => .inl h) kg fun _ h => .inl h)
          have DG := Lib.hid ((kg.block _ (.inr rfl)).trans DE.out)
          have VG := Lib.hid og
          obtain ⟨b0, b1, b2, b3, b4, b5⟩ := ob_cells DG.out
          obtain ⟨c0, c1', c2', c3, c4, c5⟩ := ob_cells RG.out.d
          obtain ⟨g0, g1, g2, g3, g4, g5⟩ := ob_cells og
          clear eg sg kg og hxr ev hv1 hv2
          go_wp2_with fail
          refine (lSet SG.out HL.out h40 v HV.out HM1.out).mono ?_
          rintro e wf ⟨rfl, sf, kf⟩
          have RF := Lib.hid (RG.out.put sf kf fun _ h => .inl (.inl h))
          have VF := Lib.hid ((kf.block _ (.inr rfl)).trans VG.out)
          have HL2 := Lib.hid (HL.out.set z v HV.out)
          clear sf kf b0 b1 b2 b3 b4 b5 c0 c1' c2' c3 c4 c5 g0 g1 g2 g3 g4 g5 SE RE DE SG RG DG VG
          cases is
          · rw [if_neg (of_decide_eq_false HIS.out)] at HL2
            go_wp2
            go_roundw
            case rel => exact ⟨j + 1, _, want, hlt, h40, congrArg (Value.int .i64) HW.out, HL2.out, RF.out⟩
            case measure => exact measure_one len0 j _ HW.out hlt
          · rw [if_pos (of_decide_eq_true HIS.out)] at HL2
            obtain ⟨⟨c0, c1', c2', c3, c4, c5⟩, f0, f1, f2, f3, f4, f5⟩ := cells6 RF.out.want
            obtain ⟨g0, g1, g2, g3, g4, g5⟩ := ob_cells VF.out
            go_wp2
            go_roundw
            case rel => exact ⟨j + 1, _, some (Ob.num v), hlt, h40, congrArg (Value.int .i64) HW.out, HL2.out, RF.out.write (Ob.num v)⟩
            case measure => exact measure_one len0 j _ HW.out hlt
      · have t1 : (j : Int) < len0 := by omega
        have t2 : decide (j < 40) = false := decide_eq_false h40
        have t2' : decide ((j : Int) < 40) = false := decide_eq_false (by omega)
        clear hlt h40
        cases want with
        | none =>
          obtain ⟨b0, b1, b2, b3, b4, b5⟩ := ob_cells HR.out.d
          obtain ⟨c0, c1', c2', c3, c4, c5⟩ := ob_cells HR.out.q
          go_wp2_with fail
          refine (lGet (k2 := 0) (x2 := false) (n2 := 0) (a2 := 0) (l2 := 0) (s2 := ⟨#[]⟩) HR.out.sep HL.out (by omega) HN2.out rfl 9 rfl).mono ?_
          rintro e wx ⟨rfl, sx, kx⟩
          have RX := Lib.hid (HR.out.put sx kx fun _ h => h)
          clear sx kx b0 b1 b2 b3 b4 b5 c0 c1' c2' c3 c4 c5
          go_upto_region 26 with fail
          obtain ⟨wy, ey, ky, zy, b0, b1, b2, b3, b4, b5⟩ := ob_box wx 0 0 0 0 false ⟨#[]⟩
          rw [ey]
          have RY := Lib.hid (RX.out.later ky)
          have wc : wy.heap[w3.heap.size]? = some (obObj 0 false 0 0 0 ⟨#[]⟩) := RY.out.want
          obtain ⟨c0, c1', c2', c3, c4, c5⟩ := ob_cells wc
          clear wc
          have hq := eqSelf 0 0 0 0 false ⟨#[]⟩
          clear ey ky zy
          go_wp2
          go_ret
          exact ⟨ret_bool (by simp), K0.out.trans (RY.out.below.mono K0.out.size)⟩
        | some v =>
          obtain ⟨vv, hv⟩ : ∃ vv : Int, v = Ob.num vv := by
            obtain ⟨p, hp, _, hpv⟩ := (HL.out.has v).1 rfl
            obtain ⟨vv, _, _, e⟩ := HL.out.val p hp
            exact ⟨vv, hpv.symm.trans e⟩
          subst hv
          obtain ⟨b0, b1, b2, b3, b4, b5⟩ := ob_cells HR.out.d
          obtain ⟨c0, c1', c2', c3, c4, c5⟩ := ob_cells HR.out.q
          go_wp2_with fail
          refine (lGet (k2 := 3) (x2 := false) (n2 := vv) (a2 := 0) (l2 := 0) (s2 := ⟨#[]⟩) HR.out.sep HL.out (by omega) HN2.out rfl 0 rfl).mono ?_
          rintro e wx ⟨rfl, sx, kx⟩
          have RX := Lib.hid (HR.out.put sx kx fun _ h => h)
          clear sx kx b0 b1 b2 b3 b4 b5 c0 c1' c2' c3 c4 c5
          go_upto_region 26 with fail
          obtain ⟨wy, ey, ky, zy, b0, b1, b2, b3, b4, b5⟩ := ob_box wx 3 vv 0 0 false ⟨#[]⟩
          rw [ey]
          have RY := Lib.hid (RX.out.later ky)
          have wc : wy.heap[w3.heap.size]? = some (obObj 3 false vv 0 0 ⟨#[]⟩) := RY.out.want
          obtain ⟨c0, c1', c2', c3, c4, c5⟩ := ob_cells wc
          clear wc
          have hq := eqSelf 3 vv 0 0 false ⟨#[]⟩
          clear ey ky zy
          go_wp2
          go_ret
          exact ⟨ret_bool (by simp), K0.out.trans (RY.out.below.mono K0.out.size)⟩
    · have t1 : decide (j < len0) = false := decide_eq_false hlt
      clear hlt
      cases want with
      | none =>
        obtain ⟨b0, b1, b2, b3, b4, b5⟩ := ob_cells HR.out.d
        obtain ⟨c0, c1', c2', c3, c4, c5⟩ := ob_cells HR.out.q
        go_wp2_with fail
        refine (lGet (k2 := 0) (x2 := false) (n2 := 0) (a2 := 0) (l2 := 0) (s2 := ⟨#[]⟩) HR.out.sep HL.out (by omega) HN2.out rfl 9 rfl).mono ?_
        rintro e wx ⟨rfl, sx, kx⟩
        have RX := Lib.hid (HR.out.put sx kx fun _ h => h)
        clear sx kx b0 b1 b2 b3 b4 b5 c0 c1' c2' c3 c4 c5
        go_upto_region 26 with fail
        obtain ⟨wy, ey, ky, zy, b0, b1, b2, b3, b4, b5⟩ := ob_box wx 0 0 0 0 false ⟨#[]⟩
        rw [ey]
        have RY := Lib.hid (RX.out.later ky)
        have wc : wy.heap[w3.heap.size]? = some (obObj 0 false 0 0 0 ⟨#[]⟩) := RY.out.want
        obtain ⟨c0, c1', c2', c3, c4, c5⟩ := ob_cells wc
        clear wc
        have hq := eqSelf 0 0 0 0 false ⟨#[]⟩
        clear ey ky zy
        go_wp2
        go_ret
        exact ⟨ret_bool (by simp), K0.out.trans (RY.out.below.mono K0.out.size)⟩
      | some v =>
        obtain ⟨vv, hv⟩ : ∃ vv : Int, v = Ob.num vv := by
          obtain ⟨p, hp, _, hpv⟩ := (HL.out.has v).1 rfl
          obtain ⟨vv, _, _, e⟩ := HL.out.val p hp
          exact ⟨vv, hpv.symm.trans e⟩
        subst hv
        obtain ⟨b0, b1, b2, b3, b4, b5⟩ := ob_cells HR.out.d
        obtain ⟨c0, c1', c2', c3, c4, c5⟩ := ob_cells HR.out.q
        go_wp2_with fail
        refine (lGet (k2 := 3) (x2 := false) (n2 := vv) (a2 := 0) (l2 := 0) (s2 := ⟨#[]⟩) HR.out.sep HL.out (by omega) HN2.out rfl 0 rfl).mono ?_
        rintro e wx ⟨rfl, sx, kx⟩
        have RX := Lib.hid (HR.out.put sx kx fun _ h => h)
        clear sx kx b0 b1 b2 b3 b4 b5 c0 c1' c2' c3 c4 c5
        go_upto_region 26 with fail
        obtain ⟨wy, ey, ky, zy, b0, b1, b2, b3, b4, b5⟩ := ob_box wx 3 vv 0 0 false ⟨#[]⟩
        rw [ey]
        have RY := Lib.hid (RX.out.later ky)
        have wc : wy.heap[w3.heap.size]? = some (obObj 3 false vv 0 0 ⟨#[]⟩) := RY.out.want
        obtain ⟨c0, c1', c2', c3, c4, c5⟩ := ob_cells wc
        clear wc
        have hq := eqSelf 3 vv 0 0 false ⟨#[]⟩
        clear ey ky zy
        go_wp2
        go_ret
        exact ⟨ret_bool (by simp), K0.out.trans (RY.out.below.mono K0.out.size)⟩
end Go.Proofs.Ytigboibcgpfphaa
