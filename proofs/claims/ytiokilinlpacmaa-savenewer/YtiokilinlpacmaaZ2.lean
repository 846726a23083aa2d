/- The walk of SaveNewer. -/
import Derived.Test.YtiokilinlpacmaaS6
namespace Go.Proofs.Ytiokilinlpacmaa
open Go.RowKit
set_option linter.unusedVariables false

theorem newS_none {L : List Sv} {o : Ob} (x : Ob) (h : atS L o = none) : newS L o x = false := by simp [newS, h]
theorem newS_cell {L : List Sv} {o x : Ob} {i : Nat} {s : Sv} (h : atS L o = some i) (hs : L[i]? = some s) (hx : x.k = 9 ∨ x.k = 8 ∨ x.k = 10) : newS L o x = decide ((s.q.length : Int) ≤ x.n) := by
  simp only [newS, h, hs, Option.map_some, Option.getD_some]
  rw [if_pos hx]
theorem newS_sv {L : List Sv} {o x : Ob} {i : Nat} (h : atS L o = some i) (hx : x.k = 11) : newS L o x = decide (o.n ≤ x.n) := by
  simp [newS, h, hx]
theorem newS_other {L : List Sv} {o x : Ob} (h1 : x.k ≠ 9) (h2 : x.k ≠ 8) (h3 : x.k ≠ 10) (h4 : x.k ≠ 11) : newS L o x = false := by
  unfold newS
  split
  · rfl
  · simp [h1, h2, h3, h4]

def nArr (n : Nat) : List Cel := List.replicate n ⟨9, false, [], []⟩
def nDic (n m : Nat) : List Cel := nArr n ++ List.replicate m ⟨10, false, emptyD 0, []⟩
theorem nArr_succ (n : Nat) : nArr n ++ [⟨9, false, List.replicate 0 Ob.null, []⟩] = nArr (n + 1) := by simp [nArr, List.replicate_succ']
theorem nDic_succ (n m : Nat) : nDic n m ++ [⟨10, false, emptyD 0, []⟩] = nDic n (m + 1) := by simp [nDic, List.replicate_succ']
theorem nDic_zero (n : Nat) : nDic n 0 = nArr n := by simp [nDic]
theorem nArr_len (n : Nat) : (nArr n).length = n := by simp [nArr]
theorem nDic_len (n m : Nat) : (nDic n m).length = n + m := by simp [nDic, nArr]
theorem nArr_used (n : Nat) : usedP (nArr n) = 0 := by
  induction n with
  | zero => rfl
  | succ n ih => simp_all [nArr, usedP, List.replicate_succ, Cel.size]
theorem nDic_used (n m : Nat) : usedP (nDic n m) = m := by
  induction m with
  | zero => rw [nDic_zero, nArr_used]
  | succ m ih =>
    rw [← nDic_succ]
    simp_all [usedP, Cel.size, emptyD]

set_option maxHeartbeats 1000000 in
set_option maxRecDepth 100000 in
theorem newer_walk (a b : Int) (A B n m : Nat) (w : World) (ha0 : 0 ≤ a) (ha1 : a ≤ 255) (hb0 : 0 ≤ b) (hb1 : b ≤ 255) (hA : a % 10 = A) (hB : b % 10 = B) (hn : (1 : Int) + A = n) (hm : (1 : Int) + B = m) :
    Calls Try.prog 4 #[.int .u8 a, .int .u8 b] w fun e w' => e = .returned (.bool true) ∧ Below w.heap.size w w' := by
  have HN : Hid (1 ≤ n ∧ n ≤ 10 ∧ 1 ≤ m ∧ m ≤ 10) := Lib.hid (by omega)
  go_enter Try.func4, Try.ntmps4
  go_wp2_with fail
  refine (sknown_any w).mono ?_
  rintro e w0 ⟨rfl, b0⟩
  have B0 := Lib.hid b0
  clear b0
  go_wp2_with fail
  refine (new_any w0).mono ?_
  rintro e w1 ⟨rfl, rfl⟩
  obtain ⟨w1, e1, s1, b1⟩ : ∃ w1, w0.alloc (.cells #[.slice none 0 0, .int .i64 0] 92) = w1 ∧ Sep (fun b => b < w0.heap.size) w0.heap.size [] w1 ∧ Below w0.heap.size w0 w1 := ⟨_, rfl, Sep.new w0, box_below _ _⟩
  rw [e1]
  have S1 := Lib.hid s1
  have B1 := Lib.hid b1
  clear e1 s1 b1
  go_wp2_with fail
  refine (svNew S1.out).mono ?_
  rintro e w2 ⟨rfl, s2, k2⟩
  have S2 := Lib.hid s2
  have B2 : Hid (Below w0.heap.size w0 w2) := Lib.hid (B1.out.trans (k2.below fun _ h => h))
  clear s2 k2 B1
  go_upto_region 5 with fail
  clear hA hB hn hm
  go_wp2
  go_loopw [9] (fun i wr => ∃ j : Nat, j ≤ n ∧ i = .int .i64 j ∧ SH (fun b => b < w0.heap.size) w0.heap.size (nArr j) w1.heap.size [] 0 wr ∧ Below w0.heap.size w0 wr) (fun i _ => n - (intOf i).toNat)
  case atStart => exact ⟨0, Nat.zero_le _, rfl, S2.out, B2.out⟩
  case round =>
    obtain ⟨j, hj, rfl, hs, hbel⟩ := hrel
    have HS := Lib.hid hs
    have HB := Lib.hid hbel
    clear hs hbel
    by_cases hlt : j < n
    · have t1 : (j : Int) < n := by omega
      have HL := Lib.hid hlt
      go_wp2_with fail
      refine (shArray HS.out 0 (by rw [nArr_len]; have := HN.out; have := HL.out; omega) (by rw [nArr_used]; decide)).mono ?_
      rintro e wa ⟨rfl, sa, ka⟩
      rw [nArr_succ] at sa
      have SA := Lib.hid sa
      have BA : Hid (Below w0.heap.size w0 wa) := Lib.hid (HB.out.trans (ka.below fun _ h => h))
      have e1 : IntKind.i64.wrap ((j : Int) + 1) = ((j + 1 : Nat) : Int) := by rw [IntWalk.i64_in _ (by have := HN.out; have := HL.out; omega)]; omega
      clear sa ka
      go_wp2
      go_roundw
      case rel => exact ⟨j + 1, HL.out, rfl, SA.out, BA.out⟩
      case measure => exact measure_up n j _ rfl HL.out
    · have ej : n = j := by omega
      subst ej
      have t1 : ¬ ((n : Int) < n) := by omega
      go_wp2_with fail
      refine (svSave HS.out (by decide) (by decide) 1 1 rfl rfl).mono ?_
      rintro e wa ⟨rfl, ⟨g1, sa⟩, ka⟩
      have SA : Hid (SH (fun b => b < w0.heap.size) w0.heap.size (nArr n) w1.heap.size [⟨1, g1, nArr n⟩] 1 wa) := Lib.hid sa
      have BA : Hid (Below w0.heap.size w0 wa) := Lib.hid (HB.out.trans (ka.below fun _ h => h))
      clear sa ka HS HB
      go_upto_region 10 with fail
      obtain ⟨wb, eb, sb', kb, ob⟩ := SA.out.box_ob 11 false 1 0 0 ⟨#[]⟩
      rw [eb]
      have SB : Hid (SH (fun b => b < w0.heap.size ∨ b = wa.heap.size) w0.heap.size (nDic n 0) w1.heap.size [⟨1, g1, nArr n⟩] 1 wb) := Lib.hid (by rw [nDic_zero]; exact sb')
      have BB : Hid (Below w0.heap.size w0 wb) := Lib.hid (BA.out.trans (kb.below fun _ h => h))
      have OB := Lib.hid ob
      clear eb sb' kb ob BA
      go_wp2
      go_loopw [12] (fun i wr => ∃ j : Nat, j ≤ m ∧ i = .int .i64 j ∧ SH (fun b => b < w0.heap.size ∨ b = wa.heap.size) w0.heap.size (nDic n j) w1.heap.size [⟨1, g1, nArr n⟩] 1 wr ∧ Below w0.heap.size w0 wr ∧ wr.heap[wa.heap.size]? = some (obObj 11 false 1 0 0 ⟨#[]⟩)) (fun i _ => m - (intOf i).toNat)
      case atStart => exact ⟨0, Nat.zero_le _, rfl, SB.out, BB.out, OB.out⟩
      case round =>
        obtain ⟨j, hj, rfl, hs, hbel, ho⟩ := hrel
        have HS := Lib.hid hs
        have HB := Lib.hid hbel
        have HO := Lib.hid ho
        clear hs hbel ho
        by_cases hlt : j < m
        · have t1 : (j : Int) < m := by omega
          have HL := Lib.hid hlt
          go_wp2_with fail
          refine (shDict HS.out 0 (by decide) (by rw [nDic_len]; have := HN.out; have := HL.out; omega) (by rw [nDic_used]; have := HN.out; have := HL.out; omega)).mono ?_
          rintro e wc ⟨rfl, sc, kc⟩
          rw [nDic_succ] at sc
          have SC := Lib.hid sc
          have BC : Hid (Below w0.heap.size w0 wc) := Lib.hid (HB.out.trans (kc.below fun _ h => .inl h))
          have OC := Lib.hid ((kc.block _ (.inr rfl)).trans HO.out)
          have e1 : IntKind.i64.wrap ((j : Int) + 1) = ((j + 1 : Nat) : Int) := by rw [IntWalk.i64_in _ (by have := HN.out; have := HL.out; omega)]; omega
          clear sc kc
          go_wp2
          go_roundw
          case rel => exact ⟨j + 1, HL.out, rfl, SC.out, BC.out, OC.out⟩
          case measure => exact measure_up m j _ rfl HL.out
        · have ej : m = j := by omega
          subst ej
          have t1 : ¬ ((m : Int) < m) := by omega
          go_wp2_with fail
          refine (svSave HS.out (by simp) (by decide) 2 2 rfl rfl).mono ?_
          rintro e wd ⟨rfl, ⟨g2, sd⟩, kd⟩
          have SD : Hid (SH (fun b => b < w0.heap.size ∨ b = wa.heap.size) w0.heap.size (nDic n m) w1.heap.size [⟨1, g1, nArr n⟩, ⟨2, g2, nDic n m⟩] 2 wd) := Lib.hid sd
          have BD : Hid (Below w0.heap.size w0 wd) := Lib.hid (HB.out.trans (kd.below fun _ h => .inl h))
          have OD := Lib.hid ((kd.block _ (.inr rfl)).trans HO.out)
          clear sd kd HS HB HO SB BB OB SA
          go_upto_region 15 with fail
          obtain ⟨we, ee, se, ke, oe⟩ := SD.out.box_ob 11 false 2 0 0 ⟨#[]⟩
          rw [ee]
          have SE := Lib.hid se
          have BE : Hid (Below w0.heap.size w0 we) := Lib.hid (BD.out.trans (ke.below fun _ h => .inl h))
          have OE := Lib.hid ((ke.block _ (.inr rfl)).trans OD.out)
          have PE := Lib.hid oe
          have NM : Hid (Nums [⟨1, g1, nArr n⟩, ⟨2, g2, nDic n m⟩] 2) := Lib.hid ((Nums.zero.push g1 (nArr n)).push g2 (nDic n m))
          have A1 : Hid (atS [⟨1, g1, nArr n⟩, ⟨2, g2, nDic n m⟩] ⟨11, false, 1, 0, 0, ⟨#[]⟩⟩ = some 0) := Lib.hid (NM.out.at (k := 0) (by decide) false)
          have A2 : Hid (atS [⟨1, g1, nArr n⟩, ⟨2, g2, nDic n m⟩] ⟨11, false, 2, 0, 0, ⟨#[]⟩⟩ = some 1) := Lib.hid (NM.out.at (k := 1) (by decide) false)
          clear ee se ke oe BD OD
          go_wp2
          go_loopw [15] (fun i wr => ∃ j : Nat, j ≤ n ∧ i = .int .i64 j ∧ SH (fun b => (b < w0.heap.size ∨ b = wa.heap.size) ∨ b = wd.heap.size) w0.heap.size (nDic n m) w1.heap.size [⟨1, g1, nArr n⟩, ⟨2, g2, nDic n m⟩] 2 wr ∧ Below w0.heap.size w0 wr ∧ wr.heap[wa.heap.size]? = some (obObj 11 false 1 0 0 ⟨#[]⟩) ∧ wr.heap[wd.heap.size]? = some (obObj 11 false 2 0 0 ⟨#[]⟩)) (fun i _ => n - (intOf i).toNat)
          case atStart => exact ⟨0, Nat.zero_le _, rfl, SE.out, BE.out, OE.out, PE.out⟩
          case round =>
            obtain ⟨j, hj, rfl, hs, hbel, ho, hp⟩ := hrel
            have HS := Lib.hid hs
            have HB := Lib.hid hbel
            have HO := Lib.hid ho
            have HP := Lib.hid hp
            clear hs hbel ho hp
            by_cases hlt : j < n
            · have t1 : (j : Int) < n := by omega
              have HL := Lib.hid hlt
              obtain ⟨c0, c1, c2, c3, c4, c5⟩ := ob_cells HO.out
              go_wp2_with fail
              refine (svNewer HS.out ⟨11, false, 1, 0, 0, ⟨#[]⟩⟩ ⟨9, false, (j : Int), 0, 0, ⟨#[]⟩⟩).mono ?_
              rintro e wf ⟨rfl, sf, kf⟩
              have ef : newS [⟨1, g1, nArr n⟩, ⟨2, g2, nDic n m⟩] ⟨11, false, 1, 0, 0, ⟨#[]⟩⟩ ⟨9, false, (j : Int), 0, 0, ⟨#[]⟩⟩ = false := by
                rw [newS_cell A1.out rfl (.inl rfl), nArr_len]
                have := HL.out
                simp
                omega
              rw [ef]
              have SF := Lib.hid sf
              have BF : Hid (Below w0.heap.size w0 wf) := Lib.hid (HB.out.trans (kf.below fun _ h => .inl (.inl h)))
              have OF := Lib.hid ((kf.block _ (.inl (.inr rfl))).trans HO.out)
              have PF := Lib.hid ((kf.block _ (.inr rfl)).trans HP.out)
              have e1 : IntKind.i64.wrap ((j : Int) + 1) = ((j + 1 : Nat) : Int) := by rw [IntWalk.i64_in _ (by have := HN.out; have := HL.out; omega)]; omega
              clear sf kf ef c0 c1 c2 c3 c4 c5
              go_wp2
              go_roundw
              case rel => exact ⟨j + 1, HL.out, rfl, SF.out, BF.out, OF.out, PF.out⟩
              case measure => exact measure_up n j _ rfl HL.out
            · have t1 : ¬ ((j : Int) < n) := by omega
              clear SE BE OE PE hj hlt
              have S3 := HS
              have B3 := HB
              have O3 := HO
              have P3 := HP
              clear HS HB HO HP
              go_wp2
              go_loopw [16] (fun i wr => ∃ j : Nat, n ≤ j ∧ j ≤ n + m ∧ i = .int .i64 j ∧ SH (fun b => (b < w0.heap.size ∨ b = wa.heap.size) ∨ b = wd.heap.size) w0.heap.size (nDic n m) w1.heap.size [⟨1, g1, nArr n⟩, ⟨2, g2, nDic n m⟩] 2 wr ∧ Below w0.heap.size w0 wr ∧ wr.heap[wa.heap.size]? = some (obObj 11 false 1 0 0 ⟨#[]⟩) ∧ wr.heap[wd.heap.size]? = some (obObj 11 false 2 0 0 ⟨#[]⟩)) (fun i _ => (n + m) - (intOf i).toNat)
              case atStart => exact ⟨n, Nat.le_refl _, Nat.le_add_right _ _, rfl, S3.out, B3.out, O3.out, P3.out⟩
              case round =>
                obtain ⟨j, hj0, hj, rfl, hs, hbel, ho, hp⟩ := hrel
                have HS := Lib.hid hs
                have HB := Lib.hid hbel
                have HO := Lib.hid ho
                have HP := Lib.hid hp
                have HJ := Lib.hid hj0
                clear hs hbel ho hp S3 B3 O3 P3 t1
                have n1 : (n : Int) ≤ 10 := by have := HN.out; omega
                have n2 : (m : Int) ≤ 10 := by have := HN.out; omega
                by_cases hlt : j < n + m
                · have t1 : (j : Int) < (n : Int) + m := by omega
                  have HL := Lib.hid hlt
                  have en : IntKind.i64.wrap ((n : Int) + m) = (n : Int) + m := IntWalk.i64_in _ (by omega)
                  clear hj0 hj hlt
                  obtain ⟨c0, c1, c2, c3, c4, c5⟩ := ob_cells HO.out
                  obtain ⟨d0, d1, d2, d3, d4, d5⟩ := ob_cells HP.out
                  go_wp2_with fail
                  refine (svNewer HS.out ⟨11, false, 1, 0, 0, ⟨#[]⟩⟩ ⟨10, false, (j : Int), 0, 0, ⟨#[]⟩⟩).mono ?_
                  rintro e wf ⟨rfl, swf, kwf⟩
                  have ewf : newS [⟨1, g1, nArr n⟩, ⟨2, g2, nDic n m⟩] ⟨11, false, 1, 0, 0, ⟨#[]⟩⟩ ⟨10, false, (j : Int), 0, 0, ⟨#[]⟩⟩ = true := by
                    rw [newS_cell A1.out rfl (.inr (.inr rfl)), nArr_len]
                    have := HJ.out
                    simp
                    omega
                  rw [ewf]
                  have Swf := Lib.hid swf
                  have Bwf : Hid (Below w0.heap.size w0 wf) := Lib.hid (HB.out.trans (kwf.below fun _ h => .inl (.inl h)))
                  have Owf := Lib.hid ((kwf.block _ (.inl (.inr rfl))).trans HO.out)
                  have Pwf := Lib.hid ((kwf.block _ (.inr rfl)).trans HP.out)
                  clear swf kwf ewf c0 c1 c2 c3 c4 c5 d0 d1 d2 d3 d4 d5
                  obtain ⟨c0, c1, c2, c3, c4, c5⟩ := ob_cells Pwf.out
                  go_wp2_with fail
                  refine (svNewer Swf.out ⟨11, false, 2, 0, 0, ⟨#[]⟩⟩ ⟨10, false, (j : Int), 0, 0, ⟨#[]⟩⟩).mono ?_
                  rintro e wg ⟨rfl, swg, kwg⟩
                  have ewg : newS [⟨1, g1, nArr n⟩, ⟨2, g2, nDic n m⟩] ⟨11, false, 2, 0, 0, ⟨#[]⟩⟩ ⟨10, false, (j : Int), 0, 0, ⟨#[]⟩⟩ = false := by
                    rw [newS_cell A2.out rfl (.inr (.inr rfl)), nDic_len]
                    have := HL.out
                    simp
                    omega
                  rw [ewg]
                  have Swg := Lib.hid swg
                  have Bwg : Hid (Below w0.heap.size w0 wg) := Lib.hid (Bwf.out.trans (kwg.below fun _ h => .inl (.inl h)))
                  have Owg := Lib.hid ((kwg.block _ (.inl (.inr rfl))).trans Owf.out)
                  have Pwg := Lib.hid ((kwg.block _ (.inr rfl)).trans Pwf.out)
                  clear swg kwg ewg c0 c1 c2 c3 c4 c5
                  have e1 : IntKind.i64.wrap ((j : Int) + 1) = ((j + 1 : Nat) : Int) := by rw [IntWalk.i64_in _ (by have := HL.out; omega)]; omega
                  go_wp2
                  go_roundw
                  case rel => exact ⟨j + 1, Nat.le_succ_of_le HJ.out, HL.out, rfl, Swg.out, Bwg.out, Owg.out, Pwg.out⟩
                  case measure => exact measure_up (n + m) j _ rfl HL.out
                · have t1 : ¬ ((j : Int) < (n : Int) + m) := by omega
                  have en : IntKind.i64.wrap ((n : Int) + m) = (n : Int) + m := IntWalk.i64_in _ (by omega)
                  clear hj0 hj hlt
                  go_upto_region 25 with fail
                  obtain ⟨c0, c1, c2, c3, c4, c5⟩ := ob_cells HO.out
                  go_wp2_with fail
                  refine (svNewer HS.out ⟨11, false, 1, 0, 0, ⟨#[]⟩⟩ ⟨11, false, 1, 0, 0, ⟨#[]⟩⟩).mono ?_
                  rintro e x1 ⟨rfl, sx1, kx1⟩
                  have ex1 : newS [⟨1, g1, nArr n⟩, ⟨2, g2, nDic n m⟩] ⟨11, false, 1, 0, 0, ⟨#[]⟩⟩ ⟨11, false, 1, 0, 0, ⟨#[]⟩⟩ = true := by rw [newS_sv A1.out rfl]; rfl
                  rw [ex1]
                  have Sx1 := Lib.hid sx1
                  have Bx1 : Hid (Below w0.heap.size w0 x1) := Lib.hid (HB.out.trans (kx1.below fun _ h => .inl (.inl h)))
                  have Ox1 := Lib.hid ((kx1.block _ (.inl (.inr rfl))).trans HO.out)
                  have Px1 := Lib.hid ((kx1.block _ (.inr rfl)).trans HP.out)
                  clear sx1 kx1 ex1 c0 c1 c2 c3 c4 c5
                  obtain ⟨c0, c1, c2, c3, c4, c5⟩ := ob_cells Ox1.out
                  obtain ⟨d0, d1, d2, d3, d4, d5⟩ := ob_cells Px1.out
                  go_wp2_with fail
                  refine (svNewer Sx1.out ⟨11, false, 1, 0, 0, ⟨#[]⟩⟩ ⟨11, false, 2, 0, 0, ⟨#[]⟩⟩).mono ?_
                  rintro e x2 ⟨rfl, sx2, kx2⟩
                  have ex2 : newS [⟨1, g1, nArr n⟩, ⟨2, g2, nDic n m⟩] ⟨11, false, 1, 0, 0, ⟨#[]⟩⟩ ⟨11, false, 2, 0, 0, ⟨#[]⟩⟩ = true := by rw [newS_sv A1.out rfl]; rfl
                  rw [ex2]
                  have Sx2 := Lib.hid sx2
                  have Bx2 : Hid (Below w0.heap.size w0 x2) := Lib.hid (Bx1.out.trans (kx2.below fun _ h => .inl (.inl h)))
                  have Ox2 := Lib.hid ((kx2.block _ (.inl (.inr rfl))).trans Ox1.out)
                  have Px2 := Lib.hid ((kx2.block _ (.inr rfl)).trans Px1.out)
                  clear sx2 kx2 ex2 c0 c1 c2 c3 c4 c5 d0 d1 d2 d3 d4 d5
                  obtain ⟨c0, c1, c2, c3, c4, c5⟩ := ob_cells Ox2.out
                  obtain ⟨d0, d1, d2, d3, d4, d5⟩ := ob_cells Px2.out
                  go_wp2_with fail
                  refine (svNewer Sx2.out ⟨11, false, 2, 0, 0, ⟨#[]⟩⟩ ⟨11, false, 1, 0, 0, ⟨#[]⟩⟩).mono ?_
                  rintro e x3 ⟨rfl, sx3, kx3⟩
                  have ex3 : newS [⟨1, g1, nArr n⟩, ⟨2, g2, nDic n m⟩] ⟨11, false, 2, 0, 0, ⟨#[]⟩⟩ ⟨11, false, 1, 0, 0, ⟨#[]⟩⟩ = false := by rw [newS_sv A2.out rfl]; rfl
                  rw [ex3]
                  have Sx3 := Lib.hid sx3
                  have Bx3 : Hid (Below w0.heap.size w0 x3) := Lib.hid (Bx2.out.trans (kx3.below fun _ h => .inl (.inl h)))
                  have Ox3 := Lib.hid ((kx3.block _ (.inl (.inr rfl))).trans Ox2.out)
                  have Px3 := Lib.hid ((kx3.block _ (.inr rfl)).trans Px2.out)
                  clear sx3 kx3 ex3 c0 c1 c2 c3 c4 c5 d0 d1 d2 d3 d4 d5
                  obtain ⟨c0, c1, c2, c3, c4, c5⟩ := ob_cells Px3.out
                  go_wp2_with fail
                  refine (svBack_ok Sx3.out ⟨11, false, 2, 0, 0, ⟨#[]⟩⟩ A2.out rfl).mono ?_
                  rintro e x4 ⟨rfl, s4, k4⟩
                  have S4 : Hid (SH (fun b => (b < w0.heap.size ∨ b = wa.heap.size) ∨ b = wd.heap.size) w0.heap.size (nDic n m) w1.heap.size [⟨1, g1, nArr n⟩] 2 x4) := Lib.hid s4
                  have B4 : Hid (Below w0.heap.size w0 x4) := Lib.hid (Bx3.out.trans (k4.below fun _ h => .inl (.inl h)))
                  have O4 := Lib.hid ((k4.block _ (.inl (.inr rfl))).trans Ox3.out)
                  have P4 := Lib.hid ((k4.block _ (.inr rfl)).trans Px3.out)
                  have A3 : Hid (atS [⟨1, g1, nArr n⟩] ⟨11, false, 2, 0, 0, ⟨#[]⟩⟩ = none) := Lib.hid ((Nums.zero.push g1 (nArr n)).none (k := 1) (by decide) false)
                  clear s4 k4 c0 c1 c2 c3 c4 c5
                  obtain ⟨c0, c1, c2, c3, c4, c5⟩ := ob_cells P4.out
                  go_wp2_with fail
                  refine (svNewer S4.out ⟨11, false, 2, 0, 0, ⟨#[]⟩⟩ ⟨9, false, 99, 0, 0, ⟨#[]⟩⟩).mono ?_
                  rintro e x5 ⟨rfl, sx5, kx5⟩
                  have ex5 : newS [⟨1, g1, nArr n⟩] ⟨11, false, 2, 0, 0, ⟨#[]⟩⟩ ⟨9, false, 99, 0, 0, ⟨#[]⟩⟩ = false := newS_none _ A3.out
                  rw [ex5]
                  have Sx5 := Lib.hid sx5
                  have Bx5 : Hid (Below w0.heap.size w0 x5) := Lib.hid (B4.out.trans (kx5.below fun _ h => .inl (.inl h)))
                  have Ox5 := Lib.hid ((kx5.block _ (.inl (.inr rfl))).trans O4.out)
                  have Px5 := Lib.hid ((kx5.block _ (.inr rfl)).trans P4.out)
                  clear sx5 kx5 ex5 c0 c1 c2 c3 c4 c5
                  obtain ⟨c0, c1, c2, c3, c4, c5⟩ := ob_cells Ox5.out
                  go_wp2_with fail
                  refine (svNewer Sx5.out ⟨11, false, 1, 0, 0, ⟨#[]⟩⟩ ⟨3, false, 99, 0, 0, ⟨#[]⟩⟩).mono ?_
                  rintro e x6 ⟨rfl, sx6, kx6⟩
                  have ex6 : newS [⟨1, g1, nArr n⟩] ⟨11, false, 1, 0, 0, ⟨#[]⟩⟩ ⟨3, false, 99, 0, 0, ⟨#[]⟩⟩ = false := newS_other (by decide) (by decide) (by decide) (by decide)
                  rw [ex6]
                  have Sx6 := Lib.hid sx6
                  have Bx6 : Hid (Below w0.heap.size w0 x6) := Lib.hid (Bx5.out.trans (kx6.below fun _ h => .inl (.inl h)))
                  have Ox6 := Lib.hid ((kx6.block _ (.inl (.inr rfl))).trans Ox5.out)
                  have Px6 := Lib.hid ((kx6.block _ (.inr rfl)).trans Px5.out)
                  clear sx6 kx6 ex6 c0 c1 c2 c3 c4 c5
                  go_wp2
                  go_ret
                  exact ⟨rfl, B0.out.trans (Bx6.out.mono B0.out.size)⟩
end Go.Proofs.Ytiokilinlpacmaa
