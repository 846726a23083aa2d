/- The walk of SaveBack. -/
import Derived.Test.YtiokilinlpacmaaS6
namespace Go.Proofs.Ytiokilinlpacmaa
open Go.RowKit
set_option linter.unusedVariables false

/-- A heap of one string and j more. -/
def moreP (l mo : List UInt8) (j : Nat) : List Cel := strP l ++ List.replicate j ⟨8, false, [], mo⟩
theorem moreP_succ (l mo : List UInt8) (j : Nat) : moreP l mo j ++ [⟨8, false, [], mo⟩] = moreP l mo (j + 1) := by simp [moreP, List.replicate_succ']
theorem moreP_zero (l mo : List UInt8) : moreP l mo 0 = strP l := by simp [moreP]
theorem moreP_len (l mo : List UInt8) (j : Nat) : (moreP l mo j).length = j + 1 := by simp [moreP, strP]
theorem moreP_used (l mo : List UInt8) (j : Nat) : usedP (moreP l mo j) = l.length + j * mo.length := by
  induction j with
  | zero => simp [moreP_zero, strP, usedP, Cel.size]
  | succ j ih =>
    rw [← moreP_succ, Nat.succ_mul]
    simp [usedP, Cel.size] at ih ⊢
    omega
theorem moreP_cell (l mo : List UInt8) (j : Nat) (a n : Nat) : cellOf (moreP l mo j) (sub8 a n) = ⟨8, false, [], l⟩ := rfl
theorem moreP_ok (l mo : List UInt8) (j : Nat) (h : l.length ≤ 40000) : okO (moreP l mo j) (sub8 0 l.length) = true := by
  rw [okO_iff]
  refine ⟨rfl, ?_, ?_⟩
  · simp [Ob.may, sub8, mayO, pieceP]
    omega
  · rw [inCell, moreP_cell, moreP_len]
    simp [sub8, Cel.size]
theorem moreP_set (l mo : List UInt8) (j : Nat) (h : l.length ≤ 40000) (h0 : 0 < l.length) (c : Int) (c0 : 0 ≤ c) (c1 : c ≤ 255) : setE (moreP l mo j) (sub8 0 l.length) 0 (Ob.num c) = 0 := by
  have ho := moreP_ok l mo j h
  have hlen : lenO (moreP l mo j) (sub8 0 l.length) = l.length := by
    rw [lenO, ho]
    simp [sub8]
  rw [setE, ho, hlen, moreP_cell]
  simp [sub8, Ob.num]
  omega

/-- Behind two saves and j more of each. -/
structure BackSt (n0 : Nat) (w0 : World) (hb sb g1 g2 A0 A1 A2 z : Nat) (l mo : List UInt8) (j : Nat) (w : World) : Prop where
  sh : ∃ L, SH (fun b => ((b < n0 ∨ b = A0) ∨ b = A1) ∨ b = A2) hb (moreP l mo j) sb L (2 + j) w ∧ Nums L (2 + j) ∧ L[0]? = some ⟨1, g1, strP l⟩ ∧ L[1]? = some ⟨2, g2, strP l⟩
  below : Below n0 w0 w
  o : w.heap[A0]? = some (obObj 8 false 0 0 z ⟨#[]⟩)
  first : w.heap[A1]? = some (obObj 11 false 1 0 0 ⟨#[]⟩)
  here : w.heap[A2]? = some (obObj 11 false 2 0 0 ⟨#[]⟩)

set_option maxHeartbeats 1000000 in
set_option maxRecDepth 100000 in
theorem back_out (s more : ByteArray) (c a : Int) (w : World) (h : s.size = 0 ∨ (0 < s.size ∧ 200 < s.size) ∨ (0 < s.size ∧ s.size ≤ 200 ∧ 200 < more.size)) :
    Calls Try.prog 5 #[.string s, .string more, .int .u8 c, .int .u8 a] w fun e w' => e = .returned (.bool true) ∧ Below w.heap.size w w' := by
  rcases h with h | ⟨h0, h⟩ | ⟨h0, h1, h⟩
  · have t0 : ((s.size : Int) == 0) = true := by simp [h]
    go_enter Try.func5, Try.ntmps5
    go_wp2_with fail
    refine (sknown_any w).mono ?_
    rintro e w0 ⟨rfl, b0⟩
    have B0 := Lib.hid b0
    clear b0
    go_wp2
    go_ret
    exact ⟨rfl, B0.out⟩
  · have t0 : ((s.size : Int) == 0) = false := by rw [beq_eq_false_iff_ne]; omega
    have t1 : (s.size : Int) > 200 := by omega
    go_enter Try.func5, Try.ntmps5
    go_wp2_with fail
    refine (sknown_any w).mono ?_
    rintro e w0 ⟨rfl, b0⟩
    have B0 := Lib.hid b0
    clear b0
    go_wp2
    go_ret
    exact ⟨rfl, B0.out⟩
  · have t0 : ((s.size : Int) == 0) = false := by rw [beq_eq_false_iff_ne]; omega
    have t1 : ¬ ((s.size : Int) > 200) := by omega
    have t2 : (more.size : Int) > 200 := by omega
    go_enter Try.func5, Try.ntmps5
    go_wp2_with fail
    refine (sknown_any w).mono ?_
    rintro e w0 ⟨rfl, b0⟩
    have B0 := Lib.hid b0
    clear b0
    go_wp2
    go_ret
    exact ⟨rfl, B0.out⟩
set_option maxHeartbeats 1000000 in
set_option maxRecDepth 100000 in
theorem back_walk (s more : ByteArray) (c a : Int) (D : Nat) (xb : Bool) (w : World) (h0 : 0 < s.size) (h1 : s.size ≤ 200) (h2 : more.size ≤ 200) (c0 : 0 ≤ c) (c1 : c ≤ 255) (a0 : 0 ≤ a) (a1 : a ≤ 255) (hD : a % 5 = D) (hx : ((a % 2) == 1) = xb) :
    Calls Try.prog 5 #[.string s, .string more, .int .u8 c, .int .u8 a] w fun e w' => e = .returned (.bool true) ∧ Below w.heap.size w w' := by
  have t0 : ((s.size : Int) == 0) = false := by rw [beq_eq_false_iff_ne]; omega
  have t1 : ¬ ((s.size : Int) > 200) := by omega
  have t2 : ¬ ((more.size : Int) > 200) := by omega
  have HSZ : Hid (0 < s.data.toList.length ∧ s.data.toList.length ≤ 200 ∧ more.data.toList.length ≤ 200 ∧ s.data.toList.length = s.size ∧ more.data.toList.length = more.size) := Lib.hid ⟨h0, h1, h2, rfl, rfl⟩
  have HD : Hid (D < 5) := Lib.hid (by omega)
  have HC : Hid (0 ≤ c ∧ c ≤ 255) := Lib.hid ⟨c0, c1⟩
  have HDD := Lib.hid hD
  have HX := Lib.hid hx
  clear hD hx
  go_enter Try.func5, Try.ntmps5
  go_wp2_with fail
  refine (sknown_any w).mono ?_
  rintro e w0 ⟨rfl, b0⟩
  have B0 := Lib.hid b0
  clear b0
  go_wp2_with fail
  refine (new_any w0).mono ?_
  rintro e w1 ⟨rfl, rfl⟩
  obtain ⟨w1, e1, s1, b1⟩ : ∃ w1, w0.alloc (.cells #[.slice none 0 0, .int .i64 0] 92) = w1 ∧ Sep (fun b => b < w0.heap.size) w0.heap.size [] w1 ∧ Below w0.heap.size w0 w1 := ⟨_, rfl, Sep.new w0, box_below _ _⟩
  rw [e1]
  have S1 := Lib.hid s1
  have B1 := Lib.hid b1
  clear e1 s1 b1
  go_wp2_with fail
  refine (svNew S1.out).mono ?_
  rintro e w2 ⟨rfl, s2, k2⟩
  have S2 := Lib.hid s2
  have B2 : Hid (Below w0.heap.size w0 w2) := Lib.hid (B1.out.trans (k2.below fun _ h => h))
  clear s2 k2 B1
  go_wp2_with fail
  refine (shString S2.out s (by decide) (by have := HSZ.out; show s.size + 0 ≤ 40000; omega)).mono ?_
  rintro e w3 ⟨rfl, s3, k3⟩
  have S3 : Hid (SH (fun b => b < w0.heap.size) w0.heap.size (strP s.data.toList) w1.heap.size [] 0 w3) := Lib.hid s3
  have B3 : Hid (Below w0.heap.size w0 w3) := Lib.hid (B2.out.trans (k3.below fun _ h => h))
  clear s3 k3
  go_upto_region 7 with fail
  obtain ⟨w4, e4, s4, k4, o4⟩ := S3.out.box_ob 8 false 0 0 s.size ⟨#[]⟩
  rw [e4]
  have S4 := Lib.hid s4
  have B4 : Hid (Below w0.heap.size w0 w4) := Lib.hid (B3.out.trans (k4.below fun _ h => h))
  have O4 := Lib.hid o4
  clear e4 s4 k4 o4
  go_wp2_with fail
  refine (svSave S4.out (by decide) (by decide) 1 1 rfl rfl).mono ?_
  rintro e w5 ⟨rfl, ⟨g1, s5⟩, k5⟩
  have S5 : Hid (SH (fun b => b < w0.heap.size ∨ b = w3.heap.size) w0.heap.size (strP s.data.toList) w1.heap.size [⟨1, g1, strP s.data.toList⟩] 1 w5) := Lib.hid s5
  have B5 : Hid (Below w0.heap.size w0 w5) := Lib.hid (B4.out.trans (k5.below fun _ h => .inl h))
  have O5 := Lib.hid ((k5.block _ (.inr rfl)).trans O4.out)
  clear s5 k5
  go_upto_region 8 with fail
  obtain ⟨w6, e6, s6, k6, f6⟩ := S5.out.box_ob 11 false 1 0 0 ⟨#[]⟩
  rw [e6]
  have S6 := Lib.hid s6
  have B6 : Hid (Below w0.heap.size w0 w6) := Lib.hid (B5.out.trans (k6.below fun _ h => .inl h))
  have O6 := Lib.hid ((k6.block _ (.inr rfl)).trans O5.out)
  have F6 := Lib.hid f6
  clear e6 s6 k6 f6
  go_wp2_with fail
  refine (svSave S6.out (by simp) (by decide) 2 2 rfl rfl).mono ?_
  rintro e w7 ⟨rfl, ⟨g2, s7⟩, k7⟩
  have S7 : Hid (SH (fun b => (b < w0.heap.size ∨ b = w3.heap.size) ∨ b = w5.heap.size) w0.heap.size (strP s.data.toList) w1.heap.size [⟨1, g1, strP s.data.toList⟩, ⟨2, g2, strP s.data.toList⟩] 2 w7) := Lib.hid s7
  have B7 : Hid (Below w0.heap.size w0 w7) := Lib.hid (B6.out.trans (k7.below fun _ h => .inl (.inl h)))
  have O7 := Lib.hid ((k7.block _ (.inl (.inr rfl))).trans O6.out)
  have F7 := Lib.hid ((k7.block _ (.inr rfl)).trans F6.out)
  clear s7 k7
  go_upto_region 9 with fail
  obtain ⟨w8, e8, s8, k8, f8⟩ := S7.out.box_ob 11 false 2 0 0 ⟨#[]⟩
  rw [e8]
  have ST : Hid (BackSt w0.heap.size w0 w0.heap.size w1.heap.size g1 g2 w3.heap.size w5.heap.size w7.heap.size s.size s.data.toList more.data.toList 0 w8) := Lib.hid
    ⟨⟨_, by rw [moreP_zero]; exact s8, (Nums.zero.push g1 (strP s.data.toList)).push g2 (strP s.data.toList), rfl, rfl⟩, B7.out.trans (k8.below fun _ h => .inl (.inl h)), (k8.block _ (.inl (.inr rfl))).trans O7.out, (k8.block _ (.inr rfl)).trans F7.out, f8⟩
  have HNE : Hid (w3.heap.size ≠ w7.heap.size ∧ w5.heap.size ≠ w7.heap.size ∧ w0.heap.size ≤ w7.heap.size) := Lib.hid (by have := S7.out.lt (.inl (.inr rfl)); have := S7.out.lt (.inr rfl); have := B7.out.size; omega)
  clear e8 s8 k8 f8 S1 S2 B2 S3 B3 S4 B4 O4 S5 B5 O5 S6 B6 O6 F6 S7 B7 O7 F7 t0 t1 t2
  go_wp2
  go_loopw [17] (fun i wr => ∃ j : Nat, j ≤ D ∧ i = .int .i64 j ∧ BackSt w0.heap.size w0 w0.heap.size w1.heap.size g1 g2 w3.heap.size w5.heap.size w7.heap.size s.size s.data.toList more.data.toList j wr) (fun i _ => D - (intOf i).toNat)
  case atStart => exact ⟨0, Nat.zero_le _, rfl, ST.out⟩
  case round =>
    obtain ⟨j, hj, rfl, hst⟩ := hrel
    have HS := Lib.hid hst
    clear hst ST
    have eD : a % 5 = D := HDD.out
    by_cases hlt : j < D
    · have t1 : (j : Int) < D := by omega
      have HL := Lib.hid hlt
      obtain ⟨L, SS, NN, L0, L1⟩ := HS.out.sh
      have HSS := Lib.hid SS
      have HNN := Lib.hid NN
      have HL0 := Lib.hid L0
      have HL1 := Lib.hid L1
      clear SS NN L0 L1 hj hlt
      go_wp2_with fail
      refine (svSave HSS.out (by rw [HNN.out.1]; have := HL.out; have := HD.out; omega) (by have := HL.out; have := HD.out; omega) (2 + j + 1) ((2 + j + 1 : Nat) : Int) rfl rfl).mono ?_
      rintro e wa ⟨rfl, ⟨g, sa⟩, ka⟩
      have SA := Lib.hid sa
      have KA := Lib.hid ka
      clear sa ka
      go_upto_region 13 with fail
      obtain ⟨wb, eb, sb', kb, ob⟩ := SA.out.box_ob 11 false (2 + (j : Int) + 1) 0 0 ⟨#[]⟩
      rw [eb]
      have SB := Lib.hid (sb'.sub (own' := fun b => ((b < w0.heap.size ∨ b = w3.heap.size) ∨ b = w5.heap.size) ∨ b = w7.heap.size) fun _ h => .inl h)
      have KB := Lib.hid (KA.out.trans kb)
      clear eb sb' kb ob
      go_wp2_with fail
      refine (shString SB.out more (by rw [moreP_len]; have := HL.out; have := HD.out; omega) (by rw [moreP_used]; have := HSZ.out; have := HL.out; have := HD.out; have : j * more.data.toList.length ≤ 5 * 200 := Nat.mul_le_mul (by omega) (by omega); omega)).mono ?_
      rintro e wc ⟨rfl, sc, kc⟩
      rw [moreP_succ] at sc
      have KC := Lib.hid (KB.out.trans kc)
      have N9 : Hid (BackSt w0.heap.size w0 w0.heap.size w1.heap.size g1 g2 w3.heap.size w5.heap.size w7.heap.size s.size s.data.toList more.data.toList (j + 1) wc) := Lib.hid
        ⟨⟨_, sc, HNN.out.push g _, by rw [List.getElem?_append_left (by rw [HNN.out.1]; omega)]; exact HL0.out, by rw [List.getElem?_append_left (by rw [HNN.out.1]; omega)]; exact HL1.out⟩, HS.out.below.trans (KC.out.below fun _ h => .inl (.inl (.inl h))), (KC.out.block _ (.inl (.inl (.inr rfl)))).trans HS.out.o, (KC.out.block _ (.inl (.inr rfl))).trans HS.out.first, (KC.out.block _ (.inr rfl)).trans HS.out.here⟩
      clear sc kc
      have e1 : IntKind.i64.wrap ((j : Int) + 1) = ((j + 1 : Nat) : Int) := by rw [IntWalk.i64_in _ (by have := HL.out; have := HD.out; omega)]; omega
      go_wp2
      go_roundw
      case rel => exact ⟨j + 1, HL.out, rfl, N9.out⟩
      case measure => exact measure_up D j _ rfl HL.out
    · have t1 : ¬ ((j : Int) < D) := by omega
      obtain ⟨L, SS, NN, L0, L1⟩ := HS.out.sh
      have HSS := Lib.hid SS
      have HNN := Lib.hid NN
      have HL0 := Lib.hid L0
      have HL1 := Lib.hid L1
      have HO := Lib.hid HS.out.o
      have HF := Lib.hid HS.out.first
      have HH := Lib.hid HS.out.here
      clear SS NN L0 L1 hj hlt
      obtain ⟨c0, c1, c2, c3, c4, c5⟩ := ob_cells HO.out
      go_wp2_with fail
      refine (shSet HSS.out (sub8 0 s.size) 0 (Ob.num c) 0 _ (moreP_set s.data.toList more.data.toList j (by have := HSZ.out; omega) HSZ.out.1 c HC.out.1 HC.out.2) rfl).mono ?_
      rintro e wa ⟨rfl, sa, ka⟩
      obtain ⟨Px, ePx⟩ : ∃ Px, setP (moreP s.data.toList more.data.toList j) (sub8 0 s.size) 0 (Ob.num c) = Px := ⟨_, rfl⟩
      rw [ePx] at sa
      have SA := Lib.hid sa
      have BA : Hid (Below w0.heap.size w0 wa) := Lib.hid (HS.out.below.trans (ka.below fun _ h => .inl (.inl (.inl h))))
      have OA := Lib.hid ((ka.block _ (.inl (.inl (.inr rfl)))).trans HO.out)
      have FA := Lib.hid ((ka.block _ (.inl (.inr rfl))).trans HF.out)
      have RA := Lib.hid ((ka.block _ (.inr rfl)).trans HH.out)
      clear sa ka ePx c0 c1 c2 c3 c4 c5
      obtain ⟨⟨c0, c1, c2, c3, c4, c5⟩, f0, f1, f2, f3, f4, f5⟩ := cells6 RA.out
      have ex := HX.out
      have ex2 : Int.tmod a 2 = a % 2 := Int.tmod_eq_emod_of_nonneg a0
      go_upto_region 18 with fail
      have on1 : Only w7.heap.size wa (wa.setCell ⟨w7.heap.size, 1, none⟩ (.bool xb)) := (Only.refl _ _).set 1 _
      have hb1 : (wa.setCell ⟨w7.heap.size, 1, none⟩ (.bool xb)).heap[w7.heap.size]? = some (obObj 11 xb 2 0 0 ⟨#[]⟩) := by
        rw [heap_setCell_same _ _ _ _ 29 _ RA.out]
        rfl
      obtain ⟨wb, ewb⟩ : ∃ wb, wa.setCell ⟨w7.heap.size, 1, none⟩ (.bool xb) = wb := ⟨_, rfl⟩
      rw [ewb] at on1 hb1 ⊢
      have SB := Lib.hid (SA.out.put (.inr rfl) on1)
      have NE : Hid (w3.heap.size ≠ w7.heap.size ∧ w5.heap.size ≠ w7.heap.size ∧ w0.heap.size ≤ w7.heap.size) := Lib.hid HNE.out
      have BB : Hid (Below w0.heap.size w0 wb) := Lib.hid (BA.out.trans (Kept.below (own := fun b => b < w0.heap.size) (kept_only on1 (by have := NE.out.2.2; omega)) fun _ h => h))
      have OB := Lib.hid ((on1.block _ NE.out.1).trans OA.out)
      have FB := Lib.hid ((on1.block _ NE.out.2.1).trans FA.out)
      have RB := Lib.hid hb1
      clear on1 hb1 ewb c0 c1 c2 c3 c4 c5 f0 f1 f2 f3 f4 f5
      obtain ⟨c0, c1, c2, c3, c4, c5⟩ := ob_cells RB.out
      have A1 : Hid (atS L ⟨11, xb, 2, 0, 0, ⟨#[]⟩⟩ = some 1) := Lib.hid (HNN.out.at (k := 1) (by omega) xb)
      go_wp2_with fail
      refine (svBack_ok SB.out ⟨11, xb, 2, 0, 0, ⟨#[]⟩⟩ A1.out HL1.out).mono ?_
      rintro e wc ⟨rfl, sc, kc⟩
      have SC : Hid (SH (fun b => ((b < w0.heap.size ∨ b = w3.heap.size) ∨ b = w5.heap.size) ∨ b = w7.heap.size) w0.heap.size (strP s.data.toList) w1.heap.size (L.take 1) (2 + j) wc) := Lib.hid sc
      have NC : Hid (Nums (L.take 1) 1) := Lib.hid (HNN.out.take (by omega))
      have BC : Hid (Below w0.heap.size w0 wc) := Lib.hid (BB.out.trans (kc.below fun _ h => .inl (.inl (.inl h))))
      have OC := Lib.hid ((kc.block _ (.inl (.inl (.inr rfl)))).trans OB.out)
      have FC := Lib.hid ((kc.block _ (.inl (.inr rfl))).trans FB.out)
      have RC := Lib.hid ((kc.block _ (.inr rfl)).trans RB.out)
      have HL2 : Hid ((L.take 1)[0]? = some ⟨1, g1, strP s.data.toList⟩) := Lib.hid (by rw [List.getElem?_take_of_lt (by decide)]; exact HL0.out)
      clear sc kc c0 c1 c2 c3 c4 c5 SB OB FB RB BB
      obtain ⟨c0, c1, c2, c3, c4, c5⟩ := ob_cells OC.out
      go_wp2_with fail
      refine (shBytes SC.out (sub8 0 s.size) s.data.toList (str_ok (by have := HSZ.out; omega) (by have := HSZ.out; omega)) rfl HSZ.out.1 (by rw [str_bytes (by have := HSZ.out; omega) (by have := HSZ.out; omega)]; simp; exact List.take_of_length_le (Nat.le_refl _))).mono ?_
      rintro e wd ⟨rfl, sd, kd⟩
      rw [show (⟨s.data.toList.toArray⟩ : ByteArray) = s from rfl]
      have SD := Lib.hid sd
      have BD : Hid (Below w0.heap.size w0 wd) := Lib.hid (BC.out.trans (kd.below fun _ h => .inl (.inl (.inl h))))
      have FD := Lib.hid ((kd.block _ (.inl (.inr rfl))).trans FC.out)
      have RD := Lib.hid ((kd.block _ (.inr rfl)).trans RC.out)
      clear sd kd c0 c1 c2 c3 c4 c5 SC BC OC FC RC
      obtain ⟨c0, c1, c2, c3, c4, c5⟩ := ob_cells RD.out
      go_wp2_with fail
      refine (shCells SD.out).mono ?_
      rintro e we ⟨rfl, rfl⟩
      rw [show ((strP s.data.toList).length : Int) = 1 from rfl]
      have hlen := svLen SD.out.sat
      rw [NC.out.1] at hlen
      have HLEN := Lib.hid hlen
      clear hlen
      go_wp2_with fail
      refine HLEN.out.mono ?_
      rintro e we ⟨rfl, rfl⟩
      have A2 : Hid (atS (L.take 1) ⟨11, xb, 2, 0, 0, ⟨#[]⟩⟩ = none) := Lib.hid (NC.out.none (k := 1) (by decide) xb)
      have A3 : Hid (atS (L.take 1) ⟨11, false, 1, 0, 0, ⟨#[]⟩⟩ = some 0) := Lib.hid (NC.out.at (k := 0) (by decide) false)
      go_wp2_with fail
      refine (svBack_no SD.out ⟨11, xb, 2, 0, 0, ⟨#[]⟩⟩ A2.out).mono ?_
      rintro e we ⟨rfl, se, ke⟩
      have SE := Lib.hid se
      have BE : Hid (Below w0.heap.size w0 we) := Lib.hid (BD.out.trans (ke.below fun _ h => .inl (.inl (.inl h))))
      have FE := Lib.hid ((ke.block _ (.inl (.inr rfl))).trans FD.out)
      clear se ke c0 c1 c2 c3 c4 c5
      obtain ⟨c0, c1, c2, c3, c4, c5⟩ := ob_cells FE.out
      go_wp2_with fail
      refine (svBack_ok SE.out ⟨11, false, 1, 0, 0, ⟨#[]⟩⟩ A3.out HL2.out).mono ?_
      rintro e wf ⟨rfl, sf, kf⟩
      have SF : Hid (SH (fun b => ((b < w0.heap.size ∨ b = w3.heap.size) ∨ b = w5.heap.size) ∨ b = w7.heap.size) w0.heap.size (strP s.data.toList) w1.heap.size [] (2 + j) wf) := Lib.hid sf
      have BF : Hid (Below w0.heap.size w0 wf) := Lib.hid (BE.out.trans (kf.below fun _ h => .inl (.inl (.inl h))))
      clear sf kf c0 c1 c2 c3 c4 c5
      go_wp2_with fail
      refine (svLen SF.out.sat).mono ?_
      rintro e wg ⟨rfl, rfl⟩
      go_wp2
      go_ret
      exact ⟨rfl, B0.out.trans (BF.out.mono B0.out.size)⟩
end Go.Proofs.Ytiokilinlpacmaa
