/- LA: L1, L2, L3. -/
import Derived.Test.YtgmklagnngjlgaaGY
/- The walk of StackMost. -/
namespace Go.Proofs.Ytgmklagnngjlgaa
open Go.RowKit
set_option linter.unusedVariables false
set_option linter.unusedSimpArgs false

theorem zero_row (w : World) : ∃ wb, w.alloc (.cells #[.int .i64 0, .bool false, .int .i64 0, .int .i64 0, .int .i64 0, .string ⟨#[]⟩] 24) = wb ∧ Below w.heap.size w wb ∧ Seg wb (.slice (some ⟨w.heap.size, 0, none⟩) 1 1) [Ob.zero] := seg_box w 0 0 0 0 false ⟨#[]⟩
theorem make_one (w : World) : (Instr.makeSlice 33 (.int .i64 1) (.int .i64 1)).run Try.prog w = .ok (.slice (some ⟨w.heap.size, 0, none⟩) 1 1) (w.alloc (.cells #[.int .i64 0, .bool false, .int .i64 0, .int .i64 0, .int .i64 0, .string ⟨#[]⟩] 24)) := by
  obtain ⟨i0, hi, hz0, hz1, hz2⟩ := info_parts info24
  have := run_makeSlice (P := Try.prog) w 33 24 i0 _ Try.underlying33 hi hz0 .i64 .i64 1 1 (by decide) (by decide) (by rw [hz1]; decide) (by rw [hz2]; decide) (by decide)
  have e : madeCells (obV 0 false 0 0 0 ⟨#[]⟩).cells (Int.toNat 1 * 6) = #[.int .i64 0, .bool false, .int .i64 0, .int .i64 0, .int .i64 0, .string ⟨#[]⟩] := by kernel_rfl
  rw [this, hz1, e]
  rfl
theorem SK.row {own : Nat → Prop} {T : TypeId} {sb : Nat} {X : List Ob} {w w' : World} {v : Value} {L : List Ob} (r : w.ownsRow 0 24 6 v L.length (obCells L)) (k : Kept own w w') (h : ∀ g, v.ownBlock = some g → own g) : w'.ownsRow 0 24 6 v L.length (obCells L) := owns_at r fun g e => k.block g (h g e)

set_option maxHeartbeats 1000000 in
set_option maxRecDepth 100000 in
theorem smost_walk (a : Int) (k m : Nat) (w : World) (ha0 : 0 ≤ a) (ha1 : a ≤ 255) (hk : a % 90 = k) (hm : k + 1 + m = 200) :
    Calls Try.prog 9 #[.int .u8 a] w fun e w' => e = .returned (.bool true) ∧ Below w.heap.size w w' := by
  have HM : Hid (k + 1 + m = 200 ∧ k < 90) := Lib.hid ⟨hm, by omega⟩
  have ek : Int.tmod a 90 = k := by rw [Int.tmod_eq_emod_of_nonneg ha0]; exact hk
  have e1 : IntKind.i64.wrap ((k : Int) + 1) = (k : Int) + 1 := IntWalk.i64_in _ (by omega)
  have e1' : wrap64 ((k : Int) + 1) = (k : Int) + 1 := by rw [← IntWalk.i64_left]; exact e1
  have e2 : IntKind.i64.wrap (200 - ((k : Int) + 1)) = m := by rw [IntWalk.i64_in _ (by omega)]; omega
  have e2' : wrap64 (200 - ((k : Int) + 1)) = m := by rw [← IntWalk.i64_left]; exact e2
  have e3 : IntKind.i64.wrap ((k : Int) + 1 + 1) = (k : Int) + 1 + 1 := IntWalk.i64_in _ (by omega)
  have e3' : wrap64 ((k : Int) + 1 + 1) = (k : Int) + 1 + 1 := by rw [← IntWalk.i64_left]; exact e3
  have g0 : 0 ≤ a := ha0
  have hmk := make_one
  clear hm hk
  go_enter Try.func9, Try.ntmps9
  go_wp2_with fail
  refine (kknown_any w).mono ?_
  rintro e w0 ⟨rfl, b0⟩
  have B0 := Lib.hid b0
  clear b0
  go_wp2_with fail
  refine (numbers_any m w0 (by have := HM.out; omega)).mono ?_
  rintro e w1 ⟨sb, rfl, s1, b1⟩
  have S1 := Lib.hid s1
  have B1 := Lib.hid b1
  clear s1 b1
  go_wp2_with fail
  refine (kItems S1.out).mono ?_
  rintro e w2 ⟨p, c, rfl, s2, k2, r2⟩
  have S2 := Lib.hid s2
  have B2 := Lib.hid (B1.out.trans (k2.below fun _ h => h))
  have R2 := Lib.hid (r2.mono (Nat.zero_le _))
  clear s2 k2 r2
  go_wp2_with fail
  refine (kDup S2.out ((k : Int) + 1 + 1) 8 (numL m) (by simp only [dupE, numL_length]; have := HM.out; rw [if_neg (by omega), if_neg (by omega), if_pos (by omega)]) (by simp only [dupP, dupE, numL_length]; have := HM.out; rw [if_neg]; rw [if_neg (by omega), if_neg (by omega), if_pos (by omega)]; decide)).mono ?_
  rintro e w3 ⟨rfl, s3, k3⟩
  have S3 := Lib.hid s3
  have B3 := Lib.hid (B2.out.trans (k3.below fun _ h => .inl h))
  have R3 := Lib.hid (owns_at R2.out fun g e => k3.block g (.inr e))
  clear s3 k3
  go_wp2_with fail
  obtain ⟨w4, e4, k4, g4⟩ := zero_row w3
  rw [e4]
  have S4 := Lib.hid (S3.out.below k4).1
  have B4 := Lib.hid (B3.out.trans (k4.mono B3.out.size))
  have R4 := Lib.hid (owns_at R3.out fun g e => k4.block g ((R3.out.lt g e).2))
  have G4 := Lib.hid g4
  clear e4 k4 g4 hmk
  refine (kBec S4.out G4.out (by decide) 1 (numL m) rfl rfl).mono ?_
  rintro e w5 ⟨rfl, s5, k5⟩
  have S5 := Lib.hid s5
  have B5 := Lib.hid (B4.out.trans (k5.below fun _ h => .inl h))
  have R5 := Lib.hid (owns_at R4.out fun g e => k5.block g (.inr e))
  clear s5 k5
  go_wp2_with fail
  refine (kDup S5.out (-1) 2 (numL m) rfl rfl).mono ?_
  rintro e w6 ⟨rfl, s6, k6⟩
  have S6 := Lib.hid s6
  have B6 := Lib.hid (B5.out.trans (k6.below fun _ h => .inl h))
  have R6 := Lib.hid (owns_at R5.out fun g e => k6.block g (.inr e))
  clear s6 k6
  go_wp2_with fail
  refine (kRoll S6.out 200 1 7 (numL m) (by simp only [rollE, numL_length]; have := HM.out; rw [if_neg (by omega), if_pos (by omega)]) (by simp only [rollQ, rollE, numL_length]; have := HM.out; rw [if_neg]; rw [if_neg (by omega), if_pos (by omega)]; decide)).mono ?_
  rintro e w7 ⟨rfl, s7, k7⟩
  have S7 := Lib.hid s7
  have B7 := Lib.hid (B6.out.trans (k7.below fun _ h => .inl h))
  have R7 := Lib.hid (owns_at R6.out fun g e => k7.block g (.inr e))
  clear s7 k7
  go_wp2_with fail
  refine (kItems S7.out).mono ?_
  rintro e w8 ⟨p2, c2, rfl, s8, k8, r8⟩
  have S8 := Lib.hid s8
  have B8 := Lib.hid (B7.out.trans (k8.below fun _ h => .inl h))
  have R8 := Lib.hid (owns_at R7.out fun g e => k8.block g (.inr e))
  have Q8 := Lib.hid r8
  clear s8 k8 r8
  go_wp2_with fail
  refine (same_yes (Seg.of_owns Q8.out) (Seg.of_owns R8.out) (by rw [numL_length]; have := HM.out; omega)).mono ?_
  rintro e w9 ⟨rfl, k9⟩
  have S9 : Hid (SK (fun b => b < w0.heap.size) 166 sb (numL m) w9) := Lib.hid ((S8.out.below k9).1.sub fun b h => .inl (.inl h))
  have B9 := Lib.hid (B8.out.trans (k9.mono B8.out.size))
  clear k9 S8 R8 Q8 B8 S1 S2 S3 S4 S5 S6 S7 R2 R3 R4 R5 R6 R7 G4 B1 B2 B3 B4 B5 B6 B7
  go_wp2_with fail
  clear e1 e1' e2 e2' e3 e3' ek
  go_loopw [10] (fun i wr => ∃ j : Nat, j ≤ k + 1 ∧ i = .int .i64 j ∧ SK (fun b => b < w0.heap.size) 166 sb (numL m ++ List.replicate j Ob.null) wr ∧ Below w0.heap.size w0 wr) (fun i _ => k + 1 - (intOf i).toNat)
  case atStart => exact ⟨0, Nat.zero_le _, rfl, by simpa using S9.out, B9.out⟩
  case round =>
    obtain ⟨j, hj, rfl, hs, hb⟩ := hrel
    have HS := Lib.hid hs
    have HB := Lib.hid hb
    have hlen : (numL m ++ List.replicate j Ob.null).length = m + j := by simp [numL_length]
    have HLEN := Lib.hid hlen
    clear hs hb S9 B9 hlen
    by_cases hlt : j < k + 1
    · have t1 : (j : Int) < (k : Int) + 1 := by omega
      have HJ := Lib.hid hlt
      have f1 : IntKind.i64.wrap ((j : Int) + 1) = (j : Int) + 1 := IntWalk.i64_in _ (by have := HM.out; omega)
      go_wp2_with fail
      refine (kPush HS.out Ob.null 0 (numL m ++ List.replicate (j + 1) Ob.null) (by simp only [pushE, HLEN.out]; have := HM.out; have := HJ.out; rw [if_pos (by decide), if_pos (by omega)]) (by simp only [pushP, pushE, HLEN.out]; have := HM.out; have := HJ.out; rw [if_pos (by rw [if_pos (by decide), if_pos (by omega)]), List.replicate_succ', List.append_assoc])).mono ?_
      rintro e wa ⟨rfl, sa, ka⟩
      have SA := Lib.hid sa
      have KA := Lib.hid (HB.out.trans (ka.below fun _ h => h))
      clear sa ka
      go_wp2
      go_roundw
      case rel => exact ⟨j + 1, HJ.out, by go_num, SA.out, KA.out⟩
      case measure => exact measure_up (k + 1) j _ (by go_num) HJ.out
    · have e : j = k + 1 := by omega
      subst e
      have t1 : ¬ (((k + 1 : Nat) : Int) < (k : Int) + 1) := by omega
      have hl2 : (numL m ++ List.replicate (k + 1) Ob.null).length = 200 := by rw [HLEN.out]; have := HM.out; omega
      have HL2 := Lib.hid hl2
      clear hl2
      go_wp2_with fail
      refine (kPeek HS.out 200 7 0 false 0 0 0 ⟨#[]⟩ (by simp only [peekE, HL2.out]; decide) (by simp only [peekO, peekE, HL2.out]; rfl)).mono ?_
      rintro e wa ⟨rfl, sa, ka⟩
      have SA := Lib.hid sa
      have KA := Lib.hid (HB.out.trans (ka.below fun _ h => h))
      clear sa ka
      go_upto_region 18 with fail
      obtain ⟨wb, eb, sb', kb, ob⟩ := SA.out.box_ob 0 false 0 0 0 ⟨#[]⟩
      rw [eb]
      have SB := Lib.hid sb'
      have KB := Lib.hid (KA.out.trans (kb.below fun _ h => h))
      have OB := Lib.hid ob
      clear eb sb' kb ob
      go_wp2_with fail
      refine (kPush SB.out Ob.null 8 (numL m ++ List.replicate (k + 1) Ob.null) (by simp only [pushE, HL2.out]; rfl) (by simp only [pushP, pushE, HL2.out]; rfl)).mono ?_
      rintro e wc ⟨rfl, sc, kc⟩
      have SC := Lib.hid sc
      have KC := Lib.hid (KB.out.trans (kc.below fun _ h => .inl h))
      obtain ⟨c0, c1, c2, c3, c4, c5⟩ := ob_cells ((kc.block _ (.inr rfl)).trans OB.out)
      have q : ∀ w, (binOp .eql 24 (.agg #[.int .i64 0, .bool false, .int .i64 0, .int .i64 0, .int .i64 0, .string ⟨#[]⟩]) (.agg #[.int .i64 0, .bool false, .int .i64 0, .int .i64 0, .int .i64 0, .string ⟨#[]⟩])).run Try.prog w = .ok (.bool true) w := fun w => by rw [eqO]; simp
      have hl := kLen SC.out
      rw [HL2.out] at hl
      have HL := Lib.hid hl
      clear sc kc hl
      go_wp2_with fail
      refine HL.out.mono ?_
      rintro e wd ⟨rfl, rfl⟩
      go_wp2
      go_ret
      exact ⟨rfl, B0.out.trans (KC.out.mono B0.out.size)⟩
end Go.Proofs.Ytgmklagnngjlgaa

/- The walk of StackTop. -/
namespace Go.Proofs.Ytgmklagnngjlgaa
open Go.RowKit
set_option linter.unusedVariables false
set_option linter.unusedSimpArgs false

/-- What is left behind the push and the pop: the last statements. -/
theorem peek_last (X : List Ob) (o : Ob) : peekE (X ++ [o]) 0 = 0 ∧ peekO (X ++ [o]) 0 = o ∧ popP (X ++ [o]) = X := by
  have e : peekE (X ++ [o]) 0 = 0 := by simp [peekE]
  refine ⟨e, ?_, by simp [popP]⟩
  unfold peekO
  rw [if_pos e]
  simp
theorem push_no (X : List Ob) (o : Ob) (h : o.may = false) : pushE X o = 1 ∧ pushP X o = X := by
  have e : pushE X o = 1 := by simp [pushE, h]
  exact ⟨e, by simp [pushP, e]⟩
theorem Seg.row {w : World} {v : Value} {L : List Ob} (r : w.ownsRow 0 24 6 v L.length (obCells L)) {p : Option Addr} {cap : Nat} (hv : v = .slice p L.length cap) (lo hi m : Nat) (h1 : lo ≤ hi) (h2 : hi ≤ L.length) (h3 : hi ≤ m) (h4 : m ≤ cap) : Seg w (sliced p lo hi m 6) ((L.drop lo).take (hi - lo)) := by
  subst hv
  exact (Seg.of_owns r).sub lo hi m h1 h2 h3 h4
theorem owns_cap {w : World} {p : Option Addr} {n cap : Nat} {xs : List Value} (r : w.ownsRow 0 24 6 (.slice p n cap) n xs) : n ≤ cap := by
  rcases r.2 with ⟨e, h0⟩ | ⟨g, c, cur, e, _, _, hn, _⟩
  · omega
  · have : cap = c := (Value.slice.inj e).2.2
    omega
set_option maxHeartbeats 1000000 in
set_option maxRecDepth 100000 in
theorem top_yes (a b : Int) (K X N A L : Int) (s : ByteArray) (x : Bool) (m k : Nat) (w : World) (hs : ¬ ((s.size : Int) > 300)) (ha0 : 0 ≤ a) (ha1 : a ≤ 255) (hb0 : 0 ≤ b) (hb1 : b ≤ 255) (hm : a % 90 = m) (hk : b % ((m : Int) + 1) = k) (hmay : mayO K N A L s = true) :
    Calls Try.prog 8 #[.int .u8 a, .int .u8 b, .agg #[.int .i64 K, .bool x, .int .i64 N, .int .i64 A, .int .i64 L, .string s]] w fun e w' => e = .returned (.bool true) ∧ Below w.heap.size w w' := by
  have HM : Hid (m < 90 ∧ k ≤ m ∧ mayO K N A L s = true) := Lib.hid ⟨by omega, by have := Int.emod_lt_of_pos b (by omega : (0 : Int) < (m : Int) + 1); omega, hmay⟩
  have HQ := Lib.hid (fun wx => may_any K N A L x s wx)
  have ek : Int.tmod a 90 = m := by rw [Int.tmod_eq_emod_of_nonneg ha0]; exact hm
  have ek2 : Int.tmod b ((m : Int) + 1) = k := by rw [Int.tmod_eq_emod_of_nonneg hb0]; exact hk
  have e1 : IntKind.i64.wrap ((m : Int) + 1) = (m : Int) + 1 := IntWalk.i64_in _ (by have := HM.out; omega)
  have n0 : ¬ ((m : Int) + 1 = 0) := by omega
  clear hm hk hmay X
  go_enter Try.func8, Try.ntmps8
  go_upto_region 1 with fail
  obtain ⟨wa, ea, ka, za, oa⟩ := ob_box w K N A L x s
  rw [ea]
  have KA := Lib.hid ka
  have ZA := Lib.hid za
  have OA := Lib.hid oa
  clear ea ka za oa
  go_wp2_with fail
  refine (kknown_any wa).mono ?_
  rintro e w0 ⟨rfl, b0⟩
  have B0 := Lib.hid b0
  have W0 : Hid (w.heap.size < w0.heap.size) := Lib.hid (by have := ZA.out; have := b0.size; omega)
  have O0 := Lib.hid (OA.out.later b0)
  obtain ⟨c0, c1, c2, c3, c4, c5⟩ := O0.out
  clear b0 OA
  go_wp2_with fail
  refine (numbers_any m w0 (by have := HM.out; omega)).mono ?_
  rintro e w1 ⟨sb, rfl, s1, b1⟩
  have S1 := Lib.hid s1
  have B1 := Lib.hid b1
  clear s1 b1 c0 c1 c2 c3 c4 c5
  go_wp2_with fail
  refine (kItems S1.out).mono ?_
  rintro e w2 ⟨p, c, rfl, s2, k2, r2⟩
  have S2 := Lib.hid s2
  have B2 := Lib.hid (B1.out.trans (k2.below fun _ h => h))
  have R2 := Lib.hid (r2.mono (Nat.zero_le _))
  obtain ⟨c0, c1, c2, c3, c4, c5⟩ := O0.out.later B2.out
  clear s2 k2 r2
  go_wp2_with fail
  refine (kPush S2.out ⟨K, x, N, A, L, s⟩ 0 (numL m ++ [⟨K, x, N, A, L, s⟩]) (by simp only [pushE, numL_length]; have := HM.out; rw [if_pos (show Ob.may ⟨K, x, N, A, L, s⟩ = true from this.2.2), if_pos (by omega)]) (by simp only [pushP, pushE, numL_length]; have := HM.out; rw [if_pos]; rw [if_pos (show Ob.may ⟨K, x, N, A, L, s⟩ = true from this.2.2), if_pos (by omega)])).mono ?_
  rintro e w3 ⟨rfl, s3, k3⟩
  have S3 := Lib.hid s3
  have B3 := Lib.hid (B2.out.trans (k3.below fun _ h => .inl h))
  have R3 := Lib.hid (owns_at R2.out fun g e => k3.block g (.inr e))
  clear s3 k3 c0 c1 c2 c3 c4 c5
  have PL := Lib.hid (peek_last (numL m) ⟨K, x, N, A, L, s⟩)
  go_wp2_with fail
  refine (kPeek S3.out 0 0 K x N A L s PL.out.1 PL.out.2.1).mono ?_
  rintro e w4 ⟨rfl, s4, k4⟩
  have S4 := Lib.hid s4
  have B4 := Lib.hid (B3.out.trans (k4.below fun _ h => .inl h))
  have R4 := Lib.hid (owns_at R3.out fun g e => k4.block g (.inr e))
  clear s4 k4
  go_upto_region 11 with fail
  obtain ⟨w5, e5, s5, k5, o5⟩ := S4.out.box_ob K x N A L s
  rw [e5]
  have S5 := Lib.hid s5
  have B5 := Lib.hid (B4.out.trans (k5.below fun _ h => .inl h))
  have R5 := Lib.hid (owns_at R4.out fun g e => k5.block g (.inr e))
  have O5 := Lib.hid o5
  clear e5 s5 k5 o5
  go_wp2_with fail
  refine (kPop S5.out 0 K x N A L s (numL m) PL.out.1 PL.out.2.1 PL.out.2.2).mono ?_
  rintro e w6 ⟨rfl, s6, k6⟩
  have S6 := Lib.hid s6
  have B6 := Lib.hid (B5.out.trans (k6.below fun _ h => .inl (.inl h)))
  have R6 := Lib.hid (owns_at R5.out fun g e => k6.block g (.inl (.inr e)))
  have O6 := Lib.hid ((k6.block _ (.inr rfl)).trans O5.out)
  clear s6 k6
  go_upto_region 12 with fail
  obtain ⟨w7, e7, s7, k7, o7⟩ := S6.out.box_ob K x N A L s
  rw [e7]
  have S7 := Lib.hid (s7.sub (own' := fun b => b < w0.heap.size ∨ (Value.slice p (numL m).length c).ownBlock = some b) fun b h => .inl (.inl h))
  have B7 := Lib.hid (B6.out.trans (k7.below fun _ h => .inl (.inl h)))
  have R7 := Lib.hid (owns_at R6.out fun g e => k7.block g (.inl (.inr e)))
  have O7 := Lib.hid ((k7.block _ (.inr rfl)).trans O6.out)
  obtain ⟨c0, c1, c2, c3, c4, c5⟩ := O0.out.later B7.out
  obtain ⟨d0, d1, d2, d3, d4, d5⟩ := ob_cells O7.out
  obtain ⟨f0, f1, f2, f3, f4, f5⟩ := ob_cells o7
  have q : ∀ w, (binOp .eql 24 (.agg #[.int .i64 K, .bool x, .int .i64 N, .int .i64 A, .int .i64 L, .string s]) (.agg #[.int .i64 K, .bool x, .int .i64 N, .int .i64 A, .int .i64 L, .string s])).run Try.prog w = .ok (.bool true) w := fun w => by rw [eqO]; simp
  clear e7 s7 k7 o7
  go_upto_region 16 with fail
  clear d0 d1 d2 d3 d4 d5 f0 f1 f2 f3 f4 f5 q S1 S2 S3 S4 S5 S6 R2 R3 R4 R5 R6 O5 O6 O7 B1 B2 B3 B4 B5 B6 PL
  rw [HM.out.2.2] at HQ
  go_wp2_with fail
  refine (HQ.out _).mono ?_
  rintro e w8 ⟨rfl, k8⟩
  have S8 := Lib.hid (S7.out.below k8).1
  have B8 := Lib.hid (B7.out.trans (k8.mono B7.out.size))
  have R8 := Lib.hid (owns_at R7.out fun g e => k8.block g (R7.out.lt g e).2)
  clear k8 S7 B7 R7 c0 c1 c2 c3 c4 c5
  go_wp2_with fail
  refine (kItems S8.out).mono ?_
  rintro e w9 ⟨p2, c2, rfl, s9, k9, r9⟩
  have S9 := Lib.hid s9
  have B9 := Lib.hid (B8.out.trans (k9.below fun _ h => .inl h))
  have R9 := Lib.hid (owns_at R8.out fun g e => k9.block g (.inr e))
  have Q9 := Lib.hid r9
  clear s9 k9 r9 S8 B8 R8
  go_wp2_with fail
  refine (same_yes (Seg.of_owns Q9.out) (Seg.of_owns R9.out) (by rw [numL_length]; have := HM.out; omega)).mono ?_
  rintro e wB ⟨rfl, kB⟩
  have SB := Lib.hid ((S9.out.below kB).1.sub (own' := fun b => b < w0.heap.size ∨ (Value.slice p (numL m).length c).ownBlock = some b) fun b h => .inl h)
  have BB := Lib.hid (B9.out.trans (kB.mono B9.out.size))
  have RB := Lib.hid (owns_at R9.out fun g e => kB.block g (R9.out.lt g e).2)
  clear kB S9 B9 R9 Q9
  go_wp2_with fail
  refine (kDup SB.out k 0 (numL m ++ (numL m).drop (m - k)) (by simp only [dupE, numL_length]; have := HM.out; rw [if_neg (by omega), if_neg (by omega), if_neg (by omega)]) (by simp only [dupP, dupE, numL_length]; have := HM.out; rw [if_pos (by rw [if_neg (by omega), if_neg (by omega), if_neg (by omega)]), Int.toNat_natCast])).mono ?_
  rintro e wC ⟨rfl, sC, kC⟩
  have SC := Lib.hid sC
  have BC := Lib.hid (BB.out.trans (kC.below fun _ h => .inl h))
  have RC' := Lib.hid (owns_at RB.out fun g e => kC.block g (.inr e))
  clear sC kC SB BB RB
  go_wp2_with fail
  refine (kItems SC.out).mono ?_
  rintro e wD ⟨p3, c3, rfl, sD, kD, rD⟩
  have BD := Lib.hid (BC.out.trans (kD.below fun _ h => .inl h))
  have RD := Lib.hid (owns_at RC'.out fun g e => kD.block g (.inr e))
  have QD := Lib.hid (rD.mono (Nat.zero_le _))
  clear sD kD rD SC BC RC'
  obtain ⟨mk, hmk⟩ : ∃ mk : Nat, mk + k = m := ⟨m - k, by have := HM.out; omega⟩
  have hlen : (numL m ++ (numL m).drop (m - k)).length = m + k := by rw [List.length_append, List.length_drop, numL_length]; omega
  rw [hlen] at QD
  rw [numL_length] at RD
  obtain ⟨ZZ, hZ⟩ : ∃ ZZ, numL m ++ (numL m).drop (m - k) = ZZ := ⟨_, rfl⟩
  have hz0 : ZZ.length = m + k := by rw [← hZ]; exact hlen
  have hz1 : (ZZ.drop 0).take m = numL m := by rw [← hZ, List.drop_zero, List.take_append_of_le_length (by rw [numL_length]; omega), List.take_of_length_le (by rw [numL_length]; omega)]
  have hz2 : ZZ.drop m = (numL m).drop mk := by
    rw [← hZ, show m - k = mk from by omega]
    have := List.drop_left (l₁ := numL m) (l₂ := (numL m).drop mk)
    rw [numL_length] at this
    exact this
  have cD := owns_cap RD.out
  have cQ := owns_cap QD.out
  have g1 := Seg.row (L := ZZ) (by rw [hz0, ← hZ]; exact QD.out) (by rw [hz0]) 0 m c3 (Nat.zero_le _) (by omega) (by omega) (Nat.le_refl _)
  have g2 := Seg.row (L := ZZ) (by rw [hz0, ← hZ]; exact QD.out) (by rw [hz0]) m (m + k) c3 (by omega) (by omega) (by omega) (Nat.le_refl _)
  have g3 := Seg.row (L := numL m) (by rw [numL_length]; exact RD.out) (by rw [numL_length]) mk m c (by omega) (by rw [numL_length]; omega) (by omega) (Nat.le_refl _)
  have g4 := Seg.of_owns (X := numL m) (by rw [numL_length]; exact RD.out)
  rw [Nat.sub_zero, hz1] at g1
  rw [Nat.add_sub_cancel_left, hz2] at g2
  have hl1 : ((numL m).drop mk).take k = (numL m).drop mk := List.take_of_length_le (by rw [List.length_drop, numL_length]; omega)
  rw [hl1] at g2
  rw [show m - mk = k from by omega, hl1] at g3
  have t1 := slice33_h p3 (m + k) c3 m (by omega)
  have t2 := slice33_l p3 (m + k) c3 m (by omega)
  have t3 := slice33_l p m c mk (by omega)
  obtain ⟨V1, e1'⟩ : ∃ V1, sliced p3 0 m c3 6 = V1 := ⟨_, rfl⟩
  obtain ⟨V2, e2'⟩ : ∃ V2, sliced p3 m (m + k) c3 6 = V2 := ⟨_, rfl⟩
  obtain ⟨V3, e3'⟩ : ∃ V3, sliced p mk m c 6 = V3 := ⟨_, rfl⟩
  rw [e1'] at t1 g1
  rw [e2'] at t2 g2
  rw [e3'] at t3 g3
  have HS1 : Hid (∀ n, Calls Try.prog 45 #[V1, .slice p m c] (wD.drewN n) fun e w' => e = .returned (.bool true) ∧ ∃ q, w' = (wD.drewN n).drewN q) := Lib.hid fun n => same_quiet (g1.later (below_drewN _ _)) (g4.later (below_drewN _ _)) (by rw [numL_length]; have := HM.out; omega)
  have HS2 : Hid (∀ n, Calls Try.prog 45 #[V2, V3] (wD.drewN n) fun e w' => e = .returned (.bool true) ∧ ∃ q, w' = (wD.drewN n).drewN q) := Lib.hid fun n => same_quiet (g2.later (below_drewN _ _)) (g3.later (below_drewN _ _)) (by rw [List.length_drop, numL_length]; have := HM.out; omega)
  have e2 : IntKind.i64.wrap ((m : Int) + k) = (m : Int) + k := IntWalk.i64_in _ (by have := HM.out; omega)
  have e3 : IntKind.i64.wrap ((m : Int) - k) = mk := by rw [IntWalk.i64_in _ (by have := HM.out; omega)]; omega
  have FIN := Lib.hid ((below_and KA.out (B0.out.trans (BD.out.mono B0.out.size))))
  rw [hlen, numL_length]
  clear g1 g2 g3 g4 e1' e2' e3' hl1 cD cQ hz0 hz1 hz2 hZ hlen hmk RD QD BD
  go_wp2_with fail
  have hd : ((m + k : Nat) : Int) = (m : Int) + k := by omega
  have SX : Hid (∃ q, wD.drew = wD.drewN q) := Lib.hid ⟨1, rfl⟩
  (try refine wp_region_noPanic ?_)
  refine wp_region_held_drew (S := fun wx => ∃ q, wx = wD.drewN q) (by kernel_rfl) SX.out (fun _ => ?_)
  have KX0 : Hid (Below wD.heap.size wD wD.drew) := Lib.hid (Below.refl _ _).drew
  generalize wD.drew = wx at SX KX0 ⊢
  refine wpAnyH_take (i := 0) (v := .int .i64 0) rfl (by kernel_rfl) (by kernel_rfl) (by kernel_rfl) (fun _ _ _ h => h) (Or.inl ⟨by rfl, fun wx hS => ?_⟩) SX.out ?_
  · go_simp
  try simp only [Act.put, List.getElem_toArray, List.getElem_cons_succ, List.getElem_cons_zero, List.setIfInBounds_toArray, List.set_cons_zero, List.set_cons_succ]
  refine wpAnyH_take (i := 1) (v := .bool true) rfl (by kernel_rfl) (by kernel_rfl) (by kernel_rfl) (fun _ _ _ h => h) (Or.inl ⟨by rfl, fun wx hS => ?_⟩) SX.out ?_
  · go_simp
  try simp only [Act.put, List.getElem_toArray, List.getElem_cons_succ, List.getElem_cons_zero, List.setIfInBounds_toArray, List.set_cons_zero, List.set_cons_succ]
  refine wpAnyH_take (i := 2) (v := .bool true) rfl (by kernel_rfl) (by kernel_rfl) (by kernel_rfl) (fun _ _ _ h => h) (Or.inl ⟨by rfl, fun wx hS => ?_⟩) SX.out ?_
  · go_simp
  try simp only [Act.put, List.getElem_toArray, List.getElem_cons_succ, List.getElem_cons_zero, List.setIfInBounds_toArray, List.set_cons_zero, List.set_cons_succ]
  refine wpAnyH_take (i := 3) (v := .slice p3 (m + k) c3) rfl (by kernel_rfl) (by kernel_rfl) (by kernel_rfl) (fun _ _ _ h => h) (Or.inl ⟨by rfl, fun wx hS => ?_⟩) SX.out ?_
  · go_simp
  try simp only [Act.put, List.getElem_toArray, List.getElem_cons_succ, List.getElem_cons_zero, List.setIfInBounds_toArray, List.set_cons_zero, List.set_cons_succ]
  refine wpAnyH_take (i := 4) (v := .int .i64 (m + k : Nat)) rfl (by kernel_rfl) (by kernel_rfl) (by kernel_rfl) (fun _ _ _ h => h) (Or.inl ⟨by rfl, fun wx hS => ?_⟩) SX.out ?_
  · go_simp
  try simp only [Act.put, List.getElem_toArray, List.getElem_cons_succ, List.getElem_cons_zero, List.setIfInBounds_toArray, List.set_cons_zero, List.set_cons_succ]
  refine wpAnyH_take (i := 5) (v := .int .i64 m) rfl (by kernel_rfl) (by kernel_rfl) (by kernel_rfl) (fun _ _ _ h => h) (Or.inl ⟨by rfl, fun wx hS => ?_⟩) SX.out ?_
  · go_simp
  try simp only [Act.put, List.getElem_toArray, List.getElem_cons_succ, List.getElem_cons_zero, List.setIfInBounds_toArray, List.set_cons_zero, List.set_cons_succ]
  refine wpAnyH_take (i := 6) (v := .int .i64 k) rfl (by kernel_rfl) (by kernel_rfl) (by kernel_rfl) (fun _ _ _ h => h) (Or.inl ⟨by rfl, fun wx hS => ?_⟩) SX.out ?_
  · go_simp
  try simp only [Act.put, List.getElem_toArray, List.getElem_cons_succ, List.getElem_cons_zero, List.setIfInBounds_toArray, List.set_cons_zero, List.set_cons_succ]
  refine wpAnyH_take (i := 7) (v := .int .i64 ((m : Int) + k)) rfl (by kernel_rfl) (by kernel_rfl) (by kernel_rfl) (fun _ _ _ h => h) (Or.inl ⟨by rfl, fun wx hS => ?_⟩) SX.out ?_
  · go_simp
  try simp only [Act.put, List.getElem_toArray, List.getElem_cons_succ, List.getElem_cons_zero, List.setIfInBounds_toArray, List.set_cons_zero, List.set_cons_succ]
  refine wpAnyH_take (i := 8) (v := .bool true) rfl (by kernel_rfl) (by kernel_rfl) (by kernel_rfl) (fun _ _ _ h => h) (Or.inl ⟨by rfl, fun wx hS => ?_⟩) SX.out ?_
  · go_simp
  try simp only [Act.put, List.getElem_toArray, List.getElem_cons_succ, List.getElem_cons_zero, List.setIfInBounds_toArray, List.set_cons_zero, List.set_cons_succ]
  refine wpAnyH_take (i := 9) (v := .bool true) rfl (by kernel_rfl) (by kernel_rfl) (by kernel_rfl) (fun _ _ _ h => h) (Or.inl ⟨by rfl, fun wx hS => ?_⟩) SX.out ?_
  · go_simp
  try simp only [Act.put, List.getElem_toArray, List.getElem_cons_succ, List.getElem_cons_zero, List.setIfInBounds_toArray, List.set_cons_zero, List.set_cons_succ]
  refine wpAnyH_take (i := 10) (v := .bool true) rfl (by kernel_rfl) (by kernel_rfl) (by kernel_rfl) (fun _ _ _ h => h) (Or.inl ⟨by rfl, fun wx hS => ?_⟩) SX.out ?_
  · go_simp
  try simp only [Act.put, List.getElem_toArray, List.getElem_cons_succ, List.getElem_cons_zero, List.setIfInBounds_toArray, List.set_cons_zero, List.set_cons_succ]
  refine wpAnyH_take (i := 11) (v := .slice p3 (m + k) c3) rfl (by kernel_rfl) (by kernel_rfl) (by kernel_rfl) (fun _ _ _ h => h) (Or.inl ⟨by rfl, fun wx hS => ?_⟩) SX.out ?_
  · go_simp
  try simp only [Act.put, List.getElem_toArray, List.getElem_cons_succ, List.getElem_cons_zero, List.setIfInBounds_toArray, List.set_cons_zero, List.set_cons_succ]
  refine wpAnyH_take (i := 12) (v := .int .i64 m) rfl (by kernel_rfl) (by kernel_rfl) (by kernel_rfl) (fun _ _ _ h => h) (Or.inl ⟨by rfl, fun wx hS => ?_⟩) SX.out ?_
  · go_simp
  try simp only [Act.put, List.getElem_toArray, List.getElem_cons_succ, List.getElem_cons_zero, List.setIfInBounds_toArray, List.set_cons_zero, List.set_cons_succ]
  refine wpAnyH_take (i := 13) (v := V1) rfl (by kernel_rfl) (by kernel_rfl) (by kernel_rfl) (fun _ _ _ h => h) (Or.inl ⟨by rfl, fun wx hS => ?_⟩) SX.out ?_
  · go_simp
  try simp only [Act.put, List.getElem_toArray, List.getElem_cons_succ, List.getElem_cons_zero, List.setIfInBounds_toArray, List.set_cons_zero, List.set_cons_succ]
  refine wpAnyH_take (i := 14) (v := .slice p m c) rfl (by kernel_rfl) (by kernel_rfl) (by kernel_rfl) (fun _ _ _ h => h) (Or.inl ⟨by rfl, fun wx hS => ?_⟩) SX.out ?_
  · go_simp
  try simp only [Act.put, List.getElem_toArray, List.getElem_cons_succ, List.getElem_cons_zero, List.setIfInBounds_toArray, List.set_cons_zero, List.set_cons_succ]
  refine wpAnyH_ready (rs := [15]) (by kernel_rfl) (by simp) ?_
  refine AllReadyH.cons rfl (fun K hK => ?_) AllReadyH.nil
  obtain ⟨nx, ex⟩ := SX.out
  subst ex
  go_simp
  refine (HS1.out nx).mono ?_
  rintro e wy ⟨rfl, ny, ey⟩
  have SY : Hid (∃ q, wy = wD.drewN q) := Lib.hid ⟨nx + ny, by rw [ey, World.drewN_drewN]⟩
  clear ey SX
  refine hK.out _ _ SY.out (fun _ => ?_)
  clear hK
  try simp only [Act.put, List.getElem_toArray, List.getElem_cons_succ, List.getElem_cons_zero, List.setIfInBounds_toArray, List.set_cons_zero, List.set_cons_succ]
  refine wpAnyH_take (i := 16) (v := .bool true) rfl (by kernel_rfl) (by kernel_rfl) (by kernel_rfl) (fun _ _ _ h => h) (Or.inl ⟨by rfl, fun wx hS => ?_⟩) SY.out ?_
  · go_simp
  try simp only [Act.put, List.getElem_toArray, List.getElem_cons_succ, List.getElem_cons_zero, List.setIfInBounds_toArray, List.set_cons_zero, List.set_cons_succ]
  refine wpAnyH_take (i := 17) (v := .bool true) rfl (by kernel_rfl) (by kernel_rfl) (by kernel_rfl) (fun _ _ _ h => h) (Or.inl ⟨by rfl, fun wx hS => ?_⟩) SY.out ?_
  · go_simp
  try simp only [Act.put, List.getElem_toArray, List.getElem_cons_succ, List.getElem_cons_zero, List.setIfInBounds_toArray, List.set_cons_zero, List.set_cons_succ]
  refine wpAnyH_take (i := 18) (v := .slice p3 (m + k) c3) rfl (by kernel_rfl) (by kernel_rfl) (by kernel_rfl) (fun _ _ _ h => h) (Or.inl ⟨by rfl, fun wx hS => ?_⟩) SY.out ?_
  · go_simp
  try simp only [Act.put, List.getElem_toArray, List.getElem_cons_succ, List.getElem_cons_zero, List.setIfInBounds_toArray, List.set_cons_zero, List.set_cons_succ]
  refine wpAnyH_take (i := 19) (v := .int .i64 m) rfl (by kernel_rfl) (by kernel_rfl) (by kernel_rfl) (fun _ _ _ h => h) (Or.inl ⟨by rfl, fun wx hS => ?_⟩) SY.out ?_
  · go_simp
  try simp only [Act.put, List.getElem_toArray, List.getElem_cons_succ, List.getElem_cons_zero, List.setIfInBounds_toArray, List.set_cons_zero, List.set_cons_succ]
  refine wpAnyH_take (i := 20) (v := V2) rfl (by kernel_rfl) (by kernel_rfl) (by kernel_rfl) (fun _ _ _ h => h) (Or.inl ⟨by rfl, fun wx hS => ?_⟩) SY.out ?_
  · go_simp
  try simp only [Act.put, List.getElem_toArray, List.getElem_cons_succ, List.getElem_cons_zero, List.setIfInBounds_toArray, List.set_cons_zero, List.set_cons_succ]
  refine wpAnyH_take (i := 21) (v := .slice p m c) rfl (by kernel_rfl) (by kernel_rfl) (by kernel_rfl) (fun _ _ _ h => h) (Or.inl ⟨by rfl, fun wx hS => ?_⟩) SY.out ?_
  · go_simp
  try simp only [Act.put, List.getElem_toArray, List.getElem_cons_succ, List.getElem_cons_zero, List.setIfInBounds_toArray, List.set_cons_zero, List.set_cons_succ]
  refine wpAnyH_take (i := 22) (v := .int .i64 m) rfl (by kernel_rfl) (by kernel_rfl) (by kernel_rfl) (fun _ _ _ h => h) (Or.inl ⟨by rfl, fun wx hS => ?_⟩) SY.out ?_
  · go_simp
  try simp only [Act.put, List.getElem_toArray, List.getElem_cons_succ, List.getElem_cons_zero, List.setIfInBounds_toArray, List.set_cons_zero, List.set_cons_succ]
  refine wpAnyH_take (i := 23) (v := .int .i64 k) rfl (by kernel_rfl) (by kernel_rfl) (by kernel_rfl) (fun _ _ _ h => h) (Or.inl ⟨by rfl, fun wx hS => ?_⟩) SY.out ?_
  · go_simp
  try simp only [Act.put, List.getElem_toArray, List.getElem_cons_succ, List.getElem_cons_zero, List.setIfInBounds_toArray, List.set_cons_zero, List.set_cons_succ]
  refine wpAnyH_take (i := 24) (v := .int .i64 mk) rfl (by kernel_rfl) (by kernel_rfl) (by kernel_rfl) (fun _ _ _ h => h) (Or.inl ⟨by rfl, fun wx hS => ?_⟩) SY.out ?_
  · go_simp
  try simp only [Act.put, List.getElem_toArray, List.getElem_cons_succ, List.getElem_cons_zero, List.setIfInBounds_toArray, List.set_cons_zero, List.set_cons_succ]
  refine wpAnyH_take (i := 25) (v := V3) rfl (by kernel_rfl) (by kernel_rfl) (by kernel_rfl) (fun _ _ _ h => h) (Or.inl ⟨by rfl, fun wx hS => ?_⟩) SY.out ?_
  · go_simp
  try simp only [Act.put, List.getElem_toArray, List.getElem_cons_succ, List.getElem_cons_zero, List.setIfInBounds_toArray, List.set_cons_zero, List.set_cons_succ]
  refine wpAnyH_ready (rs := [26]) (by kernel_rfl) (by simp) ?_
  refine AllReadyH.cons rfl (fun K hK => ?_) AllReadyH.nil
  obtain ⟨nz, ez⟩ := SY.out
  subst ez
  go_simp
  refine (HS2.out nz).mono ?_
  rintro e wz ⟨rfl, mz, fz⟩
  have SZ : Hid (∃ q, wz = wD.drewN q) := Lib.hid ⟨nz + mz, by rw [fz, World.drewN_drewN]⟩
  clear fz SY
  refine hK.out _ _ SZ.out (fun _ => ?_)
  clear hK
  try simp only [Act.put, List.getElem_toArray, List.getElem_cons_succ, List.getElem_cons_zero, List.setIfInBounds_toArray, List.set_cons_zero, List.set_cons_succ]
  refine wpAnyH_take (i := 27) (v := .bool true) rfl (by kernel_rfl) (by kernel_rfl) (by kernel_rfl) (fun _ _ _ h => h) (Or.inl ⟨by rfl, fun wx hS => ?_⟩) SZ.out ?_
  · go_simp
  try simp only [Act.put, List.getElem_toArray, List.getElem_cons_succ, List.getElem_cons_zero, List.setIfInBounds_toArray, List.set_cons_zero, List.set_cons_succ]
  refine wpAnyH_take (i := 28) (v := .bool true) rfl (by kernel_rfl) (by kernel_rfl) (by kernel_rfl) (fun _ _ _ h => h) (Or.inl ⟨by rfl, fun wx hS => ?_⟩) SZ.out ?_
  · go_simp
  try simp only [Act.put, List.getElem_toArray, List.getElem_cons_succ, List.getElem_cons_zero, List.setIfInBounds_toArray, List.set_cons_zero, List.set_cons_succ]
  refine wpAnyH_done (by kernel_rfl) ?_ _
  (try refine no_panic ?_)
  have KX : Hid (Below wD.heap.size wD wz) := Lib.hid (by
    obtain ⟨q, e⟩ := SZ.out
    rw [e]
    exact below_drewN _ _)
  go_wp2
  go_ret
  exact ⟨rfl, below_and FIN.out KX.out⟩
set_option maxHeartbeats 1000000 in
set_option maxRecDepth 100000 in
theorem top_no (a b : Int) (K X N A L : Int) (s : ByteArray) (x : Bool) (m k : Nat) (w : World) (hs : ¬ ((s.size : Int) > 300)) (ha0 : 0 ≤ a) (ha1 : a ≤ 255) (hb0 : 0 ≤ b) (hb1 : b ≤ 255) (hm : a % 90 = m) (hk : b % ((m : Int) + 1) = k) (hmay : mayO K N A L s = false) :
    Calls Try.prog 8 #[.int .u8 a, .int .u8 b, .agg #[.int .i64 K, .bool x, .int .i64 N, .int .i64 A, .int .i64 L, .string s]] w fun e w' => e = .returned (.bool true) ∧ Below w.heap.size w w' := by
  have HM : Hid (m < 90 ∧ k ≤ m ∧ mayO K N A L s = false) := Lib.hid ⟨by omega, by have := Int.emod_lt_of_pos b (by omega : (0 : Int) < (m : Int) + 1); omega, hmay⟩
  have HQ := Lib.hid (fun wx => may_any K N A L x s wx)
  have ek : Int.tmod a 90 = m := by rw [Int.tmod_eq_emod_of_nonneg ha0]; exact hm
  have ek2 : Int.tmod b ((m : Int) + 1) = k := by rw [Int.tmod_eq_emod_of_nonneg hb0]; exact hk
  have e1 : IntKind.i64.wrap ((m : Int) + 1) = (m : Int) + 1 := IntWalk.i64_in _ (by have := HM.out; omega)
  have n0 : ¬ ((m : Int) + 1 = 0) := by omega
  clear hm hk hmay X
  go_enter Try.func8, Try.ntmps8
  go_upto_region 1 with fail
  obtain ⟨wa, ea, ka, za, oa⟩ := ob_box w K N A L x s
  rw [ea]
  have KA := Lib.hid ka
  have ZA := Lib.hid za
  have OA := Lib.hid oa
  clear ea ka za oa
  go_wp2_with fail
  refine (kknown_any wa).mono ?_
  rintro e w0 ⟨rfl, b0⟩
  have B0 := Lib.hid b0
  have W0 : Hid (w.heap.size < w0.heap.size) := Lib.hid (by have := ZA.out; have := b0.size; omega)
  have O0 := Lib.hid (OA.out.later b0)
  obtain ⟨c0, c1, c2, c3, c4, c5⟩ := O0.out
  clear b0 OA
  go_wp2_with fail
  refine (numbers_any m w0 (by have := HM.out; omega)).mono ?_
  rintro e w1 ⟨sb, rfl, s1, b1⟩
  have S1 := Lib.hid s1
  have B1 := Lib.hid b1
  clear s1 b1 c0 c1 c2 c3 c4 c5
  go_wp2_with fail
  refine (kItems S1.out).mono ?_
  rintro e w2 ⟨p, c, rfl, s2, k2, r2⟩
  have S2 := Lib.hid s2
  have B2 := Lib.hid (B1.out.trans (k2.below fun _ h => h))
  have R2 := Lib.hid (r2.mono (Nat.zero_le _))
  obtain ⟨c0, c1, c2, c3, c4, c5⟩ := O0.out.later B2.out
  clear s2 k2 r2
  go_wp2_with fail
  refine (kPush S2.out ⟨K, x, N, A, L, s⟩ 1 (numL m) (push_no _ ⟨K, x, N, A, L, s⟩ HM.out.2.2).1 (push_no _ ⟨K, x, N, A, L, s⟩ HM.out.2.2).2).mono ?_
  rintro e w7 ⟨rfl, s3, k3⟩
  have S7 := Lib.hid s3
  have B7 := Lib.hid (B2.out.trans (k3.below fun _ h => .inl h))
  have R7 := Lib.hid (owns_at R2.out fun g e => k3.block g (.inr e))
  clear s3 k3 c0 c1 c2 c3 c4 c5
  obtain ⟨c0, c1, c2, c3, c4, c5⟩ := O0.out.later B7.out
  clear S1 S2 R2 B1 B2
  go_upto_region 16 with fail
  rw [HM.out.2.2] at HQ
  go_wp2_with fail
  refine (HQ.out _).mono ?_
  rintro e w8 ⟨rfl, k8⟩
  have S8 := Lib.hid (S7.out.below k8).1
  have B8 := Lib.hid (B7.out.trans (k8.mono B7.out.size))
  have R8 := Lib.hid (owns_at R7.out fun g e => k8.block g (R7.out.lt g e).2)
  clear k8 S7 B7 R7 c0 c1 c2 c3 c4 c5
  go_wp2_with fail
  refine (kItems S8.out).mono ?_
  rintro e w9 ⟨p2, c2, rfl, s9, k9, r9⟩
  have S9 := Lib.hid s9
  have B9 := Lib.hid (B8.out.trans (k9.below fun _ h => .inl h))
  have R9 := Lib.hid (owns_at R8.out fun g e => k9.block g (.inr e))
  have Q9 := Lib.hid r9
  clear s9 k9 r9 S8 B8 R8
  go_wp2_with fail
  refine (same_yes (Seg.of_owns Q9.out) (Seg.of_owns R9.out) (by rw [numL_length]; have := HM.out; omega)).mono ?_
  rintro e wB ⟨rfl, kB⟩
  have SB := Lib.hid ((S9.out.below kB).1.sub (own' := fun b => b < w0.heap.size ∨ (Value.slice p (numL m).length c).ownBlock = some b) fun b h => .inl h)
  have BB := Lib.hid (B9.out.trans (kB.mono B9.out.size))
  have RB := Lib.hid (owns_at R9.out fun g e => kB.block g (R9.out.lt g e).2)
  clear kB S9 B9 R9 Q9
  go_wp2_with fail
  refine (kDup SB.out k 0 (numL m ++ (numL m).drop (m - k)) (by simp only [dupE, numL_length]; have := HM.out; rw [if_neg (by omega), if_neg (by omega), if_neg (by omega)]) (by simp only [dupP, dupE, numL_length]; have := HM.out; rw [if_pos (by rw [if_neg (by omega), if_neg (by omega), if_neg (by omega)]), Int.toNat_natCast])).mono ?_
  rintro e wC ⟨rfl, sC, kC⟩
  have SC := Lib.hid sC
  have BC := Lib.hid (BB.out.trans (kC.below fun _ h => .inl h))
  have RC' := Lib.hid (owns_at RB.out fun g e => kC.block g (.inr e))
  clear sC kC SB BB RB
  go_wp2_with fail
  refine (kItems SC.out).mono ?_
  rintro e wD ⟨p3, c3, rfl, sD, kD, rD⟩
  have BD := Lib.hid (BC.out.trans (kD.below fun _ h => .inl h))
  have RD := Lib.hid (owns_at RC'.out fun g e => kD.block g (.inr e))
  have QD := Lib.hid (rD.mono (Nat.zero_le _))
  clear sD kD rD SC BC RC'
  obtain ⟨mk, hmk⟩ : ∃ mk : Nat, mk + k = m := ⟨m - k, by have := HM.out; omega⟩
  have hlen : (numL m ++ (numL m).drop (m - k)).length = m + k := by rw [List.length_append, List.length_drop, numL_length]; omega
  rw [hlen] at QD
  rw [numL_length] at RD
  obtain ⟨ZZ, hZ⟩ : ∃ ZZ, numL m ++ (numL m).drop (m - k) = ZZ := ⟨_, rfl⟩
  have hz0 : ZZ.length = m + k := by rw [← hZ]; exact hlen
  have hz1 : (ZZ.drop 0).take m = numL m := by rw [← hZ, List.drop_zero, List.take_append_of_le_length (by rw [numL_length]; omega), List.take_of_length_le (by rw [numL_length]; omega)]
  have hz2 : ZZ.drop m = (numL m).drop mk := by
    rw [← hZ, show m - k = mk from by omega]
    have := List.drop_left (l₁ := numL m) (l₂ := (numL m).drop mk)
    rw [numL_length] at this
    exact this
  have cD := owns_cap RD.out
  have cQ := owns_cap QD.out
  have g1 := Seg.row (L := ZZ) (by rw [hz0, ← hZ]; exact QD.out) (by rw [hz0]) 0 m c3 (Nat.zero_le _) (by omega) (by omega) (Nat.le_refl _)
  have g2 := Seg.row (L := ZZ) (by rw [hz0, ← hZ]; exact QD.out) (by rw [hz0]) m (m + k) c3 (by omega) (by omega) (by omega) (Nat.le_refl _)
  have g3 := Seg.row (L := numL m) (by rw [numL_length]; exact RD.out) (by rw [numL_length]) mk m c (by omega) (by rw [numL_length]; omega) (by omega) (Nat.le_refl _)
  have g4 := Seg.of_owns (X := numL m) (by rw [numL_length]; exact RD.out)
  rw [Nat.sub_zero, hz1] at g1
  rw [Nat.add_sub_cancel_left, hz2] at g2
  have hl1 : ((numL m).drop mk).take k = (numL m).drop mk := List.take_of_length_le (by rw [List.length_drop, numL_length]; omega)
  rw [hl1] at g2
  rw [show m - mk = k from by omega, hl1] at g3
  have t1 := slice33_h p3 (m + k) c3 m (by omega)
  have t2 := slice33_l p3 (m + k) c3 m (by omega)
  have t3 := slice33_l p m c mk (by omega)
  obtain ⟨V1, e1'⟩ : ∃ V1, sliced p3 0 m c3 6 = V1 := ⟨_, rfl⟩
  obtain ⟨V2, e2'⟩ : ∃ V2, sliced p3 m (m + k) c3 6 = V2 := ⟨_, rfl⟩
  obtain ⟨V3, e3'⟩ : ∃ V3, sliced p mk m c 6 = V3 := ⟨_, rfl⟩
  rw [e1'] at t1 g1
  rw [e2'] at t2 g2
  rw [e3'] at t3 g3
  have HS1 : Hid (∀ n, Calls Try.prog 45 #[V1, .slice p m c] (wD.drewN n) fun e w' => e = .returned (.bool true) ∧ ∃ q, w' = (wD.drewN n).drewN q) := Lib.hid fun n => same_quiet (g1.later (below_drewN _ _)) (g4.later (below_drewN _ _)) (by rw [numL_length]; have := HM.out; omega)
  have HS2 : Hid (∀ n, Calls Try.prog 45 #[V2, V3] (wD.drewN n) fun e w' => e = .returned (.bool true) ∧ ∃ q, w' = (wD.drewN n).drewN q) := Lib.hid fun n => same_quiet (g2.later (below_drewN _ _)) (g3.later (below_drewN _ _)) (by rw [List.length_drop, numL_length]; have := HM.out; omega)
  have e2 : IntKind.i64.wrap ((m : Int) + k) = (m : Int) + k := IntWalk.i64_in _ (by have := HM.out; omega)
  have e3 : IntKind.i64.wrap ((m : Int) - k) = mk := by rw [IntWalk.i64_in _ (by have := HM.out; omega)]; omega
  have FIN := Lib.hid ((below_and KA.out (B0.out.trans (BD.out.mono B0.out.size))))
  rw [hlen, numL_length]
  clear g1 g2 g3 g4 e1' e2' e3' hl1 cD cQ hz0 hz1 hz2 hZ hlen hmk RD QD BD
  go_wp2_with fail
  have hd : ((m + k : Nat) : Int) = (m : Int) + k := by omega
  have SX : Hid (∃ q, wD.drew = wD.drewN q) := Lib.hid ⟨1, rfl⟩
  (try refine wp_region_noPanic ?_)
  refine wp_region_held_drew (S := fun wx => ∃ q, wx = wD.drewN q) (by kernel_rfl) SX.out (fun _ => ?_)
  have KX0 : Hid (Below wD.heap.size wD wD.drew) := Lib.hid (Below.refl _ _).drew
  generalize wD.drew = wx at SX KX0 ⊢
  refine wpAnyH_take (i := 0) (v := .int .i64 0) rfl (by kernel_rfl) (by kernel_rfl) (by kernel_rfl) (fun _ _ _ h => h) (Or.inl ⟨by rfl, fun wx hS => ?_⟩) SX.out ?_
  · go_simp
  try simp only [Act.put, List.getElem_toArray, List.getElem_cons_succ, List.getElem_cons_zero, List.setIfInBounds_toArray, List.set_cons_zero, List.set_cons_succ]
  refine wpAnyH_take (i := 1) (v := .bool true) rfl (by kernel_rfl) (by kernel_rfl) (by kernel_rfl) (fun _ _ _ h => h) (Or.inl ⟨by rfl, fun wx hS => ?_⟩) SX.out ?_
  · go_simp
  try simp only [Act.put, List.getElem_toArray, List.getElem_cons_succ, List.getElem_cons_zero, List.setIfInBounds_toArray, List.set_cons_zero, List.set_cons_succ]
  refine wpAnyH_take (i := 2) (v := .bool true) rfl (by kernel_rfl) (by kernel_rfl) (by kernel_rfl) (fun _ _ _ h => h) (Or.inl ⟨by rfl, fun wx hS => ?_⟩) SX.out ?_
  · go_simp
  try simp only [Act.put, List.getElem_toArray, List.getElem_cons_succ, List.getElem_cons_zero, List.setIfInBounds_toArray, List.set_cons_zero, List.set_cons_succ]
  refine wpAnyH_take (i := 3) (v := .slice p3 (m + k) c3) rfl (by kernel_rfl) (by kernel_rfl) (by kernel_rfl) (fun _ _ _ h => h) (Or.inl ⟨by rfl, fun wx hS => ?_⟩) SX.out ?_
  · go_simp
  try simp only [Act.put, List.getElem_toArray, List.getElem_cons_succ, List.getElem_cons_zero, List.setIfInBounds_toArray, List.set_cons_zero, List.set_cons_succ]
  refine wpAnyH_take (i := 4) (v := .int .i64 (m + k : Nat)) rfl (by kernel_rfl) (by kernel_rfl) (by kernel_rfl) (fun _ _ _ h => h) (Or.inl ⟨by rfl, fun wx hS => ?_⟩) SX.out ?_
  · go_simp
  try simp only [Act.put, List.getElem_toArray, List.getElem_cons_succ, List.getElem_cons_zero, List.setIfInBounds_toArray, List.set_cons_zero, List.set_cons_succ]
  refine wpAnyH_take (i := 5) (v := .int .i64 m) rfl (by kernel_rfl) (by kernel_rfl) (by kernel_rfl) (fun _ _ _ h => h) (Or.inl ⟨by rfl, fun wx hS => ?_⟩) SX.out ?_
  · go_simp
  try simp only [Act.put, List.getElem_toArray, List.getElem_cons_succ, List.getElem_cons_zero, List.setIfInBounds_toArray, List.set_cons_zero, List.set_cons_succ]
  refine wpAnyH_take (i := 6) (v := .int .i64 k) rfl (by kernel_rfl) (by kernel_rfl) (by kernel_rfl) (fun _ _ _ h => h) (Or.inl ⟨by rfl, fun wx hS => ?_⟩) SX.out ?_
  · go_simp
  try simp only [Act.put, List.getElem_toArray, List.getElem_cons_succ, List.getElem_cons_zero, List.setIfInBounds_toArray, List.set_cons_zero, List.set_cons_succ]
  refine wpAnyH_take (i := 7) (v := .int .i64 ((m : Int) + k)) rfl (by kernel_rfl) (by kernel_rfl) (by kernel_rfl) (fun _ _ _ h => h) (Or.inl ⟨by rfl, fun wx hS => ?_⟩) SX.out ?_
  · go_simp
  try simp only [Act.put, List.getElem_toArray, List.getElem_cons_succ, List.getElem_cons_zero, List.setIfInBounds_toArray, List.set_cons_zero, List.set_cons_succ]
  refine wpAnyH_take (i := 8) (v := .bool true) rfl (by kernel_rfl) (by kernel_rfl) (by kernel_rfl) (fun _ _ _ h => h) (Or.inl ⟨by rfl, fun wx hS => ?_⟩) SX.out ?_
  · go_simp
  try simp only [Act.put, List.getElem_toArray, List.getElem_cons_succ, List.getElem_cons_zero, List.setIfInBounds_toArray, List.set_cons_zero, List.set_cons_succ]
  refine wpAnyH_take (i := 9) (v := .bool true) rfl (by kernel_rfl) (by kernel_rfl) (by kernel_rfl) (fun _ _ _ h => h) (Or.inl ⟨by rfl, fun wx hS => ?_⟩) SX.out ?_
  · go_simp
  try simp only [Act.put, List.getElem_toArray, List.getElem_cons_succ, List.getElem_cons_zero, List.setIfInBounds_toArray, List.set_cons_zero, List.set_cons_succ]
  refine wpAnyH_take (i := 10) (v := .bool true) rfl (by kernel_rfl) (by kernel_rfl) (by kernel_rfl) (fun _ _ _ h => h) (Or.inl ⟨by rfl, fun wx hS => ?_⟩) SX.out ?_
  · go_simp
  try simp only [Act.put, List.getElem_toArray, List.getElem_cons_succ, List.getElem_cons_zero, List.setIfInBounds_toArray, List.set_cons_zero, List.set_cons_succ]
  refine wpAnyH_take (i := 11) (v := .slice p3 (m + k) c3) rfl (by kernel_rfl) (by kernel_rfl) (by kernel_rfl) (fun _ _ _ h => h) (Or.inl ⟨by rfl, fun wx hS => ?_⟩) SX.out ?_
  · go_simp
  try simp only [Act.put, List.getElem_toArray, List.getElem_cons_succ, List.getElem_cons_zero, List.setIfInBounds_toArray, List.set_cons_zero, List.set_cons_succ]
  refine wpAnyH_take (i := 12) (v := .int .i64 m) rfl (by kernel_rfl) (by kernel_rfl) (by kernel_rfl) (fun _ _ _ h => h) (Or.inl ⟨by rfl, fun wx hS => ?_⟩) SX.out ?_
  · go_simp
  try simp only [Act.put, List.getElem_toArray, List.getElem_cons_succ, List.getElem_cons_zero, List.setIfInBounds_toArray, List.set_cons_zero, List.set_cons_succ]
  refine wpAnyH_take (i := 13) (v := V1) rfl (by kernel_rfl) (by kernel_rfl) (by kernel_rfl) (fun _ _ _ h => h) (Or.inl ⟨by rfl, fun wx hS => ?_⟩) SX.out ?_
  · go_simp
  try simp only [Act.put, List.getElem_toArray, List.getElem_cons_succ, List.getElem_cons_zero, List.setIfInBounds_toArray, List.set_cons_zero, List.set_cons_succ]
  refine wpAnyH_take (i := 14) (v := .slice p m c) rfl (by kernel_rfl) (by kernel_rfl) (by kernel_rfl) (fun _ _ _ h => h) (Or.inl ⟨by rfl, fun wx hS => ?_⟩) SX.out ?_
  · go_simp
  try simp only [Act.put, List.getElem_toArray, List.getElem_cons_succ, List.getElem_cons_zero, List.setIfInBounds_toArray, List.set_cons_zero, List.set_cons_succ]
  refine wpAnyH_ready (rs := [15]) (by kernel_rfl) (by simp) ?_
  refine AllReadyH.cons rfl (fun K hK => ?_) AllReadyH.nil
  obtain ⟨nx, ex⟩ := SX.out
  subst ex
  go_simp
  refine (HS1.out nx).mono ?_
  rintro e wy ⟨rfl, ny, ey⟩
  have SY : Hid (∃ q, wy = wD.drewN q) := Lib.hid ⟨nx + ny, by rw [ey, World.drewN_drewN]⟩
  clear ey SX
  refine hK.out _ _ SY.out (fun _ => ?_)
  clear hK
  try simp only [Act.put, List.getElem_toArray, List.getElem_cons_succ, List.getElem_cons_zero, List.setIfInBounds_toArray, List.set_cons_zero, List.set_cons_succ]
  refine wpAnyH_take (i := 16) (v := .bool true) rfl (by kernel_rfl) (by kernel_rfl) (by kernel_rfl) (fun _ _ _ h => h) (Or.inl ⟨by rfl, fun wx hS => ?_⟩) SY.out ?_
  · go_simp
  try simp only [Act.put, List.getElem_toArray, List.getElem_cons_succ, List.getElem_cons_zero, List.setIfInBounds_toArray, List.set_cons_zero, List.set_cons_succ]
  refine wpAnyH_take (i := 17) (v := .bool true) rfl (by kernel_rfl) (by kernel_rfl) (by kernel_rfl) (fun _ _ _ h => h) (Or.inl ⟨by rfl, fun wx hS => ?_⟩) SY.out ?_
  · go_simp
  try simp only [Act.put, List.getElem_toArray, List.getElem_cons_succ, List.getElem_cons_zero, List.setIfInBounds_toArray, List.set_cons_zero, List.set_cons_succ]
  refine wpAnyH_take (i := 18) (v := .slice p3 (m + k) c3) rfl (by kernel_rfl) (by kernel_rfl) (by kernel_rfl) (fun _ _ _ h => h) (Or.inl ⟨by rfl, fun wx hS => ?_⟩) SY.out ?_
  · go_simp
  try simp only [Act.put, List.getElem_toArray, List.getElem_cons_succ, List.getElem_cons_zero, List.setIfInBounds_toArray, List.set_cons_zero, List.set_cons_succ]
  refine wpAnyH_take (i := 19) (v := .int .i64 m) rfl (by kernel_rfl) (by kernel_rfl) (by kernel_rfl) (fun _ _ _ h => h) (Or.inl ⟨by rfl, fun wx hS => ?_⟩) SY.out ?_
  · go_simp
  try simp only [Act.put, List.getElem_toArray, List.getElem_cons_succ, List.getElem_cons_zero, List.setIfInBounds_toArray, List.set_cons_zero, List.set_cons_succ]
  refine wpAnyH_take (i := 20) (v := V2) rfl (by kernel_rfl) (by kernel_rfl) (by kernel_rfl) (fun _ _ _ h => h) (Or.inl ⟨by rfl, fun wx hS => ?_⟩) SY.out ?_
  · go_simp
  try simp only [Act.put, List.getElem_toArray, List.getElem_cons_succ, List.getElem_cons_zero, List.setIfInBounds_toArray, List.set_cons_zero, List.set_cons_succ]
  refine wpAnyH_take (i := 21) (v := .slice p m c) rfl (by kernel_rfl) (by kernel_rfl) (by kernel_rfl) (fun _ _ _ h => h) (Or.inl ⟨by rfl, fun wx hS => ?_⟩) SY.out ?_
  · go_simp
  try simp only [Act.put, List.getElem_toArray, List.getElem_cons_succ, List.getElem_cons_zero, List.setIfInBounds_toArray, List.set_cons_zero, List.set_cons_succ]
  refine wpAnyH_take (i := 22) (v := .int .i64 m) rfl (by kernel_rfl) (by kernel_rfl) (by kernel_rfl) (fun _ _ _ h => h) (Or.inl ⟨by rfl, fun wx hS => ?_⟩) SY.out ?_
  · go_simp
  try simp only [Act.put, List.getElem_toArray, List.getElem_cons_succ, List.getElem_cons_zero, List.setIfInBounds_toArray, List.set_cons_zero, List.set_cons_succ]
  refine wpAnyH_take (i := 23) (v := .int .i64 k) rfl (by kernel_rfl) (by kernel_rfl) (by kernel_rfl) (fun _ _ _ h => h) (Or.inl ⟨by rfl, fun wx hS => ?_⟩) SY.out ?_
  · go_simp
  try simp only [Act.put, List.getElem_toArray, List.getElem_cons_succ, List.getElem_cons_zero, List.setIfInBounds_toArray, List.set_cons_zero, List.set_cons_succ]
  refine wpAnyH_take (i := 24) (v := .int .i64 mk) rfl (by kernel_rfl) (by kernel_rfl) (by kernel_rfl) (fun _ _ _ h => h) (Or.inl ⟨by rfl, fun wx hS => ?_⟩) SY.out ?_
  · go_simp
  try simp only [Act.put, List.getElem_toArray, List.getElem_cons_succ, List.getElem_cons_zero, List.setIfInBounds_toArray, List.set_cons_zero, List.set_cons_succ]
  refine wpAnyH_take (i := 25) (v := V3) rfl (by kernel_rfl) (by kernel_rfl) (by kernel_rfl) (fun _ _ _ h => h) (Or.inl ⟨by rfl, fun wx hS => ?_⟩) SY.out ?_
  · go_simp
  try simp only [Act.put, List.getElem_toArray, List.getElem_cons_succ, List.getElem_cons_zero, List.setIfInBounds_toArray, List.set_cons_zero, List.set_cons_succ]
  refine wpAnyH_ready (rs := [26]) (by kernel_rfl) (by simp) ?_
  refine AllReadyH.cons rfl (fun K hK => ?_) AllReadyH.nil
  obtain ⟨nz, ez⟩ := SY.out
  subst ez
  go_simp
  refine (HS2.out nz).mono ?_
  rintro e wz ⟨rfl, mz, fz⟩
  have SZ : Hid (∃ q, wz = wD.drewN q) := Lib.hid ⟨nz + mz, by rw [fz, World.drewN_drewN]⟩
  clear fz SY
  refine hK.out _ _ SZ.out (fun _ => ?_)
  clear hK
  try simp only [Act.put, List.getElem_toArray, List.getElem_cons_succ, List.getElem_cons_zero, List.setIfInBounds_toArray, List.set_cons_zero, List.set_cons_succ]
  refine wpAnyH_take (i := 27) (v := .bool true) rfl (by kernel_rfl) (by kernel_rfl) (by kernel_rfl) (fun _ _ _ h => h) (Or.inl ⟨by rfl, fun wx hS => ?_⟩) SZ.out ?_
  · go_simp
  try simp only [Act.put, List.getElem_toArray, List.getElem_cons_succ, List.getElem_cons_zero, List.setIfInBounds_toArray, List.set_cons_zero, List.set_cons_succ]
  refine wpAnyH_take (i := 28) (v := .bool true) rfl (by kernel_rfl) (by kernel_rfl) (by kernel_rfl) (fun _ _ _ h => h) (Or.inl ⟨by rfl, fun wx hS => ?_⟩) SZ.out ?_
  · go_simp
  try simp only [Act.put, List.getElem_toArray, List.getElem_cons_succ, List.getElem_cons_zero, List.setIfInBounds_toArray, List.set_cons_zero, List.set_cons_succ]
  refine wpAnyH_done (by kernel_rfl) ?_ _
  (try refine no_panic ?_)
  have KX : Hid (Below wD.heap.size wD wz) := Lib.hid (by
    obtain ⟨q, e⟩ := SZ.out
    rw [e]
    exact below_drewN _ _)
  go_wp2
  go_ret
  exact ⟨rfl, below_and FIN.out KX.out⟩
set_option maxHeartbeats 1000000 in
set_option maxRecDepth 100000 in
theorem stop_walk (a b K N A L : Int) (s : ByteArray) (x : Bool) (w : World) (ha0 : 0 ≤ a) (ha1 : a ≤ 255) (hb0 : 0 ≤ b) (hb1 : b ≤ 255) :
    Calls Try.prog 8 #[.int .u8 a, .int .u8 b, .agg #[.int .i64 K, .bool x, .int .i64 N, .int .i64 A, .int .i64 L, .string s]] w fun e w' => e = .returned (.bool true) ∧ Below w.heap.size w w' := by
  by_cases hs : (s.size : Int) > 300
  · go_enter Try.func8, Try.ntmps8
    go_upto_region 1 with fail
    obtain ⟨wa, ea, ka, za, oa⟩ := ob_box w K N A L x s
    rw [ea]
    have KA := Lib.hid ka
    have OA := Lib.hid oa
    clear ea ka za oa
    go_wp2_with fail
    refine (kknown_any wa).mono ?_
    rintro e w0 ⟨rfl, b0⟩
    have B0 := Lib.hid (below_and KA.out b0)
    obtain ⟨c0, c1, c2, c3, c4, c5⟩ := OA.out.later b0
    clear b0 OA
    go_wp2
    go_ret
    exact ⟨rfl, B0.out⟩
  · have hm := Int.emod_nonneg a (by decide : (90 : Int) ≠ 0)
    obtain ⟨m, em⟩ : ∃ m : Nat, a % 90 = m := ⟨(a % 90).toNat, by omega⟩
    have hk := Int.emod_nonneg b (by omega : (m : Int) + 1 ≠ 0)
    obtain ⟨k, ek⟩ : ∃ k : Nat, b % ((m : Int) + 1) = k := ⟨(b % ((m : Int) + 1)).toNat, by omega⟩
    cases hmay : mayO K N A L s with
    | true => exact top_yes a b K 0 N A L s x m k w hs ha0 ha1 hb0 hb1 em ek hmay
    | false => exact top_no a b K 0 N A L s x m k w hs ha0 ha1 hb0 hb1 em ek hmay
end Go.Proofs.Ytgmklagnngjlgaa

/- The walk of StackRolls. -/
namespace Go.Proofs.Ytgmklagnngjlgaa
open Go.RowKit
set_option linter.unusedVariables false
set_option linter.unusedSimpArgs false

theorem rollL_back (B : List Ob) (u v : Nat) (hu : u ≤ B.length) (h : (u = 0 ∧ v = 0) ∨ (0 < u ∧ u + v = B.length)) : rollL (rollL B u) v = B := by
  rcases h with ⟨rfl, rfl⟩ | ⟨h0, h⟩
  · simp [rollL]
  · have hl : (rollL B u).length = B.length := rollL_length B u
    unfold rollL at hl ⊢
    have hd : (B.drop (B.length - u)).length = u := by simp; omega
    rw [hl, show B.length - v = u from by omega, List.drop_left' hd, List.take_left' hd]
    exact List.take_append_drop _ _
theorem emod_neg_cases (j : Int) (k : Nat) (hk : 0 < k) : ((j % k).toNat = 0 ∧ ((-j) % k).toNat = 0) ∨ (0 < (j % k).toNat ∧ (j % k).toNat + ((-j) % k).toNat = k) := by
  have h0 := Int.emod_nonneg j (by omega : (k : Int) ≠ 0)
  have h1 := Int.emod_lt_of_pos j (by omega : (0 : Int) < k)
  have h2 := Int.emod_nonneg (-j) (by omega : (k : Int) ≠ 0)
  have h3 := Int.emod_lt_of_pos (-j) (by omega : (0 : Int) < k)
  have h4 : (j % k + (-j) % k) % k = 0 := by rw [← Int.add_emod, Int.add_right_neg, Int.zero_emod]
  have h5 : j % k + (-j) % k = 0 ∨ j % k + (-j) % k = k := by
    rcases Int.lt_or_le (j % k + (-j) % k) k with q | q
    · left
      rwa [Int.emod_eq_of_lt (by omega) q] at h4
    · right
      have : (j % k + (-j) % k - k) % k = 0 := by rw [Int.sub_emod_right]; exact h4
      rw [Int.emod_eq_of_lt (by omega) (by omega)] at this
      omega
  omega
theorem rollP_back (X : List Ob) (k : Nat) (j : Int) (hk : k ≤ X.length) : rollP (rollP X k j) k (-j) = X := by
  by_cases h0 : k = 0
  · subst h0
    rw [rollP_zero, rollP_zero]
  have hl := rollP_length X k j
  have hB : (X.drop (X.length - k)).length = k := by simp; omega
  have ht : (X.take (X.length - k)).length = X.length - k := by simp
  have e1 : (rollP X k j).take (X.length - k) = X.take (X.length - k) := by
    unfold rollP
    rw [List.take_append, ht, Nat.sub_self, List.take_zero, List.append_nil, List.take_of_length_le (by omega)]
  have e2 : (rollP X k j).drop (X.length - k) = rollL (X.drop (X.length - k)) (j % k).toNat := by
    unfold rollP
    rw [List.drop_append, ht, Nat.sub_self, List.drop_zero, List.drop_of_length_le (by omega), List.nil_append]
  have h1 := Int.emod_lt_of_pos j (by omega : (0 : Int) < k)
  rw [rollP, hl, e1, e2, rollL_back _ _ _ (by omega) (by rw [hB]; exact emod_neg_cases j k (by omega))]
  exact List.take_append_drop _ _
theorem rollP_full (X : List Ob) (k : Nat) (j : Int) (hj : j % k = 0) : rollP X k j = X := by
  unfold rollP rollL
  rw [hj, Int.toNat_zero, Nat.sub_zero, List.drop_length, List.take_length, List.nil_append]
  exact List.take_append_drop _ _
/-- What lies at place i behind a roll of the numbers. -/
def wantP (d k i : Nat) (j : Int) : Int := if d ≤ i then d + ((i : Int) - d - j) % k else i
theorem roll_item (d k i : Nat) (j : Int) (hi : i < d + k) : (rollP (numL (d + k)) k j)[i]? = some (Ob.num (wantP d k i j)) := by
  unfold rollP wantP
  rw [numL_length, show d + k - k = d from by omega]
  have ht : ((numL (d + k)).take d).length = d := by rw [List.length_take, numL_length]; omega
  by_cases h : d ≤ i
  · rw [if_pos h, List.getElem?_append_right (by omega), ht]
    have hk : 0 < k := by omega
    have hB : ((numL (d + k)).drop d).length = k := by rw [List.length_drop, numL_length]; omega
    have h0 := Int.emod_nonneg j (by omega : (k : Int) ≠ 0)
    have h1 := Int.emod_lt_of_pos j (by omega : (0 : Int) < k)
    obtain ⟨u, hu⟩ : ∃ u : Nat, j % (k : Int) = u := ⟨(j % k).toNat, by omega⟩
    obtain ⟨p, hp⟩ : ∃ p, i = d + p := ⟨i - d, by omega⟩
    subst hp
    have hm : (((d + p : Nat) : Int) - d - j) % k = ((p : Int) - u) % k := by
      rw [show ((d + p : Nat) : Int) - d - j = (p : Int) - j from by omega, Int.sub_emod (p : Int) j, hu, Int.sub_emod (p : Int) u, Int.emod_eq_of_lt (a := (u : Int)) (by omega) (by omega)]
    rw [hm, hu, Int.toNat_natCast, show d + p - d = p from by omega]
    unfold rollL
    rw [hB]
    have hd : (((numL (d + k)).drop d).drop (k - u)).length = u := by rw [List.length_drop, hB]; omega
    by_cases hpu : p < u
    · rw [List.getElem?_append_left (by omega), List.getElem?_drop, List.getElem?_drop, numL_get (by omega)]
      have e : ((p : Int) - u) % k = (p : Int) - u + k := by
        rw [← Int.add_emod_right, Int.emod_eq_of_lt (by omega) (by omega)]
      rw [e]
      congr 2
      omega
    · rw [List.getElem?_append_right (by omega), hd, List.getElem?_take_of_lt (by omega), List.getElem?_drop, numL_get (by omega)]
      rw [Int.emod_eq_of_lt (by omega) (by omega)]
      congr 2
      omega
  · rw [if_neg h, List.getElem?_append_left (by omega), List.getElem?_take_of_lt (by omega), numL_get (by omega)]
theorem rollQ_nat (X : List Ob) (k : Nat) (j : Int) (hk : k ≤ X.length) : rollE X k = 0 ∧ rollQ X k j = rollP X k j := by
  have e : rollE X k = 0 := by
    unfold rollE
    rw [if_neg (by omega), if_neg (by omega)]
  exact ⟨e, by rw [rollQ, if_pos e, Int.toNat_natCast]⟩
theorem roll3 (X : List Ob) (k : Nat) : rollP X k (3 * (k : Int)) = X := by
  by_cases h : k = 0
  · subst h
    exact rollP_zero X _
  · exact rollP_full X k _ (Int.mul_emod_left _ _)
set_option maxHeartbeats 1000000 in
set_option maxRecDepth 100000 in
theorem rolls_walk (a b j : Int) (m k d : Nat) (w : World) (ha0 : 0 ≤ a) (ha1 : a ≤ 255) (hb0 : 0 ≤ b) (hb1 : b ≤ 255) (hj0 : -2147483648 ≤ j) (hj1 : j ≤ 2147483647) (hm : a % 100 = m) (hk : b % ((m : Int) + 1) = k) (hd : m = d + k) :
    Calls Try.prog 7 #[.int .u8 a, .int .u8 b, .int .i32 j] w fun e w' => e = .returned (.bool true) ∧ Below w.heap.size w w' := by
  have HM : Hid (m < 100 ∧ k ≤ m ∧ m = d + k) := Lib.hid ⟨by omega, by omega, hd⟩
  have ek : Int.tmod a 100 = m := by rw [Int.tmod_eq_emod_of_nonneg ha0]; exact hm
  have ek2 : Int.tmod b ((m : Int) + 1) = k := by rw [Int.tmod_eq_emod_of_nonneg hb0]; exact hk
  have e1 : IntKind.i64.wrap ((m : Int) + 1) = (m : Int) + 1 := IntWalk.i64_in _ (by have := HM.out; omega)
  have n0 : ¬ ((m : Int) + 1 = 0) := by omega
  clear hm hk hd
  go_enter Try.func7, Try.ntmps7
  go_wp2_with fail
  refine (kknown_any w).mono ?_
  rintro e w0 ⟨rfl, b0⟩
  have B0 := Lib.hid b0
  clear b0
  go_wp2_with fail
  refine (numbers_any m w0 (by have := HM.out; omega)).mono ?_
  rintro e w1 ⟨sb, rfl, s1, b1⟩
  have S1 := Lib.hid s1
  have B1 := Lib.hid b1
  clear s1 b1
  go_wp2_with fail
  refine (kItems S1.out).mono ?_
  rintro e w2 ⟨p, c, rfl, s2, k2, r2⟩
  have S2 := Lib.hid s2
  have B2 := Lib.hid (B1.out.trans (k2.below fun _ h => h))
  have R2 := Lib.hid (r2.mono (Nat.zero_le _))
  clear s2 k2 r2 ek ek2 e1 n0
  have RQ := Lib.hid (rollQ_nat (numL m) k j (by rw [numL_length]; exact HM.out.2.1))
  have hl1 : (rollP (numL m) k j).length = m := by rw [rollP_length, numL_length]
  have HL1 := Lib.hid hl1
  clear hl1
  go_wp2_with fail
  refine (kRoll S2.out k j 0 (rollP (numL m) k j) RQ.out.1 RQ.out.2).mono ?_
  rintro e w3 ⟨rfl, s3, k3⟩
  have S3 := Lib.hid s3
  have B3 := Lib.hid (B2.out.trans (k3.below fun _ h => .inl h))
  have R3 := Lib.hid (owns_at R2.out fun g e => k3.block g (.inr e))
  have hl := kLen s3
  rw [HL1.out] at hl
  have HL := Lib.hid hl
  clear s3 k3 hl
  go_wp2_with fail
  refine HL.out.mono ?_
  rintro e w3' ⟨rfl, rfl⟩
  go_wp2_with fail
  refine (kItems S3.out).mono ?_
  rintro e w4 ⟨p2, c2, rfl, s4, k4, r4⟩
  have S4 := Lib.hid s4
  have B4 := Lib.hid (B3.out.trans (k4.below fun _ h => .inl h))
  have R4 := Lib.hid (owns_at R3.out fun g e => k4.block g (.inr e))
  have Q4 := Lib.hid (r4.mono (Nat.zero_le _))
  clear s4 k4 r4 S1 S2 S3 R2 R3 B1 B2 B3 HL
  rw [HL1.out]
  go_wp2_with fail
  go_loopw [12] (fun i wr => ∃ q : Nat, q ≤ m ∧ i = .int .i64 q ∧ wr = w4) (fun i _ => m - (intOf i).toNat)
  case atStart => exact ⟨0, Nat.zero_le _, rfl, rfl⟩
  case round =>
    obtain ⟨i, hi, rfl, rfl⟩ := hrel
    have e2 : IntKind.i64.wrap ((m : Int) - k) = d := by rw [IntWalk.i64_in _ (by have := HM.out; omega)]; have := HM.out; omega
    by_cases hlt : i < m
    · have t1 : (i : Int) < m := by omega
      have t0 : (0 : Int) ≤ i := by omega
      have HI := Lib.hid hlt
      have e3 : IntKind.i64.wrap ((i : Int) + 1) = (i : Int) + 1 := IntWalk.i64_in _ (by have := HM.out; omega)
      have hit := roll_item d k i j (by have := HM.out; omega)
      rw [← HM.out.2.2] at hit
      obtain ⟨g, cap, ev, c0, c1, c2', c3, c4, c5⟩ := row_item Q4.out hit
      rw [HL1.out] at ev
      obtain ⟨rfl, rfl⟩ : p2 = some ⟨g, 0, none⟩ ∧ c2 = cap := by simpa using ev
      have hwant : wantP d k i j = if d ≤ i then (d : Int) + ((i : Int) - d - j) % k else i := rfl
      dsimp only [Ob.num] at c2'
      clear ev hit c0 c1 c3 c4 c5 hlt
      by_cases hge : d ≤ i
      · have t2 : (i : Int) ≥ d := by omega
        rw [if_pos hge] at hwant
        have hk0 : (0 : Int) < k := by have := HM.out; have := HI.out; omega
        have r0 := Int.emod_nonneg ((i : Int) - d - j) (by omega : (k : Int) ≠ 0)
        have r1 := Int.emod_lt_of_pos ((i : Int) - d - j) hk0
        have hpl := Lib.hid (fun w => place_any ((i : Int) - d - j) k w hk0 (by have := HM.out; omega))
        have e4 : IntKind.i64.wrap ((i : Int) - d) = (i : Int) - d := IntWalk.i64_in _ (by have := HM.out; omega)
        have e5 : IntKind.i64.wrap ((i : Int) - d - j) = (i : Int) - d - j := IntWalk.i64_in _ (by have := HM.out; omega)
        generalize ((i : Int) - d - j) % k = r at *
        have e6 : IntKind.i64.wrap ((d : Int) + r) = (d : Int) + r := IntWalk.i64_in _ (by have := HM.out; omega)
        rw [hwant] at c2'
        clear hwant hge r0 r1 hk0
        go_wp2_with fail
        refine (hpl.out _).mono ?_
        rintro e wx ⟨rfl, rfl⟩
        go_wp2
        go_roundw
        case rel => exact ⟨i + 1, HI.out, by go_num, by trivial⟩
        case measure => exact measure_up m i _ (by go_num) HI.out
      · have t2 : ¬ ((i : Int) ≥ d) := by omega
        rw [if_neg hge] at hwant
        rw [hwant] at c2'
        clear hwant hge
        go_wp2
        go_roundw
        case rel => exact ⟨i + 1, HI.out, by go_num, by trivial⟩
        case measure => exact measure_up m i _ (by go_num) HI.out
    · have e : i = m := by omega
      subst e
      have t1 : ¬ ((i : Int) < i) := by omega
      have e7 : IntKind.i64.wrap (-j) = -j := IntWalk.i64_in _ (by omega)
      have e8 : IntKind.i64.wrap (3 * (k : Int)) = 3 * (k : Int) := IntWalk.i64_in _ (by have := HM.out; omega)
      clear e2 hlt hi
      go_wp2_with fail
      have RB := Lib.hid (rollQ_nat (rollP (numL i) k j) k (-j) (by rw [HL1.out]; exact HM.out.2.1))
      refine (kRoll S4.out k (-j) 0 (numL i) RB.out.1 (by rw [RB.out.2]; exact rollP_back _ _ _ (by rw [numL_length]; exact HM.out.2.1))).mono ?_
      rintro e w5 ⟨rfl, s5, k5⟩
      have S5 := Lib.hid s5
      have B5 := Lib.hid (B4.out.trans (k5.below fun _ h => .inl (.inl h)))
      have R5 := Lib.hid (owns_at R4.out fun g e => k5.block g (.inl (.inr e)))
      clear s5 k5
      go_wp2_with fail
      refine (kItems S5.out).mono ?_
      rintro e w6 ⟨p3, c3, rfl, s6, k6, r6⟩
      have S6 := Lib.hid s6
      have B6 := Lib.hid (B5.out.trans (k6.below fun _ h => .inl (.inl h)))
      have R6 := Lib.hid (owns_at R5.out fun g e => k6.block g (.inl (.inr e)))
      have Q6 := Lib.hid (r6.mono (Nat.zero_le _))
      clear s6 k6 r6
      go_wp2_with fail
      refine (same_yes (Seg.of_owns Q6.out) (Seg.of_owns R6.out) (by rw [numL_length]; have := HM.out; omega)).mono ?_
      rintro e w7 ⟨rfl, k7⟩
      have S7 := Lib.hid ((S6.out.below k7).1.sub (own' := fun b => b < w0.heap.size ∨ (Value.slice p (numL i).length c).ownBlock = some b) fun b h => .inl (.inl h))
      have B7 := Lib.hid (B6.out.trans (k7.mono B6.out.size))
      have R7 := Lib.hid (owns_at R6.out fun g e => k7.block g (R6.out.lt g e).2)
      clear k7 S4 S5 S6 R4 R5 R6 Q4 Q6 B4 B5 B6
      have RC' := Lib.hid (rollQ_nat (numL i) k (3 * (k : Int)) (by rw [numL_length]; exact HM.out.2.1))
      go_wp2_with fail
      refine (kRoll S7.out k (3 * (k : Int)) 0 (numL i) RC'.out.1 (by rw [RC'.out.2]; exact roll3 _ _)).mono ?_
      rintro e w8 ⟨rfl, s8, k8⟩
      have S8 := Lib.hid s8
      have B8 := Lib.hid (B7.out.trans (k8.below fun _ h => .inl h))
      have R8 := Lib.hid (owns_at R7.out fun g e => k8.block g (.inr e))
      clear s8 k8
      go_wp2_with fail
      refine (kItems S8.out).mono ?_
      rintro e w9 ⟨p4, c4, rfl, s9, k9, r9⟩
      have B9 := Lib.hid (B8.out.trans (k9.below fun _ h => .inl h))
      have R9 := Lib.hid (owns_at R8.out fun g e => k9.block g (.inr e))
      have Q9 := Lib.hid (r9.mono (Nat.zero_le _))
      clear s9 k9 r9
      go_wp2_with fail
      refine (same_yes (Seg.of_owns Q9.out) (Seg.of_owns R9.out) (by rw [numL_length]; have := HM.out; omega)).mono ?_
      rintro e wA ⟨rfl, kA⟩
      have BA := Lib.hid (B9.out.trans (kA.mono B9.out.size))
      clear kA
      go_wp2
      go_ret
      exact ⟨rfl, B0.out.trans (BA.out.mono B0.out.size)⟩
end Go.Proofs.Ytgmklagnngjlgaa
