/- The walk of DictOrder. -/
import Derived.Test.YtigboibcgpfphaaY5
import Derived.BigQuiet
namespace Go.Proofs.Ytigboibcgpfphaa
open Go.RowKit Go.Maps
set_option linter.unusedVariables false

theorem neqO (k n a l : Int) (x : Bool) (s : ByteArray) (w : World) :
    (binOp .neq 26 (obV k x n a l s) (obV k x n a l s)).run Try.prog w = .ok (.bool false) w := by
  have h := eqO k n a l k n a l x x s s w
  rw [run_eql_struct] at h
  rw [run_neq_struct]
  cases hR : (Op.equalIn 10000 26 (obV k x n a l s) (obV k x n a l s)).run Try.prog w <;> simp [hR, Result.andThen] at h ⊢
  exact h
theorem oPairs {own : Nat → Prop} {hb : Nat} {P : List Cel} {w : World} {d : Ob} {ps : List (Ob × Ob)} {room : Nat} {lk : Bool} (h : Sep own hb P w) (D : DictC P d ps room lk) (q : Nat) (hq : q = 2 * ps.length + 1) :
    Calls Try.prog 44 #[ptr hb, d.val] w fun e w' => ∃ g cap ad, e = .returned (.tuple #[.slice ad (q - 1) (cap - 1), .int .i64 0]) ∧ (0 < ps.length → ad = some ⟨g, 6, none⟩) ∧ w.heap.size ≤ g ∧ w'.ownsRow 0 26 6 (.slice (some ⟨g, 0, none⟩) (2 * room + 1) cap) (2 * room + 1) (obCells (itemsD ps room)) ∧ Below w.heap.size w w' := by
  obtain ⟨role, ⟨vc, ivs, pb, rv, h1⟩, h2⟩ := h
  exact pairs_is h1 D q hq
theorem info3 : (Try.prog.info? 3).map (fun i => (i.zero, i.size, i.bytes)) = some (some (.int .i64 0), 1, 8) := by kernel_rfl
def wl (F : Nat → Nat) (n : Nat) : List Value := (List.range n).map fun t => .int .i64 (F t)
theorem wl_succ (F : Nat → Nat) (n : Nat) : wl F (n + 1) = wl F n ++ [.int .i64 (F n)] := by simp [wl, List.range_succ]
theorem wl_len (F : Nat → Nat) (n : Nat) : (wl F n).length = n := by simp [wl]
theorem wl_get (F : Nat → Nat) {n t : Nat} (h : t < n) : (wl F n)[t]? = some (.int .i64 (F t)) := by simp [wl, h]
theorem wl_congr {F G : Nat → Nat} {n : Nat} (h : ∀ t, t < n → F t = G t) : wl F n = wl G n := by
  unfold wl
  exact List.map_congr_left fun t ht => by rw [h t (List.mem_range.1 ht)]
def cnt (O i : Nat) : Nat := if i ≤ O then i else i - 1
/-- The heap of one dictionary beside the box of its object. -/
structure OSt (n0 hb : Nat) (P : List Cel) (w0 wr : World) (B : Nat) : Prop where
  sep : Sep (fun b => b < n0 ∨ b = B) hb P wr
  blk : wr.heap[B]? = some (obObj 10 false 0 0 0 ⟨#[]⟩)
  below : Below n0 w0 wr
theorem OSt.put {n0 hb : Nat} {P P' : List Cel} {w0 wr wx : World} {B : Nat} (h : OSt n0 hb P w0 wr B) (s : Sep (fun b => b < n0 ∨ b = B) hb P' wx) (k : Kept (fun b => b < n0 ∨ b = B) wr wx) : OSt n0 hb P' w0 wx B :=
  ⟨s, (k.block _ (.inr rfl)).trans h.blk, h.below.trans (k.below fun _ h => .inl h)⟩
theorem OSt.later {n0 hb : Nat} {P : List Cel} {w0 wr wx : World} {B : Nat} (h : OSt n0 hb P w0 wr B) (k : Below wr.heap.size wr wx) : OSt n0 hb P w0 wx B :=
  h.put (h.sep.below k).1 (h.sep.below k).2

set_option maxHeartbeats 2000000 in
set_option maxRecDepth 100000 in
theorem order_core (a0 a1 a2 v : Int) (k0 k O S : Nat) (w : World) (e1 : a0.tmod 20 = k0) (e2 : IntKind.i64.wrap (2 + (k0 : Int)) = k) (e3 : a1.tmod k = O) (e4 : a2.tmod k = S) (e5 : IntKind.i64.wrap ((O : Int) * 65536) = v)
    (hv : Hid (v = (O : Int) * 65536)) (hk : Hid (2 ≤ k ∧ k ≤ 100)) (hO : Hid (O < k)) (hS : Hid (S < k)) (p1 : (k : Int) ≠ 0) (p2 : ¬ (k = 0)) (b0 : 0 ≤ a0) (b0' : a0 ≤ 255) (b1 : 0 ≤ a1) (b1' : a1 ≤ 255) (b2 : 0 ≤ a2) (b2' : a2 ≤ 255) :
    Calls Try.prog 8 #[.int .u8 a0, .int .u8 a1, .int .u8 a2] w fun e w' => e = .returned (.bool true) ∧ Below w.heap.size w w' := by
  go_enter Try.func8, Try.ntmps8
  go_wp2_with fail
  refine (dknown_any w).mono ?_
  rintro e w0 ⟨rfl, k0'⟩
  have K0 := Lib.hid k0'
  clear k0'
  go_wp2_with fail
  refine (new_any w0).mono ?_
  rintro e w1 ⟨rfl, rfl⟩
  obtain ⟨w1, e1', s1, b1''⟩ : ∃ w1, w0.alloc (.cells #[.slice none 0 0, .int .i64 0] 86) = w1 ∧ Sep (fun b => b < w0.heap.size) w0.heap.size [] w1 ∧ Below w0.heap.size w0 w1 := ⟨_, rfl, Sep.new w0, box_below _ _⟩
  rw [e1']
  have S1 := Lib.hid s1
  have B1 := Lib.hid b1''
  clear e1' s1 b1''
  go_wp2_with fail
  refine (oNew S1.out (k := k) (by have := hk.out; omega)).mono ?_
  rintro e w2 ⟨rfl, s2, k2⟩
  have S2 := Lib.hid s2
  have B2 : Hid (Below w0.heap.size w0 w2) := Lib.hid (B1.out.trans (k2.below fun _ h => h))
  clear s2 k2
  go_upto_region 6 with fail
  obtain ⟨w3, e3', s3, k3, o3⟩ := S2.out.box_ob 10 false 0 0 0 ⟨#[]⟩
  rw [e3']
  have ST : Hid (OSt w0.heap.size w0.heap.size (oP (prs id hund 0) k) w0 w3 w2.heap.size) := Lib.hid ⟨s3, o3, B2.out.trans (k3.below fun _ h => h)⟩
  clear e3' s3 k3 o3
  go_wp2
  go_loopw [11] (fun i wr => ∃ j : Nat, j ≤ k ∧ i = .int .i64 j ∧ OSt w0.heap.size w0.heap.size (oP (prs id hund j) k) w0 wr w2.heap.size) (fun i _ => k - (intOf i).toNat)
  case atStart => exact ⟨0, Nat.zero_le _, rfl, ST.out⟩
  case round =>
    obtain ⟨j, hj, rfl, hr⟩ := hrel
    have HR := Lib.hid hr
    clear hr
    obtain ⟨c0, c1, c2, c3, c4, c5⟩ := ob_cells HR.out.blk
    by_cases hlt : j < k
    · have t1 : (j : Int) < k := by omega
      obtain ⟨J, hJ⟩ : ∃ J, 100 + j = J := ⟨_, rfl⟩
      have eJ : IntKind.i64.wrap (100 + (j : Int)) = J := by have := hk.out; rw [wrapi_in _ (by omega) (by omega)]; omega
      have HJ := Lib.hid hJ
      clear hJ
      go_wp2_with fail
      have hset := o1 HR.out.sep hlt hk.out.2
      rw [HJ.out] at hset
      refine hset.mono ?_
      rintro e w4 ⟨rfl, s4, k4⟩
      have R4 := Lib.hid (HR.out.put s4 k4)
      have HW := Lib.hid (wrap64_one (A := j) (by have := hk.out; omega))
      clear hset s4 k4 c0 c1 c2 c3 c4 c5
      go_wp2
      go_roundw
      case rel => exact ⟨j + 1, hlt, congrArg (Value.int .i64) HW.out, R4.out⟩
      case measure => exact measure_one k j _ HW.out hlt
    · have t1 : decide (j < k) = false := decide_eq_false hlt
      have ej : j = k := by omega
      subst ej
      clear hlt
      go_upto_region 13 with fail
      go_quiet (fail)
      generalize hwq : wr.drewN _ = wq
      replace HR : Hid (OSt w0.heap.size w0.heap.size (oP (prs id hund j) j) w0 wq w2.heap.size) := Lib.hid (by rw [← hwq]; exact HR.out.later (below_drewN _ _))
      clear hwq
      clear c0 c1 c2 c3 c4 c5
      obtain ⟨c0, c1, c2, c3, c4, c5⟩ := ob_cells HR.out.blk
      go_wp2_with fail
      clear e1 e2 e3 e4 b0 b0' b1 b1' b2 b2' p1 p2 t1
      refine (oOver HR.out.sep hk.out.2).mono ?_
      rintro e w5 ⟨rfl, s5, k5⟩
      have R5 := Lib.hid (HR.out.put s5 k5)
      clear s5 k5 c0 c1 c2 c3 c4 c5 HR
      obtain ⟨c0, c1, c2, c3, c4, c5⟩ := ob_cells R5.out.blk
      go_wp2_with fail
      refine (oDrop R5.out.sep hO.out hk.out.2 v hv.out).mono ?_
      rintro e w6 ⟨rfl, s6, k6⟩
      have R6 := Lib.hid (R5.out.put s6 k6)
      clear s6 k6 c0 c1 c2 c3 c4 c5 R5
      obtain ⟨c0, c1, c2, c3, c4, c5⟩ := ob_cells R6.out.blk
      go_wp2_with fail
      refine (oSet2 R6.out.sep hO.out hS.out hk.out.2).mono ?_
      rintro e w7 ⟨rfl, s7, k7⟩
      have R7 := Lib.hid (R6.out.put s7 k7)
      clear s7 k7 c0 c1 c2 c3 c4 c5 R6
      obtain ⟨c0, c1, c2, c3, c4, c5⟩ := ob_cells R7.out.blk
      obtain ⟨m, hm⟩ : ∃ m, m = count2 j O S := ⟨_, rfl⟩
      have HM : Hid (m = count2 j O S ∧ m ≤ j ∧ j - 1 ≤ m) := Lib.hid ⟨hm, by rw [hm]; unfold count2; split <;> omega, by rw [hm]; unfold count2; split <;> omega⟩
      obtain ⟨q, hq⟩ : ∃ q, q = 2 * m + 1 := ⟨_, rfl⟩
      have hc : DictC (oP (prs (F2 j O) (V2 j O S) m) j) oD (prs (F2 j O) (V2 j O S) m) j false := oP_c (by rw [prs_len]; exact HM.out.2.1) (by have := hk.out; omega) (prs_fine fun t ht => by have := hk.out; have := hO.out; unfold F2 F1; split <;> (try split) <;> omega)
      have hpr := oPairs (by have := R7.out.sep; rw [← hm] at this; exact this) hc q (by rw [prs_len]; exact hq)
      go_wp2_with fail
      refine hpr.mono ?_
      rintro e w8 ⟨g, cap, ad, rfl, had, hg, hrow, k8⟩
      have hadd := had (by rw [prs_len]; have := HM.out; have := hk.out; omega)
      subst hadd
      obtain ⟨Q, hQ⟩ : ∃ Q, q - 1 = Q := ⟨_, rfl⟩
      rw [hQ]
      have B8 : Hid (Below w0.heap.size w0 w8) := Lib.hid (R7.out.below.trans (k8.mono R7.out.below.size))
      have HQ : Hid (Q = 2 * m) := Lib.hid (by omega)
      have HW8 := Lib.hid hrow
      have HG := Lib.hid (hrow.lt g rfl).2
      clear hm hq hc hpr had hg hrow k8 hQ c0 c1 c2 c3 c4 c5 R7
      -- LOOP2
      obtain ⟨i0, hi, hz0, hz1, hz2⟩ := info_parts info3
      go_wp2
      go_loopw [19, 20] (fun v i wr => ∃ x : Nat, x ≤ j ∧ i = .int .i64 x ∧ wr.ownsRow w8.heap.size 3 1 v (cnt O x) (wl (F1 O) (cnt O x)) ∧ Below w8.heap.size w8 wr) (fun _ i _ => j - (intOf i).toNat)
      case atStart => exact ⟨0, Nat.zero_le _, rfl, by rw [show cnt O 0 = 0 from by simp [cnt]]; exact World.ownsRow_nil _ _ _ _, Below.refl _ _⟩
      case round =>
        obtain ⟨x, hx, rfl, hown, hbel⟩ := hrel
        have R1 := Lib.hid hown
        have R2 := Lib.hid hbel
        obtain ⟨px, cx, rfl⟩ := owns_form (hown.mono (Nat.zero_le _))
        clear hown hbel
        by_cases hlt : x < j
        · have t1 : (x : Int) < j := by omega
          have HW := Lib.hid (wrap64_one (A := x) (by have := hk.out; omega))
          by_cases hxO : x = O
          · have t2 : ((x : Int) != (O : Int)) = false := by simp [hxO]
            have R3 : Hid (wr.ownsRow w8.heap.size 3 1 (.slice px (cnt O x) cx) (cnt O (x + 1)) (wl (F1 O) (cnt O (x + 1)))) := Lib.hid (by rw [show cnt O (x + 1) = cnt O x from by rw [hxO]; unfold cnt; rw [if_neg (by omega), if_pos (Nat.le_refl _)]; omega]; exact R1.out)
            clear hxO
            go_wp2
            go_roundw
            case rel => exact ⟨x + 1, hlt, congrArg (Value.int .i64) HW.out, R3.out, R2.out⟩
            case measure => exact measure_one j x _ HW.out hlt
          · have t2 : ((x : Int) != (O : Int)) = true := by simp; omega
            have hc1 : cnt O (x + 1) = cnt O x + 1 := by unfold cnt; split <;> split <;> omega
            have hc2 : F1 O (cnt O x) = x := by unfold F1 cnt; split <;> split <;> omega
            have HC := Lib.hid hc1
            have HC2 := Lib.hid hc2
            have HCB : Hid (cnt O x ≤ 100) := Lib.hid (by have := hk.out; unfold cnt; split <;> omega)
            clear hc1 hc2 hxO
            go_wp2_with (first
              | (at_builtin; refine wpList_append_own _ rfl _ _ 80 rfl w8.heap.size 3 i0 (.int .i64 0) 1 8 Try.underlying80 hi hz0 hz1 hz2 rfl (by decide) _ _ _ rfl (R1.out.alloc _) ⟨wr.heap.size, 0, none⟩ 1 1 [.int .i64 x] rfl rfl (cell_one_new _ _ _) (fun u hu => by simp at hu; subst hu; rfl) (by have := HCB.out; unfold maxLen; omega) (by have := HCB.out; omega) (by have := R2.out.size; simp; omega) ?_))
            intro v' w9 hown hgrow _
            have R3 : Hid (w9.ownsRow w8.heap.size 3 1 v' (cnt O (x + 1)) (wl (F1 O) (cnt O (x + 1)))) := Lib.hid (by rw [HC.out, wl_succ, HC2.out]; exact hown)
            have R4 : Hid (Below w8.heap.size w8 w9) := Lib.hid ((R2.out.alloc R2.out.size _).grown hgrow (by have := R2.out.size; simp; omega) (fun b e => (R1.out.lt b e).1))
            clear hown hgrow
            go_wp2
            go_roundw
            case rel => exact ⟨x + 1, hlt, congrArg (Value.int .i64) HW.out, R3.out, R4.out⟩
            case measure => exact measure_one j x _ HW.out hlt
        · have t1 : decide (x < j) = false := decide_eq_false hlt
          have ex : x = j := by omega
          subst ex
          have hcx : cnt O x = x - 1 := by have := hO.out; unfold cnt; rw [if_neg (by omega)]
          have RA : Hid (wr.ownsRow w8.heap.size 3 1 (.slice px (x - 1) cx) (x - 1) (wl (F1 O) (x - 1))) := Lib.hid (by have := R1.out; rw [hcx] at this; exact this)
          rw [hcx]
          clear hlt hcx R1
          by_cases hSO : S = O
          · have t2 : ((S : Int) == (O : Int)) = true := by simp [hSO]
            have hm : m = x - 1 + 1 := by
              have q := HM.out.1
              unfold count2 at q
              rw [if_pos hSO] at q
              have := hk.out
              omega
            have HMM := Lib.hid hm
            have HSO := Lib.hid hSO
            clear hm hSO
            go_wp2_with (first
              | (at_builtin; refine wpList_append_own _ rfl _ _ 80 rfl w8.heap.size 3 i0 (.int .i64 0) 1 8 Try.underlying80 hi hz0 hz1 hz2 rfl (by decide) _ _ _ rfl (RA.out.alloc _) ⟨wr.heap.size, 0, none⟩ 1 1 [.int .i64 O] rfl rfl (cell_one_new _ _ _) (fun u hu => by simp at hu; subst hu; rfl) (by have := hk.out; unfold maxLen; omega) (by have := hk.out; omega) (by have := R2.out.size; simp; omega) ?_))
            intro v' w9 hown hgrow _
            have RW : Hid (w9.ownsRow w8.heap.size 3 1 v' m (wl (F2 x O) m)) := Lib.hid (by
              have e : wl (F2 x O) m = wl (F1 O) (x - 1) ++ [.int .i64 O] := by
                rw [HMM.out, wl_succ, wl_congr (G := F1 O) fun t ht => by simp [F2, ht]]
                simp [F2]
              rw [e, HMM.out]
              exact hown)
            have RB : Hid (Below w8.heap.size w8 w9) := Lib.hid ((R2.out.alloc R2.out.size _).grown hgrow (by have := R2.out.size; simp; omega) (fun b e => (RA.out.lt b e).1))
            clear hown hgrow
            obtain ⟨g2, c2, hv2, _, _⟩ := (RW.out.mono (Nat.zero_le _)).form (by have := HM.out; have := hk.out; omega)
            subst hv2
            have eM : IntKind.i64.wrap (2 * (m : Int)) = Q := by
              have := HQ.out
              have := HM.out
              have := hk.out
              rw [wrapi_in _ (by omega) (by omega)]
              omega
            have BW := RB.out
            go_wp2
            go_loopw [21] (fun i wr3 => ∃ t : Nat, t ≤ m ∧ i = .int .i64 t ∧ Below w9.heap.size w9 wr3) (fun i _ => m - (intOf i).toNat)
            case atStart => exact ⟨0, Nat.zero_le _, rfl, Below.refl _ _⟩
            case round =>
              obtain ⟨t, ht, rfl, hb3⟩ := hrel
              have B3 := Lib.hid hb3
              clear hb3
              by_cases hlt3 : t < m
              · obtain ⟨f, hf⟩ : ∃ f, F2 x O t = f := ⟨_, rfl⟩
                have HF : Hid (F2 x O t = f ∧ f ≤ 100) := Lib.hid ⟨hf, by rw [← hf]; have := hk.out; have := hO.out; have := HM.out; unfold F2 F1; split <;> (try split) <;> omega⟩
                have cw := cell_later B3.out ((RW.out.mono (Nat.zero_le _)).cellAt t (by omega) |>.trans ((wl_get _ hlt3).trans (by rw [hf])))
                obtain ⟨H, hH⟩ : ∃ H, 100 + f = H := ⟨_, rfl⟩
                have eH : IntKind.i64.wrap (100 + (f : Int)) = H := by have := HF.out; rw [wrapi_in _ (by omega) (by omega)]; omega
                have HH := Lib.hid hH
                have t5 : (t : Int) < m := by omega
                have t6 : (0 : Int) ≤ t := by omega
                clear hf hH
                go_upto_region 32 with fail
                obtain ⟨wc, ec⟩ : ∃ wc, wr.alloc (.cells #[.int .i64 3, .bool false, .int .i64 H, .int .i64 0, .int .i64 0, .string ⟨#[]⟩] 26) = wc := ⟨_, rfl⟩
                rw [ec]
                have kc : Below wr.heap.size wr wc := by rw [← ec]; exact box_below _ _
                have oc : wc.heap[wr.heap.size]? = some (obObj 3 false H 0 0 ⟨#[]⟩) := by rw [← ec]; exact heap_alloc_new _ _
                replace cw := cell_later kc cw
                have B4 := Lib.hid (below_and B3.out kc)
                have hr : wc.ownsRow 0 26 6 (.slice (some ⟨g, 0, none⟩) (2 * x + 1) cap) (2 * x + 1) (obCells (itemsD (prs (F2 x O) (V2 x O S) m) x)) := owns_same HW8.out fun b hb _ => by
                  have hbg : g = b := by simpa [Value.ownBlock] using hb
                  subst hbg
                  rw [B4.out.block g (Nat.lt_of_lt_of_le HG.out BW.size), BW.block g HG.out]
                have hit := itemsD_key (room := x) (prs_get (F2 x O) (V2 x O S) hlt3)
                rw [HF.out.1] at hit
                have hlr : (itemsD (prs (F2 x O) (V2 x O S) m) x).length = 2 * x + 1 := itemsD_length (by rw [prs_len]; exact HM.out.2.1)
                obtain ⟨A, hA⟩ : ∃ A, 2 * t = A := ⟨_, rfl⟩
                obtain ⟨A1, hA1⟩ : ∃ A1, A + 1 = A1 := ⟨_, rfl⟩
                obtain ⟨g', z', ev, r0, r1, r2, r3, r4, r5⟩ := row_item (l := itemsD (prs (F2 x O) (V2 x O S) m) x) (by rw [hlr]; exact hr) hit.1
                obtain ⟨rfl, _⟩ : g = g' ∧ cap = z' := ⟨by injection ev with q1 _ _; simpa using q1, by injection ev⟩
                have hV : V2 x O S t = if f = S then Ob.null else Ob.num H := by
                  unfold V2
                  rw [HF.out.1]
                  by_cases q : f = S
                  · rw [if_pos q, if_pos q]
                  · rw [if_neg q, if_neg q]
                    unfold hund
                    rw [← HH.out]
                    rfl
                obtain ⟨g', z', ev2, s0, s1', s2', s3', s4', s5'⟩ := row_item (l := itemsD (prs (F2 x O) (V2 x O S) m) x) (by rw [hlr]; exact hr) hit.2
                obtain ⟨rfl, _⟩ : g = g' ∧ cap = z' := ⟨by injection ev2 with q1 _ _; simpa using q1, by injection ev2⟩
                rw [hV] at s0 s1' s2' s3' s4' s5'
                rw [show (2 * t + 1) * 6 = 6 + A * 6 from by omega] at r0 r1 r2 r3 r4 r5
                rw [show (2 * t + 2) * 6 = 6 + A1 * 6 from by omega] at s0 s1' s2' s3' s4' s5'
                dsimp only [Ob.num] at r0 r1 r2 r3 r4 r5
                have e7 : IntKind.i64.wrap (2 * (t : Int)) = A := by have := HM.out; have := hk.out; rw [wrapi_in _ (by omega) (by omega)]; omega
                have e8 : IntKind.i64.wrap ((A : Int) + 1) = A1 := by have := HM.out; have := hk.out; rw [wrapi_in _ (by omega) (by omega)]; omega
                have t7 : (A : Int) < Q := by have := HQ.out; omega
                have t8 : (A1 : Int) < Q := by have := HQ.out; omega
                have t9 : (0 : Int) ≤ A := by omega
                have t10 : (0 : Int) ≤ A1 := by omega
                have hq1 := neqO 3 f 0 0 false ⟨#[]⟩
                have HW := Lib.hid (wrap64_one (A := t) (by have := HM.out; have := hk.out; omega))
                clear ec kc hr hit hlr ev ev2 hA hA1 hV
                obtain ⟨⟨o0, o1, o2, o3, o4, o5⟩, f0, f1, f2, f3, f4, f5⟩ := cells6 oc
                by_cases hfS : f = S
                · rw [if_pos hfS] at s0 s1' s2' s3' s4' s5'
                  dsimp only [Ob.null] at s0 s1' s2' s3' s4' s5'
                  have tS : ((f : Int) == (S : Int)) = true := by simp [hfS]
                  have hq2 := neqO 1 0 0 0 false ⟨#[]⟩
                  have OC := Lib.hid oc
                  clear hfS oc
                  go_upto_region 34 with fail
                  have hg2 : g2 < wr.heap.size := Nat.lt_of_lt_of_le (RW.out.lt g2 rfl).2 B3.out.size
                  have hg1 : g < wr.heap.size := Nat.lt_of_lt_of_le (Nat.lt_of_lt_of_le HG.out BW.size) B3.out.size
                  obtain ⟨wd, ed⟩ : ∃ wd, put6 wc wr.heap.size (.int .i64 1) (.bool false) (.int .i64 0) (.int .i64 0) (.int .i64 0) (.string ⟨#[]⟩) = wd := ⟨_, rfl⟩
                  have ON : Only wr.heap.size wc wd := by rw [← ed]; exact only6 _ _ _ _ _ _ _ _
                  have od : wd.heap[wr.heap.size]? = some (obObj 1 false 0 0 0 ⟨#[]⟩) := by rw [← ed]; exact set6 OC.out _ _ _ _ _ _
                  unfold put6 at ed
                  rw [ed]
                  have bg := ON.block g (by omega)
                  have bg2 := ON.block g2 (by omega)
                  replace cw := (World.cell?_of_block (a := ⟨g2, _, none⟩) bg2).trans cw
                  replace r0 := (World.cell?_of_block (a := ⟨g, _, none⟩) bg).trans r0
                  replace r1 := (World.cell?_of_block (a := ⟨g, _, none⟩) bg).trans r1
                  replace r2 := (World.cell?_of_block (a := ⟨g, _, none⟩) bg).trans r2
                  replace r3 := (World.cell?_of_block (a := ⟨g, _, none⟩) bg).trans r3
                  replace r4 := (World.cell?_of_block (a := ⟨g, _, none⟩) bg).trans r4
                  replace r5 := (World.cell?_of_block (a := ⟨g, _, none⟩) bg).trans r5
                  replace s0 := (World.cell?_of_block (a := ⟨g, _, none⟩) bg).trans s0
                  replace s1' := (World.cell?_of_block (a := ⟨g, _, none⟩) bg).trans s1'
                  replace s2' := (World.cell?_of_block (a := ⟨g, _, none⟩) bg).trans s2'
                  replace s3' := (World.cell?_of_block (a := ⟨g, _, none⟩) bg).trans s3'
                  replace s4' := (World.cell?_of_block (a := ⟨g, _, none⟩) bg).trans s4'
                  replace s5' := (World.cell?_of_block (a := ⟨g, _, none⟩) bg).trans s5'
                  have B5 := Lib.hid (only_below ON B4.out B3.out.size)
                  clear ed ON bg bg2 hg1 hg2 o0 o1 o2 o3 o4 o5 f0 f1 f2 f3 f4 f5 OC
                  obtain ⟨o0, o1, o2, o3, o4, o5⟩ := ob_cells od
                  clear od
                  go_quiet (fail)
                  go_wp2
                  go_roundw
                  case rel => exact ⟨t + 1, hlt3, congrArg (Value.int .i64) HW.out, below_and B5.out (below_drewN _ _)⟩
                  case measure => exact measure_one m t _ HW.out hlt3
                · rw [if_neg hfS] at s0 s1' s2' s3' s4' s5'
                  dsimp only [Ob.num] at s0 s1' s2' s3' s4' s5'
                  have tS : ((f : Int) == (S : Int)) = false := by simp; omega
                  have hq2 := neqO 3 H 0 0 false ⟨#[]⟩
                  clear hfS oc
                  go_upto_region 34 with fail
                  go_quiet (fail)
                  go_wp2
                  go_roundw
                  case rel => exact ⟨t + 1, hlt3, congrArg (Value.int .i64) HW.out, below_and B4.out (below_drewN _ _)⟩
                  case measure => exact measure_one m t _ HW.out hlt3
              · have et : t = m := by omega
                have t5 : decide (t < m) = false := decide_eq_false hlt3
                clear hlt3
                go_wp2
                go_ret
                exact ⟨rfl, K0.out.trans (((B8.out.trans (BW.mono B8.out.size)).trans (B3.out.mono (Nat.le_trans B8.out.size BW.size))).mono K0.out.size)⟩
          · have t2 : ((S : Int) == (O : Int)) = false := by simp; omega
            have hm : m = x - 1 := by
              rw [HM.out.1]
              simp [count2, hSO]
            have RW : Hid (wr.ownsRow w8.heap.size 3 1 (.slice px (x - 1) cx) m (wl (F2 x O) m)) := Lib.hid (by
              rw [hm, wl_congr (G := F1 O) fun t ht => by simp [F2, ht]]
              exact RA.out)
            have RB := R2
            obtain ⟨v', hv'⟩ : ∃ v', Value.slice px (x - 1) cx = v' := ⟨_, rfl⟩
            rw [hv']
            rw [hv'] at RW
            obtain ⟨w9, hw9⟩ : ∃ w9, wr = w9 := ⟨_, rfl⟩
            rw [hw9]
            rw [hw9] at RW RB
            clear hm hSO hv' hw9 R2 RA
            obtain ⟨g2, c2, hv2, _, _⟩ := (RW.out.mono (Nat.zero_le _)).form (by have := HM.out; have := hk.out; omega)
            subst hv2
            have eM : IntKind.i64.wrap (2 * (m : Int)) = Q := by
              have := HQ.out
              have := HM.out
              have := hk.out
              rw [wrapi_in _ (by omega) (by omega)]
              omega
            have BW := RB.out
            go_wp2
            go_loopw [21] (fun i wr3 => ∃ t : Nat, t ≤ m ∧ i = .int .i64 t ∧ Below w9.heap.size w9 wr3) (fun i _ => m - (intOf i).toNat)
            case atStart => exact ⟨0, Nat.zero_le _, rfl, Below.refl _ _⟩
            case round =>
              obtain ⟨t, ht, rfl, hb3⟩ := hrel
              have B3 := Lib.hid hb3
              clear hb3
              by_cases hlt3 : t < m
              · obtain ⟨f, hf⟩ : ∃ f, F2 x O t = f := ⟨_, rfl⟩
                have HF : Hid (F2 x O t = f ∧ f ≤ 100) := Lib.hid ⟨hf, by rw [← hf]; have := hk.out; have := hO.out; have := HM.out; unfold F2 F1; split <;> (try split) <;> omega⟩
                have cw := cell_later B3.out ((RW.out.mono (Nat.zero_le _)).cellAt t (by omega) |>.trans ((wl_get _ hlt3).trans (by rw [hf])))
                obtain ⟨H, hH⟩ : ∃ H, 100 + f = H := ⟨_, rfl⟩
                have eH : IntKind.i64.wrap (100 + (f : Int)) = H := by have := HF.out; rw [wrapi_in _ (by omega) (by omega)]; omega
                have HH := Lib.hid hH
                have t5 : (t : Int) < m := by omega
                have t6 : (0 : Int) ≤ t := by omega
                clear hf hH
                go_upto_region 32 with fail
                obtain ⟨wc, ec⟩ : ∃ wc, wr.alloc (.cells #[.int .i64 3, .bool false, .int .i64 H, .int .i64 0, .int .i64 0, .string ⟨#[]⟩] 26) = wc := ⟨_, rfl⟩
                rw [ec]
                have kc : Below wr.heap.size wr wc := by rw [← ec]; exact box_below _ _
                have oc : wc.heap[wr.heap.size]? = some (obObj 3 false H 0 0 ⟨#[]⟩) := by rw [← ec]; exact heap_alloc_new _ _
                replace cw := cell_later kc cw
                have B4 := Lib.hid (below_and B3.out kc)
                have hr : wc.ownsRow 0 26 6 (.slice (some ⟨g, 0, none⟩) (2 * x + 1) cap) (2 * x + 1) (obCells (itemsD (prs (F2 x O) (V2 x O S) m) x)) := owns_same HW8.out fun b hb _ => by
                  have hbg : g = b := by simpa [Value.ownBlock] using hb
                  subst hbg
                  rw [B4.out.block g (Nat.lt_of_lt_of_le HG.out BW.size), BW.block g HG.out]
                have hit := itemsD_key (room := x) (prs_get (F2 x O) (V2 x O S) hlt3)
                rw [HF.out.1] at hit
                have hlr : (itemsD (prs (F2 x O) (V2 x O S) m) x).length = 2 * x + 1 := itemsD_length (by rw [prs_len]; exact HM.out.2.1)
                obtain ⟨A, hA⟩ : ∃ A, 2 * t = A := ⟨_, rfl⟩
                obtain ⟨A1, hA1⟩ : ∃ A1, A + 1 = A1 := ⟨_, rfl⟩
                obtain ⟨g', z', ev, r0, r1, r2, r3, r4, r5⟩ := row_item (l := itemsD (prs (F2 x O) (V2 x O S) m) x) (by rw [hlr]; exact hr) hit.1
                obtain ⟨rfl, _⟩ : g = g' ∧ cap = z' := ⟨by injection ev with q1 _ _; simpa using q1, by injection ev⟩
                have hV : V2 x O S t = if f = S then Ob.null else Ob.num H := by
                  unfold V2
                  rw [HF.out.1]
                  by_cases q : f = S
                  · rw [if_pos q, if_pos q]
                  · rw [if_neg q, if_neg q]
                    unfold hund
                    rw [← HH.out]
                    rfl
                obtain ⟨g', z', ev2, s0, s1', s2', s3', s4', s5'⟩ := row_item (l := itemsD (prs (F2 x O) (V2 x O S) m) x) (by rw [hlr]; exact hr) hit.2
                obtain ⟨rfl, _⟩ : g = g' ∧ cap = z' := ⟨by injection ev2 with q1 _ _; simpa using q1, by injection ev2⟩
                rw [hV] at s0 s1' s2' s3' s4' s5'
                rw [show (2 * t + 1) * 6 = 6 + A * 6 from by omega] at r0 r1 r2 r3 r4 r5
                rw [show (2 * t + 2) * 6 = 6 + A1 * 6 from by omega] at s0 s1' s2' s3' s4' s5'
                dsimp only [Ob.num] at r0 r1 r2 r3 r4 r5
                have e7 : IntKind.i64.wrap (2 * (t : Int)) = A := by have := HM.out; have := hk.out; rw [wrapi_in _ (by omega) (by omega)]; omega
                have e8 : IntKind.i64.wrap ((A : Int) + 1) = A1 := by have := HM.out; have := hk.out; rw [wrapi_in _ (by omega) (by omega)]; omega
                have t7 : (A : Int) < Q := by have := HQ.out; omega
                have t8 : (A1 : Int) < Q := by have := HQ.out; omega
                have t9 : (0 : Int) ≤ A := by omega
                have t10 : (0 : Int) ≤ A1 := by omega
                have hq1 := neqO 3 f 0 0 false ⟨#[]⟩
                have HW := Lib.hid (wrap64_one (A := t) (by have := HM.out; have := hk.out; omega))
                clear ec kc hr hit hlr ev ev2 hA hA1 hV
                obtain ⟨⟨o0, o1, o2, o3, o4, o5⟩, f0, f1, f2, f3, f4, f5⟩ := cells6 oc
                by_cases hfS : f = S
                · rw [if_pos hfS] at s0 s1' s2' s3' s4' s5'
                  dsimp only [Ob.null] at s0 s1' s2' s3' s4' s5'
                  have tS : ((f : Int) == (S : Int)) = true := by simp [hfS]
                  have hq2 := neqO 1 0 0 0 false ⟨#[]⟩
                  have OC := Lib.hid oc
                  clear hfS oc
                  go_upto_region 34 with fail
                  have hg2 : g2 < wr.heap.size := Nat.lt_of_lt_of_le (RW.out.lt g2 rfl).2 B3.out.size
                  have hg1 : g < wr.heap.size := Nat.lt_of_lt_of_le (Nat.lt_of_lt_of_le HG.out BW.size) B3.out.size
                  obtain ⟨wd, ed⟩ : ∃ wd, put6 wc wr.heap.size (.int .i64 1) (.bool false) (.int .i64 0) (.int .i64 0) (.int .i64 0) (.string ⟨#[]⟩) = wd := ⟨_, rfl⟩
                  have ON : Only wr.heap.size wc wd := by rw [← ed]; exact only6 _ _ _ _ _ _ _ _
                  have od : wd.heap[wr.heap.size]? = some (obObj 1 false 0 0 0 ⟨#[]⟩) := by rw [← ed]; exact set6 OC.out _ _ _ _ _ _
                  unfold put6 at ed
                  rw [ed]
                  have bg := ON.block g (by omega)
                  have bg2 := ON.block g2 (by omega)
                  replace cw := (World.cell?_of_block (a := ⟨g2, _, none⟩) bg2).trans cw
                  replace r0 := (World.cell?_of_block (a := ⟨g, _, none⟩) bg).trans r0
                  replace r1 := (World.cell?_of_block (a := ⟨g, _, none⟩) bg).trans r1
                  replace r2 := (World.cell?_of_block (a := ⟨g, _, none⟩) bg).trans r2
                  replace r3 := (World.cell?_of_block (a := ⟨g, _, none⟩) bg).trans r3
                  replace r4 := (World.cell?_of_block (a := ⟨g, _, none⟩) bg).trans r4
                  replace r5 := (World.cell?_of_block (a := ⟨g, _, none⟩) bg).trans r5
                  replace s0 := (World.cell?_of_block (a := ⟨g, _, none⟩) bg).trans s0
                  replace s1' := (World.cell?_of_block (a := ⟨g, _, none⟩) bg).trans s1'
                  replace s2' := (World.cell?_of_block (a := ⟨g, _, none⟩) bg).trans s2'
                  replace s3' := (World.cell?_of_block (a := ⟨g, _, none⟩) bg).trans s3'
                  replace s4' := (World.cell?_of_block (a := ⟨g, _, none⟩) bg).trans s4'
                  replace s5' := (World.cell?_of_block (a := ⟨g, _, none⟩) bg).trans s5'
                  have B5 := Lib.hid (only_below ON B4.out B3.out.size)
                  clear ed ON bg bg2 hg1 hg2 o0 o1 o2 o3 o4 o5 f0 f1 f2 f3 f4 f5 OC
                  obtain ⟨o0, o1, o2, o3, o4, o5⟩ := ob_cells od
                  clear od
                  go_quiet (fail)
                  go_wp2
                  go_roundw
                  case rel => exact ⟨t + 1, hlt3, congrArg (Value.int .i64) HW.out, below_and B5.out (below_drewN _ _)⟩
                  case measure => exact measure_one m t _ HW.out hlt3
                · rw [if_neg hfS] at s0 s1' s2' s3' s4' s5'
                  dsimp only [Ob.num] at s0 s1' s2' s3' s4' s5'
                  have tS : ((f : Int) == (S : Int)) = false := by simp; omega
                  have hq2 := neqO 3 H 0 0 false ⟨#[]⟩
                  clear hfS oc
                  go_upto_region 34 with fail
                  go_quiet (fail)
                  go_wp2
                  go_roundw
                  case rel => exact ⟨t + 1, hlt3, congrArg (Value.int .i64) HW.out, below_and B4.out (below_drewN _ _)⟩
                  case measure => exact measure_one m t _ HW.out hlt3
              · have et : t = m := by omega
                have t5 : decide (t < m) = false := decide_eq_false hlt3
                clear hlt3
                go_wp2
                go_ret
                exact ⟨rfl, K0.out.trans (((B8.out.trans (BW.mono B8.out.size)).trans (B3.out.mono (Nat.le_trans B8.out.size BW.size))).mono K0.out.size)⟩
theorem order_walk (a0 a1 a2 : Int) (w : World) (b0 : 0 ≤ a0) (b0' : a0 ≤ 255) (b1 : 0 ≤ a1) (b1' : a1 ≤ 255) (b2 : 0 ≤ a2) (b2' : a2 ≤ 255) :
    Calls Try.prog 8 #[.int .u8 a0, .int .u8 a1, .int .u8 a2] w fun e w' => e = .returned (.bool true) ∧ Below w.heap.size w w' := by
  obtain ⟨k0, hk0⟩ : ∃ k0 : Nat, (k0 : Int) = a0 % 20 := ⟨(a0 % 20).toNat, by omega⟩
  obtain ⟨k, hk⟩ : ∃ k : Nat, k = 2 + k0 := ⟨_, rfl⟩
  have m1 := Int.emod_nonneg a1 (b := (k : Int)) (by omega)
  have m1' := Int.emod_lt_of_pos a1 (b := (k : Int)) (by omega)
  obtain ⟨O, hO⟩ : ∃ O : Nat, (O : Int) = a1 % k := ⟨(a1 % k).toNat, by omega⟩
  have m2 := Int.emod_nonneg a2 (b := (k : Int)) (by omega)
  have m2' := Int.emod_lt_of_pos a2 (b := (k : Int)) (by omega)
  obtain ⟨S, hS⟩ : ∃ S : Nat, (S : Int) = a2 % k := ⟨(a2 % k).toNat, by omega⟩
  refine order_core a0 a1 a2 ((O : Int) * 65536) k0 k O S w ?_ (by rw [wrapi_in _ (by omega) (by omega)]; omega) ?_ ?_ (by rw [wrapi_in _ (by omega) (by omega)]) (Lib.hid rfl) (Lib.hid (by omega)) (Lib.hid (by omega)) (Lib.hid (by omega)) (by omega) (by omega) b0 b0' b1 b1' b2 b2'
  · rw [Int.tmod_eq_emod_of_nonneg b0, hk0]
  · rw [Int.tmod_eq_emod_of_nonneg b1, hO]
  · rw [Int.tmod_eq_emod_of_nonneg b2, hS]
end Go.Proofs.Ytigboibcgpfphaa
