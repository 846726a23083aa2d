/- The walk of HeapShares. -/
import Derived.Test.YtbdicjiflfbpaaaK22
namespace Go.Proofs.Ytbdicjiflfbpaaa
open Go.RowKit
set_option linter.unusedVariables false

theorem neqO (k n a l : Int) (x : Bool) (s : ByteArray) (w : World) :
    (binOp .neq 24 (obV k x n a l s) (obV k x n a l s)).run Try.prog w = .ok (.bool false) w := by
  have h := eqO k n a l k n a l x x s s w
  rw [run_eql_struct] at h
  rw [run_neq_struct]
  cases hR : (Op.equalIn 10000 24 (obV k x n a l s) (obV k x n a l s)).run Try.prog w <;> simp [hR, Result.andThen] at h ⊢
  exact h

section
variable {own : Nat → Prop} {hb : Nat} {P P' : List Cel} {w w' : World}
theorem sItems (h : Sep own hb P w) (o : Ob) (L : List Ob) (ho : okO P o = true) (hk : o.k ≠ 8) (hL : itemsL P o = L) :
    Calls Try.prog 29 #[ptr hb, o.val] w fun e w' => ∃ v, e = .returned (.tuple #[v, .int .i64 0]) ∧ w'.ownsRow w.heap.size 24 6 v L.length (obCells L) ∧ Below w.heap.size w w' ∧ Sep own hb P w' ∧ Kept own w w' := by
  have h0 := h
  obtain ⟨role, ⟨vc, ivs, pb, rv, h1⟩, h2⟩ := h
  refine (items_is h1 o ho hk).mono ?_
  rintro e w' ⟨v, rfl, q, k⟩
  rw [hL] at q
  exact ⟨v, rfl, q, k, h0.below k⟩
theorem sLock (h : Sep own hb P w) (o : Ob) (P' : List Cel) (ho : okO P o = true) (hP : lockP P o = P') :
    Calls Try.prog 19 #[ptr hb, o.val] w fun e w' => e = .returned (.int .i64 0) ∧ Sep own hb P' w' ∧ Kept own w w' := by
  obtain ⟨role, ⟨vc, ivs, pb, rv, h1⟩, h2⟩ := h
  refine (lock_is h1 o ho).mono ?_
  rintro e w' ⟨rfl, q1, q2⟩
  rw [hP] at q1
  exact ⟨rfl, Sep.of_keep h2 ⟨vc, ivs, pb, rv, q1⟩ q2⟩
end

/-- The heap of one array. -/
def oneP (lk : Bool) (l : List Ob) : List Cel := [⟨9, lk, l, []⟩]
def arr (a l : Nat) : Ob := ⟨9, false, 0, a, l, ⟨#[]⟩⟩
theorem arr_ok {lk : Bool} {L : List Ob} {a n : Nat} (h : a + n ≤ L.length) (hL : L.length ≤ 40000) : okO (oneP lk L) (arr a n) = true := by
  rw [okO_iff]
  refine ⟨rfl, ?_, ?_⟩
  · simp [Ob.may, arr, mayO, pieceP]
    omega
  · simp [inCell, oneP, arr, cellOf, Cel.size]
    omega
theorem arr_len {lk : Bool} {L : List Ob} {a n : Nat} (h : a + n ≤ L.length) (hL : L.length ≤ 40000) : lenO (oneP lk L) (arr a n) = n := by
  rw [lenO, arr_ok h hL]
  simp [arr]
theorem arr_cell (lk : Bool) (L : List Ob) (a n : Nat) : cellOf (oneP lk L) (arr a n) = ⟨9, lk, L, []⟩ := rfl
theorem arr_items {lk : Bool} {L : List Ob} {a n : Nat} (h : a + n ≤ L.length) (hL : L.length ≤ 40000) : itemsL (oneP lk L) (arr a n) = (L.drop a).take n := by
  rw [itemsL, arr_len h hL, arr_cell]
  simp [arr]
theorem arr_part {lk : Bool} {L : List Ob} {k i m : Nat} (h : k ≤ L.length) (hL : L.length ≤ 40000) (hi : i + m ≤ k) : partE (oneP lk L) (arr 0 k) i m = 0 ∧ partO (oneP lk L) (arr 0 k) i m = ⟨9, false, 0, i, m, ⟨#[]⟩⟩ := by
  have e : partE (oneP lk L) (arr 0 k) i m = 0 := by
    rw [partE, arr_ok (by omega) hL, arr_len (by omega) hL]
    simp [arr]
    omega
  refine ⟨e, ?_⟩
  rw [partO, e]
  simp [arr]
theorem arr_set {L : List Ob} {a n i : Nat} {x : Ob} (h : a + n ≤ L.length) (hL : L.length ≤ 40000) (hi : i < n) (hx : mayH (oneP false L) x = true) : setE (oneP false L) (arr a n) i x = 0 ∧ setP (oneP false L) (arr a n) i x = oneP false (L.set (a + i) x) := by
  have e : setE (oneP false L) (arr a n) i x = 0 := by
    rw [setE, arr_ok h hL, arr_len h hL, arr_cell, hx]
    simp [arr]
    omega
  refine ⟨e, ?_⟩
  rw [setP, e, arr_cell]
  simp [arr, oneP, putItem]
  congr 1

theorem wrap64_nat (x : Nat) (h : x < 1000) : wrap64 ((x : Int) + 1) = ((x + 1 : Nat) : Int) := by
  unfold wrap64
  omega
theorem measure_step (K x : Nat) (q : Int) (h : q = ((x + 1 : Nat) : Int)) (hx : x < K) : K - (intOf (.int .i64 q)).toNat < K - (intOf (.int .i64 (x : Int))).toNat := by
  subst h
  simp [intOf]
  omega
theorem L2_get {K S x : Nat} {v : Int} {L2 : List Ob} (h : (List.replicate K Ob.null).set S (Ob.num v) = L2) (hx : x < K) (hS : S < K) : L2[x]? = some (if x = S then Ob.num v else Ob.null) := by
  subst h
  by_cases e : x = S
  · subst e
    simp [hS]
  · rw [if_neg e, List.getElem?_set_ne (Ne.symm e), List.getElem?_replicate, if_pos hx]
theorem mid_get {L : List Ob} {F M D x : Nat} {o : Ob} (h : L[x]? = some o) (hD : F + D = x) (hM : D < M) : ((L.drop F).take M)[D]? = some o := by
  subst hD
  rw [List.getElem?_take, if_pos hM, List.getElem?_drop]
  exact h

set_option maxHeartbeats 2000000 in
set_option maxRecDepth 100000 in
theorem shares_core (a0 a1 a2 a3 v : Int) (k0 K F m0 M I : Nat) (w : World) (e1 : a0.tmod 40 = k0) (e2 : IntKind.i64.wrap (1 + (k0 : Int)) = K) (e3 : a1.tmod K = F) (e4 : IntKind.i64.wrap ((K : Int) - F) = ((K - F : Nat) : Int)) (e5 : a2.tmod ((K - F : Nat) : Int) = m0) (e6 : IntKind.i64.wrap (1 + (m0 : Int)) = M) (e7 : a3.tmod M = I)
    (hK : Hid (K ≤ 40)) (hF : Hid (F + M ≤ K)) (hI : Hid (I < M)) (b4 : -32768 ≤ v) (b4' : v ≤ 32767) (b0 : 0 ≤ a0) (b0' : a0 ≤ 255) (b1 : 0 ≤ a1) (b1' : a1 ≤ 255) (b2 : 0 ≤ a2) (b2' : a2 ≤ 255) (b3 : 0 ≤ a3) (b3' : a3 ≤ 255) (p1 : (K : Int) ≠ 0) (p2 : ((K - F : Nat) : Int) ≠ 0) (p3 : (M : Int) ≠ 0) :
    Calls Try.prog 4 #[.int .u8 a0, .int .u8 a1, .int .u8 a2, .int .u8 a3, .int .i16 v] w fun e w' => e = .returned (.bool true) ∧ Below w.heap.size w w' := by
  go_enter Try.func4, Try.ntmps4
  go_wp2_with fail
  refine (known_any w).mono ?_
  rintro e w0 ⟨rfl, k0'⟩
  have K0 := Lib.hid k0'
  clear k0'
  go_wp2_with fail
  refine (new_any w0).mono ?_
  rintro e w1 ⟨rfl, rfl⟩
  obtain ⟨w1, e1', s1, b1''⟩ : ∃ w1, w0.alloc (.cells #[.slice none 0 0, .int .i64 0] 66) = w1 ∧ Sep (fun b => b < w0.heap.size) w0.heap.size [] w1 ∧ Below w0.heap.size w0 w1 := ⟨_, rfl, Sep.new w0, box_below _ _⟩
  rw [e1']
  have S1 := Lib.hid s1
  have B1 := Lib.hid b1''
  clear e1' s1 b1''
  go_wp2_with fail
  have HL : (List.replicate K Ob.null).length = K := List.length_replicate
  have hK' := hK.out
  refine (sArray_ok S1.out K (by decide) (by simp [usedP]; omega)).mono ?_
  rintro e w2 ⟨rfl, s2, k2⟩
  have S2 : Hid (Sep (fun b => b < w0.heap.size) w0.heap.size (oneP false (List.replicate K Ob.null)) w2) := Lib.hid s2
  have B2 : Hid (Below w0.heap.size w0 w2) := Lib.hid (B1.out.trans (k2.below fun _ h => h))
  clear s2 k2 e1 e2 e3 e4 e5 e6 b0 b0' b1 b1' b2 b2' p1 p2 HL hK'
  go_upto_region 8 with fail
  obtain ⟨w3, e3, s3, k3, o3⟩ := S2.out.box_ob 9 false 0 0 K ⟨#[]⟩
  rw [e3]
  have S3 := Lib.hid s3
  have B3 : Hid (Below w0.heap.size w0 w3) := Lib.hid (B2.out.trans (k3.below fun _ h => h))
  have O3 := Lib.hid o3
  clear e3 s3 k3 o3
  obtain ⟨c0, c1, c2, c3, c4, c5⟩ := ob_cells O3.out
  have AP := Lib.hid (arr_part (lk := false) (L := List.replicate K Ob.null) (k := K) (i := F) (m := M) (by simp) (by have := hK.out; simp; omega) (by have := hF.out; omega))
  go_wp2_with fail
  refine (sPart S3.out (arr 0 K) F M (by have := hF.out; have := hK.out; omega) 9 false 0 F M ⟨#[]⟩ AP.out.1 AP.out.2).mono ?_
  rintro e w4 ⟨rfl, s4, k4⟩
  have S4 := Lib.hid s4
  have B4 : Hid (Below w0.heap.size w0 w4) := Lib.hid (B3.out.trans (k4.below fun _ h => .inl h))
  have O4 : Hid (w4.heap[w2.heap.size]? = some (obObj 9 false 0 0 K ⟨#[]⟩)) := Lib.hid ((k4.block _ (.inr rfl)).trans O3.out)
  clear s4 k4 c0 c1 c2 c3 c4 c5
  go_upto_region 9 with fail
  obtain ⟨w5, e5, s5, k5, o5⟩ := S4.out.box_ob 9 false 0 F M ⟨#[]⟩
  rw [e5]
  have S5 := Lib.hid s5
  have B5 : Hid (Below w0.heap.size w0 w5) := Lib.hid (B4.out.trans (k5.below fun _ h => .inl h))
  have O5 : Hid (w5.heap[w2.heap.size]? = some (obObj 9 false 0 0 K ⟨#[]⟩)) := Lib.hid ((k5.block _ (.inr rfl)).trans O4.out)
  have R5 := Lib.hid o5
  clear e5 s5 k5 o5
  obtain ⟨c0, c1, c2, c3, c4, c5⟩ := ob_cells R5.out
  have AS := Lib.hid (arr_set (L := List.replicate K Ob.null) (a := F) (n := M) (i := I) (x := Ob.num v) (by have := hF.out; simp; omega) (by have := hK.out; simp; omega) hI.out (by simp [mayH, Ob.may, Ob.num, mayO, comp, onlyP]; omega))
  go_wp2_with fail
  refine (sSet S5.out (arr F M) I (Ob.num v) 0 _ AS.out.1 AS.out.2).mono ?_
  rintro e w6 ⟨rfl, s6, k6⟩
  obtain ⟨L2, eL2⟩ : ∃ L2, (List.replicate K Ob.null).set (F + I) (Ob.num v) = L2 := ⟨_, rfl⟩
  rw [eL2] at s6
  have EL2 := Lib.hid eL2
  have HL2 : Hid (L2.length = K) := Lib.hid (by rw [← eL2]; simp)
  have S6 := Lib.hid s6
  have B6 : Hid (Below w0.heap.size w0 w6) := Lib.hid (B5.out.trans (k6.below fun _ h => .inl (.inl h)))
  have O6 : Hid (w6.heap[w2.heap.size]? = some (obObj 9 false 0 0 K ⟨#[]⟩)) := Lib.hid ((k6.block _ (.inl (.inr rfl))).trans O5.out)
  have R6 : Hid (w6.heap[w4.heap.size]? = some (obObj 9 false 0 F M ⟨#[]⟩)) := Lib.hid ((k6.block _ (.inr rfl)).trans R5.out)
  clear s6 k6 eL2 c0 c1 c2 c3 c4 c5 e7 b3 b3' p3
  obtain ⟨c0, c1, c2, c3, c4, c5⟩ := ob_cells O6.out
  go_wp2_with fail
  refine (sItems S6.out (arr 0 K) L2 (arr_ok (by have := HL2.out; omega) (by have := HL2.out; have := hK.out; omega)) (by simp [arr]) (by rw [arr_items (by have := HL2.out; omega) (by have := HL2.out; have := hK.out; omega), List.drop_zero, List.take_of_length_le (by have := HL2.out; omega)])).mono ?_
  rintro e w7 ⟨v1, rfl, r7, k7', s7, k7⟩
  have S7 := Lib.hid s7
  have B7 : Hid (Below w0.heap.size w0 w7) := Lib.hid (B6.out.trans (k7.below fun _ h => .inl (.inl h)))
  have Q7 : Hid (w7.heap[w4.heap.size]? = some (obObj 9 false 0 F M ⟨#[]⟩)) := Lib.hid ((k7.block _ (.inr rfl)).trans R6.out)
  have T7 := Lib.hid r7
  clear s7 k7 k7' r7 c0 c1 c2 c3 c4 c5
  obtain ⟨c0, c1, c2, c3, c4, c5⟩ := ob_cells Q7.out
  go_wp2_with fail
  refine (sItems S7.out (arr F M) ((L2.drop F).take M) (arr_ok (by have := HL2.out; have := hF.out; omega) (by have := HL2.out; have := hK.out; omega)) (by simp [arr]) (arr_items (by have := HL2.out; have := hF.out; omega) (by have := HL2.out; have := hK.out; omega))).mono ?_
  rintro e w8 ⟨v2, rfl, r8, k8', s8, k8⟩
  have S8 := Lib.hid s8
  have B8 : Hid (Below w0.heap.size w0 w8) := Lib.hid (B7.out.trans (k8.below fun _ h => .inl (.inl h)))
  have HM : Hid (((L2.drop F).take M).length = M) := Lib.hid (by have := HL2.out; have := hF.out; simp; omega)
  have T8 : Hid (w8.ownsRow 0 24 6 v1 L2.length (obCells L2)) := Lib.hid (owns_same (T7.out.mono (Nat.zero_le _)) fun q _ hq => k8'.block q hq)
  have U8 : Hid (w8.ownsRow 0 24 6 v2 ((L2.drop F).take M).length (obCells ((L2.drop F).take M))) := Lib.hid (r8.mono (Nat.zero_le _))
  obtain ⟨g1, z1, ev1, _, _⟩ := T8.out.form (by have := HL2.out; have := hF.out; have := hI.out; omega)
  obtain ⟨g2, z2, ev2, _, _⟩ := U8.out.form (by have := HM.out; have := hI.out; omega)
  rw [HL2.out] at ev1
  rw [HM.out] at ev2
  subst ev1 ev2
  clear s8 k8 k8' r8 c0 c1 c2 c3 c4 c5
  obtain ⟨S, hS⟩ : ∃ S, S = F + I := ⟨_, rfl⟩
  obtain ⟨E, hE⟩ : ∃ E, E = F + M := ⟨_, rfl⟩
  have eS : IntKind.i64.wrap ((F : Int) + I) = S := by have := hK.out; have := hF.out; have := hI.out; rw [wrapi_in _ (by omega) (by omega)]; omega
  have eE : IntKind.i64.wrap ((F : Int) + M) = E := by have := hK.out; have := hF.out; rw [wrapi_in _ (by omega) (by omega)]; omega
  have HS := Lib.hid hS
  have HE := Lib.hid hE
  have T8' : Hid (w8.ownsRow 0 24 6 (.slice (some ⟨g1, 0, none⟩) K z1) K (obCells L2)) := Lib.hid (by have := T8.out; rw [HL2.out] at this; exact this)
  have U8' : Hid (w8.ownsRow 0 24 6 (.slice (some ⟨g2, 0, none⟩) M z2) M (obCells ((L2.drop F).take M))) := Lib.hid (by have := U8.out; rw [HM.out] at this; exact this)
  have GX : Hid (∀ x, x < K → L2[x]? = some (if x = S then Ob.num v else Ob.null)) := Lib.hid fun x hx => L2_get (by rw [HS.out]; exact EL2.out) hx (by rw [HS.out]; have := hF.out; have := hI.out; omega)
  have hq1 := neqO 1 0 0 0 false ⟨#[]⟩
  have hq2 := neqO 3 v 0 0 false ⟨#[]⟩
  clear hS hE
  go_wp2
  go_loopw [25] (fun i wr => ∃ x : Nat, x ≤ K ∧ i = .int .i64 x ∧ Below w8.heap.size w8 wr) (fun i _ => K - (intOf i).toNat)
  case atStart => exact ⟨0, Nat.zero_le _, rfl, Below.refl _ _⟩
  case round =>
    obtain ⟨x, hx, rfl, br⟩ := hrel
    have BR := Lib.hid br
    clear br
    by_cases hxK : x < K
    · by_cases hxe : x = S
      · subst hxe
        have q1 := HS.out
        have q2 := HE.out
        have q3 := hI.out
        have hF1 : F ≤ x := by omega
        have hE1 : x < E := by omega
        clear q1 q2 q3
        have hgx : L2[x]? = some (Ob.num v) := by rw [GX.out x hxK]; simp
        obtain ⟨g1', z1', ev, c0, c1, c2, c3, c4, c5⟩ := row_item (l := L2) (by rw [HL2.out]; exact T8'.out) hgx
        dsimp only [Ob.num] at c0 c1 c2 c3 c4 c5
        obtain ⟨rfl, _⟩ : g1 = g1' ∧ z1 = z1' := by rw [HL2.out] at ev; simpa using ev
        obtain ⟨D, hD⟩ : ∃ D, F + D = x := ⟨x - F, by omega⟩
        have eD : IntKind.i64.wrap ((x : Int) - F) = D := by have := hK.out; rw [wrapi_in _ (by omega) (by omega)]; omega
        have hDM : (D : Int) < M := by have := HE.out; omega
        have hD0 : (0 : Int) ≤ D := by omega
        obtain ⟨g2', z2', ev2, d0, d1, d2, d3, d4, d5⟩ := row_item (l := (L2.drop F).take M) (by rw [HM.out]; exact U8'.out) (mid_get hgx hD (by omega))
        dsimp only [Ob.num] at d0 d1 d2 d3 d4 d5
        obtain ⟨rfl, _⟩ : g2 = g2' ∧ z2 = z2' := by rw [HM.out] at ev2; simpa using ev2
        have HD := Lib.hid hD
        clear hD ev2
        have t1 : (F : Int) ≤ x := by omega
        have t2 : (x : Int) < E := by omega
        have u1 : (x : Int) < K := by omega
        have u2 : (0 : Int) ≤ x := by omega
        clear hgx ev hF1 hE1
        have ex := Lib.hid (wrap64_nat x (Nat.lt_of_lt_of_le hxK (Nat.le_trans hK.out (by decide))))
        go_upto_region 21 with fail
        obtain ⟨wb, eb, kb, zb, ob⟩ := ob_box wr 3 v 0 0 false ⟨#[]⟩
        rw [eb]
        have kk := below_and BR.out kb
        have KK := Lib.hid kk
        obtain ⟨o0, o1, o2, o3, o4, o5⟩ := ob
        replace c0 := cell_later kk c0
        replace c1 := cell_later kk c1
        replace c2 := cell_later kk c2
        replace c3 := cell_later kk c3
        replace c4 := cell_later kk c4
        replace c5 := cell_later kk c5
        replace d0 := cell_later kk d0
        replace d1 := cell_later kk d1
        replace d2 := cell_later kk d2
        replace d3 := cell_later kk d3
        replace d4 := cell_later kk d4
        replace d5 := cell_later kk d5
        clear eb kb zb kk
        go_quiet (fail)
        go_wp2
        go_roundw
        case rel => exact ⟨x + 1, hxK, congrArg (Value.int .i64) ex.out, below_and KK.out (below_drewN _ _)⟩
        case measure => exact measure_step K x _ ex.out hxK
      · by_cases hF1 : F ≤ x
        · by_cases hE1 : x < E
          · have hgx : L2[x]? = some (Ob.null) := by rw [GX.out x hxK]; simp [hxe]
            obtain ⟨g1', z1', ev, c0, c1, c2, c3, c4, c5⟩ := row_item (l := L2) (by rw [HL2.out]; exact T8'.out) hgx
            dsimp only [Ob.null] at c0 c1 c2 c3 c4 c5
            obtain ⟨rfl, _⟩ : g1 = g1' ∧ z1 = z1' := by rw [HL2.out] at ev; simpa using ev
            obtain ⟨D, hD⟩ : ∃ D, F + D = x := ⟨x - F, by omega⟩
            have eD : IntKind.i64.wrap ((x : Int) - F) = D := by have := hK.out; rw [wrapi_in _ (by omega) (by omega)]; omega
            have hDM : (D : Int) < M := by have := HE.out; omega
            have hD0 : (0 : Int) ≤ D := by omega
            obtain ⟨g2', z2', ev2, d0, d1, d2, d3, d4, d5⟩ := row_item (l := (L2.drop F).take M) (by rw [HM.out]; exact U8'.out) (mid_get hgx hD (by omega))
            dsimp only [Ob.null] at d0 d1 d2 d3 d4 d5
            obtain ⟨rfl, _⟩ : g2 = g2' ∧ z2 = z2' := by rw [HM.out] at ev2; simpa using ev2
            have HD := Lib.hid hD
            clear hD ev2
            have t1 : (F : Int) ≤ x := by omega
            have t2 : (x : Int) < E := by omega
            have u1 : (x : Int) < K := by omega
            have u2 : (0 : Int) ≤ x := by omega
            have u3 : ((x : Int) == (S : Int)) = false := by simpa using (by omega : ¬ (x : Int) = S)
            clear hgx ev hF1 hE1
            go_upto_region 21 with fail
            obtain ⟨wb, eb, kb, zb, ob⟩ := ob_box wr 1 0 0 0 false ⟨#[]⟩
            rw [eb]
            have kk := below_and BR.out kb
            have KK := Lib.hid kk
            obtain ⟨o0, o1, o2, o3, o4, o5⟩ := ob
            replace c0 := cell_later kk c0
            replace c1 := cell_later kk c1
            replace c2 := cell_later kk c2
            replace c3 := cell_later kk c3
            replace c4 := cell_later kk c4
            replace c5 := cell_later kk c5
            replace d0 := cell_later kk d0
            replace d1 := cell_later kk d1
            replace d2 := cell_later kk d2
            replace d3 := cell_later kk d3
            replace d4 := cell_later kk d4
            replace d5 := cell_later kk d5
            clear eb kb zb kk
            go_quiet (fail)
            go_wp2
            go_roundw
            case rel => exact ⟨x + 1, hxK, congrArg (Value.int .i64) (wrap64_nat x (Nat.lt_of_lt_of_le hxK (Nat.le_trans hK.out (by decide)))), below_and KK.out (below_drewN _ _)⟩
            case measure => exact measure_step K x _ (wrap64_nat x (Nat.lt_of_lt_of_le hxK (Nat.le_trans hK.out (by decide)))) hxK
          · have hgx : L2[x]? = some (Ob.null) := by rw [GX.out x hxK]; simp [hxe]
            obtain ⟨g1', z1', ev, c0, c1, c2, c3, c4, c5⟩ := row_item (l := L2) (by rw [HL2.out]; exact T8'.out) hgx
            dsimp only [Ob.null] at c0 c1 c2 c3 c4 c5
            obtain ⟨rfl, _⟩ : g1 = g1' ∧ z1 = z1' := by rw [HL2.out] at ev; simpa using ev
            have t1 : (F : Int) ≤ x := by omega
            have t2 : decide (x < E) = false := decide_eq_false (by omega)
            have u1 : (x : Int) < K := by omega
            have u2 : (0 : Int) ≤ x := by omega
            have u3 : ((x : Int) == (S : Int)) = false := by simpa using (by omega : ¬ (x : Int) = S)
            clear hgx ev hF1 hE1
            go_upto_region 21 with fail
            obtain ⟨wb, eb, kb, zb, ob⟩ := ob_box wr 1 0 0 0 false ⟨#[]⟩
            rw [eb]
            have kk := below_and BR.out kb
            have KK := Lib.hid kk
            obtain ⟨o0, o1, o2, o3, o4, o5⟩ := ob
            replace c0 := cell_later kk c0
            replace c1 := cell_later kk c1
            replace c2 := cell_later kk c2
            replace c3 := cell_later kk c3
            replace c4 := cell_later kk c4
            replace c5 := cell_later kk c5
            clear eb kb zb kk
            go_quiet (fail)
            go_wp2
            go_roundw
            case rel => exact ⟨x + 1, hxK, congrArg (Value.int .i64) (wrap64_nat x (Nat.lt_of_lt_of_le hxK (Nat.le_trans hK.out (by decide)))), below_and KK.out (below_drewN _ _)⟩
            case measure => exact measure_step K x _ (wrap64_nat x (Nat.lt_of_lt_of_le hxK (Nat.le_trans hK.out (by decide)))) hxK
        · have hgx : L2[x]? = some (Ob.null) := by rw [GX.out x hxK]; simp [hxe]
          obtain ⟨g1', z1', ev, c0, c1, c2, c3, c4, c5⟩ := row_item (l := L2) (by rw [HL2.out]; exact T8'.out) hgx
          dsimp only [Ob.null] at c0 c1 c2 c3 c4 c5
          obtain ⟨rfl, _⟩ : g1 = g1' ∧ z1 = z1' := by rw [HL2.out] at ev; simpa using ev
          have t1 : decide (F ≤ x) = false := decide_eq_false (by omega)
          have u1 : (x : Int) < K := by omega
          have u2 : (0 : Int) ≤ x := by omega
          have u3 : ((x : Int) == (S : Int)) = false := by simpa using (by omega : ¬ (x : Int) = S)
          clear hgx ev hF1
          go_upto_region 21 with fail
          obtain ⟨wb, eb, kb, zb, ob⟩ := ob_box wr 1 0 0 0 false ⟨#[]⟩
          rw [eb]
          have kk := below_and BR.out kb
          have KK := Lib.hid kk
          obtain ⟨o0, o1, o2, o3, o4, o5⟩ := ob
          replace c0 := cell_later kk c0
          replace c1 := cell_later kk c1
          replace c2 := cell_later kk c2
          replace c3 := cell_later kk c3
          replace c4 := cell_later kk c4
          replace c5 := cell_later kk c5
          clear eb kb zb kk
          go_quiet (fail)
          go_wp2
          go_roundw
          case rel => exact ⟨x + 1, hxK, congrArg (Value.int .i64) (wrap64_nat x (Nat.lt_of_lt_of_le hxK (Nat.le_trans hK.out (by decide)))), below_and KK.out (below_drewN _ _)⟩
          case measure => exact measure_step K x _ (wrap64_nat x (Nat.lt_of_lt_of_le hxK (Nat.le_trans hK.out (by decide)))) hxK
    · have hxe : x = K := by omega
      subst hxe
      have hu := sUsed (S8.out.below BR.out).1
      have hu2 : Hid (usedP (oneP false L2) = x) := Lib.hid (by simp [oneP, usedP, Cel.size, HL2.out])
      rw [hu2.out] at hu
      have HU := Lib.hid hu
      clear hu hxK
      go_wp2_with fail
      refine (sCells (S8.out.below BR.out).1).mono ?_
      rintro e w9 ⟨rfl, rfl⟩
      go_wp2_with fail
      refine HU.out.mono ?_
      rintro e w9 ⟨rfl, rfl⟩
      go_wp2
      go_ret
      exact ⟨ret_bool (by simp), K0.out.trans ((B8.out.trans (BR.out.mono B8.out.size)).mono K0.out.size)⟩

theorem shares_walk (a0 a1 a2 a3 v : Int) (w : World) (b0 : 0 ≤ a0) (b0' : a0 ≤ 255) (b1 : 0 ≤ a1) (b1' : a1 ≤ 255) (b2 : 0 ≤ a2) (b2' : a2 ≤ 255) (b3 : 0 ≤ a3) (b3' : a3 ≤ 255) (b4 : -32768 ≤ v) (b4' : v ≤ 32767) :
    Calls Try.prog 4 #[.int .u8 a0, .int .u8 a1, .int .u8 a2, .int .u8 a3, .int .i16 v] w fun e w' => e = .returned (.bool true) ∧ Below w.heap.size w w' := by
  obtain ⟨k0, h0⟩ : ∃ k0 : Nat, (k0 : Int) = a0 % 40 := ⟨(a0 % 40).toNat, by omega⟩
  obtain ⟨K, hK⟩ : ∃ K : Nat, K = k0 + 1 := ⟨_, rfl⟩
  have hK0 : (0 : Int) < K := by omega
  have m1 := Int.emod_nonneg a1 (b := (K : Int)) (by omega)
  have m1' := Int.emod_lt_of_pos a1 hK0
  obtain ⟨F, hF⟩ : ∃ F : Nat, (F : Int) = a1 % K := ⟨(a1 % K).toNat, by omega⟩
  have hD0 : (0 : Int) < ((K - F : Nat) : Int) := by omega
  have m2 := Int.emod_nonneg a2 (b := ((K - F : Nat) : Int)) (by omega)
  have m2' := Int.emod_lt_of_pos a2 hD0
  obtain ⟨m0, hm⟩ : ∃ m0 : Nat, (m0 : Int) = a2 % ((K - F : Nat) : Int) := ⟨(a2 % ((K - F : Nat) : Int)).toNat, by omega⟩
  obtain ⟨M, hM⟩ : ∃ M : Nat, M = m0 + 1 := ⟨_, rfl⟩
  have hM0 : (0 : Int) < M := by omega
  have m3 := Int.emod_nonneg a3 (b := (M : Int)) (by omega)
  have m3' := Int.emod_lt_of_pos a3 hM0
  obtain ⟨I, hI⟩ : ∃ I : Nat, (I : Int) = a3 % M := ⟨(a3 % M).toNat, by omega⟩
  refine shares_core a0 a1 a2 a3 v k0 K F m0 M I w ?_ (by rw [wrapi_in _ (by omega) (by omega)]; omega) ?_ (by rw [wrapi_in _ (by omega) (by omega)]; omega) ?_ (by rw [wrapi_in _ (by omega) (by omega)]; omega) ?_ (Lib.hid (by omega)) (Lib.hid (by omega)) (Lib.hid (by omega)) b4 b4' b0 b0' b1 b1' b2 b2' b3 b3' (by omega) (by omega) (by omega)
  · rw [Int.tmod_eq_emod_of_nonneg b0, h0]
  · rw [Int.tmod_eq_emod_of_nonneg b1, hF]
  · rw [Int.tmod_eq_emod_of_nonneg b2, hm]
  · rw [Int.tmod_eq_emod_of_nonneg b3, hI]
end Go.Proofs.Ytbdicjiflfbpaaa
