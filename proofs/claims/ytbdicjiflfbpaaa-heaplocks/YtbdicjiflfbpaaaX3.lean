/- The walk of HeapLocks. -/
import Derived.Test.YtbdicjiflfbpaaaX2
import Derived.Test.YtbdicjiflfbpaaaK23
namespace Go.Proofs.Ytbdicjiflfbpaaa
open Go.RowKit
set_option linter.unusedVariables false

section
variable {role : Nat → Nat × Nat} {c hb : Nat} {vc : Value} {ivs : List Value} {pb : Nat → Nat} {rv : Nat → Value} {P : List Cel} {w w' : World}
/-- Put into a locked cell. -/
theorem put_lock_is (h : PH role c hb vc ivs pb rv P w) (o q : Ob) (i : Int) (ho : okO P o = true) (hq : okO P q = true) (hk : o.k = 9) (hk2 : q.k = 9) (hi : i < 9223372036854775808) (hfit : 0 ≤ i ∧ 0 ≤ lenO P q ∧ i + lenO P q ≤ lenO P o) (hlk : (cellOf P o).lk = true) :
    Calls Try.prog 17 #[ptr hb, o.val, .int .i64 i, q.val] w fun e w' => e = .returned (.int .i64 1) ∧ Below w.heap.size w w' := by
  have hf := fun wx kx => find_ok (h.below (w' := wx) kx) o ho
  have hf2 := fun wx kx => find_ok (h.below (w' := wx) kx) q hq
  obtain ⟨z0, z1⟩ := lenO_bd h.wf o
  obtain ⟨b0, b1, b2, b3, _, _, b6, _⟩ := ok_bd ho
  have hc := cellOf_get (P := P) (o := o) b0 b1
  obtain ⟨g0, cap0, rfl, _, _, hp⟩ := h.ivAt hc
  obtain ⟨iv, g1, g2, g3, g4⟩ := h.cell o.n.toNat _ hc
  have eT : celT (cellOf P o) = 87 := by rw [celT, if_neg (by rw [b6, hk]; decide)]
  rw [eT] at hf hp
  have hv : q.val = obV o.k q.x q.n q.a q.l q.s := by
    rw [hk, ← hk2]
    rfl
  rw [hv] at hf2 ⊢
  exact put_locked87 hb (pb o.n.toNat) _ _ o.k o.n o.a o.l i o.a (lenO P o) _ (lenO P q) o.x o.s q.n q.a q.l q.x q.s w (by rw [hk]; decide) (Lib.hid hf) (Lib.hid hf2) (fits_is _ _ _ _ _ _ true z0 z1 hi (decide_eq_true hfit)) (locked_is (iv := iv) hp true hlk)
end
section
variable {own : Nat → Prop} {hb : Nat} {P P' : List Cel} {w w' : World}
theorem sPut_lock (h : Sep own hb P w) (o q : Ob) (i : Int) (ho : okO P o = true) (hq : okO P q = true) (hk : o.k = 9) (hk2 : q.k = 9) (hi : i < 9223372036854775808) (hfit : 0 ≤ i ∧ 0 ≤ lenO P q ∧ i + lenO P q ≤ lenO P o) (hlk : (cellOf P o).lk = true) :
    Calls Try.prog 17 #[ptr hb, o.val, .int .i64 i, q.val] w fun e w' => e = .returned (.int .i64 1) ∧ Sep own hb P w' ∧ Kept own w w' := by
  have h0 := h
  obtain ⟨role, ⟨vc, ivs, pb, rv, h1⟩, h2⟩ := h
  refine (put_lock_is h1 o q i ho hq hk hk2 hi hfit hlk).mono ?_
  rintro e w' ⟨rfl, k⟩
  exact ⟨rfl, h0.below k⟩
end
theorem arr_lock (L : List Ob) (a n : Nat) : lockP (oneP false L) (arr a n) = oneP true L := rfl
theorem arr_setlock {L : List Ob} {a n i : Nat} {x : Ob} (h : a + n ≤ L.length) (hL : L.length ≤ 40000) (hi : i < n) : setE (oneP true L) (arr a n) i x = 1 ∧ setP (oneP true L) (arr a n) i x = oneP true L := by
  have e : setE (oneP true L) (arr a n) i x = 1 := by
    rw [setE, arr_ok h hL, arr_len h hL, arr_cell]
    simp
    omega
  exact ⟨e, setE_err e (by decide)⟩

theorem locks_long (a0 a1 a2 k n a l : Int) (x : Bool) (s : ByteArray) (w : World) (hs : (200 : Int) < s.size) :
    Calls Try.prog 8 #[.int .u8 a0, .int .u8 a1, .int .u8 a2, obV k x n a l s] w fun e w' => e = .returned (.bool true) ∧ Below w.heap.size w w' := by
  go_enter Try.func8, Try.ntmps8
  go_wp2_with fail
  obtain ⟨wb, eb, kb, zb, ob⟩ := ob_box w k n a l x s
  rw [eb]
  refine (known_any wb).mono ?_
  rintro e wc ⟨rfl, kc⟩
  have KC := Lib.hid (below_and kb kc)
  obtain ⟨o0, o1, o2, o3, o4, o5⟩ := ob.later kc
  clear eb kb zb ob kc
  go_wp2
  go_ret
  exact ⟨rfl, KC.out⟩

theorem rep_get {K x : Nat} (h : x < K) : (List.replicate K Ob.null)[x]? = some Ob.null := by
  rw [List.getElem?_replicate, if_pos h]

/-- Three objects in boxes. -/
def Boxes (w : World) (A B R : Nat) (k : Int) (x : Bool) (n a l : Int) (s : ByteArray) (K F D : Int) : Prop :=
  w.heap[A]? = some (obObj 9 false 0 0 K ⟨#[]⟩) ∧ w.heap[B]? = some (obObj k x n a l s) ∧ w.heap[R]? = some (obObj 9 false 0 F D ⟨#[]⟩)
theorem Boxes.kept {own : Nat → Prop} {w wy : World} {A B R : Nat} {k n a l K F D : Int} {x : Bool} {s : ByteArray} (h : Boxes w A B R k x n a l s K F D) (ky : Kept own w wy) (hA : own A) (hB : own B) (hR : own R) : Boxes wy A B R k x n a l s K F D :=
  ⟨(ky.block _ hA).trans h.1, (ky.block _ hB).trans h.2.1, (ky.block _ hR).trans h.2.2⟩
theorem Boxes.flat {w : World} {A B R : Nat} {k n a l K F D : Int} {x : Bool} {s : ByteArray} (h : Boxes w A B R k x n a l s K F D) :
    w.cell? ⟨A, 0, none⟩ = some (.int .i64 9) ∧ w.cell? ⟨A, 1, none⟩ = some (.bool false) ∧ w.cell? ⟨A, 2, none⟩ = some (.int .i64 0) ∧ w.cell? ⟨A, 3, none⟩ = some (.int .i64 0) ∧ w.cell? ⟨A, 4, none⟩ = some (.int .i64 K) ∧ w.cell? ⟨A, 5, none⟩ = some (.string ⟨#[]⟩) ∧
    w.cell? ⟨B, 0, none⟩ = some (.int .i64 k) ∧ w.cell? ⟨B, 1, none⟩ = some (.bool x) ∧ w.cell? ⟨B, 2, none⟩ = some (.int .i64 n) ∧ w.cell? ⟨B, 3, none⟩ = some (.int .i64 a) ∧ w.cell? ⟨B, 4, none⟩ = some (.int .i64 l) ∧ w.cell? ⟨B, 5, none⟩ = some (.string s) := by
  obtain ⟨c0, c1, c2, c3, c4, c5⟩ := ob_cells h.1
  exact ⟨c0, c1, c2, c3, c4, c5, ob_cells h.2.1⟩

set_option maxHeartbeats 2000000 in
set_option maxRecDepth 100000 in
theorem locks_core (a0 a1 a2 k n a l : Int) (x : Bool) (s : ByteArray) (k0 K F D I : Nat) (w : World) (hs : decide ((s.size : Int) > 200) = false) (e1 : a0.tmod 30 = k0) (e2 : IntKind.i64.wrap (1 + (k0 : Int)) = K) (e3 : a1.tmod K = F) (e4 : IntKind.i64.wrap ((K : Int) - F) = D) (e7 : a2.tmod K = I)
    (hK : Hid (0 < K ∧ K ≤ 30)) (hF : Hid (F + D = K)) (hI : Hid (I < K)) (b0 : 0 ≤ a0) (b0' : a0 ≤ 255) (b1 : 0 ≤ a1) (b1' : a1 ≤ 255) (b2 : 0 ≤ a2) (b2' : a2 ≤ 255) (p1 : (K : Int) ≠ 0) :
    Calls Try.prog 8 #[.int .u8 a0, .int .u8 a1, .int .u8 a2, obV k x n a l s] w fun e w' => e = .returned (.bool true) ∧ Below w.heap.size w w' := by
  go_enter Try.func8, Try.ntmps8
  go_wp2_with fail
  obtain ⟨wb, eb, kb, zb, ob⟩ := ob_box w k n a l x s
  rw [eb]
  refine (known_any wb).mono ?_
  rintro e w0 ⟨rfl, kc⟩
  have K0 := Lib.hid (below_and kb kc)
  have X0 : Hid (w0.heap[w.heap.size]? = some (obObj k x n a l s)) := Lib.hid ((kc.block _ (by omega)).trans (by rw [← eb]; exact heap_alloc_new _ _))
  obtain ⟨o0, o1, o2, o3, o4, o5⟩ := ob.later kc
  clear eb kb zb ob kc
  go_wp2_with fail
  refine (new_any w0).mono ?_
  rintro e w1 ⟨rfl, rfl⟩
  obtain ⟨w1, e1', s1, b1''⟩ : ∃ w1, w0.alloc (.cells #[.slice none 0 0, .int .i64 0] 66) = w1 ∧ Sep (fun b => b < w0.heap.size) w0.heap.size [] w1 ∧ Below w0.heap.size w0 w1 := ⟨_, rfl, Sep.new w0, box_below _ _⟩
  rw [e1']
  have S1 := Lib.hid s1
  have B1 := Lib.hid b1''
  clear e1' s1 b1'' o0 o1 o2 o3 o4 o5 hs
  go_wp2_with fail
  refine (sArray_ok S1.out K (by decide) (by have := hK.out; simp [usedP]; omega)).mono ?_
  rintro e w2 ⟨rfl, s2, k2⟩
  have S2 : Hid (Sep (fun b => b < w0.heap.size) w0.heap.size (oneP false (List.replicate K Ob.null)) w2) := Lib.hid s2
  have B2 : Hid (Below w0.heap.size w0 w2) := Lib.hid (B1.out.trans (k2.below fun _ h => h))
  clear s2 k2
  go_upto_region 9 with fail
  obtain ⟨w3, e3', s3, k3, o3⟩ := S2.out.box_ob 9 false 0 0 K ⟨#[]⟩
  rw [e3']
  have S3 := Lib.hid s3
  have B3 : Hid (Below w0.heap.size w0 w3) := Lib.hid (B2.out.trans (k3.below fun _ h => h))
  have O3 := Lib.hid o3
  clear e3' s3 k3 o3
  obtain ⟨c0, c1, c2, c3, c4, c5⟩ := ob_cells O3.out
  have AP := Lib.hid (arr_part (lk := false) (L := List.replicate K Ob.null) (k := K) (i := F) (m := D) (by simp) (by have := hK.out; simp; omega) (by have := hF.out; omega))
  go_wp2_with fail
  refine (sPart S3.out (arr 0 K) F D (by have := hF.out; have := hK.out; omega) 9 false 0 F D ⟨#[]⟩ AP.out.1 AP.out.2).mono ?_
  rintro e w4 ⟨rfl, s4, k4⟩
  have S4 := Lib.hid s4
  have B4 : Hid (Below w0.heap.size w0 w4) := Lib.hid (B3.out.trans (k4.below fun _ h => .inl h))
  have O4 : Hid (w4.heap[w2.heap.size]? = some (obObj 9 false 0 0 K ⟨#[]⟩)) := Lib.hid ((k4.block _ (.inr rfl)).trans O3.out)
  clear s4 k4 c0 c1 c2 c3 c4 c5
  go_upto_region 10 with fail
  obtain ⟨w5, e5, s5, k5, o5⟩ := S4.out.box_ob 9 false 0 F D ⟨#[]⟩
  rw [e5]
  have S5 := Lib.hid s5
  have B5 : Hid (Below w0.heap.size w0 w5) := Lib.hid (B4.out.trans (k5.below fun _ h => .inl h))
  have O5 : Hid (w5.heap[w2.heap.size]? = some (obObj 9 false 0 0 K ⟨#[]⟩)) := Lib.hid ((k5.block _ (.inr rfl)).trans O4.out)
  have R5 := Lib.hid o5
  clear e5 s5 k5 o5
  obtain ⟨c0, c1, c2, c3, c4, c5⟩ := ob_cells R5.out
  have hLL : Hid ((List.replicate K Ob.null).length = K) := Lib.hid List.length_replicate
  have AF := Lib.hid (arr_ok (lk := false) (L := List.replicate K Ob.null) (a := F) (n := D) (by have := hF.out; have := hLL.out; omega) (by have := hK.out; have := hLL.out; omega))
  go_wp2_with fail
  refine (sLock S5.out (arr F D) _ AF.out (arr_lock _ _ _)).mono ?_
  rintro e w6 ⟨rfl, s6, k6⟩
  have S6 := Lib.hid s6
  have B6 : Hid (Below w0.heap.size w0 w6) := Lib.hid (B5.out.trans (k6.below fun _ h => .inl (.inl h)))
  have O6 : Hid (w6.heap[w2.heap.size]? = some (obObj 9 false 0 0 K ⟨#[]⟩)) := Lib.hid ((k6.block _ (.inl (.inr rfl))).trans O5.out)
  have R6 : Hid (w6.heap[w4.heap.size]? = some (obObj 9 false 0 F D ⟨#[]⟩)) := Lib.hid ((k6.block _ (.inr rfl)).trans R5.out)
  have X6 : Hid (w6.heap[w.heap.size]? = some (obObj k x n a l s)) := Lib.hid ((B6.out.block _ (blk_lt X0.out)).trans X0.out)
  clear s6 k6 c0 c1 c2 c3 c4 c5
  go_wp2_with fail
  clear e1 e2 e3 e4 b0 b0' b1 b1'
  have e9 : a2 % (K : Int) = I := by rw [← Int.tmod_eq_emod_of_nonneg b2]; exact e7
  have e8 : IntKind.i64.wrap (I : Int) = I := wrapi_in _ (by omega) (by have := hI.out; have := hK.out; omega)
  have ASL := Lib.hid (arr_setlock (L := List.replicate K Ob.null) (a := 0) (n := K) (i := I) (x := ⟨k, x, n, a, l, s⟩) (by have := hLL.out; omega) (by have := hK.out; have := hLL.out; omega) hI.out)
  have hlt0 : Hid (w.heap.size < w0.heap.size) := Lib.hid (blk_lt X0.out)
  have gh : Hid (Boxes w6.drew w2.heap.size w.heap.size w4.heap.size k x n a l s K F D) := Lib.hid ⟨O6.out, X6.out, R6.out⟩
  have gs := Lib.hid (S6.out.below (Below.refl _ w6).drew).1
  have gb := Lib.hid B6.out.drew
  have hfl := gh.out.flat
  obtain ⟨c0, c1, c2, c3, c4, c5, d0, d1, d2, d3, d4, d5⟩ := hfl
  have p1n : ¬ K = 0 := by have := hK.out; omega
  go_still_tail 7, (by kernel_rfl)
  go_wp2_with fail
  rw [e9]
  refine (sSet gs.out (arr 0 K) I ⟨k, x, n, a, l, s⟩ 1 _ ASL.out.1 ASL.out.2).mono ?_
  rintro e wy ⟨rfl, sy, ky⟩
  replace gh := Lib.hid (gh.out.kept ky (.inl (.inr rfl)) (.inl (.inl hlt0.out)) (.inr rfl))
  replace gb := Lib.hid (gb.out.trans (ky.below fun _ h => .inl (.inl h)))
  replace gs := Lib.hid sy
  clear sy ky
  clear c0 c1 c2 c3 c4 c5 d0 d1 d2 d3 d4 d5 e7 e8 e9 b2 b2' p1 p1n
  obtain ⟨c0, c1, c2, c3, c4, c5⟩ := ob_cells gh.out.1
  obtain ⟨d0, d1, d2, d3, d4, d5⟩ := ob_cells gh.out.2.2
  have Q1 := Lib.hid (arr_ok (lk := true) (L := List.replicate K Ob.null) (a := 0) (n := K) (by have := hLL.out; omega) (by have := hK.out; have := hLL.out; omega))
  have Q2 := Lib.hid (arr_ok (lk := true) (L := List.replicate K Ob.null) (a := F) (n := D) (by have := hF.out; have := hLL.out; omega) (by have := hK.out; have := hLL.out; omega))
  have Q3 := Lib.hid (arr_len (lk := true) (L := List.replicate K Ob.null) (a := 0) (n := K) (by have := hLL.out; omega) (by have := hK.out; have := hLL.out; omega))
  have Q4 := Lib.hid (arr_len (lk := true) (L := List.replicate K Ob.null) (a := F) (n := D) (by have := hF.out; have := hLL.out; omega) (by have := hK.out; have := hLL.out; omega))
  go_wp2_with fail
  refine (sPut_lock gs.out (arr 0 K) (arr F D) 0 Q1.out Q2.out rfl rfl (by decide) (by rw [Q3.out, Q4.out]; have := hF.out; omega) rfl).mono ?_
  rintro e w8 ⟨rfl, s8, k8⟩
  have S8 := Lib.hid s8
  have B8 : Hid (Below w0.heap.size w0 w8) := Lib.hid (gb.out.trans (k8.below fun _ h => .inl (.inl h)))
  have O8 : Hid (w8.heap[w2.heap.size]? = some (obObj 9 false 0 0 K ⟨#[]⟩)) := Lib.hid ((k8.block _ (.inl (.inr rfl))).trans gh.out.1)
  clear s8 k8 c0 c1 c2 c3 c4 c5 d0 d1 d2 d3 d4 d5
  obtain ⟨c0, c1, c2, c3, c4, c5⟩ := ob_cells O8.out
  go_wp2_with fail
  refine (sItems S8.out (arr 0 K) (List.replicate K Ob.null) Q1.out (by simp [arr]) (by rw [arr_items (by have := hLL.out; omega) (by have := hLL.out; have := hK.out; omega), List.drop_zero, List.take_of_length_le (by have := hLL.out; omega)])).mono ?_
  rintro e w9 ⟨v1, rfl, r9, k9', s9, k9⟩
  have B9 : Hid (Below w0.heap.size w0 w9) := Lib.hid (B8.out.trans (k9.below fun _ h => .inl (.inl h)))
  rw [hLL.out] at r9
  obtain ⟨g1, z1, ev1, _, _⟩ := r9.form hK.out.1
  subst ev1
  have T9 := Lib.hid r9
  have hq := neqO 1 0 0 0 false ⟨#[]⟩
  clear s9 k9 k9' r9 c0 c1 c2 c3 c4 c5
  go_wp2
  go_loop [21] (fun i => ∃ y : Nat, y ≤ K ∧ i = .int .i64 y) (fun i => K - (intOf i).toNat)
  case atStart => exact ⟨0, Nat.zero_le _, rfl⟩
  case round =>
    obtain ⟨y, hy, rfl⟩ := hrel
    by_cases hyK : y < K
    · obtain ⟨g1', z1', ev, c0, c1, c2, c3, c4, c5⟩ := row_item (l := List.replicate K Ob.null) (by rw [hLL.out]; exact T9.out.mono (Nat.zero_le _)) (rep_get hyK)
      obtain ⟨rfl, _⟩ : g1 = g1' ∧ z1 = z1' := by rw [hLL.out] at ev; simpa using ev
      dsimp only [Ob.null] at c0 c1 c2 c3 c4 c5
      have u1 : (y : Int) < K := by omega
      have u2 : (0 : Int) ≤ y := by omega
      clear ev
      go_wp2
      go_round
      case rel => exact ⟨y + 1, hyK, congrArg (Value.int .i64) (wrap64_nat y (Nat.lt_of_lt_of_le hyK (Nat.le_trans hK.out.2 (by decide))))⟩
      case measure => exact measure_step K y _ (wrap64_nat y (Nat.lt_of_lt_of_le hyK (Nat.le_trans hK.out.2 (by decide)))) hyK
    · have hye : y = K := by omega
      subst hye
      clear hyK
      go_wp2
      go_ret
      exact ⟨ret_bool (by simp), K0.out.trans (B9.out.mono K0.out.size)⟩

theorem locks_walk (a0 a1 a2 k n a l : Int) (x : Bool) (s : ByteArray) (w : World) (b0 : 0 ≤ a0) (b0' : a0 ≤ 255) (b1 : 0 ≤ a1) (b1' : a1 ≤ 255) (b2 : 0 ≤ a2) (b2' : a2 ≤ 255) :
    Calls Try.prog 8 #[.int .u8 a0, .int .u8 a1, .int .u8 a2, obV k x n a l s] w fun e w' => e = .returned (.bool true) ∧ Below w.heap.size w w' := by
  by_cases hs : (200 : Int) < s.size
  · exact locks_long a0 a1 a2 k n a l x s w hs
  obtain ⟨k0, h0⟩ : ∃ k0 : Nat, (k0 : Int) = a0 % 30 := ⟨(a0 % 30).toNat, by omega⟩
  obtain ⟨K, hK⟩ : ∃ K : Nat, K = k0 + 1 := ⟨_, rfl⟩
  have hK0 : (0 : Int) < K := by omega
  have m1 := Int.emod_nonneg a1 (b := (K : Int)) (by omega)
  have m1' := Int.emod_lt_of_pos a1 hK0
  obtain ⟨F, hF⟩ : ∃ F : Nat, (F : Int) = a1 % K := ⟨(a1 % K).toNat, by omega⟩
  have m2 := Int.emod_nonneg a2 (b := (K : Int)) (by omega)
  have m2' := Int.emod_lt_of_pos a2 hK0
  obtain ⟨I, hI⟩ : ∃ I : Nat, (I : Int) = a2 % K := ⟨(a2 % K).toNat, by omega⟩
  refine locks_core a0 a1 a2 k n a l x s k0 K F (K - F) I w (decide_eq_false hs) ?_ (by rw [wrapi_in _ (by omega) (by omega)]; omega) ?_ (by rw [wrapi_in _ (by omega) (by omega)]; omega) ?_ (Lib.hid (by omega)) (Lib.hid (by omega)) (Lib.hid (by omega)) b0 b0' b1 b1' b2 b2' (by omega)
  · rw [Int.tmod_eq_emod_of_nonneg b0, h0]
  · rw [Int.tmod_eq_emod_of_nonneg b1, hF]
  · rw [Int.tmod_eq_emod_of_nonneg b2, hI]
end Go.Proofs.Ytbdicjiflfbpaaa
