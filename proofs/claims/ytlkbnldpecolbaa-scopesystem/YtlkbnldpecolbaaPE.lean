/- ScopeSystem: the walk. -/
import Derived.Test.YtlkbnldpecolbaaX28
namespace Go.Proofs.Ytlkbnldpecolbaa
open Go.RowKit
set_option linter.unusedVariables false
set_option linter.unusedSimpArgs false
set_option maxRecDepth 1000000
set_option maxHeartbeats 4000000

theorem system_core (a : Int) (h0 : 0 ≤ a) (h1 : a ≤ 255) (k : Int) (x : Bool) (n l1 l2 : Int) (s : ByteArray) (w : World) : Calls Try.prog 5 #[.int .u8 a, obV k x n l1 l2 s] w fun e w' => e = .returned (.bool true) ∧ Below w.heap.size w w' := by
  obtain ⟨i, hi⟩ : ∃ i : Nat, a.tmod 162 = i := ⟨(a.tmod 162).toNat, by rw [Int.tmod_eq_emod_of_nonneg h0]; omega⟩
  have hi2 : i < 162 := by rw [Int.tmod_eq_emod_of_nonneg h0] at hi; omega
  obtain ⟨KN, hK⟩ : ∃ KN : Int, KN = (i : Int) + 1 := ⟨_, rfl⟩
  obtain ⟨K2, hK2⟩ : ∃ K2 : Int, K2 = 2 * KN := ⟨_, rfl⟩
  obtain ⟨J, hJ⟩ : ∃ J : Nat, J = 2 * i := ⟨_, rfl⟩
  have q1 : IntKind.i64.wrap (1 + (i : Int)) = KN := by rw [IntWalk.i64_in _ (by omega)]; omega
  have q2 : IntKind.i64.wrap a = a := IntWalk.i64_in _ (by omega)
  have q3 : wrap64 (1 + (i : Int)) = KN := by rw [← IntWalk.i64_left]; exact q1
  have q4 : wrap64 a = a := by rw [← IntWalk.i64_left]; exact q2
  have E1 : IntKind.i64.wrap (2 * KN) = K2 := by rw [IntWalk.i64_in _ (by omega)]; omega
  have E2 : IntKind.i64.wrap (K2 - 2) = (J : Int) := by rw [IntWalk.i64_in _ (by omega)]; omega
  have E3 : IntKind.i64.wrap (K2 - 1) = ((J + 1 : Nat) : Int) := by rw [IntWalk.i64_in _ (by omega)]; omega
  have E4 : 0 ≤ (J : Int) ∧ (J : Int) < 324 := by omega
  have E5 : 0 ≤ ((J + 1 : Nat) : Int) ∧ ((J + 1 : Nat) : Int) < 324 := by omega
  have EE := Lib.hid (And.intro E1 (And.intro E2 (And.intro E3 (And.intro E4 E5))))
  have HI := Lib.hid hi2
  obtain ⟨nm, hnm⟩ : ∃ nm, refAll.getD i ⟨#[]⟩ = nm := ⟨_, rfl⟩
  have HOP : Hid (∀ wx, Calls Try.prog 19 #[.int .i64 KN] wx fun e w' => e = .returned (.string nm) ∧ Below wx.heap.size wx w') := Lib.hid fun wx => hnm ▸ opNm i hi2 KN hK wx
  have HNM : Hid ((nmAt i).val = obV 5 false 0 0 0 nm) := Lib.hid (by rw [nmAt, hnm]; rfl)
  have hfnd := fnd0_op hi2
  rw [show opAt i = ⟨7, true, KN, 0, 0, ⟨#[]⟩⟩ from by rw [opAt, hK]] at hfnd
  have HF := Lib.hid hfnd
  have HIT : Hid ((itemsD (prs 162) 162)[J + 1]? = some (nmAt i) ∧ (itemsD (prs 162) 162)[J + 2]? = some ⟨7, true, KN, 0, 0, ⟨#[]⟩⟩) := Lib.hid (by
    have := itemsD_key (ps := prs 162) (room := 162) (prs_get hi2)
    rw [hJ, hK]
    exact this)
  clear hK hK2 hJ E1 E2 E3 E4 E5 hi2 hnm hfnd
  go_enter Try.func5, Try.ntmps5
  go_upto_region 1 with fail
  obtain ⟨w1, e1, k1, o1⟩ : ∃ w1, w.alloc (.cells #[.int .i64 k, .bool x, .int .i64 n, .int .i64 l1, .int .i64 l2, .string s] 30) = w1 ∧ Below w.heap.size w w1 ∧ w1.heap[w.heap.size]? = some (obObj k x n l1 l2 s) := ⟨_, rfl, box_below _ _, heap_alloc_new _ _⟩
  rw [e1]
  have K1 := Lib.hid k1
  have O1 := Lib.hid o1
  clear e1 k1 o1
  go_wp2_with fail
  refine (scKnown _).mono ?_
  rintro e w2 ⟨rfl, k2⟩
  have K2B := Lib.hid (below_and K1.out k2)
  have O2 : Hid (w2.heap[w.heap.size]? = some (obObj k x n l1 l2 s)) := Lib.hid ((k2.block _ (blk_lt O1.out)).trans O1.out)
  clear k2 K1 O1
  obtain ⟨⟨c0, c1, c2, c3, c4, c5⟩, _⟩ := cells6 O2.out
  by_cases hs : (200 : Int) < s.size
  · go_wp2
    go_ret
    exact ⟨rfl, K2B.out⟩
  · go_wp2_with fail
    refine (new_any _).mono ?_
    rintro e w3 ⟨rfl, rfl⟩
    clear c0 c1 c2 c3 c4 c5
    go_wp2_with fail
    refine (Rs.begin (w0 := w) (bs := [(w.heap.size, obObj k x n l1 l2 s)]) K2B.out (by simpa using O2.out) (by simp)).mono ?_
    rintro e w4 ⟨sb, rfl, r4⟩
    obtain ⟨hb, hhb⟩ : ∃ hb, w2.heap.size = hb := ⟨_, rfl⟩
    rw [hhb] at r4 ⊢
    have R := Lib.hid r4
    clear r4 hhb K2B O2
    go_wp2_with fail
    have hcnt := opCount w4
    refine hcnt.mono ?_
    rintro e w5 ⟨rfl, k5⟩
    replace R := Lib.hid (R.out.later k5)
    clear hcnt k5
    go_wp2_with fail
    refine (HOP.out _).mono ?_
    rintro e w6 ⟨rfl, k6⟩
    replace R := Lib.hid (R.out.later k6)
    clear k6
    go_wp2_with fail
    refine (scName _ _).mono ?_
    rintro e w7 ⟨rfl, k7⟩
    replace R := Lib.hid (R.out.later k7)
    clear k7
    go_wp2_with fail
    have hf := R.out.leaf fun out h => xFind h (nmAt i)
    rw [HF.out.1, HF.out.2.1, HF.out.2.2, HNM.out] at hf
    simp only [Ob.val, sysO] at hf
    refine hf.mono ?_
    rintro e w8 ⟨rfl, r8⟩
    replace R := Lib.hid r8
    clear hf r8
    go_upto_region 11 with fail
    obtain ⟨w9, e9, r9⟩ := R.out.two ⟨7, true, KN, 0, 0, ⟨#[]⟩⟩ sysO
    simp only [sysO] at e9 r9
    rw [e9]
    replace R := Lib.hid r9
    obtain ⟨B9, hB9⟩ : ∃ B9, w8.heap.size = B9 := ⟨_, rfl⟩
    simp only [hB9] at R ⊢
    obtain ⟨B, hB⟩ : ∃ B, B9 + 1 = B := ⟨_, rfl⟩
    simp only [hB] at R ⊢
    go_upto_region 11 with fail
    replace R := Lib.hid (R.out.later (Below.refl _ _).drew)
    (try refine wp_region_noPanic ?_)
    refine wp_region_held_drew (S := fun wx => wx.heap[B]? = some (obObj 10 false 0 0 0 ⟨#[]⟩) ∧ wx.heap[w.heap.size]? = some (obObj k x n l1 l2 s)) (by kernel_rfl) ⟨R.out.at0, R.out.at2⟩ (fun sx0 => ?_)
    have SX := Lib.hid sx0
    clear sx0
    generalize World.drew _ = wd11 at R SX ⊢
    refine wpAnyH_take (i := 0) (v := ptr hb) rfl (by kernel_rfl) (by kernel_rfl) (by kernel_rfl) (fun _ _ _ h => h) (Or.inl ⟨by rfl, fun wx hS => ?_⟩) SX.out ?_
    · go_simp
    try simp only [Act.put, List.getElem_toArray, List.getElem_cons_succ, List.getElem_cons_zero, List.setIfInBounds_toArray, List.set_cons_zero, List.set_cons_succ]
    refine wpAnyH_take (i := 1) (v := obV 10 false 0 0 0 ⟨#[]⟩) rfl (by kernel_rfl) (by kernel_rfl) (by kernel_rfl) (fun _ _ _ h => h) (Or.inl ⟨by rfl, fun wx hS => ?_⟩) SX.out ?_
    · obtain ⟨⟨c0, c1, c2, c3, c4, c5⟩, _⟩ := cells6 hS.1; go_simp
    try simp only [Act.put, List.getElem_toArray, List.getElem_cons_succ, List.getElem_cons_zero, List.setIfInBounds_toArray, List.set_cons_zero, List.set_cons_succ]
    refine wpAnyH_take (i := 2) (v := .int .i64 KN) rfl (by kernel_rfl) (by kernel_rfl) (by kernel_rfl) (fun _ _ _ h => h) (Or.inl ⟨by rfl, fun wx hS => ?_⟩) SX.out ?_
    · go_simp
    try simp only [Act.put, List.getElem_toArray, List.getElem_cons_succ, List.getElem_cons_zero, List.setIfInBounds_toArray, List.set_cons_zero, List.set_cons_succ]
    refine wpAnyH_take (i := 5) (v := obV k x n l1 l2 s) rfl (by kernel_rfl) (by kernel_rfl) (by kernel_rfl) (fun _ _ _ h => h) (Or.inl ⟨by rfl, fun wx hS => ?_⟩) SX.out ?_
    · obtain ⟨⟨c0, c1, c2, c3, c4, c5⟩, _⟩ := cells6 hS.2; go_simp
    try simp only [Act.put, List.getElem_toArray, List.getElem_cons_succ, List.getElem_cons_zero, List.setIfInBounds_toArray, List.set_cons_zero, List.set_cons_succ]
    refine wpAnyH_ready (rs := [3]) (by kernel_rfl) (by simp) ?_
    refine AllReadyH.cons rfl (fun K hK => ?_) AllReadyH.nil
    go_simp
    refine (HOP.out _).mono ?_
    rintro e wa1 ⟨rfl, kk⟩
    replace R := Lib.hid (R.out.later kk)
    have SY := Lib.hid (And.intro R.out.at0 R.out.at2)
    clear kk SX
    have SX := SY
    clear SY
    refine hK.out _ _ SX.out (fun _ => ?_)
    clear hK
    try simp only [Act.put, List.getElem_toArray, List.getElem_cons_succ, List.getElem_cons_zero, List.setIfInBounds_toArray, List.set_cons_zero, List.set_cons_succ]
    refine wpAnyH_ready (rs := [4]) (by kernel_rfl) (by simp) ?_
    refine AllReadyH.cons rfl (fun K hK => ?_) AllReadyH.nil
    go_simp
    refine (scName _ _).mono ?_
    rintro e wa2 ⟨rfl, kk⟩
    replace R := Lib.hid (R.out.later kk)
    have SY := Lib.hid (And.intro R.out.at0 R.out.at2)
    clear kk SX
    have SX := SY
    clear SY
    refine hK.out _ _ SX.out (fun _ => ?_)
    clear hK
    try simp only [Act.put, List.getElem_toArray, List.getElem_cons_succ, List.getElem_cons_zero, List.setIfInBounds_toArray, List.set_cons_zero, List.set_cons_succ]
    refine wpAnyH_ready (rs := [6]) (by kernel_rfl) (by simp) ?_
    refine AllReadyH.cons rfl (fun K hK => ?_) AllReadyH.nil
    go_simp
    have hset := R.out.call fun out h => xSetLock h HI.out ⟨k, x, n, l1, l2, s⟩
    rw [HNM.out] at hset
    refine hset.mono ?_
    rintro e wa3 ⟨rfl, r3⟩
    replace R := Lib.hid r3
    have SY := Lib.hid (And.intro R.out.at0 R.out.at2)
    clear hset r3 SX
    have SX := SY
    clear SY
    refine hK.out _ _ SX.out (fun _ => ?_)
    clear hK
    try simp only [Act.put, List.getElem_toArray, List.getElem_cons_succ, List.getElem_cons_zero, List.setIfInBounds_toArray, List.set_cons_zero, List.set_cons_succ]
    refine wpAnyH_take (i := 7) (v := .int .i64 1) rfl (by kernel_rfl) (by kernel_rfl) (by kernel_rfl) (fun _ _ _ h => h) (Or.inl ⟨by rfl, fun wx hS => ?_⟩) SX.out ?_
    · go_simp
    try simp only [Act.put, List.getElem_toArray, List.getElem_cons_succ, List.getElem_cons_zero, List.setIfInBounds_toArray, List.set_cons_zero, List.set_cons_succ]
    refine wpAnyH_done (by kernel_rfl) ?_ _
    (try refine no_panic ?_)
    clear SX
    go_upto_region 12 with fail
    replace R := Lib.hid (R.out.later (Below.refl _ _).drew)
    (try refine wp_region_noPanic ?_)
    refine wp_region_held_drew (S := fun wx => wx.heap[B]? = some (obObj 10 false 0 0 0 ⟨#[]⟩) ∧ wx.heap[w.heap.size]? = some (obObj k x n l1 l2 s)) (by kernel_rfl) ⟨R.out.at0, R.out.at2⟩ (fun sx0 => ?_)
    have SX := Lib.hid sx0
    clear sx0
    generalize World.drew _ = wd12 at R SX ⊢
    refine wpAnyH_take (i := 0) (v := ptr hb) rfl (by kernel_rfl) (by kernel_rfl) (by kernel_rfl) (fun _ _ _ h => h) (Or.inl ⟨by rfl, fun wx hS => ?_⟩) SX.out ?_
    · go_simp
    try simp only [Act.put, List.getElem_toArray, List.getElem_cons_succ, List.getElem_cons_zero, List.setIfInBounds_toArray, List.set_cons_zero, List.set_cons_succ]
    refine wpAnyH_take (i := 1) (v := obV 10 false 0 0 0 ⟨#[]⟩) rfl (by kernel_rfl) (by kernel_rfl) (by kernel_rfl) (fun _ _ _ h => h) (Or.inl ⟨by rfl, fun wx hS => ?_⟩) SX.out ?_
    · obtain ⟨⟨c0, c1, c2, c3, c4, c5⟩, _⟩ := cells6 hS.1; go_simp
    try simp only [Act.put, List.getElem_toArray, List.getElem_cons_succ, List.getElem_cons_zero, List.setIfInBounds_toArray, List.set_cons_zero, List.set_cons_succ]
    refine wpAnyH_take (i := 2) (v := .int .i64 KN) rfl (by kernel_rfl) (by kernel_rfl) (by kernel_rfl) (fun _ _ _ h => h) (Or.inl ⟨by rfl, fun wx hS => ?_⟩) SX.out ?_
    · go_simp
    try simp only [Act.put, List.getElem_toArray, List.getElem_cons_succ, List.getElem_cons_zero, List.setIfInBounds_toArray, List.set_cons_zero, List.set_cons_succ]
    refine wpAnyH_ready (rs := [3]) (by kernel_rfl) (by simp) ?_
    refine AllReadyH.cons rfl (fun K hK => ?_) AllReadyH.nil
    go_simp
    refine (HOP.out _).mono ?_
    rintro e wb1 ⟨rfl, kk⟩
    replace R := Lib.hid (R.out.later kk)
    have SY := Lib.hid (And.intro R.out.at0 R.out.at2)
    clear kk SX
    have SX := SY
    clear SY
    refine hK.out _ _ SX.out (fun _ => ?_)
    clear hK
    try simp only [Act.put, List.getElem_toArray, List.getElem_cons_succ, List.getElem_cons_zero, List.setIfInBounds_toArray, List.set_cons_zero, List.set_cons_succ]
    refine wpAnyH_ready (rs := [4]) (by kernel_rfl) (by simp) ?_
    refine AllReadyH.cons rfl (fun K hK => ?_) AllReadyH.nil
    go_simp
    refine (scName _ _).mono ?_
    rintro e wb2 ⟨rfl, kk⟩
    replace R := Lib.hid (R.out.later kk)
    have SY := Lib.hid (And.intro R.out.at0 R.out.at2)
    clear kk SX
    have SX := SY
    clear SY
    refine hK.out _ _ SX.out (fun _ => ?_)
    clear hK
    try simp only [Act.put, List.getElem_toArray, List.getElem_cons_succ, List.getElem_cons_zero, List.setIfInBounds_toArray, List.set_cons_zero, List.set_cons_succ]
    refine wpAnyH_ready (rs := [5]) (by kernel_rfl) (by simp) ?_
    refine AllReadyH.cons rfl (fun K hK => ?_) AllReadyH.nil
    go_simp
    have hset := R.out.call fun out h => xDropLock h HI.out
    rw [HNM.out] at hset
    refine hset.mono ?_
    rintro e wb3 ⟨rfl, r3⟩
    replace R := Lib.hid r3
    have SY := Lib.hid (And.intro R.out.at0 R.out.at2)
    clear hset r3 SX
    have SX := SY
    clear SY
    refine hK.out _ _ SX.out (fun _ => ?_)
    clear hK
    try simp only [Act.put, List.getElem_toArray, List.getElem_cons_succ, List.getElem_cons_zero, List.setIfInBounds_toArray, List.set_cons_zero, List.set_cons_succ]
    refine wpAnyH_take (i := 6) (v := .int .i64 1) rfl (by kernel_rfl) (by kernel_rfl) (by kernel_rfl) (fun _ _ _ h => h) (Or.inl ⟨by rfl, fun wx hS => ?_⟩) SX.out ?_
    · go_simp
    try simp only [Act.put, List.getElem_toArray, List.getElem_cons_succ, List.getElem_cons_zero, List.setIfInBounds_toArray, List.set_cons_zero, List.set_cons_succ]
    refine wpAnyH_done (by kernel_rfl) ?_ _
    (try refine no_panic ?_)
    obtain ⟨⟨c0, c1, c2, c3, c4, c5⟩, _⟩ := cells6 R.out.at0
    clear SX
    go_wp2_with fail
    obtain ⟨out, hsc, _⟩ := R.out.step
    refine (xPairs hsc).mono ?_
    rintro e w13 ⟨g, cap, rfl, row, k13⟩
    replace R := Lib.hid (R.out.later k13)
    have RW := Lib.hid row
    clear k13 row hsc c0 c1 c2 c3 c4 c5
    go_upto_region 14 with fail
    replace R := Lib.hid (R.out.later (Below.refl _ _).drew)
    have RW2 : Hid (w13.drew.ownsRow 0 30 6 (.slice (some ⟨g, 0, none⟩) 325 cap) 325 (obCells (itemsD (prs 162) 162))) := Lib.hid (owns_at RW.out fun g e => rfl)
    (try refine wp_region_noPanic ?_)
    refine wp_region_held_drew (S := fun wx => Below w13.drew.heap.size w13.drew wx) (by kernel_rfl) (Below.refl _ _) (fun sx0 => ?_)
    have SX := Lib.hid sx0
    clear sx0 RW
    generalize w13.drew = w14 at R SX RW2 ⊢
    have OP := Lib.hid R.out.at1
    have RA : Hid (∀ wx, Below w14.heap.size w14 wx → wx.cell? ⟨g, 6 + J * 6, none⟩ = some (.int .i64 5) ∧ wx.cell? ⟨g, 6 + J * 6 + 1, none⟩ = some (.bool false) ∧ wx.cell? ⟨g, 6 + J * 6 + 2, none⟩ = some (.int .i64 0) ∧ wx.cell? ⟨g, 6 + J * 6 + 3, none⟩ = some (.int .i64 0) ∧ wx.cell? ⟨g, 6 + J * 6 + 4, none⟩ = some (.int .i64 0) ∧ wx.cell? ⟨g, 6 + J * 6 + 5, none⟩ = some (.string nm)) := Lib.hid fun wx kx => by
      have := row_at (owns_at RW2.out fun g e => kx.block g (RW2.out.lt g e).2) HIT.out.1
      have hn := HNM.out
      simp only [nmAt, nmO, Ob.val] at hn
      obtain rfl : refAll.getD i ⟨#[]⟩ = nm := by simpa using hn
      rw [show 6 + J * 6 = (J + 1) * 6 from by omega]
      exact this
    have RB : Hid (∀ wx, Below w14.heap.size w14 wx → wx.cell? ⟨g, 6 + (J + 1) * 6, none⟩ = some (.int .i64 7) ∧ wx.cell? ⟨g, 6 + (J + 1) * 6 + 1, none⟩ = some (.bool true) ∧ wx.cell? ⟨g, 6 + (J + 1) * 6 + 2, none⟩ = some (.int .i64 KN) ∧ wx.cell? ⟨g, 6 + (J + 1) * 6 + 3, none⟩ = some (.int .i64 0) ∧ wx.cell? ⟨g, 6 + (J + 1) * 6 + 4, none⟩ = some (.int .i64 0) ∧ wx.cell? ⟨g, 6 + (J + 1) * 6 + 5, none⟩ = some (.string ⟨#[]⟩)) := Lib.hid fun wx kx => by
      have := row_at (owns_at RW2.out fun g e => kx.block g (RW2.out.lt g e).2) HIT.out.2
      rw [show 6 + (J + 1) * 6 = (J + 2) * 6 from by omega]
      exact this
    clear RW2
    refine wpAnyH_take (i := 0) (v := .int .i64 0) rfl (by kernel_rfl) (by kernel_rfl) (by kernel_rfl) (fun _ _ _ h => h) (Or.inl ⟨by rfl, fun wx hS => ?_⟩) SX.out ?_
    · go_simp
    try simp only [Act.put, List.getElem_toArray, List.getElem_cons_succ, List.getElem_cons_zero, List.setIfInBounds_toArray, List.set_cons_zero, List.set_cons_succ]
    refine wpAnyH_take (i := 1) (v := .bool true) rfl (by kernel_rfl) (by kernel_rfl) (by kernel_rfl) (fun _ _ _ h => h) (Or.inl ⟨by rfl, fun wx hS => ?_⟩) SX.out ?_
    · go_simp
    try simp only [Act.put, List.getElem_toArray, List.getElem_cons_succ, List.getElem_cons_zero, List.setIfInBounds_toArray, List.set_cons_zero, List.set_cons_succ]
    refine wpAnyH_take (i := 2) (v := .bool true) rfl (by kernel_rfl) (by kernel_rfl) (by kernel_rfl) (fun _ _ _ h => h) (Or.inl ⟨by rfl, fun wx hS => ?_⟩) SX.out ?_
    · go_simp
    try simp only [Act.put, List.getElem_toArray, List.getElem_cons_succ, List.getElem_cons_zero, List.setIfInBounds_toArray, List.set_cons_zero, List.set_cons_succ]
    refine wpAnyH_take (i := 3) (v := obV 7 true KN 0 0 ⟨#[]⟩) rfl (by kernel_rfl) (by kernel_rfl) (by kernel_rfl) (fun _ _ _ h => h) (Or.inl ⟨by rfl, fun wx hS => ?_⟩) SX.out ?_
    · have kk := hS; obtain ⟨⟨c0, c1, c2, c3, c4, c5⟩, _⟩ := cells6 ((kk.block _ (blk_lt OP.out)).trans OP.out); clear kk; go_simp
    try simp only [Act.put, List.getElem_toArray, List.getElem_cons_succ, List.getElem_cons_zero, List.setIfInBounds_toArray, List.set_cons_zero, List.set_cons_succ]
    refine wpAnyH_take (i := 4) (v := .int .i64 KN) rfl (by kernel_rfl) (by kernel_rfl) (by kernel_rfl) (fun _ _ _ h => h) (Or.inl ⟨by rfl, fun wx hS => ?_⟩) SX.out ?_
    · go_simp
    try simp only [Act.put, List.getElem_toArray, List.getElem_cons_succ, List.getElem_cons_zero, List.setIfInBounds_toArray, List.set_cons_zero, List.set_cons_succ]
    refine wpAnyH_take (i := 5) (v := obV 7 true KN 0 0 ⟨#[]⟩) rfl (by kernel_rfl) (by kernel_rfl) (by kernel_rfl) (fun _ _ _ h => h) (Or.inl ⟨by rfl, fun wx hS => ?_⟩) SX.out ?_
    · go_simp
    try simp only [Act.put, List.getElem_toArray, List.getElem_cons_succ, List.getElem_cons_zero, List.setIfInBounds_toArray, List.set_cons_zero, List.set_cons_succ]
    refine wpAnyH_take (i := 6) (v := .bool true) rfl (by kernel_rfl) (by kernel_rfl) (by kernel_rfl) (fun _ _ _ h => h) (Or.inl ⟨by rfl, fun wx hS => ?_⟩) SX.out ?_
    · go_simp
    try simp only [Act.put, List.getElem_toArray, List.getElem_cons_succ, List.getElem_cons_zero, List.setIfInBounds_toArray, List.set_cons_zero, List.set_cons_succ]
    refine wpAnyH_take (i := 7) (v := .bool true) rfl (by kernel_rfl) (by kernel_rfl) (by kernel_rfl) (fun _ _ _ h => h) (Or.inl ⟨by rfl, fun wx hS => ?_⟩) SX.out ?_
    · go_simp
    try simp only [Act.put, List.getElem_toArray, List.getElem_cons_succ, List.getElem_cons_zero, List.setIfInBounds_toArray, List.set_cons_zero, List.set_cons_succ]
    refine wpAnyH_take (i := 8) (v := .bool true) rfl (by kernel_rfl) (by kernel_rfl) (by kernel_rfl) (fun _ _ _ h => h) (Or.inl ⟨by rfl, fun wx hS => ?_⟩) SX.out ?_
    · go_simp
    try simp only [Act.put, List.getElem_toArray, List.getElem_cons_succ, List.getElem_cons_zero, List.setIfInBounds_toArray, List.set_cons_zero, List.set_cons_succ]
    refine wpAnyH_take (i := 9) (v := .int .i64 1) rfl (by kernel_rfl) (by kernel_rfl) (by kernel_rfl) (fun _ _ _ h => h) (Or.inl ⟨by rfl, fun wx hS => ?_⟩) SX.out ?_
    · go_simp
    try simp only [Act.put, List.getElem_toArray, List.getElem_cons_succ, List.getElem_cons_zero, List.setIfInBounds_toArray, List.set_cons_zero, List.set_cons_succ]
    refine wpAnyH_take (i := 10) (v := .bool true) rfl (by kernel_rfl) (by kernel_rfl) (by kernel_rfl) (fun _ _ _ h => h) (Or.inl ⟨by rfl, fun wx hS => ?_⟩) SX.out ?_
    · go_simp
    try simp only [Act.put, List.getElem_toArray, List.getElem_cons_succ, List.getElem_cons_zero, List.setIfInBounds_toArray, List.set_cons_zero, List.set_cons_succ]
    refine wpAnyH_take (i := 11) (v := .bool true) rfl (by kernel_rfl) (by kernel_rfl) (by kernel_rfl) (fun _ _ _ h => h) (Or.inl ⟨by rfl, fun wx hS => ?_⟩) SX.out ?_
    · go_simp
    try simp only [Act.put, List.getElem_toArray, List.getElem_cons_succ, List.getElem_cons_zero, List.setIfInBounds_toArray, List.set_cons_zero, List.set_cons_succ]
    refine wpAnyH_take (i := 12) (v := .bool true) rfl (by kernel_rfl) (by kernel_rfl) (by kernel_rfl) (fun _ _ _ h => h) (Or.inl ⟨by rfl, fun wx hS => ?_⟩) SX.out ?_
    · go_simp
    try simp only [Act.put, List.getElem_toArray, List.getElem_cons_succ, List.getElem_cons_zero, List.setIfInBounds_toArray, List.set_cons_zero, List.set_cons_succ]
    refine wpAnyH_take (i := 13) (v := .int .i64 1) rfl (by kernel_rfl) (by kernel_rfl) (by kernel_rfl) (fun _ _ _ h => h) (Or.inl ⟨by rfl, fun wx hS => ?_⟩) SX.out ?_
    · go_simp
    try simp only [Act.put, List.getElem_toArray, List.getElem_cons_succ, List.getElem_cons_zero, List.setIfInBounds_toArray, List.set_cons_zero, List.set_cons_succ]
    refine wpAnyH_take (i := 14) (v := .bool true) rfl (by kernel_rfl) (by kernel_rfl) (by kernel_rfl) (fun _ _ _ h => h) (Or.inl ⟨by rfl, fun wx hS => ?_⟩) SX.out ?_
    · go_simp
    try simp only [Act.put, List.getElem_toArray, List.getElem_cons_succ, List.getElem_cons_zero, List.setIfInBounds_toArray, List.set_cons_zero, List.set_cons_succ]
    refine wpAnyH_take (i := 15) (v := .bool true) rfl (by kernel_rfl) (by kernel_rfl) (by kernel_rfl) (fun _ _ _ h => h) (Or.inl ⟨by rfl, fun wx hS => ?_⟩) SX.out ?_
    · go_simp
    try simp only [Act.put, List.getElem_toArray, List.getElem_cons_succ, List.getElem_cons_zero, List.setIfInBounds_toArray, List.set_cons_zero, List.set_cons_succ]
    refine wpAnyH_take (i := 16) (v := .bool true) rfl (by kernel_rfl) (by kernel_rfl) (by kernel_rfl) (fun _ _ _ h => h) (Or.inl ⟨by rfl, fun wx hS => ?_⟩) SX.out ?_
    · go_simp
    try simp only [Act.put, List.getElem_toArray, List.getElem_cons_succ, List.getElem_cons_zero, List.setIfInBounds_toArray, List.set_cons_zero, List.set_cons_succ]
    refine wpAnyH_take (i := 17) (v := .int .i64 0) rfl (by kernel_rfl) (by kernel_rfl) (by kernel_rfl) (fun _ _ _ h => h) (Or.inl ⟨by rfl, fun wx hS => ?_⟩) SX.out ?_
    · go_simp
    try simp only [Act.put, List.getElem_toArray, List.getElem_cons_succ, List.getElem_cons_zero, List.setIfInBounds_toArray, List.set_cons_zero, List.set_cons_succ]
    refine wpAnyH_take (i := 18) (v := .bool true) rfl (by kernel_rfl) (by kernel_rfl) (by kernel_rfl) (fun _ _ _ h => h) (Or.inl ⟨by rfl, fun wx hS => ?_⟩) SX.out ?_
    · go_simp
    try simp only [Act.put, List.getElem_toArray, List.getElem_cons_succ, List.getElem_cons_zero, List.setIfInBounds_toArray, List.set_cons_zero, List.set_cons_succ]
    refine wpAnyH_take (i := 19) (v := .bool true) rfl (by kernel_rfl) (by kernel_rfl) (by kernel_rfl) (fun _ _ _ h => h) (Or.inl ⟨by rfl, fun wx hS => ?_⟩) SX.out ?_
    · go_simp
    try simp only [Act.put, List.getElem_toArray, List.getElem_cons_succ, List.getElem_cons_zero, List.setIfInBounds_toArray, List.set_cons_zero, List.set_cons_succ]
    refine wpAnyH_take (i := 20) (v := .bool true) rfl (by kernel_rfl) (by kernel_rfl) (by kernel_rfl) (fun _ _ _ h => h) (Or.inl ⟨by rfl, fun wx hS => ?_⟩) SX.out ?_
    · go_simp
    try simp only [Act.put, List.getElem_toArray, List.getElem_cons_succ, List.getElem_cons_zero, List.setIfInBounds_toArray, List.set_cons_zero, List.set_cons_succ]
    refine wpAnyH_take (i := 21) (v := .slice (some ⟨g, 6, none⟩) 324 (cap - 1)) rfl (by kernel_rfl) (by kernel_rfl) (by kernel_rfl) (fun _ _ _ h => h) (Or.inl ⟨by rfl, fun wx hS => ?_⟩) SX.out ?_
    · go_simp
    try simp only [Act.put, List.getElem_toArray, List.getElem_cons_succ, List.getElem_cons_zero, List.setIfInBounds_toArray, List.set_cons_zero, List.set_cons_succ]
    refine wpAnyH_take (i := 22) (v := .int .i64 324) rfl (by kernel_rfl) (by kernel_rfl) (by kernel_rfl) (fun _ _ _ h => h) (Or.inl ⟨by rfl, fun wx hS => ?_⟩) SX.out ?_
    · go_simp
    try simp only [Act.put, List.getElem_toArray, List.getElem_cons_succ, List.getElem_cons_zero, List.setIfInBounds_toArray, List.set_cons_zero, List.set_cons_succ]
    refine wpAnyH_ready (rs := [23]) (by kernel_rfl) (by simp) ?_
    refine AllReadyH.cons rfl (fun K hK => ?_) AllReadyH.nil
    go_simp
    refine (opCount _).mono ?_
    rintro e wc1 ⟨rfl, kk⟩
    replace R := Lib.hid (R.out.later kk)
    have SY := Lib.hid (below_and SX.out kk)
    clear kk SX
    have SX := SY
    clear SY
    refine hK.out _ _ SX.out (fun _ => ?_)
    clear hK
    try simp only [Act.put, List.getElem_toArray, List.getElem_cons_succ, List.getElem_cons_zero, List.setIfInBounds_toArray, List.set_cons_zero, List.set_cons_succ]
    refine wpAnyH_take (i := 24) (v := .int .i64 324) rfl (by kernel_rfl) (by kernel_rfl) (by kernel_rfl) (fun _ _ _ h => h) (Or.inl ⟨by rfl, fun wx hS => ?_⟩) SX.out ?_
    · have z1 : IntKind.i64.wrap 324 = 324 := (by decide); go_simp
    try simp only [Act.put, List.getElem_toArray, List.getElem_cons_succ, List.getElem_cons_zero, List.setIfInBounds_toArray, List.set_cons_zero, List.set_cons_succ]
    refine wpAnyH_take (i := 25) (v := .bool true) rfl (by kernel_rfl) (by kernel_rfl) (by kernel_rfl) (fun _ _ _ h => h) (Or.inl ⟨by rfl, fun wx hS => ?_⟩) SX.out ?_
    · go_simp
    try simp only [Act.put, List.getElem_toArray, List.getElem_cons_succ, List.getElem_cons_zero, List.setIfInBounds_toArray, List.set_cons_zero, List.set_cons_succ]
    refine wpAnyH_take (i := 26) (v := .bool true) rfl (by kernel_rfl) (by kernel_rfl) (by kernel_rfl) (fun _ _ _ h => h) (Or.inl ⟨by rfl, fun wx hS => ?_⟩) SX.out ?_
    · go_simp
    try simp only [Act.put, List.getElem_toArray, List.getElem_cons_succ, List.getElem_cons_zero, List.setIfInBounds_toArray, List.set_cons_zero, List.set_cons_succ]
    refine wpAnyH_take (i := 27) (v := .bool true) rfl (by kernel_rfl) (by kernel_rfl) (by kernel_rfl) (fun _ _ _ h => h) (Or.inl ⟨by rfl, fun wx hS => ?_⟩) SX.out ?_
    · go_simp
    try simp only [Act.put, List.getElem_toArray, List.getElem_cons_succ, List.getElem_cons_zero, List.setIfInBounds_toArray, List.set_cons_zero, List.set_cons_succ]
    refine wpAnyH_take (i := 28) (v := .slice (some ⟨g, 6, none⟩) 324 (cap - 1)) rfl (by kernel_rfl) (by kernel_rfl) (by kernel_rfl) (fun _ _ _ h => h) (Or.inl ⟨by rfl, fun wx hS => ?_⟩) SX.out ?_
    · go_simp
    try simp only [Act.put, List.getElem_toArray, List.getElem_cons_succ, List.getElem_cons_zero, List.setIfInBounds_toArray, List.set_cons_zero, List.set_cons_succ]
    refine wpAnyH_take (i := 29) (v := .int .i64 KN) rfl (by kernel_rfl) (by kernel_rfl) (by kernel_rfl) (fun _ _ _ h => h) (Or.inl ⟨by rfl, fun wx hS => ?_⟩) SX.out ?_
    · go_simp
    try simp only [Act.put, List.getElem_toArray, List.getElem_cons_succ, List.getElem_cons_zero, List.setIfInBounds_toArray, List.set_cons_zero, List.set_cons_succ]
    refine wpAnyH_take (i := 30) (v := .int .i64 K2) rfl (by kernel_rfl) (by kernel_rfl) (by kernel_rfl) (fun _ _ _ h => h) (Or.inl ⟨by rfl, fun wx hS => ?_⟩) SX.out ?_
    · obtain ⟨E1, E2, E3, E4, E5⟩ := EE.out; clear EE; go_simp
    try simp only [Act.put, List.getElem_toArray, List.getElem_cons_succ, List.getElem_cons_zero, List.setIfInBounds_toArray, List.set_cons_zero, List.set_cons_succ]
    refine wpAnyH_take (i := 31) (v := .int .i64 J) rfl (by kernel_rfl) (by kernel_rfl) (by kernel_rfl) (fun _ _ _ h => h) (Or.inl ⟨by rfl, fun wx hS => ?_⟩) SX.out ?_
    · obtain ⟨E1, E2, E3, E4, E5⟩ := EE.out; clear EE; go_simp
    try simp only [Act.put, List.getElem_toArray, List.getElem_cons_succ, List.getElem_cons_zero, List.setIfInBounds_toArray, List.set_cons_zero, List.set_cons_succ]
    refine wpAnyH_take (i := 32) (v := .pointer (some ⟨g, 6 + J * 6, none⟩)) rfl (by kernel_rfl) (by kernel_rfl) (by kernel_rfl) (fun _ _ _ h => h) (Or.inl ⟨by rfl, fun wx hS => ?_⟩) SX.out ?_
    · obtain ⟨E1, E2, E3, E4, E5⟩ := EE.out; clear EE; go_simp
    try simp only [Act.put, List.getElem_toArray, List.getElem_cons_succ, List.getElem_cons_zero, List.setIfInBounds_toArray, List.set_cons_zero, List.set_cons_succ]
    refine wpAnyH_take (i := 33) (v := obV 5 false 0 0 0 nm) rfl (by kernel_rfl) (by kernel_rfl) (by kernel_rfl) (fun _ _ _ h => h) (Or.inl ⟨by rfl, fun wx hS => ?_⟩) SX.out ?_
    · have kk := hS; obtain ⟨c0, c1, c2, c3, c4, c5⟩ := RA.out wx kk; clear kk; go_simp
    try simp only [Act.put, List.getElem_toArray, List.getElem_cons_succ, List.getElem_cons_zero, List.setIfInBounds_toArray, List.set_cons_zero, List.set_cons_succ]
    refine wpAnyH_take (i := 34) (v := .int .i64 KN) rfl (by kernel_rfl) (by kernel_rfl) (by kernel_rfl) (fun _ _ _ h => h) (Or.inl ⟨by rfl, fun wx hS => ?_⟩) SX.out ?_
    · go_simp
    try simp only [Act.put, List.getElem_toArray, List.getElem_cons_succ, List.getElem_cons_zero, List.setIfInBounds_toArray, List.set_cons_zero, List.set_cons_succ]
    refine wpAnyH_ready (rs := [35]) (by kernel_rfl) (by simp) ?_
    refine AllReadyH.cons rfl (fun K hK => ?_) AllReadyH.nil
    go_simp
    refine (HOP.out _).mono ?_
    rintro e wc2 ⟨rfl, kk⟩
    replace R := Lib.hid (R.out.later kk)
    have SY := Lib.hid (below_and SX.out kk)
    clear kk SX
    have SX := SY
    clear SY
    refine hK.out _ _ SX.out (fun _ => ?_)
    clear hK
    try simp only [Act.put, List.getElem_toArray, List.getElem_cons_succ, List.getElem_cons_zero, List.setIfInBounds_toArray, List.set_cons_zero, List.set_cons_succ]
    refine wpAnyH_ready (rs := [36]) (by kernel_rfl) (by simp) ?_
    refine AllReadyH.cons rfl (fun K hK => ?_) AllReadyH.nil
    go_simp
    refine (scName _ _).mono ?_
    rintro e wc3 ⟨rfl, kk⟩
    replace R := Lib.hid (R.out.later kk)
    have SY := Lib.hid (below_and SX.out kk)
    clear kk SX
    have SX := SY
    clear SY
    refine hK.out _ _ SX.out (fun _ => ?_)
    clear hK
    try simp only [Act.put, List.getElem_toArray, List.getElem_cons_succ, List.getElem_cons_zero, List.setIfInBounds_toArray, List.set_cons_zero, List.set_cons_succ]
    refine wpAnyH_take (i := 37) (v := .bool true) rfl (by kernel_rfl) (by kernel_rfl) (by kernel_rfl) (fun _ _ _ h => h) (Or.inl ⟨by rfl, fun wx hS => ?_⟩) SX.out ?_
    · go_simp
    try simp only [Act.put, List.getElem_toArray, List.getElem_cons_succ, List.getElem_cons_zero, List.setIfInBounds_toArray, List.set_cons_zero, List.set_cons_succ]
    refine wpAnyH_take (i := 38) (v := .bool true) rfl (by kernel_rfl) (by kernel_rfl) (by kernel_rfl) (fun _ _ _ h => h) (Or.inl ⟨by rfl, fun wx hS => ?_⟩) SX.out ?_
    · go_simp
    try simp only [Act.put, List.getElem_toArray, List.getElem_cons_succ, List.getElem_cons_zero, List.setIfInBounds_toArray, List.set_cons_zero, List.set_cons_succ]
    refine wpAnyH_take (i := 39) (v := .bool true) rfl (by kernel_rfl) (by kernel_rfl) (by kernel_rfl) (fun _ _ _ h => h) (Or.inl ⟨by rfl, fun wx hS => ?_⟩) SX.out ?_
    · go_simp
    try simp only [Act.put, List.getElem_toArray, List.getElem_cons_succ, List.getElem_cons_zero, List.setIfInBounds_toArray, List.set_cons_zero, List.set_cons_succ]
    refine wpAnyH_take (i := 40) (v := .slice (some ⟨g, 6, none⟩) 324 (cap - 1)) rfl (by kernel_rfl) (by kernel_rfl) (by kernel_rfl) (fun _ _ _ h => h) (Or.inl ⟨by rfl, fun wx hS => ?_⟩) SX.out ?_
    · go_simp
    try simp only [Act.put, List.getElem_toArray, List.getElem_cons_succ, List.getElem_cons_zero, List.setIfInBounds_toArray, List.set_cons_zero, List.set_cons_succ]
    refine wpAnyH_take (i := 41) (v := .int .i64 KN) rfl (by kernel_rfl) (by kernel_rfl) (by kernel_rfl) (fun _ _ _ h => h) (Or.inl ⟨by rfl, fun wx hS => ?_⟩) SX.out ?_
    · go_simp
    try simp only [Act.put, List.getElem_toArray, List.getElem_cons_succ, List.getElem_cons_zero, List.setIfInBounds_toArray, List.set_cons_zero, List.set_cons_succ]
    refine wpAnyH_take (i := 42) (v := .int .i64 K2) rfl (by kernel_rfl) (by kernel_rfl) (by kernel_rfl) (fun _ _ _ h => h) (Or.inl ⟨by rfl, fun wx hS => ?_⟩) SX.out ?_
    · obtain ⟨E1, E2, E3, E4, E5⟩ := EE.out; clear EE; go_simp
    try simp only [Act.put, List.getElem_toArray, List.getElem_cons_succ, List.getElem_cons_zero, List.setIfInBounds_toArray, List.set_cons_zero, List.set_cons_succ]
    refine wpAnyH_take (i := 43) (v := .int .i64 (J + 1 : Nat)) rfl (by kernel_rfl) (by kernel_rfl) (by kernel_rfl) (fun _ _ _ h => h) (Or.inl ⟨by rfl, fun wx hS => ?_⟩) SX.out ?_
    · obtain ⟨E1, E2, E3, E4, E5⟩ := EE.out; clear EE; go_simp
    try simp only [Act.put, List.getElem_toArray, List.getElem_cons_succ, List.getElem_cons_zero, List.setIfInBounds_toArray, List.set_cons_zero, List.set_cons_succ]
    refine wpAnyH_take (i := 44) (v := .pointer (some ⟨g, 6 + (J + 1) * 6, none⟩)) rfl (by kernel_rfl) (by kernel_rfl) (by kernel_rfl) (fun _ _ _ h => h) (Or.inl ⟨by rfl, fun wx hS => ?_⟩) SX.out ?_
    · obtain ⟨E1, E2, E3, E4, E5⟩ := EE.out; clear EE; have E6 : (0 : Int) ≤ (J : Int) + 1 := (by omega); have E7 : (J : Int) + 1 < 324 := (by omega); go_simp
    try simp only [Act.put, List.getElem_toArray, List.getElem_cons_succ, List.getElem_cons_zero, List.setIfInBounds_toArray, List.set_cons_zero, List.set_cons_succ]
    refine wpAnyH_take (i := 45) (v := obV 7 true KN 0 0 ⟨#[]⟩) rfl (by kernel_rfl) (by kernel_rfl) (by kernel_rfl) (fun _ _ _ h => h) (Or.inl ⟨by rfl, fun wx hS => ?_⟩) SX.out ?_
    · have kk := hS; obtain ⟨c0, c1, c2, c3, c4, c5⟩ := RB.out wx kk; clear kk; go_simp
    try simp only [Act.put, List.getElem_toArray, List.getElem_cons_succ, List.getElem_cons_zero, List.setIfInBounds_toArray, List.set_cons_zero, List.set_cons_succ]
    refine wpAnyH_take (i := 46) (v := obV 7 true KN 0 0 ⟨#[]⟩) rfl (by kernel_rfl) (by kernel_rfl) (by kernel_rfl) (fun _ _ _ h => h) (Or.inl ⟨by rfl, fun wx hS => ?_⟩) SX.out ?_
    · have kk := hS; obtain ⟨⟨c0, c1, c2, c3, c4, c5⟩, _⟩ := cells6 ((kk.block _ (blk_lt OP.out)).trans OP.out); clear kk; go_simp
    try simp only [Act.put, List.getElem_toArray, List.getElem_cons_succ, List.getElem_cons_zero, List.setIfInBounds_toArray, List.set_cons_zero, List.set_cons_succ]
    refine wpAnyH_take (i := 47) (v := .bool true) rfl (by kernel_rfl) (by kernel_rfl) (by kernel_rfl) (fun _ _ _ h => h) (Or.inl ⟨by rfl, fun wx hS => ?_⟩) SX.out ?_
    · go_simp
    try simp only [Act.put, List.getElem_toArray, List.getElem_cons_succ, List.getElem_cons_zero, List.setIfInBounds_toArray, List.set_cons_zero, List.set_cons_succ]
    refine wpAnyH_take (i := 48) (v := .bool true) rfl (by kernel_rfl) (by kernel_rfl) (by kernel_rfl) (fun _ _ _ h => h) (Or.inl ⟨by rfl, fun wx hS => ?_⟩) SX.out ?_
    · go_simp
    try simp only [Act.put, List.getElem_toArray, List.getElem_cons_succ, List.getElem_cons_zero, List.setIfInBounds_toArray, List.set_cons_zero, List.set_cons_succ]
    refine wpAnyH_take (i := 49) (v := .bool true) rfl (by kernel_rfl) (by kernel_rfl) (by kernel_rfl) (fun _ _ _ h => h) (Or.inl ⟨by rfl, fun wx hS => ?_⟩) SX.out ?_
    · go_simp
    try simp only [Act.put, List.getElem_toArray, List.getElem_cons_succ, List.getElem_cons_zero, List.setIfInBounds_toArray, List.set_cons_zero, List.set_cons_succ]
    refine wpAnyH_take (i := 50) (v := ptr hb) rfl (by kernel_rfl) (by kernel_rfl) (by kernel_rfl) (fun _ _ _ h => h) (Or.inl ⟨by rfl, fun wx hS => ?_⟩) SX.out ?_
    · go_simp
    try simp only [Act.put, List.getElem_toArray, List.getElem_cons_succ, List.getElem_cons_zero, List.setIfInBounds_toArray, List.set_cons_zero, List.set_cons_succ]
    refine wpAnyH_ready (rs := [51]) (by kernel_rfl) (by simp) ?_
    refine AllReadyH.cons rfl (fun K hK => ?_) AllReadyH.nil
    go_simp
    obtain ⟨out, hsc, _⟩ := R.out.step
    have hcl := xCells hsc
    rw [show ((ds0.length : Nat) : Int) = 2 from rfl] at hcl
    refine hcl.mono ?_
    rintro e wc4 ⟨rfl, kk⟩
    replace R := Lib.hid (R.out.later kk)
    have SY := Lib.hid (below_and SX.out kk)
    clear kk SX hsc hcl
    have SX := SY
    clear SY
    refine hK.out _ _ SX.out (fun _ => ?_)
    clear hK
    try simp only [Act.put, List.getElem_toArray, List.getElem_cons_succ, List.getElem_cons_zero, List.setIfInBounds_toArray, List.set_cons_zero, List.set_cons_succ]
    refine wpAnyH_take (i := 52) (v := .bool true) rfl (by kernel_rfl) (by kernel_rfl) (by kernel_rfl) (fun _ _ _ h => h) (Or.inl ⟨by rfl, fun wx hS => ?_⟩) SX.out ?_
    · go_simp
    try simp only [Act.put, List.getElem_toArray, List.getElem_cons_succ, List.getElem_cons_zero, List.setIfInBounds_toArray, List.set_cons_zero, List.set_cons_succ]
    refine wpAnyH_take (i := 53) (v := .bool true) rfl (by kernel_rfl) (by kernel_rfl) (by kernel_rfl) (fun _ _ _ h => h) (Or.inl ⟨by rfl, fun wx hS => ?_⟩) SX.out ?_
    · go_simp
    try simp only [Act.put, List.getElem_toArray, List.getElem_cons_succ, List.getElem_cons_zero, List.setIfInBounds_toArray, List.set_cons_zero, List.set_cons_succ]
    refine wpAnyH_take (i := 54) (v := .bool true) rfl (by kernel_rfl) (by kernel_rfl) (by kernel_rfl) (fun _ _ _ h => h) (Or.inl ⟨by rfl, fun wx hS => ?_⟩) SX.out ?_
    · go_simp
    try simp only [Act.put, List.getElem_toArray, List.getElem_cons_succ, List.getElem_cons_zero, List.setIfInBounds_toArray, List.set_cons_zero, List.set_cons_succ]
    refine wpAnyH_done (by kernel_rfl) ?_ _
    (try refine no_panic ?_)
    go_wp2
    go_ret
    exact ⟨rfl, R.out.below⟩
end Go.Proofs.Ytlkbnldpecolbaa
