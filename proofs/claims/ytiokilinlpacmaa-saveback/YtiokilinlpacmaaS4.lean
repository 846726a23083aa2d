/- Walks of save: Save. -/
import Derived.Test.YtiokilinlpacmaaS3
namespace Go.Proofs.Ytiokilinlpacmaa
open Go.RowKit
set_option linter.unusedVariables false
set_option linter.unusedSimpArgs false

theorem svC_one (n : Int) (g : Nat) : ∀ v ∈ svC n g, v.oneCell' = true := by
  intro v hv
  simp only [svC, List.mem_cons, List.not_mem_nil, or_false] at hv
  rcases hv with rfl | rfl | rfl | rfl | rfl | rfl | rfl <;> rfl
theorem no_panic {Q : Exit → Act → World → Prop} {a : Act} {w : World} (h : Q .normal a w) : NoPanic Q .normal a w := h
theorem kept_drew {own : Nat → Prop} {w w' : World} (h : Kept own w.drew w') : Kept own w w' := ⟨h.os, h.tape, h.output, h.size, h.block⟩
theorem SH.zero {own : Nat → Prop} {hb sb last : Nat} {P : List Cel} {L : List Sv} {w : World} (h : SH own hb P sb L last w) :
    ∃ w', w.alloc (.cells #[.int .i64 0, .bool false, .int .i64 0, .int .i64 0, .int .i64 0, .string ⟨#[]⟩] 29) = w' ∧ SH (fun b => own b ∨ b = w.heap.size) hb P sb L last w' ∧ Kept own w w' ∧ w'.heap[w.heap.size]? = some emptyOb := h.box_ob _ _ _ _ _ _
section
variable {own : Nat → Prop} {hb sb last last' A : Nat} {P : List Cel} {L L' : List Sv} {w w1 : World}
theorem SH.only (h : SH own hb P sb L last w) (k : Only sb w w1) (s : SAt w1 sb L' last') (hg : svG L' = svG L) : SH own hb P sb L' last' w1 ∧ Kept own w w1 :=
  ⟨⟨by rw [hg]; exact h.many.only (.inr rfl) k, s, h.nown⟩, kept_only k h.nown⟩
theorem SH.put (h : SH own hb P sb L last w) (hA : own A) (k : Only A w w1) : SH own hb P sb L last w1 :=
  ⟨h.many.only (.inl hA) k, h.sat.same (k.block _ fun e => h.nown (e ▸ hA)) (by rw [k.size]; exact Nat.le_refl _), h.nown⟩
end
/-- What the statement that stores an entry reads. -/
def SaveS (w : World) (sb A n : Nat) (m : Int) : Prop :=
  w.cell? ⟨sb, 70, none⟩ = some (.int .i64 n) ∧ w.cell? ⟨A, 0, none⟩ = some (.int .i64 11) ∧ w.cell? ⟨A, 1, none⟩ = some (.bool false) ∧ w.cell? ⟨A, 2, none⟩ = some (.int .i64 m) ∧ w.cell? ⟨A, 3, none⟩ = some (.int .i64 0) ∧ w.cell? ⟨A, 4, none⟩ = some (.int .i64 0) ∧ w.cell? ⟨A, 5, none⟩ = some (.string ⟨#[]⟩)
theorem SaveS.same {w w' : World} {sb A n : Nat} {m : Int} (h : SaveS w sb A n m) (h1 : w'.heap[sb]? = w.heap[sb]?) (h2 : w'.heap[A]? = w.heap[A]?) : SaveS w' sb A n m := by
  have c : ∀ j, w'.cell? ⟨sb, j, none⟩ = w.cell? ⟨sb, j, none⟩ := fun j => World.cell?_of_block (w := w) h1
  have d : ∀ j, w'.cell? ⟨A, j, none⟩ = w.cell? ⟨A, j, none⟩ := fun j => World.cell?_of_block (w := w) h2
  simp only [SaveS, c, d]
  exact h
theorem SaveS.put {w : World} {sb A n : Nat} {m : Int} (h : SaveS w sb A n m) (hA : A ≠ sb) (hn : n < 10) (vs : List Value) (hv : vs.length = 7) : SaveS (w.setCells sb (n * 7) vs) sb A n m := by
  have d : ∀ j, (w.setCells sb (n * 7) vs).cell? ⟨A, j, none⟩ = w.cell? ⟨A, j, none⟩ := fun j => World.cell?_setCells_out sb vs _ w _ (fun e _ => absurd e hA)
  have c : (w.setCells sb (n * 7) vs).cell? ⟨sb, 70, none⟩ = w.cell? ⟨sb, 70, none⟩ := World.cell?_setCells_out sb vs _ w _ (fun _ _ => .inr (by show n * 7 + vs.length ≤ 70; omega))
  simp only [SaveS, c, d]
  exact h
theorem SAt.room {w : World} {sb last : Nat} {L : List Sv} (h : SAt w sb L last) (hl : L.length < 10) : ∃ v0 v1 v2 v3 v4 v5 v6, (w.cell? ⟨sb, L.length * 7, none⟩ = some v0 ∧ w.cell? ⟨sb, L.length * 7 + 1, none⟩ = some v1 ∧ w.cell? ⟨sb, L.length * 7 + 2, none⟩ = some v2 ∧ w.cell? ⟨sb, L.length * 7 + 3, none⟩ = some v3 ∧ w.cell? ⟨sb, L.length * 7 + 4, none⟩ = some v4 ∧ w.cell? ⟨sb, L.length * 7 + 5, none⟩ = some v5 ∧ w.cell? ⟨sb, L.length * 7 + 6, none⟩ = some v6) ∧
    w.frozen? ⟨sb, L.length * 7, none⟩ = false ∧ w.frozen? ⟨sb, L.length * 7 + 1, none⟩ = false ∧ w.frozen? ⟨sb, L.length * 7 + 2, none⟩ = false ∧ w.frozen? ⟨sb, L.length * 7 + 3, none⟩ = false ∧ w.frozen? ⟨sb, L.length * 7 + 4, none⟩ = false ∧ w.frozen? ⟨sb, L.length * 7 + 5, none⟩ = false ∧ w.frozen? ⟨sb, L.length * 7 + 6, none⟩ = false := by
  have c : ∀ j, j < 7 → ∃ v, w.cell? ⟨sb, L.length * 7 + j, none⟩ = some v := fun j hj => by
    have := (h.there (L.length * 7 + j) (by omega)).1
    rw [Nat.zero_add] at this
    exact Option.isSome_iff_exists.1 this
  have f : ∀ j, j < 7 → w.frozen? ⟨sb, L.length * 7 + j, none⟩ = false := fun j hj => by
    have := (h.there (L.length * 7 + j) (by omega)).2
    rw [Nat.zero_add] at this
    exact this
  obtain ⟨v0, c0⟩ := c 0 (by decide)
  obtain ⟨v1, c1⟩ := c 1 (by decide)
  obtain ⟨v2, c2⟩ := c 2 (by decide)
  obtain ⟨v3, c3⟩ := c 3 (by decide)
  obtain ⟨v4, c4⟩ := c 4 (by decide)
  obtain ⟨v5, c5⟩ := c 5 (by decide)
  obtain ⟨v6, c6⟩ := c 6 (by decide)
  exact ⟨v0, v1, v2, v3, v4, v5, v6, ⟨c0, c1, c2, c3, c4, c5, c6⟩, f 0 (by decide), f 1 (by decide), f 2 (by decide), f 3 (by decide), f 4 (by decide), f 5 (by decide), f 6 (by decide)⟩
set_option maxHeartbeats 1000000 in
set_option maxRecDepth 100000 in
theorem svSave_ok {own : Nat → Prop} {hb sb last : Nat} {P : List Cel} {L : List Sv} {w : World} (h : SH own hb P sb L last w) (hl : L.length < 10) (hL : last < 4611686018427387904) :
    Calls Try.prog 12 #[ptr sb, ptr hb] w fun e w' => e = .returned (.tuple #[obV 11 false ((last + 1 : Nat) : Int) 0 0 ⟨#[]⟩, .int .i64 0]) ∧ (∃ g, SH own hb P sb (L ++ [⟨last + 1, g, P⟩]) (last + 1) w') ∧ Kept own w w' := by
  have H := Lib.hid h
  have HL := Lib.hid hl
  have e1 : IntKind.i64.wrap ((last : Int) + 1) = ((last + 1 : Nat) : Int) := by rw [IntWalk.i64_in _ (by omega)]; omega
  have e2 : IntKind.i64.wrap ((L.length : Int) + 1) = ((L.length + 1 : Nat) : Int) := by rw [IntWalk.i64_in _ (by omega)]; omega
  have hn : ¬ ((L.length : Int) = 10) := by omega
  clear h hl hL
  go_enter Try.func12, Try.ntmps12
  go_upto_region 1 with fail
  obtain ⟨wa, ea, sa, ka, oa⟩ := H.out.zero
  rw [ea]
  have SA := Lib.hid sa
  have KA := Lib.hid ka
  have OA := Lib.hid oa
  have c70 := sa.sat.count
  have c71 := sa.sat.last
  have f71 := (sa.sat.there 71 (by decide)).2
  simp only [Nat.zero_add] at f71
  obtain ⟨⟨o0, o1, o2, o3, o4, o5⟩, g0, g1, g2, g3, g4, g5⟩ := cells6 oa
  clear ea sa ka oa
  go_upto_region 6 with fail
  obtain ⟨w1, ew1⟩ : ∃ w1, wa.setCell ⟨sb, 71, none⟩ (.int .i64 ((last : Int) + 1)) = w1 := ⟨_, rfl⟩
  rw [ew1]
  have q1 := SA.out.only (last' := last + 1) (w1 := w1) (by rw [← ew1]; exact (Only.refl _ _).set 71 _) (by rw [← ew1]; exact SA.out.sat.put71 (last + 1)) rfl
  have S1 := Lib.hid q1.1
  have K1 := Lib.hid (KA.out.trans (q1.2.sub fun _ h => .inl h))
  have o1 := (q1.2.block _ (.inr rfl)).trans OA.out
  have O1 := Lib.hid o1
  clear c70 c71 f71 o0 o1 o2 o3 o4 o5 g0 g1 g2 g3 g4 g5 q1 ew1
  have c71 : w1.cell? ⟨sb, 71, none⟩ = some (.int .i64 ((last : Int) + 1)) := S1.out.sat.last
  obtain ⟨⟨o0, o1, o2, o3, o4, o5⟩, g0, g1, g2, g3, g4, g5⟩ := cells6 O1.out
  go_upto_region 7 with fail
  obtain ⟨w2, ew2⟩ : ∃ w2, w1.setCells w.heap.size 0 [.int .i64 11, .bool false, .int .i64 ((last : Int) + 1), .int .i64 0, .int .i64 0, .string ⟨#[]⟩] = w2 := ⟨_, rfl⟩
  have on2 : Only w.heap.size w1 w2 := by rw [← ew2]; exact only_cells _ _ _ _
  have o2b : w2.heap[w.heap.size]? = some (obObj 11 false ((last : Int) + 1) 0 0 ⟨#[]⟩) := by rw [← ew2]; exact set6 O1.out _ _ _ _ _ _
  change Code.wp _ _ _ _ (w1.setCells w.heap.size 0 [.int .i64 11, .bool false, .int .i64 ((last : Int) + 1), .int .i64 0, .int .i64 0, .string ⟨#[]⟩])
  rw [ew2]
  have S2 := Lib.hid (S1.out.put (.inr rfl) on2)
  have K2 := Lib.hid (K1.out.trans (kept_only on2 (fun q => by have := H.out.lt q; omega)))
  have O2 := Lib.hid o2b
  clear c71 o0 o1 o2 o3 o4 o5 g0 g1 g2 g3 g4 g5 ew2 on2 o2b
  have GO : Hid (SaveS w2.drew sb w.heap.size L.length ((last : Int) + 1)) := Lib.hid (by obtain ⟨o0, o1, o2, o3, o4, o5⟩ := ob_cells O2.out; exact ⟨S2.out.sat.count, o0, o1, o2, o3, o4, o5⟩)
  have hc := Lib.hid (fun wx (kx : Below w2.heap.size w2 wx) => manyCopy (S2.out.below kx).1.many)
  have i1 : (L.length : Int) < 10 := by have := HL.out; omega
  have i0 : (0 : Int) ≤ L.length := by omega
  have NA : Hid (w.heap.size ≠ sb) := Lib.hid (by have := H.out.sat.lt; omega)
  refine wp_region_noPanic ?_
  refine wp_region_held_drew (S := fun wx => SaveS wx sb w.heap.size L.length ((last : Int) + 1)) (by kernel_rfl) GO.out (fun _ => ?_)
  refine wpAnyH_take (i := 0) (v := ptr sb) rfl (by kernel_rfl) (by kernel_rfl) (by kernel_rfl) (fun _ _ _ h => h) (Or.inl ⟨by rfl, fun wx ⟨q0, q1, q2, q3, q4, q5, q6⟩ => ?_⟩) GO.out ?_
  · go_simp
  simp only [Act.put, List.setIfInBounds_toArray, List.set_cons_zero, List.set_cons_succ]
  refine wpAnyH_take (i := 1) (v := ptr sb) rfl (by kernel_rfl) (by kernel_rfl) (by kernel_rfl) (fun _ _ _ h => h) (Or.inl ⟨by rfl, fun wx ⟨q0, q1, q2, q3, q4, q5, q6⟩ => ?_⟩) GO.out ?_
  · go_simp
  simp only [Act.put, List.setIfInBounds_toArray, List.set_cons_zero, List.set_cons_succ]
  refine wpAnyH_take (i := 2) (v := ptr sb) rfl (by kernel_rfl) (by kernel_rfl) (by kernel_rfl) (fun _ _ _ h => h) (Or.inl ⟨by rfl, fun wx ⟨q0, q1, q2, q3, q4, q5, q6⟩ => ?_⟩) GO.out ?_
  · go_simp
  simp only [Act.put, List.setIfInBounds_toArray, List.set_cons_zero, List.set_cons_succ]
  refine wpAnyH_take (i := 3) (v := .pointer (some ⟨sb, 70, none⟩)) rfl (by kernel_rfl) (by kernel_rfl) (by kernel_rfl) (fun _ _ _ h => h) (Or.inl ⟨by rfl, fun wx ⟨q0, q1, q2, q3, q4, q5, q6⟩ => ?_⟩) GO.out ?_
  · go_simp
  simp only [Act.put, List.setIfInBounds_toArray, List.set_cons_zero, List.set_cons_succ]
  refine wpAnyH_take (i := 4) (v := .int .i64 L.length) rfl (by kernel_rfl) (by kernel_rfl) (by kernel_rfl) (fun _ _ _ h => h) (Or.inl ⟨by rfl, fun wx ⟨q0, q1, q2, q3, q4, q5, q6⟩ => ?_⟩) GO.out ?_
  · go_simp
  simp only [Act.put, List.setIfInBounds_toArray, List.set_cons_zero, List.set_cons_succ]
  refine wpAnyH_take (i := 5) (v := obV 11 false ((last : Int) + 1) 0 0 ⟨#[]⟩) rfl (by kernel_rfl) (by kernel_rfl) (by kernel_rfl) (fun _ _ _ h => h) (Or.inl ⟨by rfl, fun wx ⟨q0, q1, q2, q3, q4, q5, q6⟩ => ?_⟩) GO.out ?_
  · go_simp
  simp only [Act.put, List.setIfInBounds_toArray, List.set_cons_zero, List.set_cons_succ]
  refine wpAnyH_take (i := 6) (v := ptr hb) rfl (by kernel_rfl) (by kernel_rfl) (by kernel_rfl) (fun _ _ _ h => h) (Or.inl ⟨by rfl, fun wx ⟨q0, q1, q2, q3, q4, q5, q6⟩ => ?_⟩) GO.out ?_
  · go_simp
  simp only [Act.put, List.setIfInBounds_toArray, List.set_cons_zero, List.set_cons_succ]
  refine wpAnyH_take (i := 9) (v := ptr sb) rfl (by kernel_rfl) (by kernel_rfl) (by kernel_rfl) (fun _ _ _ h => h) (Or.inl ⟨by rfl, fun wx ⟨q0, q1, q2, q3, q4, q5, q6⟩ => ?_⟩) GO.out ?_
  · go_simp
  simp only [Act.put, List.setIfInBounds_toArray, List.set_cons_zero, List.set_cons_succ]
  refine wpAnyH_take (i := 10) (v := .pointer (some ⟨sb, 0, none⟩)) rfl (by kernel_rfl) (by kernel_rfl) (by kernel_rfl) (fun _ _ _ h => h) (Or.inl ⟨by rfl, fun wx ⟨q0, q1, q2, q3, q4, q5, q6⟩ => ?_⟩) GO.out ?_
  · go_simp
  simp only [Act.put, List.setIfInBounds_toArray, List.set_cons_zero, List.set_cons_succ]
  refine wpAnyH_ready (rs := [7]) (by kernel_rfl) (by simp) ?_
  refine AllReadyH.cons rfl (fun K hK => ?_) AllReadyH.nil
  go_simp
  refine (hc.out _ ((Below.refl _ w2).drew)).mono ?_
  rintro e w3 ⟨gb, rfl, m3, k3⟩
  have T3 := Lib.hid (S2.out.sat.same (w' := w3) (k3.block _ (.inr rfl)) k3.size)
  have M3 := Lib.hid m3
  have G3 : Hid (SaveS w3 sb w.heap.size L.length ((last : Int) + 1)) := Lib.hid (GO.out.same (k3.block _ (.inr rfl)) (k3.block _ (.inl (.inr rfl))))
  have K3 := Lib.hid (K2.out.trans (kept_drew (k3.sub fun _ h => .inl (.inl h))))
  have O3 := Lib.hid ((k3.block _ (.inl (.inr rfl))).trans O2.out)
  clear m3 k3
  refine hK.out _ _ G3.out (fun _ => ?_)
  clear hK
  try simp only [Act.put, List.setIfInBounds_toArray, List.set_cons_zero, List.set_cons_succ]
  refine wpAnyH_take (i := 8) (v := .agg #[.int .i64 11, .bool false, .int .i64 ((last : Int) + 1), .int .i64 0, .int .i64 0, .string ⟨#[]⟩, ptr gb]) rfl (by kernel_rfl) (by kernel_rfl) (by kernel_rfl) (fun _ _ _ h => h) (Or.inl ⟨by rfl, fun wx ⟨q0, q1, q2, q3, q4, q5, q6⟩ => ?_⟩) G3.out ?_
  · go_simp
  simp only [Act.put, List.setIfInBounds_toArray, List.set_cons_zero, List.set_cons_succ]
  refine wpAnyH_take (i := 11) (v := .pointer (some ⟨sb, L.length * 7, none⟩)) rfl (by kernel_rfl) (by kernel_rfl) (by kernel_rfl) (fun _ _ _ h => h) (Or.inl ⟨by rfl, fun wx ⟨q0, q1, q2, q3, q4, q5, q6⟩ => ?_⟩) G3.out ?_
  · go_simp
  simp only [Act.put, List.setIfInBounds_toArray, List.set_cons_zero, List.set_cons_succ]
  refine wpAnyH_ready (rs := [12]) (by kernel_rfl) (by simp) ?_
  refine AllReadyH.cons rfl (fun K hK => ?_) AllReadyH.nil
  rw [if_pos (by rfl)]
  refine wp_store_mid _ _ _ rfl sb (L.length * 7) (svC ((last : Int) + 1) gb).toArray rfl rfl (fun j hj => ?_) (by kernel_rfl) (all_oneCell_toArray (svC_one _ _)) ?_
  · have := T3.out.there (L.length * 7 + j) (by have := HL.out; simp at hj; omega)
    simpa using this
  refine hK.out _ _ (G3.out.put NA.out HL.out _ rfl) (fun _ => ?_)
  clear hK
  refine wpAnyH_done (by kernel_rfl) ?_ _
  refine no_panic ?_
  simp only [Act.put, List.getElem_toArray, List.getElem_cons_succ, List.getElem_cons_zero, List.setIfInBounds_toArray, List.set_cons_zero, List.set_cons_succ]
  obtain ⟨w4, ew4⟩ : ∃ w4, w3.setCells sb (L.length * 7) (svC ((last : Int) + 1) gb) = w4 := ⟨_, rfl⟩
  have on4 : Only sb w3 w4 := by rw [← ew4]; exact only_cells _ _ _ _
  have pe := T3.out.putE L.length (svC ((last : Int) + 1) gb) (by have := HL.out; show L.length * 7 + 7 ≤ 70; omega)
  have pu := T3.out.push HL.out (last + 1) gb P
  rw [show svC (((last + 1 : Nat) : Int)) gb = svC ((last : Int) + 1) gb from rfl] at pu
  rw [ew4] at pe pu ⊢
  have c70 : w4.cell? ⟨sb, 70, none⟩ = some (.int .i64 L.length) := pe.2.2.1
  have f70 : w4.frozen? ⟨sb, 70, none⟩ = false := by
    have := (pe.1 70 (by decide)).2
    simpa using this
  have PU := Lib.hid pu
  have ON := Lib.hid on4
  clear ew4 on4 pe pu GO G3
  simp only [Exit.then]
  go_upto_region 9 with fail
  obtain ⟨w5, ew5⟩ : ∃ w5, w4.setCell ⟨sb, 70, none⟩ (.int .i64 (((L.length + 1 : Nat)) : Int)) = w5 := ⟨_, rfl⟩
  have on5 : Only sb w3 w5 := by rw [← ew5]; exact ON.out.set 70 _
  have pu := PU.out
  rw [ew5] at pu
  change Code.wp _ _ _ _ (w4.setCell ⟨sb, 70, none⟩ (.int .i64 (((L.length + 1 : Nat)) : Int)))
  rw [ew5]
  have S5 : Hid (SH (fun b => own b ∨ b = w.heap.size) hb P sb (L ++ [⟨last + 1, gb, P⟩]) (last + 1) w5) := Lib.hid ⟨by rw [svG_append]; exact M3.out.only (.inr rfl) on5, pu, S2.out.nown⟩
  have K5 := Lib.hid (K3.out.trans (kept_only on5 H.out.nown))
  have O5 := Lib.hid ((on5.block _ NA.out).trans O3.out)
  clear c70 f70 ew5 on5 pu o1
  obtain ⟨⟨o0, o1, o2, o3, o4, o5⟩, g0, g1, g2, g3, g4, g5⟩ := cells6 O5.out
  go_wp2
  (try simp only [Exit.inBlock, Exit.then])
  have on6 := only6 w.heap.size w5 (.int .i64 11) (.bool false) (.int .i64 ((last : Int) + 1)) (.int .i64 0) (.int .i64 0) (.string ⟨#[]⟩)
  refine bodyPost_ret (ret_cell rfl _ _ _ _ _ _ _ _ rfl rfl (set6 O5.out _ _ _ _ _ _) Try.underlying29 rfl (by kernel_rfl)) rfl ⟨rfl, ⟨gb, (S5.out.put (.inr rfl) on6).sub fun _ h => .inl h⟩, K5.out.trans (kept_only on6 fun q => by have := H.out.lt q; omega)⟩
set_option maxHeartbeats 1000000 in
set_option maxRecDepth 100000 in
theorem svSave_full {own : Nat → Prop} {hb sb last : Nat} {P : List Cel} {L : List Sv} {w : World} (h : SH own hb P sb L last w) (hl : L.length = 10) :
    Calls Try.prog 12 #[ptr sb, ptr hb] w fun e w' => e = .returned (.tuple #[zeroOb, .int .i64 5]) ∧ SH own hb P sb L last w' ∧ Kept own w w' := by
  have H := Lib.hid h
  have c70 := h.sat.count
  rw [hl] at c70
  clear h
  go_enter Try.func12, Try.ntmps12
  go_upto_region 1 with fail
  obtain ⟨wa, ea, sa, ka, oa⟩ := H.out.zero
  rw [ea]
  have SA := Lib.hid sa
  have KA := Lib.hid ka
  have OA := Lib.hid oa
  have d70 : wa.cell? ⟨sb, 70, none⟩ = some (.int .i64 10) := by
    have := sa.sat.count
    rw [hl] at this
    exact this
  obtain ⟨⟨o0, o1, o2, o3, o4, o5⟩, g0, g1, g2, g3, g4, g5⟩ := cells6 oa
  clear ea sa ka oa c70
  go_wp2
  (try simp only [Exit.inBlock, Exit.then])
  have on6 := only6 w.heap.size wa (.int .i64 0) (.bool false) (.int .i64 0) (.int .i64 0) (.int .i64 0) (.string ⟨#[]⟩)
  refine bodyPost_ret (ret_cell rfl _ _ _ _ _ _ _ _ rfl rfl (set6 OA.out _ _ _ _ _ _) Try.underlying29 rfl (by kernel_rfl)) rfl ⟨rfl, (SA.out.put (.inr rfl) on6).sub fun _ h => .inl h, KA.out.trans (kept_only on6 fun q => by have := H.out.lt q; omega)⟩
end Go.Proofs.Ytiokilinlpacmaa
