/- Walks of save: Back. -/
import Derived.Test.YtiokilinlpacmaaS4
namespace Go.Proofs.Ytiokilinlpacmaa
open Go.RowKit
set_option linter.unusedVariables false

theorem sv_info : (Try.prog.info? 94).bind (fun i => i.zero.map fun z => (z.cells.size, z.cells.all (·.oneCell'))) = some (7, true) := by kernel_rfl
theorem sv_zero : ∃ z, (∀ w, (zeroValue 94).run Try.prog w = .ok z w) ∧ z.cells.size = 7 ∧ z.cells.all (·.oneCell') = true := by
  have h := sv_info
  cases hi : Try.prog.info? 94 with
  | none => rw [hi] at h; simp at h
  | some i =>
    rw [hi] at h
    cases hz : i.zero with
    | none => simp [hz] at h
    | some z => simp [hz] at h; exact ⟨z, fun w => by simp [zeroValue, typeInfo, hi, hz], h.1, by simpa using h.2⟩
theorem sv_clear (sb i n : Nat) (hn : 0 < n) (hl : i + n = 10) (w : World) (ht : w.there sb 0 72) : ∃ vs : List Value, i * 7 + vs.length = 70 ∧ ∀ ty, (Builtin.clear_ #[100] ty #[.slice (some ⟨sb, i * 7, none⟩) n n]).run Try.prog w = .ok (.tuple #[]) (w.setCells sb (i * 7) vs) := by
  obtain ⟨z, hz, h7, h1⟩ := sv_zero
  have hs : (Builtin.zeroCells z.cells n).size = n * 7 := by simp [Builtin.zeroCells, h7]
  have hlen : (Builtin.zeroCells z.cells n).toList.length = n * 7 := by simpa using hs
  refine ⟨(Builtin.zeroCells z.cells n).toList, by rw [hlen]; omega, fun ty => ?_⟩
  have hst := run_storeCells_cells (P := Try.prog) sb (i * 7) (Builtin.zeroCells z.cells n).toList 0 w
    (fun j hj => by have := (ht (i * 7 + j) (by rw [hlen] at hj; omega)).1; simpa using this)
    (fun j hj => by have := (ht (i * 7 + j) (by rw [hlen] at hj; omega)).2; simpa using this) (by
      intro v hv
      obtain ⟨j, hj⟩ := List.mem_iff_getElem?.1 hv
      have hj' : (Builtin.zeroCells z.cells n)[j]? = some v := by simpa using hj
      unfold Builtin.zeroCells at hj'
      rw [Array.getElem?_map] at hj'
      simp at hj'
      obtain ⟨a, ha, rfl⟩ := hj'
      have hlt : a % z.cells.size < z.cells.size := Nat.mod_lt _ (by omega)
      rw [getElem!_pos z.cells _ hlt]
      exact (Array.all_eq_true.1 h1) _ hlt)
  simp only [Nat.add_zero] at hst
  obtain ⟨m, rfl⟩ : ∃ m, n = m + 1 := ⟨n - 1, by omega⟩
  simp [Builtin.clear_, run_underlying Try.underlying100, hz, hst]
set_option maxHeartbeats 1000000 in
set_option maxRecDepth 100000 in
theorem back_none (sb hb : Nat) (k n a l : Int) (x : Bool) (s : ByteArray) (w : World)
    (hf : Hid (∀ wx, Below w.heap.size w wx → Calls Try.prog 59 #[ptr sb, obV k x n a l s] wx fun e w' => e = .returned (.tuple #[.int .i64 0, .bool false]) ∧ Below wx.heap.size wx w')) :
    Calls Try.prog 13 #[ptr sb, ptr hb, obV k x n a l s] w fun e w' => e = .returned (.int .i64 17) ∧ Below w.heap.size w w' := by
  go_enter Try.func13, Try.ntmps13
  go_upto_region 1 with fail
  obtain ⟨wb, eb, kb, zb, c0, c1, c2, c3, c4, c5⟩ := ob_box w k n a l x s
  rw [eb]
  go_wp2_with fail
  refine (hf.out _ kb).mono ?_
  rintro e wc ⟨rfl, kc⟩
  have KC := Lib.hid (below_and kb kc)
  clear eb kb kc c0 c1 c2 c3 c4 c5
  go_wp2
  go_ret
  exact ⟨rfl, KC.out⟩
set_option maxHeartbeats 1000000 in
set_option maxRecDepth 100000 in
theorem back_some {own : Nat → Prop} {hb sb last : Nat} {P : List Cel} {L : List Sv} (i m : Nat) (t : Sv) (k n a l : Int) (x : Bool) (s : ByteArray) (w : World) (h : SH own hb P sb L last w) (hi : L[i]? = some t) (hm : i + m = 10)
    (hf : Hid (∀ wx, Below w.heap.size w wx → Calls Try.prog 59 #[ptr sb, obV k x n a l s] wx fun e w' => e = .returned (.tuple #[.int .i64 i, .bool true]) ∧ Below wx.heap.size wx w')) :
    Calls Try.prog 13 #[ptr sb, ptr hb, obV k x n a l s] w fun e w' => e = .returned (.int .i64 0) ∧ SH own hb t.q sb (L.take i) last w' ∧ Kept own w w' := by
  have H := Lib.hid h
  have HI := Lib.hid hi
  have HM := Lib.hid hm
  have HL := Lib.hid (List.getElem?_eq_some_iff.1 hi).1
  have i1 : (i : Int) < 10 := by have := HL.out; have := h.sat.len; omega
  have i0 : (0 : Int) ≤ i := by omega
  have i2 : (i : Int) ≤ 10 := by omega
  have i3 : 10 - i = m := by omega
  clear h hi hm
  go_enter Try.func13, Try.ntmps13
  go_upto_region 1 with fail
  obtain ⟨wb, eb, kb, zb, c0, c1, c2, c3, c4, c5⟩ := ob_box w k n a l x s
  rw [eb]
  go_wp2_with fail
  refine (hf.out _ kb).mono ?_
  rintro e wc ⟨rfl, kc⟩
  have HC := Lib.hid (H.out.below (below_and kb kc))
  have c6 := (ent_cells HC.out.1.sat HI.out).2.2.2.2.2.2
  clear eb kb kc c0 c1 c2 c3 c4 c5
  go_wp2_with fail
  refine (manyBecome HC.out.1.many (svG_get HI.out)).mono ?_
  rintro e wd ⟨rfl, md, kd⟩
  have HD : Hid (SH own hb t.q sb L last wd) := Lib.hid ⟨md, HC.out.1.sat.same (kd.block _ (.inr rfl)) kd.size, HC.out.1.nown⟩
  have KD := Lib.hid (HC.out.2.trans (kd.sub fun _ q => .inl q))
  clear md kd c6
  obtain ⟨vs, hv, hcl⟩ := sv_clear sb i m (by have := HL.out; have := HM.out; have := HD.out.sat.len; omega) HM.out wd HD.out.sat.there
  have HV := Lib.hid hv
  clear hv
  go_upto_region 8 with fail
  obtain ⟨we, ewe⟩ : ∃ we, wd.setCells sb (i * 7) vs = we := ⟨_, rfl⟩
  have onE : Only sb wd we := by rw [← ewe]; exact only_cells _ _ _ _
  have pe := HD.out.sat.putE i vs (by have := HV.out; omega)
  have cu := HD.out.sat.cut i (by have := HL.out; omega) vs (by have := HV.out; omega)
  rw [ewe] at pe cu ⊢
  have c70 := pe.2.2.1
  have f70 : we.frozen? ⟨sb, 70, none⟩ = false := by
    have := (pe.1 70 (by decide)).2
    simpa using this
  have CU := Lib.hid cu
  have ON : Hid (Only sb wd (we.setCell ⟨sb, 70, none⟩ (.int .i64 i))) := Lib.hid (onE.set 70 _)
  clear ewe onE pe cu hcl
  go_wp2
  go_ret
  refine ⟨rfl, ⟨by rw [svG_take]; exact (HD.out.many.take i).only (.inr rfl) ON.out, CU.out, HD.out.nown⟩, KD.out.trans (kept_only ON.out HD.out.nown)⟩
section
variable {own : Nat → Prop} {hb sb last : Nat} {P : List Cel} {L : List Sv} {w : World}
theorem svBack_no (h : SH own hb P sb L last w) (o : Ob) (ha : atS L o = none) : Calls Try.prog 13 #[ptr sb, ptr hb, o.val] w fun e w' => e = .returned (.int .i64 17) ∧ SH own hb P sb L last w' ∧ Kept own w w' := by
  refine (back_none sb hb o.k o.n o.a o.l o.x o.s w (Lib.hid fun wx kx => svFind (h.below kx).1.sat o ha)).mono ?_
  rintro e w' ⟨rfl, k⟩
  exact ⟨rfl, h.below k⟩
theorem svBack_ok (h : SH own hb P sb L last w) (o : Ob) {i : Nat} {t : Sv} (ha : atS L o = some i) (ht : L[i]? = some t) : Calls Try.prog 13 #[ptr sb, ptr hb, o.val] w fun e w' => e = .returned (.int .i64 0) ∧ SH own hb t.q sb (L.take i) last w' ∧ Kept own w w' := by
  have := atS_lt ha
  have := h.sat.len
  exact back_some i (10 - i) t o.k o.n o.a o.l o.x o.s w h ht (by omega) (Lib.hid fun wx kx => svFind (h.below kx).1.sat o ha)
end
end Go.Proofs.Ytiokilinlpacmaa
