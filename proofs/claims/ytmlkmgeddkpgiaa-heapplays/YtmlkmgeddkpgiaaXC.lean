/- XC: S5, K30, S6, Q12, Q13, Q14. -/
import Derived.Test.YtmlkmgeddkpgiaaXA
import Derived.Test.YtmlkmgeddkpgiaaK26
import Derived.Test.YtmlkmgeddkpgiaaXB
/- Walks of save: Back. -/
namespace Go.Proofs.Ytmlkmgeddkpgiaa
open Go.RowKit
set_option linter.unusedVariables false

theorem sv_info : (Try.prog.info? 132).bind (fun i => i.zero.map fun z => (z.cells.size, z.cells.all (·.oneCell'))) = some (7, true) := by kernel_rfl
theorem sv_zero : ∃ z, (∀ w, (zeroValue 132).run Try.prog w = .ok z w) ∧ z.cells.size = 7 ∧ z.cells.all (·.oneCell') = true := by
  have h := sv_info
  cases hi : Try.prog.info? 132 with
  | none => rw [hi] at h; simp at h
  | some i =>
    rw [hi] at h
    cases hz : i.zero with
    | none => simp [hz] at h
    | some z => simp [hz] at h; exact ⟨z, fun w => by simp [zeroValue, typeInfo, hi, hz], h.1, by simpa using h.2⟩
theorem sv_clear (sb i n : Nat) (hn : 0 < n) (hl : i + n = 10) (w : World) (ht : w.there sb 0 72) : ∃ vs : List Value, i * 7 + vs.length = 70 ∧ ∀ ty, (Builtin.clear_ #[138] ty #[.slice (some ⟨sb, i * 7, none⟩) n n]).run Try.prog w = .ok (.tuple #[]) (w.setCells sb (i * 7) vs) := by
  obtain ⟨z, hz, h7, h1⟩ := sv_zero
  have hs : (Builtin.zeroCells z.cells n).size = n * 7 := by simp [Builtin.zeroCells, h7]
  have hlen : (Builtin.zeroCells z.cells n).toList.length = n * 7 := by simpa using hs
  refine ⟨(Builtin.zeroCells z.cells n).toList, by rw [hlen]; omega, fun ty => ?_⟩
  have hst := run_storeCells_cells (P := Try.prog) sb (i * 7) (Builtin.zeroCells z.cells n).toList 0 w
    (fun j hj => by have := (ht (i * 7 + j) (by rw [hlen] at hj; omega)).1; simpa using this)
    (fun j hj => by have := (ht (i * 7 + j) (by rw [hlen] at hj; omega)).2; simpa using this) (by
      intro v hv
      obtain ⟨j, hj⟩ := List.mem_iff_getElem?.1 hv
      have hj' : (Builtin.zeroCells z.cells n)[j]? = some v := by simpa using hj
      unfold Builtin.zeroCells at hj'
      rw [Array.getElem?_map] at hj'
      simp at hj'
      obtain ⟨a, ha, rfl⟩ := hj'
      have hlt : a % z.cells.size < z.cells.size := Nat.mod_lt _ (by omega)
      rw [getElem!_pos z.cells _ hlt]
      exact (Array.all_eq_true.1 h1) _ hlt)
  simp only [Nat.add_zero] at hst
  obtain ⟨m, rfl⟩ : ∃ m, n = m + 1 := ⟨n - 1, by omega⟩
  simp [Builtin.clear_, run_underlying Try.underlying138, hz, hst]
set_option maxHeartbeats 1000000 in
set_option maxRecDepth 100000 in
theorem back_none (sb hb : Nat) (k n a l : Int) (x : Bool) (s : ByteArray) (w : World)
    (hf : Hid (∀ wx, Below w.heap.size w wx → Calls Try.prog 96 #[ptr sb, obV k x n a l s] wx fun e w' => e = .returned (.tuple #[.int .i64 0, .bool false]) ∧ Below wx.heap.size wx w')) :
    Calls Try.prog 47 #[ptr sb, ptr hb, obV k x n a l s] w fun e w' => e = .returned (.int .i64 17) ∧ Below w.heap.size w w' := by
  go_enter Try.func47, Try.ntmps47
  go_upto_region 1 with fail
  obtain ⟨wb, eb, kb, zb, c0, c1, c2, c3, c4, c5⟩ := ob_box w k n a l x s
  rw [eb]
  go_wp2_with fail
  refine (hf.out _ kb).mono ?_
  rintro e wc ⟨rfl, kc⟩
  have KC := Lib.hid (below_and kb kc)
  clear eb kb kc c0 c1 c2 c3 c4 c5
  go_wp2
  go_ret
  exact ⟨rfl, KC.out⟩
set_option maxHeartbeats 1000000 in
set_option maxRecDepth 100000 in
theorem back_some {own : Nat → Prop} {hb sb last : Nat} {P : List Cel} {L : List Sv} (i m : Nat) (t : Sv) (k n a l : Int) (x : Bool) (s : ByteArray) (w : World) (h : SH own hb P sb L last w) (hi : L[i]? = some t) (hm : i + m = 10)
    (hf : Hid (∀ wx, Below w.heap.size w wx → Calls Try.prog 96 #[ptr sb, obV k x n a l s] wx fun e w' => e = .returned (.tuple #[.int .i64 i, .bool true]) ∧ Below wx.heap.size wx w')) :
    Calls Try.prog 47 #[ptr sb, ptr hb, obV k x n a l s] w fun e w' => e = .returned (.int .i64 0) ∧ SH own hb t.q sb (L.take i) last w' ∧ Kept own w w' := by
  have H := Lib.hid h
  have HI := Lib.hid hi
  have HM := Lib.hid hm
  have HL := Lib.hid (List.getElem?_eq_some_iff.1 hi).1
  have i1 : (i : Int) < 10 := by have := HL.out; have := h.sat.len; omega
  have i0 : (0 : Int) ≤ i := by omega
  have i2 : (i : Int) ≤ 10 := by omega
  have i3 : 10 - i = m := by omega
  clear h hi hm
  go_enter Try.func47, Try.ntmps47
  go_upto_region 1 with fail
  obtain ⟨wb, eb, kb, zb, c0, c1, c2, c3, c4, c5⟩ := ob_box w k n a l x s
  rw [eb]
  go_wp2_with fail
  refine (hf.out _ kb).mono ?_
  rintro e wc ⟨rfl, kc⟩
  have HC := Lib.hid (H.out.below (below_and kb kc))
  have c6 := (ent_cells HC.out.1.sat HI.out).2.2.2.2.2.2
  clear eb kb kc c0 c1 c2 c3 c4 c5
  go_wp2_with fail
  refine (manyBecome HC.out.1.many (svG_get HI.out)).mono ?_
  rintro e wd ⟨rfl, md, kd⟩
  have HD : Hid (SH own hb t.q sb L last wd) := Lib.hid ⟨md, HC.out.1.sat.same (kd.block _ (.inr rfl)) kd.size, HC.out.1.nown⟩
  have KD := Lib.hid (HC.out.2.trans (kd.sub fun _ q => .inl q))
  clear md kd c6
  obtain ⟨vs, hv, hcl⟩ := sv_clear sb i m (by have := HL.out; have := HM.out; have := HD.out.sat.len; omega) HM.out wd HD.out.sat.there
  have HV := Lib.hid hv
  clear hv
  go_upto_region 8 with fail
  obtain ⟨we, ewe⟩ : ∃ we, wd.setCells sb (i * 7) vs = we := ⟨_, rfl⟩
  have onE : Only sb wd we := by rw [← ewe]; exact only_cells _ _ _ _
  have pe := HD.out.sat.putE i vs (by have := HV.out; omega)
  have cu := HD.out.sat.cut i (by have := HL.out; omega) vs (by have := HV.out; omega)
  rw [ewe] at pe cu ⊢
  have c70 := pe.2.2.1
  have f70 : we.frozen? ⟨sb, 70, none⟩ = false := by
    have := (pe.1 70 (by decide)).2
    simpa using this
  have CU := Lib.hid cu
  have ON : Hid (Only sb wd (we.setCell ⟨sb, 70, none⟩ (.int .i64 i))) := Lib.hid (onE.set 70 _)
  clear ewe onE pe cu hcl
  go_wp2
  go_ret
  refine ⟨rfl, ⟨by rw [svG_take]; exact (HD.out.many.take i).only (.inr rfl) ON.out, CU.out, HD.out.nown⟩, KD.out.trans (kept_only ON.out HD.out.nown)⟩
section
variable {own : Nat → Prop} {hb sb last : Nat} {P : List Cel} {L : List Sv} {w : World}
theorem svBack_no (h : SH own hb P sb L last w) (o : Ob) (ha : atS L o = none) : Calls Try.prog 47 #[ptr sb, ptr hb, o.val] w fun e w' => e = .returned (.int .i64 17) ∧ SH own hb P sb L last w' ∧ Kept own w w' := by
  refine (back_none sb hb o.k o.n o.a o.l o.x o.s w (Lib.hid fun wx kx => svFind (h.below kx).1.sat o ha)).mono ?_
  rintro e w' ⟨rfl, k⟩
  exact ⟨rfl, h.below k⟩
theorem svBack_ok (h : SH own hb P sb L last w) (o : Ob) {i : Nat} {t : Sv} (ha : atS L o = some i) (ht : L[i]? = some t) : Calls Try.prog 47 #[ptr sb, ptr hb, o.val] w fun e w' => e = .returned (.int .i64 0) ∧ SH own hb t.q sb (L.take i) last w' ∧ Kept own w w' := by
  have := atS_lt ha
  have := h.sat.len
  exact back_some i (10 - i) t o.k o.n o.a o.l o.x o.s w h ht (by omega) (Lib.hid fun wx kx => svFind (h.below kx).1.sat o ha)
end
end Go.Proofs.Ytmlkmgeddkpgiaa

/- Walks of heap: Dict that fits; Size. -/
namespace Go.Proofs.Ytmlkmgeddkpgiaa
open Go.RowKit
set_option linter.unusedVariables false

/-- The items of an empty dictionary of n pairs. -/
def emptyD (n : Nat) : List Ob := Ob.num 0 :: List.replicate (2 * n) Ob.null
theorem emptyD_length (n : Nat) : (emptyD n).length = 2 * n + 1 := by simp [emptyD]
theorem emptyD_set (n : Nat) : (List.replicate (2 * n + 1) Ob.null).set 0 (Ob.num 0) = emptyD n := by
  rw [List.replicate_succ]
  rfl
theorem below_set6 {n g : Nat} {w w' : World} (h : Below n w w') (hg : n ≤ g) (v0 v1 v2 v3 v4 v5 : Value) : Below n w (w'.setCells g 0 [v0, v1, v2, v3, v4, v5]) :=
  (((((h.setCell (p := ⟨g, 0, none⟩) hg v0).setCell (p := ⟨g, 1, none⟩) hg v1).setCell (p := ⟨g, 2, none⟩) hg v2).setCell (p := ⟨g, 3, none⟩) hg v3).setCell (p := ⟨g, 4, none⟩) hg v4).setCell (p := ⟨g, 5, none⟩) hg v5
section
variable {role : Nat → Nat × Nat} {c hb : Nat} {vc : Value} {ivs : List Value} {pb : Nat → Nat} {rv : Nat → Value} {P : List Cel} {w w' : World}
set_option maxHeartbeats 1000000 in
set_option maxRecDepth 100000 in
theorem dict_ok (h : PH role c hb vc ivs pb rv P w) (n m : Nat) (hm : m = 2 * n) (hn : n ≤ 1000) (hl : P.length < 2000) (hu : m + 1 + usedP P ≤ 40000) :
    Calls Try.prog 69 #[ptr hb, .int .i64 n] w fun e w' => e = .returned (.tuple #[obV 10 false P.length 0 0 ⟨#[]⟩, .int .i64 0]) ∧ ∃ role', PHeap role' c hb (P ++ [⟨10, false, emptyD n, []⟩]) w' ∧ Keep role c w role' w' := by
  have H := Lib.hid h
  have HL : Hid (decide (P.length < 2000 ∧ (((m + 1 : Nat) : Int)) + usedP P ≤ 40000) = true) := Lib.hid (decide_eq_true (by omega))
  have Hl := Lib.hid hl
  have Hu := Lib.hid hu
  have HM := Lib.hid hm
  have HN := Lib.hid hn
  have h1 : decide ((n : Int) < 0) = false := decide_eq_false (by omega)
  have h2 : decide ((n : Int) > 1000) = false := decide_eq_false (by omega)
  have e1 : IntKind.i64.wrap (2 * (n : Int)) = m := by rw [wrapi_in _ (by omega) (by omega)]; omega
  have e2 : IntKind.i64.wrap ((m : Int) + 1) = ((m + 1 : Nat) : Int) := by rw [wrapi_in _ (by omega) (by omega)]; omega
  clear h hl hu hm hn
  go_enter Try.func69, Try.ntmps69
  go_wp2_with fail
  obtain ⟨wa, ea, ka, za, oa⟩ := zero_box w
  rw [ea]
  have HA := Lib.hid (H.out.paint ka fun _ => (c + 1, 0))
  refine (hasRoom_is HA.out ((m + 1 : Nat) : Int) true HL.out).mono ?_
  rintro e wc ⟨rfl, rfl⟩
  have KA := Lib.hid ka
  have OA := Lib.hid oa
  have ZA := Lib.hid za
  clear ea ka za oa
  go_wp2_with fail
  refine (newItems_any 10 (m + 1) (by have := Hu.out; omega) wa).mono ?_
  rintro e w1 ⟨b, row, rfl, hb1, eblk, erow, ern, k1⟩
  obtain ⟨gr, cap, rfl, _, _⟩ := erow.form (by omega)
  have hgr : gr = wa.heap.size := by simpa [Value.ownBlock] using ern
  have B1 := Lib.hid hb1
  have B2 := Lib.hid eblk
  have B3 := Lib.hid erow
  have B4 := Lib.hid hgr
  have B5 := Lib.hid k1
  obtain ⟨gr', cap', ev, c0, c1, c2, c3, c4, c5⟩ := row_item (l := List.replicate (m + 1) Ob.null) (by rw [List.length_replicate]; exact erow) (i := 0) (o := Ob.null) (by simp)
  obtain ⟨rfl, _⟩ : gr = gr' ∧ cap = cap' := by rw [List.length_replicate] at ev; simpa using ev
  dsimp only [Ob.null] at c0 c1 c2 c3 c4 c5
  simp only [Nat.zero_mul, Nat.zero_add] at c0 c1 c2 c3 c4 c5
  have f0 : w1.frozen? ⟨gr, 0, none⟩ = false := erow.frozenAt 0
  have f1 : w1.frozen? ⟨gr, 1, none⟩ = false := erow.frozenAt 1
  have f2 : w1.frozen? ⟨gr, 2, none⟩ = false := erow.frozenAt 2
  have f3 : w1.frozen? ⟨gr, 3, none⟩ = false := erow.frozenAt 3
  have f4 : w1.frozen? ⟨gr, 4, none⟩ = false := erow.frozenAt 4
  have f5 : w1.frozen? ⟨gr, 5, none⟩ = false := erow.frozenAt 5
  have d2 : w1.cell? ⟨b, 2, none⟩ = some (.slice (some ⟨gr, 0, none⟩) (m + 1) cap) := by
    rw [cellAt eblk]
    rfl
  have hz : (0 : Int) < ((m + 1 : Nat) : Int) := by omega
  have hz' : (0 : Int) ≤ 0 := by omega
  clear hb1 eblk erow ern k1 hgr ev
  go_upto_region 9 with fail
  obtain ⟨wz, ez⟩ : ∃ wz, w1.setCells gr 0 [.int .i64 3, .bool false, .int .i64 0, .int .i64 0, .int .i64 0, .string ⟨#[]⟩] = wz := ⟨_, rfl⟩
  have EZ := Lib.hid ez
  change Code.wp _ _ _ _ (w1.setCells gr 0 [.int .i64 3, .bool false, .int .i64 0, .int .i64 0, .int .i64 0, .string ⟨#[]⟩])
  rw [ez]
  have K1 : Hid (Below wa.heap.size wa wz) := Lib.hid (by rw [← ez]; exact below_set6 B5.out (by rw [B4.out]; exact Nat.le_refl _) _ _ _ _ _ _)
  have hne : b ≠ gr := by
    have := B1.out
    have := B4.out
    omega
  have E0 := owns_put (Ob.num 0).cells 0 w1 _ B3.out
  have hr : wz.ownsRow 0 24 6 (.slice (some ⟨gr, 0, none⟩) (m + 1) cap) (m + 1) (obCells (emptyD n)) := by
    have q := E0.1
    have := obCells_put (Ob.num 0) (List.replicate (m + 1) Ob.null) 0 (by simp)
    rw [Nat.zero_mul] at this
    rw [this, show List.replicate (m + 1) Ob.null = List.replicate (2 * n + 1) Ob.null from by rw [HM.out], emptyD_set] at q
    rw [← ez]
    exact q
  have hbk : wz.heap[b]? = some (.cells #[.int .i64 10, .bool false, .slice (some ⟨gr, 0, none⟩) (m + 1) cap] 160 (0, 0)) := by
    rw [← ez]
    exact (E0.2.block b hne).trans B2.out
  have HR := Lib.hid hr
  have HK := Lib.hid hbk
  have H1 := Lib.hid (HA.out.below K1.out)
  clear ez hr hbk E0 hne c0 c1 c2 c3 c4 c5 f0 f1 f2 f3 f4 f5 d2 hz hz'
  go_wp2_with fail
  refine (cadd_any hb vc ivs P.length (usedP P) ((m + 1 : Nat) : Int) 156 b wz H1.out.hblk H1.out.crow H1.out.ne (by have := Hl.out; omega) (by omega) (by have := Hu.out; omega) (by omega) (by have := Hu.out; omega)).mono ?_
  rintro e w2 ⟨rfl, g, cap2, e1, e2, e3, e4, e5, e6, e7, e8⟩
  have hlen : (emptyD n).length = m + 1 := by rw [emptyD_length, HM.out]
  have cl : PCell wz (.iface 156 (ptr b)) b (.slice (some ⟨gr, 0, none⟩) (m + 1) cap) ⟨10, false, emptyD n, []⟩ := .inl ⟨rfl, .inr rfl, rfl, HK.out, by rw [hlen]; exact HR.out⟩
  have sz : (⟨10, false, emptyD n, []⟩ : Cel).size = m + 1 := by simp [Cel.size, hlen]
  have AD := Lib.hid (HA.out.added K1.out (Nat.le_of_lt B1.out) cl (fun q hq => by
    have : gr = q := by simpa [Value.ownBlock] using hq
    have := B1.out
    have := B4.out
    omega) Hl.out (by rw [sz]; exact Hu.out) (by rw [sz]; exact e1) e2 e3 e4 e5 e6 e7 e8)
  have O2 : w2.heap[w.heap.size]? = some emptyOb := (AD.out.2.block _ (blk_lt OA.out) (by rw [paint_new (Nat.le_refl _)]; simp)).trans OA.out
  have P2 := Lib.hid O2
  obtain ⟨⟨c0, c1, c2, c3, c4, c5⟩, f0, f1, f2, f3, f4, f5⟩ := cells6 O2
  clear e1 e2 e3 e4 e5 e6 e7 e8 cl sz O2
  go_wp2
  (try simp only [Exit.inBlock, Exit.then])
  refine bodyPost_ret (ret_cell rfl _ _ _ _ _ _ _ _ rfl rfl (set6 P2.out _ _ _ _ _ _) Try.underlying24 rfl (by kernel_rfl)) rfl ⟨rfl, _, AD.out.1.only (only6 _ _ _ _ _ _ _ _) ?_, (only6 _ _ _ _ _ _ _ _).keep ((Keep.paint role c KA.out _).trans AD.out.2) (Nat.le_refl _)⟩
  rw [AD.out.2.same _ (blk_lt OA.out), paint_new (Nat.le_refl _)]
  simp

theorem size_walk (hb : Nat) (k n a l u z E : Int) (x : Bool) (s : ByteArray) (iv : Value) (w : World) (hiv : iv = .nilIface ∨ ∃ T r, iv = .iface T (ptr r))
    (hf : Hid (∀ wx, Below w.heap.size w wx → Calls Try.prog 71 #[ptr hb, obV k x n a l s] wx fun e w' => e = .returned (.tuple #[pcV iv u z, .int .i64 E]) ∧ Below wx.heap.size wx w')) :
    Calls Try.prog 76 #[ptr hb, obV k x n a l s] w fun e w' => e = .returned (.tuple #[.int .i64 z, .int .i64 E]) ∧ Below w.heap.size w w' := by
  rcases hiv with rfl | ⟨T, r, rfl⟩
  · go_enter Try.func76, Try.ntmps76
    go_wp2_with fail
    obtain ⟨wb, eb, kb, zb, ob⟩ := ob_box w k n a l x s
    rw [eb]
    refine (hf.out _ kb).mono ?_
    rintro e wc ⟨rfl, kc⟩
    have KC := Lib.hid (below_and kb kc)
    clear eb kb zb kc ob
    go_upto_region 2 with fail
    obtain ⟨wd, ed, kd, zd, d0, d1, d2⟩ := pc_box wc .nilIface u z
    rw [ed]
    have KD := Lib.hid (below_and KC.out kd)
    clear ed kd zd
    go_wp2
    go_ret2
    exact ⟨rfl, KD.out⟩
  · go_enter Try.func76, Try.ntmps76
    go_wp2_with fail
    obtain ⟨wb, eb, kb, zb, ob⟩ := ob_box w k n a l x s
    rw [eb]
    refine (hf.out _ kb).mono ?_
    rintro e wc ⟨rfl, kc⟩
    have KC := Lib.hid (below_and kb kc)
    clear eb kb zb kc ob
    go_upto_region 2 with fail
    obtain ⟨wd, ed, kd, zd, d0, d1, d2⟩ := pc_box wc (.iface T (ptr r)) u z
    rw [ed]
    have KD := Lib.hid (below_and KC.out kd)
    clear ed kd zd
    go_wp2
    go_ret2
    exact ⟨rfl, KD.out⟩
theorem size_is (h : PH role c hb vc ivs pb rv P w) (o : Ob) : Calls Try.prog 76 #[ptr hb, o.val] w fun e w' => e = .returned (.tuple #[.int .i64 (lenO P o), .int .i64 (errO P o)]) ∧ Below w.heap.size w w' := by
  cases ho : okO P o
  · have e1 : lenO P o = 0 := by simp [lenO, ho]
    rw [e1]
    exact size_walk hb o.k o.n o.a o.l 0 0 (errO P o) o.x o.s .nilIface w (.inl rfl) (Lib.hid fun wx kx => find_no (h.below kx) o ho)
  · have e1 : errO P o = 0 := errO_ok ho
    rw [e1]
    exact size_walk hb o.k o.n o.a o.l o.a (lenO P o) 0 o.x o.s (.iface (celT (cellOf P o)) (ptr (pb o.n.toNat))) w (.inr ⟨_, _, rfl⟩) (Lib.hid fun wx kx => find_ok (h.below kx) o ho)
end
end Go.Proofs.Ytmlkmgeddkpgiaa

/- What the heap's calls do beside the saves; the known case of layer 13's laws. -/
namespace Go.Proofs.Ytmlkmgeddkpgiaa
open Go.RowKit
set_option linter.unusedVariables false

section
variable {own : Nat → Prop} {hb sb last : Nat} {P P' : List Cel} {L : List Sv} {w w' : World}
theorem shArray (h : SH own hb P sb L last w) (n : Nat) (hl : P.length < 2000) (hu : n + usedP P ≤ 40000) :
    Calls Try.prog 65 #[ptr hb, .int .i64 n] w fun e w' => e = .returned (.tuple #[obV 9 false P.length 0 n ⟨#[]⟩, .int .i64 0]) ∧ SH own hb (P ++ [⟨9, false, List.replicate n Ob.null, []⟩]) sb L last w' ∧ Kept own w w' := by
  obtain ⟨own', s, ho, hc⟩ := h.lift
  refine (sArray_ok s n hl hu).mono ?_
  rintro e w' ⟨rfl, q, k⟩
  exact ⟨rfl, hc _ _ q k, k.sub ho⟩
theorem shString (h : SH own hb P sb L last w) (s : ByteArray) (hl : P.length < 2000) (hu : s.size + usedP P ≤ 40000) :
    Calls Try.prog 49 #[ptr hb, .string s] w fun e w' => e = .returned (.tuple #[obV 8 false P.length 0 s.size ⟨#[]⟩, .int .i64 0]) ∧ SH own hb (P ++ [⟨8, false, [], s.data.toList⟩]) sb L last w' ∧ Kept own w w' := by
  obtain ⟨own', q, ho, hc⟩ := h.lift
  refine (sString_ok q s hl hu).mono ?_
  rintro e w' ⟨rfl, q, k⟩
  exact ⟨rfl, hc _ _ q k, k.sub ho⟩
theorem shDict (h : SH own hb P sb L last w) (n : Nat) (hn : n ≤ 1000) (hl : P.length < 2000) (hu : 2 * n + 1 + usedP P ≤ 40000) :
    Calls Try.prog 69 #[ptr hb, .int .i64 n] w fun e w' => e = .returned (.tuple #[obV 10 false P.length 0 0 ⟨#[]⟩, .int .i64 0]) ∧ SH own hb (P ++ [⟨10, false, emptyD n, []⟩]) sb L last w' ∧ Kept own w w' := by
  obtain ⟨own', ⟨role, ⟨vc, ivs, pb, rv, h1⟩, h2⟩, ho, hc⟩ := h.lift
  refine (dict_ok h1 n (2 * n) rfl hn hl hu).mono ?_
  rintro e w' ⟨rfl, role', q1, q2⟩
  have := Sep.of_keep h2 q1 q2
  exact ⟨rfl, hc _ _ this.1 this.2, this.2.sub ho⟩
theorem shSet (h : SH own hb P sb L last w) (o : Ob) (i : Int) (x : Ob) (E : Int) (P' : List Cel) (hE : setE P o i x = E) (hP : setP P o i x = P') :
    Calls Try.prog 14 #[ptr hb, o.val, .int .i64 i, x.val] w fun e w' => e = .returned (.int .i64 E) ∧ SH own hb P' sb L last w' ∧ Kept own w w' := by
  obtain ⟨own', q, ho, hc⟩ := h.lift
  refine (sSet q o i x E P' hE hP).mono ?_
  rintro e w' ⟨rfl, q, k⟩
  exact ⟨rfl, hc _ _ q k, k.sub ho⟩
theorem shBytes (h : SH own hb P sb L last w) (o : Ob) (M : List UInt8) (ho : okO P o = true) (hk : o.k = 8) (hpos : 0 < (cellOf P o).bs.length) (hL : bytesL P o = M) :
    Calls Try.prog 51 #[ptr hb, o.val] w fun e w' => e = .returned (.tuple #[.string ⟨M.toArray⟩, .int .i64 0]) ∧ SH own hb P sb L last w' ∧ Kept own w w' := by
  obtain ⟨own', q, hq, hc⟩ := h.lift
  refine (sBytes q o M ho hk hpos hL).mono ?_
  rintro e w' ⟨rfl, q, k⟩
  exact ⟨rfl, hc _ _ q k, k.sub hq⟩
theorem shCells (h : SH own hb P sb L last w) : Calls Try.prog 23 #[ptr hb] w fun e w' => e = .returned (.int .i64 P.length) ∧ w = w' := sCells h.many.sep
/-- A slice of ours has grown. -/
theorem SH.grow {q : Option Nat} (h : SH own hb P sb L last w) (k : w.grownBy w' q) (hq : ∀ g, q = some g → own g) : SH (fun b => own b ∨ (w.heap.size ≤ b ∧ b < w'.heap.size)) hb P sb L last w' := by
  obtain ⟨role, h1, h2, h3⟩ := h.many
  have ne : ∀ b, (role b).1 ≠ 0 → some b ≠ q := fun b hc e => hc (h3 b (.inl (hq b e.symm))).2
  have hs : sb < w.heap.size := h.sat.lt
  refine ⟨⟨paint role w.heap.size fun _ => (0, 0), h1.same fun b hb hc => ⟨k.block b hb (ne b (by omega)), paint_old hb⟩, fun i g hg => (h2 i g hg).same fun b hb hc => ⟨k.block b hb (ne b (by omega)), paint_old hb⟩, fun b hb => ?_⟩, h.sat.same (k.block _ hs fun e => h.nown (hq _ e.symm)) k.size, fun e => ?_⟩
  · by_cases hl : b < w.heap.size
    · have hown : own b ∨ b = sb := by
        rcases hb with (hb | hb) | hb
        · exact .inl hb
        · omega
        · exact .inr hb
      refine ⟨Nat.lt_of_lt_of_le hl k.size, ?_⟩
      rw [paint_old hl]
      exact (h3 b hown).2
    · have : b < w'.heap.size := by
        rcases hb with (hb | hb) | hb
        · exact absurd (h3 b (.inl hb)).1 hl
        · exact hb.2
        · omega
      exact ⟨this, by rw [paint_new (by omega)]⟩
  · rcases e with e | e
    · exact h.nown e
    · omega
theorem kept_grown {q : Option Nat} (k : w.grownBy w' q) (hq : ∀ g, q = some g → ¬ own g) (ho : ∀ b, own b → b < w.heap.size) : Kept own w w' :=
  ⟨k.os, k.tape, k.output, k.size, fun b hb => k.block b (ho b hb) fun e => hq b e.symm hb⟩
end
/-- Save, its number by names. -/
theorem svSave {own : Nat → Prop} {hb sb last : Nat} {P : List Cel} {L : List Sv} {w : World} (h : SH own hb P sb L last w) (hl : L.length < 10) (hL : last < 4611686018427387904) (M : Nat) (v : Int) (hM : last + 1 = M) (hv : (M : Int) = v) :
    Calls Try.prog 45 #[ptr sb, ptr hb] w fun e w' => e = .returned (.tuple #[obV 11 false v 0 0 ⟨#[]⟩, .int .i64 0]) ∧ (∃ g, SH own hb P sb (L ++ [⟨M, g, P⟩]) M w') ∧ Kept own w w' := by
  subst hM hv
  exact svSave_ok h hl hL
/-- Which open save the object of number n is. -/
theorem atS_num (L : List Sv) (n : Nat) (x : Bool) : atS L ⟨11, x, n, 0, 0, ⟨#[]⟩⟩ = L.findIdx? fun s => decide (s.n = n) := by
  unfold atS
  congr 1
  funext s
  rw [same_sv s.n ⟨11, x, n, 0, 0, ⟨#[]⟩⟩]
  apply decide_eq_decide.2
  simp
  omega
/-- The numbers of the open saves are 1, 2, .., j; the heap was empty at each. -/
def Nums (L : List Sv) (j : Nat) : Prop := L.length = j ∧ ∀ (i : Nat) (s : Sv), L[i]? = some s → s.n = i + 1
theorem Nums.at {L : List Sv} {j : Nat} (h : Nums L j) {k : Nat} (hk : k < j) (x : Bool) : atS L ⟨11, x, ((k + 1 : Nat) : Int), 0, 0, ⟨#[]⟩⟩ = some k := by
  rw [atS_num, List.findIdx?_eq_some_iff_getElem]
  refine ⟨by rw [h.1]; exact hk, ?_, fun i hi => ?_⟩
  · have := h.2 k _ (List.getElem?_eq_getElem (by rw [h.1]; exact hk))
    simpa using this
  · have := h.2 i _ (List.getElem?_eq_getElem (by rw [h.1]; omega))
    simp
    omega
theorem Nums.none {L : List Sv} {j : Nat} (h : Nums L j) {k : Nat} (hk : j ≤ k) (x : Bool) : atS L ⟨11, x, ((k + 1 : Nat) : Int), 0, 0, ⟨#[]⟩⟩ = .none := by
  rw [atS_num, List.findIdx?_eq_none_iff]
  intro s hs
  obtain ⟨i, hi⟩ := List.mem_iff_getElem?.1 hs
  have := h.2 i s hi
  have := (List.getElem?_eq_some_iff.1 hi).1
  have := h.1
  simp
  omega
theorem Nums.zero : Nums [] 0 := ⟨rfl, fun i s h => by simp at h⟩
theorem Nums.push {L : List Sv} {j : Nat} (h : Nums L j) (g : Nat) (q : List Cel) : Nums (L ++ [⟨j + 1, g, q⟩]) (j + 1) := by
  refine ⟨by simp [h.1], fun i s hi => ?_⟩
  rw [List.getElem?_append] at hi
  split at hi
  · exact h.2 i s hi
  · next hl =>
    have e : i = j := by
      have := (List.getElem?_eq_some_iff.1 hi).1
      have := h.1
      simp at *
      omega
    subst e
    have := h.1
    simp [this] at hi
    subst hi
    rfl
theorem Nums.take {L : List Sv} {j : Nat} (h : Nums L j) {k : Nat} (hk : k ≤ j) : Nums (L.take k) k := by
  refine ⟨by rw [List.length_take, h.1]; omega, fun i s hi => ?_⟩
  rw [List.getElem?_take] at hi
  split at hi
  · exact h.2 i s hi
  · cases hi

set_option maxHeartbeats 1000000 in
set_option maxRecDepth 100000 in
theorem sknown_any (w : World) : Calls Try.prog 43 #[] w fun e w' => e = .returned (.bool true) ∧ Below w.heap.size w w' := by
  go_enter Try.func43, Try.ntmps43
  go_wp2_with fail
  refine (new_any w).mono ?_
  rintro e w1 ⟨rfl, rfl⟩
  obtain ⟨w1, e1, s1, b1⟩ : ∃ w1, w.alloc (.cells #[.slice none 0 0, .int .i64 0] 97) = w1 ∧ Sep (fun b => b < w.heap.size) w.heap.size [] w1 ∧ Below w.heap.size w w1 := ⟨_, rfl, Sep.new w, box_below _ _⟩
  rw [e1]
  have S1 := Lib.hid s1
  have B1 := Lib.hid b1
  clear e1 s1 b1
  go_wp2_with fail
  refine (svNew S1.out).mono ?_
  rintro e w2 ⟨rfl, s2, k2⟩
  have S2 := Lib.hid s2
  have B2 : Hid (Below w.heap.size w w2) := Lib.hid (B1.out.trans (k2.below fun _ h => h))
  clear s2 k2
  go_wp2_with fail
  refine (svSave S2.out (by decide) (by decide) 1 1 rfl rfl).mono ?_
  rintro e w3 ⟨rfl, ⟨g, s3⟩, k3⟩
  have S3 : Hid (SH (fun b => b < w.heap.size) w.heap.size [] w1.heap.size [⟨1, g, []⟩] 1 w3) := Lib.hid s3
  have B3 : Hid (Below w.heap.size w w3) := Lib.hid (B2.out.trans (k3.below fun _ h => h))
  clear s3 k3
  go_upto_region 5 with fail
  obtain ⟨w4, e4, s4, k4, o4⟩ := S3.out.box_ob 11 false 1 0 0 ⟨#[]⟩
  rw [e4]
  have S4 := Lib.hid s4
  have B4 : Hid (Below w.heap.size w w4) := Lib.hid (B3.out.trans (k4.below fun _ h => h))
  have O4 := Lib.hid o4
  clear e4 s4 k4 o4
  go_wp2_with fail
  refine (shArray S4.out 3 (by decide) (by decide)).mono ?_
  rintro e w5 ⟨rfl, s5, k5⟩
  have S5 : Hid (SH (fun b => b < w.heap.size ∨ b = w3.heap.size) w.heap.size [⟨9, false, [Ob.null, Ob.null, Ob.null], []⟩] w1.heap.size [⟨1, g, []⟩] 1 w5) := Lib.hid s5
  have B5 : Hid (Below w.heap.size w w5) := Lib.hid (B4.out.trans (k5.below fun _ h => .inl h))
  have O5 := Lib.hid ((k5.block _ (.inr rfl)).trans O4.out)
  clear s5 k5
  go_upto_region 6 with fail
  obtain ⟨w6, e6, s6, k6, o6⟩ := S5.out.box_ob 9 false 0 0 3 ⟨#[]⟩
  rw [e6]
  have S6 := Lib.hid s6
  have B6 : Hid (Below w.heap.size w w6) := Lib.hid (B5.out.trans (k6.below fun _ h => .inl h))
  have O6 := Lib.hid ((k6.block _ (.inr rfl)).trans O5.out)
  have A6 := Lib.hid o6
  clear e6 s6 k6 o6
  have nm : Nums [⟨1, g, []⟩] 1 := Nums.zero.push g []
  have ha : atS [⟨1, g, []⟩] ⟨11, false, 1, 0, 0, ⟨#[]⟩⟩ = some 0 := nm.at (by decide) false
  have hnew : newS [⟨1, g, []⟩] ⟨11, false, 1, 0, 0, ⟨#[]⟩⟩ ⟨9, false, 0, 0, 3, ⟨#[]⟩⟩ = true := by simp [newS, ha]
  have HA := Lib.hid ha
  have HN := Lib.hid hnew
  clear nm ha hnew
  obtain ⟨c0, c1, c2, c3, c4, c5⟩ := ob_cells O6.out
  obtain ⟨d0, d1, d2, d3, d4, d5⟩ := ob_cells A6.out
  go_wp2_with fail
  refine (svNewer S6.out ⟨11, false, 1, 0, 0, ⟨#[]⟩⟩ ⟨9, false, 0, 0, 3, ⟨#[]⟩⟩).mono ?_
  rintro e w7 ⟨rfl, s7, k7⟩
  rw [HN.out]
  have S7 := Lib.hid s7
  have B7 : Hid (Below w.heap.size w w7) := Lib.hid (B6.out.trans (k7.below fun _ h => .inl (.inl h)))
  have O7 := Lib.hid ((k7.block _ (.inl (.inr rfl))).trans O6.out)
  clear s7 k7 c0 c1 c2 c3 c4 c5 d0 d1 d2 d3 d4 d5
  obtain ⟨c0, c1, c2, c3, c4, c5⟩ := ob_cells O7.out
  go_wp2_with fail
  refine (svBack_ok S7.out ⟨11, false, 1, 0, 0, ⟨#[]⟩⟩ HA.out rfl).mono ?_
  rintro e w8 ⟨rfl, s8, k8⟩
  have S8 : Hid (SH (fun b => (b < w.heap.size ∨ b = w3.heap.size) ∨ b = w5.heap.size) w.heap.size [] w1.heap.size [] 1 w8) := Lib.hid s8
  have B8 : Hid (Below w.heap.size w w8) := Lib.hid (B7.out.trans (k8.below fun _ h => .inl (.inl h)))
  clear s8 k8 c0 c1 c2 c3 c4 c5
  go_wp2_with fail
  refine (shCells S8.out).mono ?_
  rintro e w9 ⟨rfl, rfl⟩
  go_wp2_with fail
  refine (svLen S8.out.sat).mono ?_
  rintro e w9 ⟨rfl, rfl⟩
  go_wp2
  go_ret
  exact ⟨rfl, B8.out⟩
end Go.Proofs.Ytmlkmgeddkpgiaa

/- tympanref11: Set of a byte in a heap of strings; tympanref13: how its saves lie. -/
namespace Go.Proofs.Ytmlkmgeddkpgiaa
open Go.RowKit
set_option linter.unusedVariables false
set_option maxHeartbeats 1000000
set_option maxRecDepth 100000

/-- A heap of strings that nobody has locked. -/
def Strs (P : List Cel) : Prop := ∀ c ∈ P, c.k = 8 ∧ c.lk = false
theorem Strs.set {P : List Cel} (h : Strs P) (o : Ob) (i : Int) (x : Ob) : Strs (setP P o i x) := by
  unfold setP
  split
  · intro d hd
    obtain ⟨t, ht⟩ := List.mem_iff_getElem?.1 hd
    rw [List.getElem?_set] at ht
    split at ht
    · next et =>
      split at ht
      · next hl =>
        obtain rfl := Option.some.inj ht
        have hc : cellOf P o = P[o.n.toNat] := by
          unfold cellOf
          rw [List.getD_eq_getElem?_getD, List.getElem?_eq_getElem hl]
          rfl
        have := h _ (List.getElem_mem hl)
        rw [← hc] at this
        unfold putItem
        rw [if_pos this.1]
        exact this
      · cases ht
    · exact h d (cell_mem ht)
  · exact h
section
variable {own : Nat → Prop} {rb : Nat} {v : Value} {R : List RC} {w : World}
theorem rset_str (h : RH own rb v R w) (ho : ∀ b, own b → b < w.heap.size) (hs : Strs (cels R)) (o : Ob) (c : Int) (c0 : 0 ≤ c) (c1 : c ≤ 255) :
    Calls Try.prog 15 #[ptr rb, o.val, .int .i64 0, (Ob.num c).val] w fun e w' => e = .returned (.int .i64 (setE (cels R) o 0 (Ob.num c))) ∧ (∃ R', RH (Plus own w w') rb v R' w' ∧ cels R' = setP (cels R) o 0 (Ob.num c)) ∧ Kept (fun b => b < w.heap.size ∧ b ≠ rb ∧ v.ownBlock ≠ some b) w w' := by
  have hroom := Lib.hid (fun wx (kx : Below w.heap.size w wx) => rroom_any (h.below kx) o)
  have keep : ∀ w', Below w.heap.size w w' → setE (cels R) o 0 (Ob.num c) ≠ 0 → (∃ R', RH (Plus own w w') rb v R' w' ∧ cels R' = setP (cels R) o 0 (Ob.num c)) ∧ Kept (fun b => b < w.heap.size ∧ b ≠ rb ∧ v.ownBlock ≠ some b) w w' := fun w' k hE =>
    ⟨⟨R, h.kept (fun b q => .inl q) k.size (fun b q hb => k.block b hb), by rw [setP, if_neg hE]⟩, kept_of k fun b q => q.1⟩
  cases hok : okO (cels R) o
  · have hE := errO_no hok
    have e : setE (cels R) o 0 (Ob.num c) = errO (cels R) o := by simp [setE, hok]
    refine (rset_err rb o.k o.n o.a o.l 3 c 0 0 0 _ _ (errO (cels R) o) o.x false o.s ⟨#[]⟩ w (by simpa using hE) hroom).mono ?_
    rintro e' w' ⟨rfl, k⟩
    exact ⟨by rw [e], keep w' k (by rw [e]; exact hE)⟩
  · have hE := errO_ok hok
    rw [hE] at hroom
    obtain ⟨b0, b1, _, _, _, _, b6, _⟩ := ok_bd hok
    have hm := hs _ (cell_mem (cellOf_get (P := cels R) b0 b1))
    have hk : o.k = 8 := by rw [← b6]; exact hm.1
    by_cases hl : 0 < lenO (cels R) o
    · have e : setE (cels R) o 0 (Ob.num c) = 0 := by
        rw [setE, hok, hm.2]
        simp [hk, hl, Ob.num]
        omega
      have := rset_byte h ho o 0 c hok hk hl hm.2 c0 c1
      rw [e]
      exact this
    · have e : setE (cels R) o 0 (Ob.num c) = 12 := by
        rw [setE, hok]
        simp [hl]
      refine (rset_index rb o.k o.n o.a o.l 3 c 0 0 0 _ _ o.x false o.s ⟨#[]⟩ w (.inr ⟨rfl, decide_eq_true (by omega)⟩) hroom).mono ?_
      rintro e' w' ⟨rfl, k⟩
      exact ⟨by rw [e], keep w' k (by rw [e]; decide)⟩
end
end Go.Proofs.Ytmlkmgeddkpgiaa

/- tympanref13: how its saves lie; At. -/
namespace Go.Proofs.Ytmlkmgeddkpgiaa
open Go.RowKit
set_option linter.unusedVariables false
set_option maxHeartbeats 1000000
set_option maxRecDepth 100000

/-- A save of the reference: its number, its heap. -/
structure FS where
  n : Nat
  fb : Nat
  F : List RC
abbrev oneL (s : FS) : List Value := [.int .i64 s.n, ptr s.fb]
def oneCells (M : List FS) : List Value := M.flatMap oneL
theorem oneCells_length (M : List FS) : (oneCells M).length = M.length * 2 := by
  induction M with
  | nil => rfl
  | cons r M ih =>
    show (oneL r ++ oneCells M).length = _
    rw [List.length_append, ih]
    simp
    omega
theorem oneCells_get {M : List FS} {i j : Nat} {s : FS} (h : M[i]? = some s) (hj : j < 2) : (oneCells M)[i * 2 + j]? = (oneL s)[j]? := by
  induction M generalizing i with
  | nil => simp at h
  | cons p M ih =>
    show (oneL p ++ oneCells M)[_]? = _
    have h2 : (oneL p).length = 2 := rfl
    cases i with
    | zero =>
      simp at h
      subst h
      rw [List.getElem?_append_left (by omega)]
      simp
    | succ i =>
      simp at h
      rw [List.getElem?_append_right (by omega), h2, show (i + 1) * 2 + j - 2 = i * 2 + j from by omega]
      exact ih h
structure RSv (own : Nat → Prop) (rb : Nat) (v : Value) (vb : Nat) (vs : Value) (M : List FS) (last : Nat) (w : World) : Prop where
  hdr : w.heap[vb]? = some (.cells #[vs, .int .i64 last] 75 (0, 0))
  mine : ¬ own vb
  row : rowC w (Im own rb v) vs M.length (oneCells M)
  frz : ∀ (i : Nat) (s : FS), M[i]? = some s → ∃ vF, RH (Im own rb v) s.fb vF s.F w
  len : M.length ≤ 10
theorem RSv.keep {own own' : Nat → Prop} {rb vb last : Nat} {v v' vs : Value} {M : List FS} {w w' : World} (h : RSv own rb v vb vs M last w) (ho : ∀ b, own b → own' b) (hn : ¬ own' vb) (k : Kept (fun b => b = vb ∨ (own b ∧ b ≠ rb ∧ v.ownBlock ≠ some b)) w w') (hv : v' = v ∨ ∀ g, v'.ownBlock = some g → w.heap.size ≤ g) (hl : ∀ b, own b → b < w.heap.size) : RSv own' rb v' vb vs M last w' := by
  have im : ∀ b, Im own rb v b → Im own' rb v' b := fun b q => ⟨ho b q.1, q.2.1, fun e => by
    rcases hv with rfl | hv
    · exact q.2.2 e
    · have := hv b e
      have := hl b q.1
      omega⟩
  refine ⟨(k.block _ (.inl rfl)).trans h.hdr, hn, h.row.same k.size fun g q _ => ⟨im g q, k.block g (.inr q)⟩, fun i s hs => ?_, h.len⟩
  obtain ⟨vF, hF⟩ := h.frz i s hs
  exact ⟨vF, hF.kept (fun b q => im b q) k.size fun b q _ => k.block b (.inr q)⟩
theorem RSv.below {own : Nat → Prop} {rb vb last : Nat} {v vs : Value} {M : List FS} {w w' : World} (h : RSv own rb v vb vs M last w) (k : Below w.heap.size w w') (hl : ∀ b, own b → b < w.heap.size) : RSv own rb v vb vs M last w' :=
  h.keep (fun _ q => q) h.mine (kept_of k fun b q => by
    rcases q with rfl | q
    · exact blk_lt h.hdr
    · exact hl b q.1) (.inl rfl) hl
/-- Which save an object is. -/
def atM (M : List FS) (o : Ob) : Option Nat := M.findIdx? fun s => decide (o.k = 11 ∧ o.n = s.n ∧ o.a = 0 ∧ o.l = 0 ∧ o.s = ⟨#[]⟩)
theorem atM_atS {M : List FS} {L : List Sv} (h : M.map FS.n = L.map Sv.n) (o : Ob) : atM M o = atS L o := by
  have e1 : atM M o = (M.map FS.n).findIdx? fun (n : Nat) => decide (o.k = 11 ∧ o.n = (n : Int) ∧ o.a = 0 ∧ o.l = 0 ∧ o.s = ⟨#[]⟩) := by
    rw [List.findIdx?_map]
    rfl
  have e2 : atS L o = (L.map Sv.n).findIdx? fun (n : Nat) => decide (o.k = 11 ∧ o.n = (n : Int) ∧ o.a = 0 ∧ o.l = 0 ∧ o.s = ⟨#[]⟩) := by
    rw [List.findIdx?_map]
    unfold atS
    congr 1
    funext s
    rw [same_sv]
    rfl
  rw [e1, e2, h]
def atI13 (r : Option Nat) : Int := match r with | none => -1 | some i => i
section
variable {own : Nat → Prop} {rb vb last : Nat} {v vs : Value} {M : List FS} {w : World}
theorem RSv.at (h : RSv own rb v vb vs M last w) {i : Nat} {s : FS} (hi : M[i]? = some s) : ∃ g cap, vs = .slice (some ⟨g, 0, none⟩) M.length cap ∧ w.cell? ⟨g, i * 2, none⟩ = some (.int .i64 s.n) ∧ w.cell? ⟨g, i * 2 + 1, none⟩ = some (ptr s.fb) := by
  have hl := (List.getElem?_eq_some_iff.1 hi).1
  rcases h.row with ⟨_, h0, _⟩ | ⟨g, cap, h1, h2, h3, h4, h5⟩
  · omega
  · exact ⟨g, cap, h1, h5 _ _ (oneCells_get (j := 0) hi (by decide)), h5 _ _ (oneCells_get (j := 1) hi (by decide))⟩
structure AtSt (own : Nat → Prop) (rb vb last A : Nat) (v vs : Value) (M : List FS) (o : Ob) (w wr : World) (j : Nat) : Prop where
  le : j ≤ M.length
  no : ∀ (i : Nat) (s : FS), i < j → M[i]? = some s → ¬ (o.k = 11 ∧ o.n = s.n ∧ o.a = 0 ∧ o.l = 0 ∧ o.s = ⟨#[]⟩)
  ob : ObAt wr A o.k false o.n o.a o.l o.s
  below : Below w.heap.size w wr
theorem rat_any (h : RSv own rb v vb vs M last w) (hl : ∀ b, own b → b < w.heap.size) (k : Int) (x : Bool) (n a l : Int) (s : ByteArray) : Calls Try.prog 97 #[ptr vb, obV k x n a l s] w fun e w' => e = .returned (.int .i64 (atI13 (atM M ⟨k, x, n, a, l, s⟩))) ∧ Below w.heap.size w w' := by
  have H := Lib.hid h
  have HL := Lib.hid hl
  obtain ⟨p, cap, rfl, _⟩ := h.row.form
  clear h hl
  go_enter Try.func97, Try.ntmps97
  go_upto_region 1 with fail
  obtain ⟨wb, eb, kb, ob⟩ : ∃ wb, w.alloc (.cells #[.int .i64 k, .bool x, .int .i64 n, .int .i64 a, .int .i64 l, .string s] 24) = wb ∧ Below w.heap.size w wb ∧ wb.heap[w.heap.size]? = some (obObj k x n a l s) := ⟨_, rfl, box_below _ _, heap_alloc_new _ _⟩
  rw [eb]
  obtain ⟨⟨c0, c1, c2, c3, c4, c5⟩, f0, f1, f2, f3, f4, f5⟩ := cells6 ob
  have KB := Lib.hid kb
  have OB := Lib.hid ob
  clear eb kb ob
  go_upto_region 2 with fail
  obtain ⟨wc, ewc⟩ : ∃ wc, wb.setCell ⟨w.heap.size, 1, none⟩ (.bool false) = wc := ⟨_, rfl⟩
  rw [ewc]
  have kc : Below w.heap.size w wc := by rw [← ewc]; exact KB.out.setCell (p := ⟨w.heap.size, 1, none⟩) (Nat.le_refl _) _
  have oc : wc.heap[w.heap.size]? = some (obObj k false n a l s) := by
    rw [← ewc, heap_setCell_same _ _ _ _ 24 _ OB.out]
    rfl
  have ST : Hid (AtSt own rb vb last w.heap.size v (.slice p M.length cap) M ⟨k, x, n, a, l, s⟩ w wc 0) := Lib.hid ⟨Nat.zero_le _, fun i s hi => by omega, ob_cells oc, kc⟩
  clear ewc kc oc c0 c1 c2 c3 c4 c5 f0 f1 f2 f3 f4 f5 OB KB
  go_wp2
  go_loopw [5] (fun i wr => ∃ j : Nat, i = .int .i64 j ∧ AtSt own rb vb last w.heap.size v (.slice p M.length cap) M ⟨k, x, n, a, l, s⟩ w wr j) (fun i _ => M.length - (intOf i).toNat)
  case atStart => exact ⟨0, rfl, ST.out⟩
  case round =>
    obtain ⟨j, rfl, fj⟩ := hrel
    have FJ := Lib.hid fj
    clear fj ST
    have R := Lib.hid (H.out.below FJ.out.below HL.out)
    have h0 : wr.cell? ⟨vb, 0, none⟩ = some (.slice p M.length cap) := cellAt R.out.hdr 0
    have L10 := H.out.len
    by_cases hlt : j < M.length
    · obtain ⟨t, ht⟩ : ∃ t, M[j]? = some t := ⟨_, List.getElem?_eq_getElem hlt⟩
      obtain ⟨g, cap', ev, d0, d1⟩ := R.out.at ht
      obtain ⟨rfl, rfl⟩ : p = some ⟨g, 0, none⟩ ∧ cap = cap' := by simpa using ev
      have HT := Lib.hid ht
      have HLT := Lib.hid hlt
      have t0 : (0 : Int) ≤ j := by omega
      have t1 : (j : Int) < M.length := by omega
      obtain ⟨c0, c1, c2, c3, c4, c5⟩ := FJ.out.ob
      obtain ⟨r, hr⟩ : ∃ r, decide (k = 11 ∧ false = false ∧ n = (t.n : Int) ∧ a = 0 ∧ l = 0 ∧ s = ⟨#[]⟩) = r := ⟨_, rfl⟩
      have q : ∀ w, (binOp .eql 24 (.agg #[.int .i64 k, .bool false, .int .i64 n, .int .i64 a, .int .i64 l, .string s]) (.agg #[.int .i64 11, .bool false, .int .i64 t.n, .int .i64 0, .int .i64 0, .string ⟨#[]⟩])).run Try.prog w = .ok (.bool r) w := fun w => by rw [eqO, hr]
      have e1 : IntKind.i64.wrap ((j : Int) + 1) = ((j + 1 : Nat) : Int) := by rw [IntWalk.i64_in _ (by omega)]; omega
      have HR := Lib.hid hr
      clear ht hlt ev d1 hr
      cases r
      · go_wp2_with fail
        go_quiet (fail)
        have FD : Hid (AtSt own rb vb last w.heap.size v (.slice (some ⟨g, 0, none⟩) M.length cap) M ⟨k, x, n, a, l, s⟩ w (wr.drewN nq) (j + 1)) := Lib.hid ⟨HLT.out, fun i s' hi hs => by
          by_cases e : i = j
          · subst e
            rw [HT.out] at hs
            obtain rfl := Option.some.inj hs
            have := HR.out
            simpa using this
          · exact FJ.out.no i s' (by omega) hs, FJ.out.ob, below_and FJ.out.below (below_drewN _ _)⟩
        generalize wr.drewN nq = wq at FD ⊢
        clear h0 d0 c0 c1 c2 c3 c4 c5 q
        go_wp2
        go_roundw
        case rel => exact ⟨j + 1, by first | rfl | exact congrArg (Value.int .i64) e1, FD.out⟩
        case measure => first | exact measure_up M.length j _ rfl HLT.out | exact measure_up M.length j _ e1 HLT.out
      · have ha : atM M ⟨k, x, n, a, l, s⟩ = some j := by
          rw [atM, List.findIdx?_eq_some_iff_getElem]
          obtain ⟨hl, he⟩ := List.getElem?_eq_some_iff.1 HT.out
          refine ⟨hl, by rw [he]; have := HR.out; simpa using this, fun i hi => ?_⟩
          have := FJ.out.no i M[i] hi (List.getElem?_eq_getElem (by omega))
          simpa using this
        go_wp2_with fail
        go_quiet (fail)
        go_wp2
        go_ret
        exact ⟨by first | rfl | (rw [ha]; rfl), below_and FJ.out.below (below_drewN _ _)⟩
    · have ha : atM M ⟨k, x, n, a, l, s⟩ = none := by
        rw [atM, List.findIdx?_eq_none_iff]
        intro s' hs
        obtain ⟨i, hi⟩ := List.mem_iff_getElem?.1 hs
        have := FJ.out.no i s' (by have := (List.getElem?_eq_some_iff.1 hi).1; omega) hi
        simpa using this
      have t1 : ¬ ((j : Int) < M.length) := by omega
      go_wp2
      go_ret
      exact ⟨by first | rfl | (rw [ha]; rfl), FJ.out.below⟩
end
end Go.Proofs.Ytmlkmgeddkpgiaa

/- Walks of tympanref13: Newer. -/
namespace Go.Proofs.Ytmlkmgeddkpgiaa
open Go.RowKit
set_option linter.unusedVariables false
set_option linter.unusedSimpArgs false
set_option maxHeartbeats 1000000
set_option maxRecDepth 100000

/-- What the last statement of Newer reads. -/
structure NwX (w : World) (A vb g z cap i fb m capF : Nat) (pF : Option Addr) (last : Nat) (k n a l k' n' a' l' : Int) (x x' : Bool) (s s' : ByteArray) : Prop where
  o : w.heap[A]? = some (obObj k x n a l s)
  q : w.heap[A + 1]? = some (obObj k' x' n' a' l' s')
  hv : w.heap[vb]? = some (.cells #[.slice (some ⟨g, 0, none⟩) z cap, .int .i64 last] 75 (0, 0))
  d1 : w.cell? ⟨g, i * 2 + 1, none⟩ = some (ptr fb)
  hf : w.heap[fb]? = some (.cells #[.slice pF m capF] 31 (0, 0))
theorem NwX.later {w w' : World} {A vb g z cap i fb m capF : Nat} {pF : Option Addr} {last : Nat} {k n a l k' n' a' l' : Int} {x x' : Bool} {s s' : ByteArray} (h : NwX w A vb g z cap i fb m capF pF last k n a l k' n' a' l' x x' s s') (e : Below w.heap.size w w') : NwX w' A vb g z cap i fb m capF pF last k n a l k' n' a' l' x x' s s' :=
  ⟨(e.block _ (blk_lt h.o)).trans h.o, (e.block _ (blk_lt h.q)).trans h.q, (e.block _ (blk_lt h.hv)).trans h.hv, cell_later e h.d1, (e.block _ (blk_lt h.hf)).trans h.hf⟩
theorem NwX.cells {w : World} {A vb g z cap i fb m capF : Nat} {pF : Option Addr} {last : Nat} {k n a l k' n' a' l' : Int} {x x' : Bool} {s s' : ByteArray} (h : NwX w A vb g z cap i fb m capF pF last k n a l k' n' a' l' x x' s s') :
    ObAt w A k x n a l s ∧ ObAt w (A + 1) k' x' n' a' l' s' ∧ w.cell? ⟨vb, 0, none⟩ = some (.slice (some ⟨g, 0, none⟩) z cap) ∧ w.cell? ⟨g, i * 2 + 1, none⟩ = some (ptr fb) ∧ w.cell? ⟨fb, 0, none⟩ = some (.slice pF m capF) :=
  ⟨ob_cells h.o, ob_cells h.q, cellAt h.hv 0, h.d1, cellAt h.hf 0⟩
theorem rnew_a (vb g z cap i fb m capF last : Nat) (pF : Option Addr) (k n a l k' n' a' l' : Int) (x x' p : Bool) (s s' : ByteArray) (w : World) (hiz : i < z) (h0 : w.heap[vb]? = some (.cells #[.slice (some ⟨g, 0, none⟩) z cap, .int .i64 last] 75 (0, 0))) (h1 : w.cell? ⟨g, i * 2 + 1, none⟩ = some (ptr fb)) (h2 : w.heap[fb]? = some (.cells #[.slice pF m capF] 31 (0, 0)))
    (e1 : decide ((m : Int) ≤ n') = true)
    (hat : Hid (∀ wx, Below w.heap.size w wx → Calls Try.prog 97 #[ptr vb, obV k x n a l s] wx fun e w' => e = .returned (.int .i64 i) ∧ Below wx.heap.size wx w'))
    (hcm : Hid (∀ wx, Calls Try.prog 101 #[obV k' x' n' a' l' s'] wx fun e w' => e = .returned (.bool true) ∧ Below wx.heap.size wx w')) :
    Calls Try.prog 54 #[ptr vb, obV k x n a l s, obV k' x' n' a' l' s'] w fun e w' => e = .returned (.bool true) ∧ Below w.heap.size w w' := by
  have t0 : (0 : Int) ≤ i := by omega
  have t1 : (i : Int) < z := by omega
  have HH := Lib.hid (And.intro h0 (And.intro h1 h2))
  clear h0 h1 h2
  go_enter Try.func54, Try.ntmps54
  go_upto_region 1 with fail
  obtain ⟨wb, eb, kb, nx⟩ : ∃ wb, (w.alloc (.cells #[.int .i64 k, .bool x, .int .i64 n, .int .i64 a, .int .i64 l, .string s] 24)).alloc (.cells #[.int .i64 k', .bool x', .int .i64 n', .int .i64 a', .int .i64 l', .string s'] 24) = wb ∧ Below w.heap.size w wb ∧ NwX wb w.heap.size vb g z cap i fb m capF pF last k n a l k' n' a' l' x x' s s' := by
    have h2 := heap_alloc_new (w.alloc (.cells #[.int .i64 k, .bool x, .int .i64 n, .int .i64 a, .int .i64 l, .string s] 24)) (obObj k' x' n' a' l' s')
    have kb := below_and (box_below w (.cells #[.int .i64 k, .bool x, .int .i64 n, .int .i64 a, .int .i64 l, .string s] 24)) (box_below (w.alloc (.cells #[.int .i64 k, .bool x, .int .i64 n, .int .i64 a, .int .i64 l, .string s] 24)) (.cells #[.int .i64 k', .bool x', .int .i64 n', .int .i64 a', .int .i64 l', .string s'] 24))
    exact ⟨_, rfl, kb, (Below.heap_alloc _ _ _ (by simp)).trans (heap_alloc_new _ _), by simpa using h2, (kb.block _ (blk_lt HH.out.1)).trans HH.out.1, cell_later kb HH.out.2.1, (kb.block _ (blk_lt HH.out.2.2)).trans HH.out.2.2⟩
  rw [eb]
  have NX := Lib.hid nx
  have KB := Lib.hid kb
  obtain ⟨c0, c1, c2, c3, c4, c5⟩ := ob_cells nx.o
  clear eb kb nx
  go_wp2_with fail
  refine (hat.out _ KB.out).mono ?_
  rintro e wc ⟨rfl, kc⟩
  have nc := NX.out.later kc
  have kd := below_and KB.out kc
  clear kc c0 c1 c2 c3 c4 c5 NX KB
  go_upto_region 4 with fail
  have SX0 : NwX wc.drew w.heap.size vb g z cap i fb m capF pF last k n a l k' n' a' l' x x' s s' := nc.later (Below.refl _ _).drew
  have kd' : Below w.heap.size w wc.drew := kd.drew
  (try refine wp_region_noPanic ?_)
  refine wp_region_held_drew (S := fun wx => NwX wx w.heap.size vb g z cap i fb m capF pF last k n a l k' n' a' l' x x' s s') (by kernel_rfl) SX0 (fun _ => ?_)
  generalize wc.drew = wd at SX0 kd' ⊢
  have SX := Lib.hid SX0
  have KD := Lib.hid kd'
  clear SX0 kd' nc kd
  refine wpAnyH_take (i := 0) (v := obV k' x' n' a' l' s') rfl (by kernel_rfl) (by kernel_rfl) (by kernel_rfl) (fun _ _ _ h => h) (Or.inl ⟨by rfl, fun wx hS => ?_⟩) SX.out ?_
  · obtain ⟨⟨a0, a1, a2, a3, a4, a5⟩, ⟨b0, b1, b2, b3, b4, b5⟩, v0, d1, f0⟩ := hS.cells
    go_simp
  try simp only [Act.put, List.getElem_toArray, List.getElem_cons_succ, List.getElem_cons_zero, List.setIfInBounds_toArray, List.set_cons_zero, List.set_cons_succ]
  refine wpAnyH_ready (rs := [1]) (by kernel_rfl) (by simp) ?_
  refine AllReadyH.cons rfl (fun K hK => ?_) AllReadyH.nil
  go_simp
  refine (hcm.out _).mono ?_
  rintro e we ⟨rfl, ke⟩
  replace SX := Lib.hid (SX.out.later ke)
  replace KD := Lib.hid (below_and KD.out ke)
  clear ke
  refine hK.out _ _ SX.out (fun _ => ?_)
  clear hK
  try simp only [Act.put, List.getElem_toArray, List.getElem_cons_succ, List.getElem_cons_zero, List.setIfInBounds_toArray, List.set_cons_zero, List.set_cons_succ]
  refine wpAnyH_take (i := 2) (v := .bool true) rfl (by kernel_rfl) (by kernel_rfl) (by kernel_rfl) (fun _ _ _ h => h) (Or.inl ⟨by rfl, fun wx hS => ?_⟩) SX.out ?_
  · obtain ⟨⟨a0, a1, a2, a3, a4, a5⟩, ⟨b0, b1, b2, b3, b4, b5⟩, v0, d1, f0⟩ := hS.cells
    go_simp
  try simp only [Act.put, List.getElem_toArray, List.getElem_cons_succ, List.getElem_cons_zero, List.setIfInBounds_toArray, List.set_cons_zero, List.set_cons_succ]
  refine wpAnyH_take (i := 3) (v := .pointer (some ⟨w.heap.size + 1, 2, none⟩)) rfl (by kernel_rfl) (by kernel_rfl) (by kernel_rfl) (fun _ _ _ h => h) (Or.inl ⟨by rfl, fun wx hS => ?_⟩) SX.out ?_
  · obtain ⟨⟨a0, a1, a2, a3, a4, a5⟩, ⟨b0, b1, b2, b3, b4, b5⟩, v0, d1, f0⟩ := hS.cells
    go_simp
  try simp only [Act.put, List.getElem_toArray, List.getElem_cons_succ, List.getElem_cons_zero, List.setIfInBounds_toArray, List.set_cons_zero, List.set_cons_succ]
  refine wpAnyH_take (i := 4) (v := .int .i64 n') rfl (by kernel_rfl) (by kernel_rfl) (by kernel_rfl) (fun _ _ _ h => h) (Or.inl ⟨by rfl, fun wx hS => ?_⟩) SX.out ?_
  · obtain ⟨⟨a0, a1, a2, a3, a4, a5⟩, ⟨b0, b1, b2, b3, b4, b5⟩, v0, d1, f0⟩ := hS.cells
    go_simp
  try simp only [Act.put, List.getElem_toArray, List.getElem_cons_succ, List.getElem_cons_zero, List.setIfInBounds_toArray, List.set_cons_zero, List.set_cons_succ]
  refine wpAnyH_take (i := 5) (v := ptr vb) rfl (by kernel_rfl) (by kernel_rfl) (by kernel_rfl) (fun _ _ _ h => h) (Or.inl ⟨by rfl, fun wx hS => ?_⟩) SX.out ?_
  · obtain ⟨⟨a0, a1, a2, a3, a4, a5⟩, ⟨b0, b1, b2, b3, b4, b5⟩, v0, d1, f0⟩ := hS.cells
    go_simp
  try simp only [Act.put, List.getElem_toArray, List.getElem_cons_succ, List.getElem_cons_zero, List.setIfInBounds_toArray, List.set_cons_zero, List.set_cons_succ]
  refine wpAnyH_take (i := 6) (v := ptr vb) rfl (by kernel_rfl) (by kernel_rfl) (by kernel_rfl) (fun _ _ _ h => h) (Or.inl ⟨by rfl, fun wx hS => ?_⟩) SX.out ?_
  · obtain ⟨⟨a0, a1, a2, a3, a4, a5⟩, ⟨b0, b1, b2, b3, b4, b5⟩, v0, d1, f0⟩ := hS.cells
    go_simp
  try simp only [Act.put, List.getElem_toArray, List.getElem_cons_succ, List.getElem_cons_zero, List.setIfInBounds_toArray, List.set_cons_zero, List.set_cons_succ]
  refine wpAnyH_take (i := 7) (v := .pointer (some ⟨vb, 0, none⟩)) rfl (by kernel_rfl) (by kernel_rfl) (by kernel_rfl) (fun _ _ _ h => h) (Or.inl ⟨by rfl, fun wx hS => ?_⟩) SX.out ?_
  · obtain ⟨⟨a0, a1, a2, a3, a4, a5⟩, ⟨b0, b1, b2, b3, b4, b5⟩, v0, d1, f0⟩ := hS.cells
    go_simp
  try simp only [Act.put, List.getElem_toArray, List.getElem_cons_succ, List.getElem_cons_zero, List.setIfInBounds_toArray, List.set_cons_zero, List.set_cons_succ]
  refine wpAnyH_take (i := 8) (v := .slice (some ⟨g, 0, none⟩) z cap) rfl (by kernel_rfl) (by kernel_rfl) (by kernel_rfl) (fun _ _ _ h => h) (Or.inl ⟨by rfl, fun wx hS => ?_⟩) SX.out ?_
  · obtain ⟨⟨a0, a1, a2, a3, a4, a5⟩, ⟨b0, b1, b2, b3, b4, b5⟩, v0, d1, f0⟩ := hS.cells
    go_simp
  try simp only [Act.put, List.getElem_toArray, List.getElem_cons_succ, List.getElem_cons_zero, List.setIfInBounds_toArray, List.set_cons_zero, List.set_cons_succ]
  refine wpAnyH_take (i := 9) (v := .int .i64 i) rfl (by kernel_rfl) (by kernel_rfl) (by kernel_rfl) (fun _ _ _ h => h) (Or.inl ⟨by rfl, fun wx hS => ?_⟩) SX.out ?_
  · obtain ⟨⟨a0, a1, a2, a3, a4, a5⟩, ⟨b0, b1, b2, b3, b4, b5⟩, v0, d1, f0⟩ := hS.cells
    go_simp
  try simp only [Act.put, List.getElem_toArray, List.getElem_cons_succ, List.getElem_cons_zero, List.setIfInBounds_toArray, List.set_cons_zero, List.set_cons_succ]
  refine wpAnyH_take (i := 10) (v := .pointer (some ⟨g, i * 2, none⟩)) rfl (by kernel_rfl) (by kernel_rfl) (by kernel_rfl) (fun _ _ _ h => h) (Or.inl ⟨by rfl, fun wx hS => ?_⟩) SX.out ?_
  · obtain ⟨⟨a0, a1, a2, a3, a4, a5⟩, ⟨b0, b1, b2, b3, b4, b5⟩, v0, d1, f0⟩ := hS.cells
    go_simp
  try simp only [Act.put, List.getElem_toArray, List.getElem_cons_succ, List.getElem_cons_zero, List.setIfInBounds_toArray, List.set_cons_zero, List.set_cons_succ]
  refine wpAnyH_take (i := 11) (v := .pointer (some ⟨g, i * 2 + 1, none⟩)) rfl (by kernel_rfl) (by kernel_rfl) (by kernel_rfl) (fun _ _ _ h => h) (Or.inl ⟨by rfl, fun wx hS => ?_⟩) SX.out ?_
  · obtain ⟨⟨a0, a1, a2, a3, a4, a5⟩, ⟨b0, b1, b2, b3, b4, b5⟩, v0, d1, f0⟩ := hS.cells
    go_simp
  try simp only [Act.put, List.getElem_toArray, List.getElem_cons_succ, List.getElem_cons_zero, List.setIfInBounds_toArray, List.set_cons_zero, List.set_cons_succ]
  refine wpAnyH_take (i := 12) (v := ptr fb) rfl (by kernel_rfl) (by kernel_rfl) (by kernel_rfl) (fun _ _ _ h => h) (Or.inl ⟨by rfl, fun wx hS => ?_⟩) SX.out ?_
  · obtain ⟨⟨a0, a1, a2, a3, a4, a5⟩, ⟨b0, b1, b2, b3, b4, b5⟩, v0, d1, f0⟩ := hS.cells
    go_simp
  try simp only [Act.put, List.getElem_toArray, List.getElem_cons_succ, List.getElem_cons_zero, List.setIfInBounds_toArray, List.set_cons_zero, List.set_cons_succ]
  refine wpAnyH_take (i := 13) (v := ptr fb) rfl (by kernel_rfl) (by kernel_rfl) (by kernel_rfl) (fun _ _ _ h => h) (Or.inl ⟨by rfl, fun wx hS => ?_⟩) SX.out ?_
  · obtain ⟨⟨a0, a1, a2, a3, a4, a5⟩, ⟨b0, b1, b2, b3, b4, b5⟩, v0, d1, f0⟩ := hS.cells
    go_simp
  try simp only [Act.put, List.getElem_toArray, List.getElem_cons_succ, List.getElem_cons_zero, List.setIfInBounds_toArray, List.set_cons_zero, List.set_cons_succ]
  refine wpAnyH_take (i := 14) (v := .pointer (some ⟨fb, 0, none⟩)) rfl (by kernel_rfl) (by kernel_rfl) (by kernel_rfl) (fun _ _ _ h => h) (Or.inl ⟨by rfl, fun wx hS => ?_⟩) SX.out ?_
  · obtain ⟨⟨a0, a1, a2, a3, a4, a5⟩, ⟨b0, b1, b2, b3, b4, b5⟩, v0, d1, f0⟩ := hS.cells
    go_simp
  try simp only [Act.put, List.getElem_toArray, List.getElem_cons_succ, List.getElem_cons_zero, List.setIfInBounds_toArray, List.set_cons_zero, List.set_cons_succ]
  refine wpAnyH_take (i := 15) (v := .slice pF m capF) rfl (by kernel_rfl) (by kernel_rfl) (by kernel_rfl) (fun _ _ _ h => h) (Or.inl ⟨by rfl, fun wx hS => ?_⟩) SX.out ?_
  · obtain ⟨⟨a0, a1, a2, a3, a4, a5⟩, ⟨b0, b1, b2, b3, b4, b5⟩, v0, d1, f0⟩ := hS.cells
    go_simp
  try simp only [Act.put, List.getElem_toArray, List.getElem_cons_succ, List.getElem_cons_zero, List.setIfInBounds_toArray, List.set_cons_zero, List.set_cons_succ]
  refine wpAnyH_take (i := 16) (v := .int .i64 m) rfl (by kernel_rfl) (by kernel_rfl) (by kernel_rfl) (fun _ _ _ h => h) (Or.inl ⟨by rfl, fun wx hS => ?_⟩) SX.out ?_
  · obtain ⟨⟨a0, a1, a2, a3, a4, a5⟩, ⟨b0, b1, b2, b3, b4, b5⟩, v0, d1, f0⟩ := hS.cells
    go_simp
  try simp only [Act.put, List.getElem_toArray, List.getElem_cons_succ, List.getElem_cons_zero, List.setIfInBounds_toArray, List.set_cons_zero, List.set_cons_succ]
  refine wpAnyH_take (i := 17) (v := .bool true) rfl (by kernel_rfl) (by kernel_rfl) (by kernel_rfl) (fun _ _ _ h => h) (Or.inl ⟨by rfl, fun wx hS => ?_⟩) SX.out ?_
  · obtain ⟨⟨a0, a1, a2, a3, a4, a5⟩, ⟨b0, b1, b2, b3, b4, b5⟩, v0, d1, f0⟩ := hS.cells
    go_simp
  try simp only [Act.put, List.getElem_toArray, List.getElem_cons_succ, List.getElem_cons_zero, List.setIfInBounds_toArray, List.set_cons_zero, List.set_cons_succ]
  refine wpAnyH_take (i := 18) (v := .bool true) rfl (by kernel_rfl) (by kernel_rfl) (by kernel_rfl) (fun _ _ _ h => h) (Or.inl ⟨by rfl, fun wx hS => ?_⟩) SX.out ?_
  · obtain ⟨⟨a0, a1, a2, a3, a4, a5⟩, ⟨b0, b1, b2, b3, b4, b5⟩, v0, d1, f0⟩ := hS.cells
    go_simp
  try simp only [Act.put, List.getElem_toArray, List.getElem_cons_succ, List.getElem_cons_zero, List.setIfInBounds_toArray, List.set_cons_zero, List.set_cons_succ]
  refine wpAnyH_take (i := 19) (v := .bool true) rfl (by kernel_rfl) (by kernel_rfl) (by kernel_rfl) (fun _ _ _ h => h) (Or.inl ⟨by rfl, fun wx hS => ?_⟩) SX.out ?_
  · obtain ⟨⟨a0, a1, a2, a3, a4, a5⟩, ⟨b0, b1, b2, b3, b4, b5⟩, v0, d1, f0⟩ := hS.cells
    go_simp
  try simp only [Act.put, List.getElem_toArray, List.getElem_cons_succ, List.getElem_cons_zero, List.setIfInBounds_toArray, List.set_cons_zero, List.set_cons_succ]
  refine wpAnyH_take (i := 20) (v := undef) rfl (by kernel_rfl) (by kernel_rfl) (by kernel_rfl) (fun _ _ _ h => h) (Or.inr ⟨by rfl, rfl⟩) SX.out ?_
  try simp only [Act.put, List.getElem_toArray, List.getElem_cons_succ, List.getElem_cons_zero, List.setIfInBounds_toArray, List.set_cons_zero, List.set_cons_succ]
  refine wpAnyH_take (i := 21) (v := undef) rfl (by kernel_rfl) (by kernel_rfl) (by kernel_rfl) (fun _ _ _ h => h) (Or.inr ⟨by rfl, rfl⟩) SX.out ?_
  try simp only [Act.put, List.getElem_toArray, List.getElem_cons_succ, List.getElem_cons_zero, List.setIfInBounds_toArray, List.set_cons_zero, List.set_cons_succ]
  refine wpAnyH_take (i := 22) (v := undef) rfl (by kernel_rfl) (by kernel_rfl) (by kernel_rfl) (fun _ _ _ h => h) (Or.inr ⟨by rfl, rfl⟩) SX.out ?_
  try simp only [Act.put, List.getElem_toArray, List.getElem_cons_succ, List.getElem_cons_zero, List.setIfInBounds_toArray, List.set_cons_zero, List.set_cons_succ]
  refine wpAnyH_take (i := 23) (v := undef) rfl (by kernel_rfl) (by kernel_rfl) (by kernel_rfl) (fun _ _ _ h => h) (Or.inr ⟨by rfl, rfl⟩) SX.out ?_
  try simp only [Act.put, List.getElem_toArray, List.getElem_cons_succ, List.getElem_cons_zero, List.setIfInBounds_toArray, List.set_cons_zero, List.set_cons_succ]
  refine wpAnyH_take (i := 24) (v := undef) rfl (by kernel_rfl) (by kernel_rfl) (by kernel_rfl) (fun _ _ _ h => h) (Or.inr ⟨by rfl, rfl⟩) SX.out ?_
  try simp only [Act.put, List.getElem_toArray, List.getElem_cons_succ, List.getElem_cons_zero, List.setIfInBounds_toArray, List.set_cons_zero, List.set_cons_succ]
  refine wpAnyH_take (i := 25) (v := undef) rfl (by kernel_rfl) (by kernel_rfl) (by kernel_rfl) (fun _ _ _ h => h) (Or.inr ⟨by rfl, rfl⟩) SX.out ?_
  try simp only [Act.put, List.getElem_toArray, List.getElem_cons_succ, List.getElem_cons_zero, List.setIfInBounds_toArray, List.set_cons_zero, List.set_cons_succ]
  refine wpAnyH_take (i := 26) (v := undef) rfl (by kernel_rfl) (by kernel_rfl) (by kernel_rfl) (fun _ _ _ h => h) (Or.inr ⟨by rfl, rfl⟩) SX.out ?_
  try simp only [Act.put, List.getElem_toArray, List.getElem_cons_succ, List.getElem_cons_zero, List.setIfInBounds_toArray, List.set_cons_zero, List.set_cons_succ]
  refine wpAnyH_take (i := 27) (v := undef) rfl (by kernel_rfl) (by kernel_rfl) (by kernel_rfl) (fun _ _ _ h => h) (Or.inr ⟨by rfl, rfl⟩) SX.out ?_
  try simp only [Act.put, List.getElem_toArray, List.getElem_cons_succ, List.getElem_cons_zero, List.setIfInBounds_toArray, List.set_cons_zero, List.set_cons_succ]
  refine wpAnyH_take (i := 28) (v := undef) rfl (by kernel_rfl) (by kernel_rfl) (by kernel_rfl) (fun _ _ _ h => h) (Or.inr ⟨by rfl, rfl⟩) SX.out ?_
  try simp only [Act.put, List.getElem_toArray, List.getElem_cons_succ, List.getElem_cons_zero, List.setIfInBounds_toArray, List.set_cons_zero, List.set_cons_succ]
  refine wpAnyH_take (i := 29) (v := undef) rfl (by kernel_rfl) (by kernel_rfl) (by kernel_rfl) (fun _ _ _ h => h) (Or.inr ⟨by rfl, rfl⟩) SX.out ?_
  try simp only [Act.put, List.getElem_toArray, List.getElem_cons_succ, List.getElem_cons_zero, List.setIfInBounds_toArray, List.set_cons_zero, List.set_cons_succ]
  refine wpAnyH_take (i := 30) (v := .bool true) rfl (by kernel_rfl) (by kernel_rfl) (by kernel_rfl) (fun _ _ _ h => h) (Or.inl ⟨by rfl, fun wx hS => ?_⟩) SX.out ?_
  · obtain ⟨⟨a0, a1, a2, a3, a4, a5⟩, ⟨b0, b1, b2, b3, b4, b5⟩, v0, d1, f0⟩ := hS.cells
    go_simp
  try simp only [Act.put, List.getElem_toArray, List.getElem_cons_succ, List.getElem_cons_zero, List.setIfInBounds_toArray, List.set_cons_zero, List.set_cons_succ]
  refine wpAnyH_take (i := 31) (v := .bool true) rfl (by kernel_rfl) (by kernel_rfl) (by kernel_rfl) (fun _ _ _ h => h) (Or.inl ⟨by rfl, fun wx hS => ?_⟩) SX.out ?_
  · obtain ⟨⟨a0, a1, a2, a3, a4, a5⟩, ⟨b0, b1, b2, b3, b4, b5⟩, v0, d1, f0⟩ := hS.cells
    go_simp
  try simp only [Act.put, List.getElem_toArray, List.getElem_cons_succ, List.getElem_cons_zero, List.setIfInBounds_toArray, List.set_cons_zero, List.set_cons_succ]
  refine wpAnyH_done (by kernel_rfl) ?_ _
  (try refine no_panic ?_)
  go_wp2
  go_ret
  exact ⟨rfl, KD.out⟩
theorem rnew_b (vb g z cap i fb m capF last : Nat) (pF : Option Addr) (k n a l k' n' a' l' : Int) (x x' p : Bool) (s s' : ByteArray) (w : World) (hiz : i < z) (h0 : w.heap[vb]? = some (.cells #[.slice (some ⟨g, 0, none⟩) z cap, .int .i64 last] 75 (0, 0))) (h1 : w.cell? ⟨g, i * 2 + 1, none⟩ = some (ptr fb)) (h2 : w.heap[fb]? = some (.cells #[.slice pF m capF] 31 (0, 0)))
    (e1 : decide ((m : Int) ≤ n') = false) (e2 : (k' == 11) = false)
    (hat : Hid (∀ wx, Below w.heap.size w wx → Calls Try.prog 97 #[ptr vb, obV k x n a l s] wx fun e w' => e = .returned (.int .i64 i) ∧ Below wx.heap.size wx w'))
    (hcm : Hid (∀ wx, Calls Try.prog 101 #[obV k' x' n' a' l' s'] wx fun e w' => e = .returned (.bool true) ∧ Below wx.heap.size wx w')) :
    Calls Try.prog 54 #[ptr vb, obV k x n a l s, obV k' x' n' a' l' s'] w fun e w' => e = .returned (.bool false) ∧ Below w.heap.size w w' := by
  have t0 : (0 : Int) ≤ i := by omega
  have t1 : (i : Int) < z := by omega
  have HH := Lib.hid (And.intro h0 (And.intro h1 h2))
  clear h0 h1 h2
  go_enter Try.func54, Try.ntmps54
  go_upto_region 1 with fail
  obtain ⟨wb, eb, kb, nx⟩ : ∃ wb, (w.alloc (.cells #[.int .i64 k, .bool x, .int .i64 n, .int .i64 a, .int .i64 l, .string s] 24)).alloc (.cells #[.int .i64 k', .bool x', .int .i64 n', .int .i64 a', .int .i64 l', .string s'] 24) = wb ∧ Below w.heap.size w wb ∧ NwX wb w.heap.size vb g z cap i fb m capF pF last k n a l k' n' a' l' x x' s s' := by
    have h2 := heap_alloc_new (w.alloc (.cells #[.int .i64 k, .bool x, .int .i64 n, .int .i64 a, .int .i64 l, .string s] 24)) (obObj k' x' n' a' l' s')
    have kb := below_and (box_below w (.cells #[.int .i64 k, .bool x, .int .i64 n, .int .i64 a, .int .i64 l, .string s] 24)) (box_below (w.alloc (.cells #[.int .i64 k, .bool x, .int .i64 n, .int .i64 a, .int .i64 l, .string s] 24)) (.cells #[.int .i64 k', .bool x', .int .i64 n', .int .i64 a', .int .i64 l', .string s'] 24))
    exact ⟨_, rfl, kb, (Below.heap_alloc _ _ _ (by simp)).trans (heap_alloc_new _ _), by simpa using h2, (kb.block _ (blk_lt HH.out.1)).trans HH.out.1, cell_later kb HH.out.2.1, (kb.block _ (blk_lt HH.out.2.2)).trans HH.out.2.2⟩
  rw [eb]
  have NX := Lib.hid nx
  have KB := Lib.hid kb
  obtain ⟨c0, c1, c2, c3, c4, c5⟩ := ob_cells nx.o
  clear eb kb nx
  go_wp2_with fail
  refine (hat.out _ KB.out).mono ?_
  rintro e wc ⟨rfl, kc⟩
  have nc := NX.out.later kc
  have kd := below_and KB.out kc
  clear kc c0 c1 c2 c3 c4 c5 NX KB
  go_upto_region 4 with fail
  have SX0 : NwX wc.drew w.heap.size vb g z cap i fb m capF pF last k n a l k' n' a' l' x x' s s' := nc.later (Below.refl _ _).drew
  have kd' : Below w.heap.size w wc.drew := kd.drew
  (try refine wp_region_noPanic ?_)
  refine wp_region_held_drew (S := fun wx => NwX wx w.heap.size vb g z cap i fb m capF pF last k n a l k' n' a' l' x x' s s') (by kernel_rfl) SX0 (fun _ => ?_)
  generalize wc.drew = wd at SX0 kd' ⊢
  have SX := Lib.hid SX0
  have KD := Lib.hid kd'
  clear SX0 kd' nc kd
  refine wpAnyH_take (i := 0) (v := obV k' x' n' a' l' s') rfl (by kernel_rfl) (by kernel_rfl) (by kernel_rfl) (fun _ _ _ h => h) (Or.inl ⟨by rfl, fun wx hS => ?_⟩) SX.out ?_
  · obtain ⟨⟨a0, a1, a2, a3, a4, a5⟩, ⟨b0, b1, b2, b3, b4, b5⟩, v0, d1, f0⟩ := hS.cells
    go_simp
  try simp only [Act.put, List.getElem_toArray, List.getElem_cons_succ, List.getElem_cons_zero, List.setIfInBounds_toArray, List.set_cons_zero, List.set_cons_succ]
  refine wpAnyH_ready (rs := [1]) (by kernel_rfl) (by simp) ?_
  refine AllReadyH.cons rfl (fun K hK => ?_) AllReadyH.nil
  go_simp
  refine (hcm.out _).mono ?_
  rintro e we ⟨rfl, ke⟩
  replace SX := Lib.hid (SX.out.later ke)
  replace KD := Lib.hid (below_and KD.out ke)
  clear ke
  refine hK.out _ _ SX.out (fun _ => ?_)
  clear hK
  try simp only [Act.put, List.getElem_toArray, List.getElem_cons_succ, List.getElem_cons_zero, List.setIfInBounds_toArray, List.set_cons_zero, List.set_cons_succ]
  refine wpAnyH_take (i := 2) (v := .bool true) rfl (by kernel_rfl) (by kernel_rfl) (by kernel_rfl) (fun _ _ _ h => h) (Or.inl ⟨by rfl, fun wx hS => ?_⟩) SX.out ?_
  · obtain ⟨⟨a0, a1, a2, a3, a4, a5⟩, ⟨b0, b1, b2, b3, b4, b5⟩, v0, d1, f0⟩ := hS.cells
    go_simp
  try simp only [Act.put, List.getElem_toArray, List.getElem_cons_succ, List.getElem_cons_zero, List.setIfInBounds_toArray, List.set_cons_zero, List.set_cons_succ]
  refine wpAnyH_take (i := 3) (v := .pointer (some ⟨w.heap.size + 1, 2, none⟩)) rfl (by kernel_rfl) (by kernel_rfl) (by kernel_rfl) (fun _ _ _ h => h) (Or.inl ⟨by rfl, fun wx hS => ?_⟩) SX.out ?_
  · obtain ⟨⟨a0, a1, a2, a3, a4, a5⟩, ⟨b0, b1, b2, b3, b4, b5⟩, v0, d1, f0⟩ := hS.cells
    go_simp
  try simp only [Act.put, List.getElem_toArray, List.getElem_cons_succ, List.getElem_cons_zero, List.setIfInBounds_toArray, List.set_cons_zero, List.set_cons_succ]
  refine wpAnyH_take (i := 4) (v := .int .i64 n') rfl (by kernel_rfl) (by kernel_rfl) (by kernel_rfl) (fun _ _ _ h => h) (Or.inl ⟨by rfl, fun wx hS => ?_⟩) SX.out ?_
  · obtain ⟨⟨a0, a1, a2, a3, a4, a5⟩, ⟨b0, b1, b2, b3, b4, b5⟩, v0, d1, f0⟩ := hS.cells
    go_simp
  try simp only [Act.put, List.getElem_toArray, List.getElem_cons_succ, List.getElem_cons_zero, List.setIfInBounds_toArray, List.set_cons_zero, List.set_cons_succ]
  refine wpAnyH_take (i := 5) (v := ptr vb) rfl (by kernel_rfl) (by kernel_rfl) (by kernel_rfl) (fun _ _ _ h => h) (Or.inl ⟨by rfl, fun wx hS => ?_⟩) SX.out ?_
  · obtain ⟨⟨a0, a1, a2, a3, a4, a5⟩, ⟨b0, b1, b2, b3, b4, b5⟩, v0, d1, f0⟩ := hS.cells
    go_simp
  try simp only [Act.put, List.getElem_toArray, List.getElem_cons_succ, List.getElem_cons_zero, List.setIfInBounds_toArray, List.set_cons_zero, List.set_cons_succ]
  refine wpAnyH_take (i := 6) (v := ptr vb) rfl (by kernel_rfl) (by kernel_rfl) (by kernel_rfl) (fun _ _ _ h => h) (Or.inl ⟨by rfl, fun wx hS => ?_⟩) SX.out ?_
  · obtain ⟨⟨a0, a1, a2, a3, a4, a5⟩, ⟨b0, b1, b2, b3, b4, b5⟩, v0, d1, f0⟩ := hS.cells
    go_simp
  try simp only [Act.put, List.getElem_toArray, List.getElem_cons_succ, List.getElem_cons_zero, List.setIfInBounds_toArray, List.set_cons_zero, List.set_cons_succ]
  refine wpAnyH_take (i := 7) (v := .pointer (some ⟨vb, 0, none⟩)) rfl (by kernel_rfl) (by kernel_rfl) (by kernel_rfl) (fun _ _ _ h => h) (Or.inl ⟨by rfl, fun wx hS => ?_⟩) SX.out ?_
  · obtain ⟨⟨a0, a1, a2, a3, a4, a5⟩, ⟨b0, b1, b2, b3, b4, b5⟩, v0, d1, f0⟩ := hS.cells
    go_simp
  try simp only [Act.put, List.getElem_toArray, List.getElem_cons_succ, List.getElem_cons_zero, List.setIfInBounds_toArray, List.set_cons_zero, List.set_cons_succ]
  refine wpAnyH_take (i := 8) (v := .slice (some ⟨g, 0, none⟩) z cap) rfl (by kernel_rfl) (by kernel_rfl) (by kernel_rfl) (fun _ _ _ h => h) (Or.inl ⟨by rfl, fun wx hS => ?_⟩) SX.out ?_
  · obtain ⟨⟨a0, a1, a2, a3, a4, a5⟩, ⟨b0, b1, b2, b3, b4, b5⟩, v0, d1, f0⟩ := hS.cells
    go_simp
  try simp only [Act.put, List.getElem_toArray, List.getElem_cons_succ, List.getElem_cons_zero, List.setIfInBounds_toArray, List.set_cons_zero, List.set_cons_succ]
  refine wpAnyH_take (i := 9) (v := .int .i64 i) rfl (by kernel_rfl) (by kernel_rfl) (by kernel_rfl) (fun _ _ _ h => h) (Or.inl ⟨by rfl, fun wx hS => ?_⟩) SX.out ?_
  · obtain ⟨⟨a0, a1, a2, a3, a4, a5⟩, ⟨b0, b1, b2, b3, b4, b5⟩, v0, d1, f0⟩ := hS.cells
    go_simp
  try simp only [Act.put, List.getElem_toArray, List.getElem_cons_succ, List.getElem_cons_zero, List.setIfInBounds_toArray, List.set_cons_zero, List.set_cons_succ]
  refine wpAnyH_take (i := 10) (v := .pointer (some ⟨g, i * 2, none⟩)) rfl (by kernel_rfl) (by kernel_rfl) (by kernel_rfl) (fun _ _ _ h => h) (Or.inl ⟨by rfl, fun wx hS => ?_⟩) SX.out ?_
  · obtain ⟨⟨a0, a1, a2, a3, a4, a5⟩, ⟨b0, b1, b2, b3, b4, b5⟩, v0, d1, f0⟩ := hS.cells
    go_simp
  try simp only [Act.put, List.getElem_toArray, List.getElem_cons_succ, List.getElem_cons_zero, List.setIfInBounds_toArray, List.set_cons_zero, List.set_cons_succ]
  refine wpAnyH_take (i := 11) (v := .pointer (some ⟨g, i * 2 + 1, none⟩)) rfl (by kernel_rfl) (by kernel_rfl) (by kernel_rfl) (fun _ _ _ h => h) (Or.inl ⟨by rfl, fun wx hS => ?_⟩) SX.out ?_
  · obtain ⟨⟨a0, a1, a2, a3, a4, a5⟩, ⟨b0, b1, b2, b3, b4, b5⟩, v0, d1, f0⟩ := hS.cells
    go_simp
  try simp only [Act.put, List.getElem_toArray, List.getElem_cons_succ, List.getElem_cons_zero, List.setIfInBounds_toArray, List.set_cons_zero, List.set_cons_succ]
  refine wpAnyH_take (i := 12) (v := ptr fb) rfl (by kernel_rfl) (by kernel_rfl) (by kernel_rfl) (fun _ _ _ h => h) (Or.inl ⟨by rfl, fun wx hS => ?_⟩) SX.out ?_
  · obtain ⟨⟨a0, a1, a2, a3, a4, a5⟩, ⟨b0, b1, b2, b3, b4, b5⟩, v0, d1, f0⟩ := hS.cells
    go_simp
  try simp only [Act.put, List.getElem_toArray, List.getElem_cons_succ, List.getElem_cons_zero, List.setIfInBounds_toArray, List.set_cons_zero, List.set_cons_succ]
  refine wpAnyH_take (i := 13) (v := ptr fb) rfl (by kernel_rfl) (by kernel_rfl) (by kernel_rfl) (fun _ _ _ h => h) (Or.inl ⟨by rfl, fun wx hS => ?_⟩) SX.out ?_
  · obtain ⟨⟨a0, a1, a2, a3, a4, a5⟩, ⟨b0, b1, b2, b3, b4, b5⟩, v0, d1, f0⟩ := hS.cells
    go_simp
  try simp only [Act.put, List.getElem_toArray, List.getElem_cons_succ, List.getElem_cons_zero, List.setIfInBounds_toArray, List.set_cons_zero, List.set_cons_succ]
  refine wpAnyH_take (i := 14) (v := .pointer (some ⟨fb, 0, none⟩)) rfl (by kernel_rfl) (by kernel_rfl) (by kernel_rfl) (fun _ _ _ h => h) (Or.inl ⟨by rfl, fun wx hS => ?_⟩) SX.out ?_
  · obtain ⟨⟨a0, a1, a2, a3, a4, a5⟩, ⟨b0, b1, b2, b3, b4, b5⟩, v0, d1, f0⟩ := hS.cells
    go_simp
  try simp only [Act.put, List.getElem_toArray, List.getElem_cons_succ, List.getElem_cons_zero, List.setIfInBounds_toArray, List.set_cons_zero, List.set_cons_succ]
  refine wpAnyH_take (i := 15) (v := .slice pF m capF) rfl (by kernel_rfl) (by kernel_rfl) (by kernel_rfl) (fun _ _ _ h => h) (Or.inl ⟨by rfl, fun wx hS => ?_⟩) SX.out ?_
  · obtain ⟨⟨a0, a1, a2, a3, a4, a5⟩, ⟨b0, b1, b2, b3, b4, b5⟩, v0, d1, f0⟩ := hS.cells
    go_simp
  try simp only [Act.put, List.getElem_toArray, List.getElem_cons_succ, List.getElem_cons_zero, List.setIfInBounds_toArray, List.set_cons_zero, List.set_cons_succ]
  refine wpAnyH_take (i := 16) (v := .int .i64 m) rfl (by kernel_rfl) (by kernel_rfl) (by kernel_rfl) (fun _ _ _ h => h) (Or.inl ⟨by rfl, fun wx hS => ?_⟩) SX.out ?_
  · obtain ⟨⟨a0, a1, a2, a3, a4, a5⟩, ⟨b0, b1, b2, b3, b4, b5⟩, v0, d1, f0⟩ := hS.cells
    go_simp
  try simp only [Act.put, List.getElem_toArray, List.getElem_cons_succ, List.getElem_cons_zero, List.setIfInBounds_toArray, List.set_cons_zero, List.set_cons_succ]
  refine wpAnyH_take (i := 17) (v := .bool false) rfl (by kernel_rfl) (by kernel_rfl) (by kernel_rfl) (fun _ _ _ h => h) (Or.inl ⟨by rfl, fun wx hS => ?_⟩) SX.out ?_
  · obtain ⟨⟨a0, a1, a2, a3, a4, a5⟩, ⟨b0, b1, b2, b3, b4, b5⟩, v0, d1, f0⟩ := hS.cells
    go_simp
  try simp only [Act.put, List.getElem_toArray, List.getElem_cons_succ, List.getElem_cons_zero, List.setIfInBounds_toArray, List.set_cons_zero, List.set_cons_succ]
  refine wpAnyH_take (i := 18) (v := .bool false) rfl (by kernel_rfl) (by kernel_rfl) (by kernel_rfl) (fun _ _ _ h => h) (Or.inl ⟨by rfl, fun wx hS => ?_⟩) SX.out ?_
  · obtain ⟨⟨a0, a1, a2, a3, a4, a5⟩, ⟨b0, b1, b2, b3, b4, b5⟩, v0, d1, f0⟩ := hS.cells
    go_simp
  try simp only [Act.put, List.getElem_toArray, List.getElem_cons_succ, List.getElem_cons_zero, List.setIfInBounds_toArray, List.set_cons_zero, List.set_cons_succ]
  refine wpAnyH_take (i := 19) (v := .bool false) rfl (by kernel_rfl) (by kernel_rfl) (by kernel_rfl) (fun _ _ _ h => h) (Or.inl ⟨by rfl, fun wx hS => ?_⟩) SX.out ?_
  · obtain ⟨⟨a0, a1, a2, a3, a4, a5⟩, ⟨b0, b1, b2, b3, b4, b5⟩, v0, d1, f0⟩ := hS.cells
    go_simp
  try simp only [Act.put, List.getElem_toArray, List.getElem_cons_succ, List.getElem_cons_zero, List.setIfInBounds_toArray, List.set_cons_zero, List.set_cons_succ]
  refine wpAnyH_take (i := 20) (v := .pointer (some ⟨w.heap.size + 1, 0, none⟩)) rfl (by kernel_rfl) (by kernel_rfl) (by kernel_rfl) (fun _ _ _ h => h) (Or.inl ⟨by rfl, fun wx hS => ?_⟩) SX.out ?_
  · obtain ⟨⟨a0, a1, a2, a3, a4, a5⟩, ⟨b0, b1, b2, b3, b4, b5⟩, v0, d1, f0⟩ := hS.cells
    go_simp
  try simp only [Act.put, List.getElem_toArray, List.getElem_cons_succ, List.getElem_cons_zero, List.setIfInBounds_toArray, List.set_cons_zero, List.set_cons_succ]
  refine wpAnyH_take (i := 21) (v := .int .i64 k') rfl (by kernel_rfl) (by kernel_rfl) (by kernel_rfl) (fun _ _ _ h => h) (Or.inl ⟨by rfl, fun wx hS => ?_⟩) SX.out ?_
  · obtain ⟨⟨a0, a1, a2, a3, a4, a5⟩, ⟨b0, b1, b2, b3, b4, b5⟩, v0, d1, f0⟩ := hS.cells
    go_simp
  try simp only [Act.put, List.getElem_toArray, List.getElem_cons_succ, List.getElem_cons_zero, List.setIfInBounds_toArray, List.set_cons_zero, List.set_cons_succ]
  refine wpAnyH_take (i := 22) (v := .bool false) rfl (by kernel_rfl) (by kernel_rfl) (by kernel_rfl) (fun _ _ _ h => h) (Or.inl ⟨by rfl, fun wx hS => ?_⟩) SX.out ?_
  · obtain ⟨⟨a0, a1, a2, a3, a4, a5⟩, ⟨b0, b1, b2, b3, b4, b5⟩, v0, d1, f0⟩ := hS.cells
    go_simp
  try simp only [Act.put, List.getElem_toArray, List.getElem_cons_succ, List.getElem_cons_zero, List.setIfInBounds_toArray, List.set_cons_zero, List.set_cons_succ]
  refine wpAnyH_take (i := 23) (v := .bool false) rfl (by kernel_rfl) (by kernel_rfl) (by kernel_rfl) (fun _ _ _ h => h) (Or.inl ⟨by rfl, fun wx hS => ?_⟩) SX.out ?_
  · obtain ⟨⟨a0, a1, a2, a3, a4, a5⟩, ⟨b0, b1, b2, b3, b4, b5⟩, v0, d1, f0⟩ := hS.cells
    go_simp
  try simp only [Act.put, List.getElem_toArray, List.getElem_cons_succ, List.getElem_cons_zero, List.setIfInBounds_toArray, List.set_cons_zero, List.set_cons_succ]
  refine wpAnyH_take (i := 24) (v := undef) rfl (by kernel_rfl) (by kernel_rfl) (by kernel_rfl) (fun _ _ _ h => h) (Or.inr ⟨by rfl, rfl⟩) SX.out ?_
  try simp only [Act.put, List.getElem_toArray, List.getElem_cons_succ, List.getElem_cons_zero, List.setIfInBounds_toArray, List.set_cons_zero, List.set_cons_succ]
  refine wpAnyH_take (i := 25) (v := undef) rfl (by kernel_rfl) (by kernel_rfl) (by kernel_rfl) (fun _ _ _ h => h) (Or.inr ⟨by rfl, rfl⟩) SX.out ?_
  try simp only [Act.put, List.getElem_toArray, List.getElem_cons_succ, List.getElem_cons_zero, List.setIfInBounds_toArray, List.set_cons_zero, List.set_cons_succ]
  refine wpAnyH_take (i := 26) (v := undef) rfl (by kernel_rfl) (by kernel_rfl) (by kernel_rfl) (fun _ _ _ h => h) (Or.inr ⟨by rfl, rfl⟩) SX.out ?_
  try simp only [Act.put, List.getElem_toArray, List.getElem_cons_succ, List.getElem_cons_zero, List.setIfInBounds_toArray, List.set_cons_zero, List.set_cons_succ]
  refine wpAnyH_take (i := 27) (v := undef) rfl (by kernel_rfl) (by kernel_rfl) (by kernel_rfl) (fun _ _ _ h => h) (Or.inr ⟨by rfl, rfl⟩) SX.out ?_
  try simp only [Act.put, List.getElem_toArray, List.getElem_cons_succ, List.getElem_cons_zero, List.setIfInBounds_toArray, List.set_cons_zero, List.set_cons_succ]
  refine wpAnyH_take (i := 28) (v := undef) rfl (by kernel_rfl) (by kernel_rfl) (by kernel_rfl) (fun _ _ _ h => h) (Or.inr ⟨by rfl, rfl⟩) SX.out ?_
  try simp only [Act.put, List.getElem_toArray, List.getElem_cons_succ, List.getElem_cons_zero, List.setIfInBounds_toArray, List.set_cons_zero, List.set_cons_succ]
  refine wpAnyH_take (i := 29) (v := .bool false) rfl (by kernel_rfl) (by kernel_rfl) (by kernel_rfl) (fun _ _ _ h => h) (Or.inl ⟨by rfl, fun wx hS => ?_⟩) SX.out ?_
  · obtain ⟨⟨a0, a1, a2, a3, a4, a5⟩, ⟨b0, b1, b2, b3, b4, b5⟩, v0, d1, f0⟩ := hS.cells
    go_simp
  try simp only [Act.put, List.getElem_toArray, List.getElem_cons_succ, List.getElem_cons_zero, List.setIfInBounds_toArray, List.set_cons_zero, List.set_cons_succ]
  refine wpAnyH_take (i := 30) (v := .bool false) rfl (by kernel_rfl) (by kernel_rfl) (by kernel_rfl) (fun _ _ _ h => h) (Or.inl ⟨by rfl, fun wx hS => ?_⟩) SX.out ?_
  · obtain ⟨⟨a0, a1, a2, a3, a4, a5⟩, ⟨b0, b1, b2, b3, b4, b5⟩, v0, d1, f0⟩ := hS.cells
    go_simp
  try simp only [Act.put, List.getElem_toArray, List.getElem_cons_succ, List.getElem_cons_zero, List.setIfInBounds_toArray, List.set_cons_zero, List.set_cons_succ]
  refine wpAnyH_take (i := 31) (v := .bool false) rfl (by kernel_rfl) (by kernel_rfl) (by kernel_rfl) (fun _ _ _ h => h) (Or.inl ⟨by rfl, fun wx hS => ?_⟩) SX.out ?_
  · obtain ⟨⟨a0, a1, a2, a3, a4, a5⟩, ⟨b0, b1, b2, b3, b4, b5⟩, v0, d1, f0⟩ := hS.cells
    go_simp
  try simp only [Act.put, List.getElem_toArray, List.getElem_cons_succ, List.getElem_cons_zero, List.setIfInBounds_toArray, List.set_cons_zero, List.set_cons_succ]
  refine wpAnyH_done (by kernel_rfl) ?_ _
  (try refine no_panic ?_)
  go_wp2
  go_ret
  exact ⟨rfl, KD.out⟩
theorem rnew_c (vb g z cap i fb m capF last : Nat) (pF : Option Addr) (k n a l k' n' a' l' : Int) (x x' p : Bool) (s s' : ByteArray) (w : World) (hiz : i < z) (h0 : w.heap[vb]? = some (.cells #[.slice (some ⟨g, 0, none⟩) z cap, .int .i64 last] 75 (0, 0))) (h1 : w.cell? ⟨g, i * 2 + 1, none⟩ = some (ptr fb)) (h2 : w.heap[fb]? = some (.cells #[.slice pF m capF] 31 (0, 0)))
    (e2 : (k' == 11) = true) (e3 : decide (n ≤ n') = p)
    (hat : Hid (∀ wx, Below w.heap.size w wx → Calls Try.prog 97 #[ptr vb, obV k x n a l s] wx fun e w' => e = .returned (.int .i64 i) ∧ Below wx.heap.size wx w'))
    (hcm : Hid (∀ wx, Calls Try.prog 101 #[obV k' x' n' a' l' s'] wx fun e w' => e = .returned (.bool false) ∧ Below wx.heap.size wx w')) :
    Calls Try.prog 54 #[ptr vb, obV k x n a l s, obV k' x' n' a' l' s'] w fun e w' => e = .returned (.bool p) ∧ Below w.heap.size w w' := by
  have t0 : (0 : Int) ≤ i := by omega
  have t1 : (i : Int) < z := by omega
  have HH := Lib.hid (And.intro h0 (And.intro h1 h2))
  clear h0 h1 h2
  go_enter Try.func54, Try.ntmps54
  go_upto_region 1 with fail
  obtain ⟨wb, eb, kb, nx⟩ : ∃ wb, (w.alloc (.cells #[.int .i64 k, .bool x, .int .i64 n, .int .i64 a, .int .i64 l, .string s] 24)).alloc (.cells #[.int .i64 k', .bool x', .int .i64 n', .int .i64 a', .int .i64 l', .string s'] 24) = wb ∧ Below w.heap.size w wb ∧ NwX wb w.heap.size vb g z cap i fb m capF pF last k n a l k' n' a' l' x x' s s' := by
    have h2 := heap_alloc_new (w.alloc (.cells #[.int .i64 k, .bool x, .int .i64 n, .int .i64 a, .int .i64 l, .string s] 24)) (obObj k' x' n' a' l' s')
    have kb := below_and (box_below w (.cells #[.int .i64 k, .bool x, .int .i64 n, .int .i64 a, .int .i64 l, .string s] 24)) (box_below (w.alloc (.cells #[.int .i64 k, .bool x, .int .i64 n, .int .i64 a, .int .i64 l, .string s] 24)) (.cells #[.int .i64 k', .bool x', .int .i64 n', .int .i64 a', .int .i64 l', .string s'] 24))
    exact ⟨_, rfl, kb, (Below.heap_alloc _ _ _ (by simp)).trans (heap_alloc_new _ _), by simpa using h2, (kb.block _ (blk_lt HH.out.1)).trans HH.out.1, cell_later kb HH.out.2.1, (kb.block _ (blk_lt HH.out.2.2)).trans HH.out.2.2⟩
  rw [eb]
  have NX := Lib.hid nx
  have KB := Lib.hid kb
  obtain ⟨c0, c1, c2, c3, c4, c5⟩ := ob_cells nx.o
  clear eb kb nx
  go_wp2_with fail
  refine (hat.out _ KB.out).mono ?_
  rintro e wc ⟨rfl, kc⟩
  have nc := NX.out.later kc
  have kd := below_and KB.out kc
  clear kc c0 c1 c2 c3 c4 c5 NX KB
  go_upto_region 4 with fail
  have SX0 : NwX wc.drew w.heap.size vb g z cap i fb m capF pF last k n a l k' n' a' l' x x' s s' := nc.later (Below.refl _ _).drew
  have kd' : Below w.heap.size w wc.drew := kd.drew
  (try refine wp_region_noPanic ?_)
  refine wp_region_held_drew (S := fun wx => NwX wx w.heap.size vb g z cap i fb m capF pF last k n a l k' n' a' l' x x' s s') (by kernel_rfl) SX0 (fun _ => ?_)
  generalize wc.drew = wd at SX0 kd' ⊢
  have SX := Lib.hid SX0
  have KD := Lib.hid kd'
  clear SX0 kd' nc kd
  refine wpAnyH_take (i := 0) (v := obV k' x' n' a' l' s') rfl (by kernel_rfl) (by kernel_rfl) (by kernel_rfl) (fun _ _ _ h => h) (Or.inl ⟨by rfl, fun wx hS => ?_⟩) SX.out ?_
  · obtain ⟨⟨a0, a1, a2, a3, a4, a5⟩, ⟨b0, b1, b2, b3, b4, b5⟩, v0, d1, f0⟩ := hS.cells
    go_simp
  try simp only [Act.put, List.getElem_toArray, List.getElem_cons_succ, List.getElem_cons_zero, List.setIfInBounds_toArray, List.set_cons_zero, List.set_cons_succ]
  refine wpAnyH_ready (rs := [1]) (by kernel_rfl) (by simp) ?_
  refine AllReadyH.cons rfl (fun K hK => ?_) AllReadyH.nil
  go_simp
  refine (hcm.out _).mono ?_
  rintro e we ⟨rfl, ke⟩
  replace SX := Lib.hid (SX.out.later ke)
  replace KD := Lib.hid (below_and KD.out ke)
  clear ke
  refine hK.out _ _ SX.out (fun _ => ?_)
  clear hK
  try simp only [Act.put, List.getElem_toArray, List.getElem_cons_succ, List.getElem_cons_zero, List.setIfInBounds_toArray, List.set_cons_zero, List.set_cons_succ]
  refine wpAnyH_take (i := 2) (v := .bool false) rfl (by kernel_rfl) (by kernel_rfl) (by kernel_rfl) (fun _ _ _ h => h) (Or.inl ⟨by rfl, fun wx hS => ?_⟩) SX.out ?_
  · obtain ⟨⟨a0, a1, a2, a3, a4, a5⟩, ⟨b0, b1, b2, b3, b4, b5⟩, v0, d1, f0⟩ := hS.cells
    go_simp
  try simp only [Act.put, List.getElem_toArray, List.getElem_cons_succ, List.getElem_cons_zero, List.setIfInBounds_toArray, List.set_cons_zero, List.set_cons_succ]
  refine wpAnyH_take (i := 3) (v := undef) rfl (by kernel_rfl) (by kernel_rfl) (by kernel_rfl) (fun _ _ _ h => h) (Or.inr ⟨by rfl, rfl⟩) SX.out ?_
  try simp only [Act.put, List.getElem_toArray, List.getElem_cons_succ, List.getElem_cons_zero, List.setIfInBounds_toArray, List.set_cons_zero, List.set_cons_succ]
  refine wpAnyH_take (i := 4) (v := undef) rfl (by kernel_rfl) (by kernel_rfl) (by kernel_rfl) (fun _ _ _ h => h) (Or.inr ⟨by rfl, rfl⟩) SX.out ?_
  try simp only [Act.put, List.getElem_toArray, List.getElem_cons_succ, List.getElem_cons_zero, List.setIfInBounds_toArray, List.set_cons_zero, List.set_cons_succ]
  refine wpAnyH_take (i := 5) (v := undef) rfl (by kernel_rfl) (by kernel_rfl) (by kernel_rfl) (fun _ _ _ h => h) (Or.inr ⟨by rfl, rfl⟩) SX.out ?_
  try simp only [Act.put, List.getElem_toArray, List.getElem_cons_succ, List.getElem_cons_zero, List.setIfInBounds_toArray, List.set_cons_zero, List.set_cons_succ]
  refine wpAnyH_take (i := 6) (v := undef) rfl (by kernel_rfl) (by kernel_rfl) (by kernel_rfl) (fun _ _ _ h => h) (Or.inr ⟨by rfl, rfl⟩) SX.out ?_
  try simp only [Act.put, List.getElem_toArray, List.getElem_cons_succ, List.getElem_cons_zero, List.setIfInBounds_toArray, List.set_cons_zero, List.set_cons_succ]
  refine wpAnyH_take (i := 7) (v := undef) rfl (by kernel_rfl) (by kernel_rfl) (by kernel_rfl) (fun _ _ _ h => h) (Or.inr ⟨by rfl, rfl⟩) SX.out ?_
  try simp only [Act.put, List.getElem_toArray, List.getElem_cons_succ, List.getElem_cons_zero, List.setIfInBounds_toArray, List.set_cons_zero, List.set_cons_succ]
  refine wpAnyH_take (i := 8) (v := undef) rfl (by kernel_rfl) (by kernel_rfl) (by kernel_rfl) (fun _ _ _ h => h) (Or.inr ⟨by rfl, rfl⟩) SX.out ?_
  try simp only [Act.put, List.getElem_toArray, List.getElem_cons_succ, List.getElem_cons_zero, List.setIfInBounds_toArray, List.set_cons_zero, List.set_cons_succ]
  refine wpAnyH_take (i := 9) (v := undef) rfl (by kernel_rfl) (by kernel_rfl) (by kernel_rfl) (fun _ _ _ h => h) (Or.inr ⟨by rfl, rfl⟩) SX.out ?_
  try simp only [Act.put, List.getElem_toArray, List.getElem_cons_succ, List.getElem_cons_zero, List.setIfInBounds_toArray, List.set_cons_zero, List.set_cons_succ]
  refine wpAnyH_take (i := 10) (v := undef) rfl (by kernel_rfl) (by kernel_rfl) (by kernel_rfl) (fun _ _ _ h => h) (Or.inr ⟨by rfl, rfl⟩) SX.out ?_
  try simp only [Act.put, List.getElem_toArray, List.getElem_cons_succ, List.getElem_cons_zero, List.setIfInBounds_toArray, List.set_cons_zero, List.set_cons_succ]
  refine wpAnyH_take (i := 11) (v := undef) rfl (by kernel_rfl) (by kernel_rfl) (by kernel_rfl) (fun _ _ _ h => h) (Or.inr ⟨by rfl, rfl⟩) SX.out ?_
  try simp only [Act.put, List.getElem_toArray, List.getElem_cons_succ, List.getElem_cons_zero, List.setIfInBounds_toArray, List.set_cons_zero, List.set_cons_succ]
  refine wpAnyH_take (i := 12) (v := undef) rfl (by kernel_rfl) (by kernel_rfl) (by kernel_rfl) (fun _ _ _ h => h) (Or.inr ⟨by rfl, rfl⟩) SX.out ?_
  try simp only [Act.put, List.getElem_toArray, List.getElem_cons_succ, List.getElem_cons_zero, List.setIfInBounds_toArray, List.set_cons_zero, List.set_cons_succ]
  refine wpAnyH_take (i := 13) (v := undef) rfl (by kernel_rfl) (by kernel_rfl) (by kernel_rfl) (fun _ _ _ h => h) (Or.inr ⟨by rfl, rfl⟩) SX.out ?_
  try simp only [Act.put, List.getElem_toArray, List.getElem_cons_succ, List.getElem_cons_zero, List.setIfInBounds_toArray, List.set_cons_zero, List.set_cons_succ]
  refine wpAnyH_take (i := 14) (v := undef) rfl (by kernel_rfl) (by kernel_rfl) (by kernel_rfl) (fun _ _ _ h => h) (Or.inr ⟨by rfl, rfl⟩) SX.out ?_
  try simp only [Act.put, List.getElem_toArray, List.getElem_cons_succ, List.getElem_cons_zero, List.setIfInBounds_toArray, List.set_cons_zero, List.set_cons_succ]
  refine wpAnyH_take (i := 15) (v := undef) rfl (by kernel_rfl) (by kernel_rfl) (by kernel_rfl) (fun _ _ _ h => h) (Or.inr ⟨by rfl, rfl⟩) SX.out ?_
  try simp only [Act.put, List.getElem_toArray, List.getElem_cons_succ, List.getElem_cons_zero, List.setIfInBounds_toArray, List.set_cons_zero, List.set_cons_succ]
  refine wpAnyH_take (i := 16) (v := undef) rfl (by kernel_rfl) (by kernel_rfl) (by kernel_rfl) (fun _ _ _ h => h) (Or.inr ⟨by rfl, rfl⟩) SX.out ?_
  try simp only [Act.put, List.getElem_toArray, List.getElem_cons_succ, List.getElem_cons_zero, List.setIfInBounds_toArray, List.set_cons_zero, List.set_cons_succ]
  refine wpAnyH_take (i := 17) (v := undef) rfl (by kernel_rfl) (by kernel_rfl) (by kernel_rfl) (fun _ _ _ h => h) (Or.inr ⟨by rfl, rfl⟩) SX.out ?_
  try simp only [Act.put, List.getElem_toArray, List.getElem_cons_succ, List.getElem_cons_zero, List.setIfInBounds_toArray, List.set_cons_zero, List.set_cons_succ]
  refine wpAnyH_take (i := 18) (v := .bool false) rfl (by kernel_rfl) (by kernel_rfl) (by kernel_rfl) (fun _ _ _ h => h) (Or.inl ⟨by rfl, fun wx hS => ?_⟩) SX.out ?_
  · obtain ⟨⟨a0, a1, a2, a3, a4, a5⟩, ⟨b0, b1, b2, b3, b4, b5⟩, v0, d1, f0⟩ := hS.cells
    go_simp
  try simp only [Act.put, List.getElem_toArray, List.getElem_cons_succ, List.getElem_cons_zero, List.setIfInBounds_toArray, List.set_cons_zero, List.set_cons_succ]
  refine wpAnyH_take (i := 19) (v := .bool false) rfl (by kernel_rfl) (by kernel_rfl) (by kernel_rfl) (fun _ _ _ h => h) (Or.inl ⟨by rfl, fun wx hS => ?_⟩) SX.out ?_
  · obtain ⟨⟨a0, a1, a2, a3, a4, a5⟩, ⟨b0, b1, b2, b3, b4, b5⟩, v0, d1, f0⟩ := hS.cells
    go_simp
  try simp only [Act.put, List.getElem_toArray, List.getElem_cons_succ, List.getElem_cons_zero, List.setIfInBounds_toArray, List.set_cons_zero, List.set_cons_succ]
  refine wpAnyH_take (i := 20) (v := .pointer (some ⟨w.heap.size + 1, 0, none⟩)) rfl (by kernel_rfl) (by kernel_rfl) (by kernel_rfl) (fun _ _ _ h => h) (Or.inl ⟨by rfl, fun wx hS => ?_⟩) SX.out ?_
  · obtain ⟨⟨a0, a1, a2, a3, a4, a5⟩, ⟨b0, b1, b2, b3, b4, b5⟩, v0, d1, f0⟩ := hS.cells
    go_simp
  try simp only [Act.put, List.getElem_toArray, List.getElem_cons_succ, List.getElem_cons_zero, List.setIfInBounds_toArray, List.set_cons_zero, List.set_cons_succ]
  refine wpAnyH_take (i := 21) (v := .int .i64 k') rfl (by kernel_rfl) (by kernel_rfl) (by kernel_rfl) (fun _ _ _ h => h) (Or.inl ⟨by rfl, fun wx hS => ?_⟩) SX.out ?_
  · obtain ⟨⟨a0, a1, a2, a3, a4, a5⟩, ⟨b0, b1, b2, b3, b4, b5⟩, v0, d1, f0⟩ := hS.cells
    go_simp
  try simp only [Act.put, List.getElem_toArray, List.getElem_cons_succ, List.getElem_cons_zero, List.setIfInBounds_toArray, List.set_cons_zero, List.set_cons_succ]
  refine wpAnyH_take (i := 22) (v := .bool true) rfl (by kernel_rfl) (by kernel_rfl) (by kernel_rfl) (fun _ _ _ h => h) (Or.inl ⟨by rfl, fun wx hS => ?_⟩) SX.out ?_
  · obtain ⟨⟨a0, a1, a2, a3, a4, a5⟩, ⟨b0, b1, b2, b3, b4, b5⟩, v0, d1, f0⟩ := hS.cells
    go_simp
  try simp only [Act.put, List.getElem_toArray, List.getElem_cons_succ, List.getElem_cons_zero, List.setIfInBounds_toArray, List.set_cons_zero, List.set_cons_succ]
  refine wpAnyH_take (i := 23) (v := .bool true) rfl (by kernel_rfl) (by kernel_rfl) (by kernel_rfl) (fun _ _ _ h => h) (Or.inl ⟨by rfl, fun wx hS => ?_⟩) SX.out ?_
  · obtain ⟨⟨a0, a1, a2, a3, a4, a5⟩, ⟨b0, b1, b2, b3, b4, b5⟩, v0, d1, f0⟩ := hS.cells
    go_simp
  try simp only [Act.put, List.getElem_toArray, List.getElem_cons_succ, List.getElem_cons_zero, List.setIfInBounds_toArray, List.set_cons_zero, List.set_cons_succ]
  refine wpAnyH_take (i := 24) (v := .pointer (some ⟨w.heap.size + 1, 2, none⟩)) rfl (by kernel_rfl) (by kernel_rfl) (by kernel_rfl) (fun _ _ _ h => h) (Or.inl ⟨by rfl, fun wx hS => ?_⟩) SX.out ?_
  · obtain ⟨⟨a0, a1, a2, a3, a4, a5⟩, ⟨b0, b1, b2, b3, b4, b5⟩, v0, d1, f0⟩ := hS.cells
    go_simp
  try simp only [Act.put, List.getElem_toArray, List.getElem_cons_succ, List.getElem_cons_zero, List.setIfInBounds_toArray, List.set_cons_zero, List.set_cons_succ]
  refine wpAnyH_take (i := 25) (v := .int .i64 n') rfl (by kernel_rfl) (by kernel_rfl) (by kernel_rfl) (fun _ _ _ h => h) (Or.inl ⟨by rfl, fun wx hS => ?_⟩) SX.out ?_
  · obtain ⟨⟨a0, a1, a2, a3, a4, a5⟩, ⟨b0, b1, b2, b3, b4, b5⟩, v0, d1, f0⟩ := hS.cells
    go_simp
  try simp only [Act.put, List.getElem_toArray, List.getElem_cons_succ, List.getElem_cons_zero, List.setIfInBounds_toArray, List.set_cons_zero, List.set_cons_succ]
  refine wpAnyH_take (i := 26) (v := .pointer (some ⟨w.heap.size, 2, none⟩)) rfl (by kernel_rfl) (by kernel_rfl) (by kernel_rfl) (fun _ _ _ h => h) (Or.inl ⟨by rfl, fun wx hS => ?_⟩) SX.out ?_
  · obtain ⟨⟨a0, a1, a2, a3, a4, a5⟩, ⟨b0, b1, b2, b3, b4, b5⟩, v0, d1, f0⟩ := hS.cells
    go_simp
  try simp only [Act.put, List.getElem_toArray, List.getElem_cons_succ, List.getElem_cons_zero, List.setIfInBounds_toArray, List.set_cons_zero, List.set_cons_succ]
  refine wpAnyH_take (i := 27) (v := .int .i64 n) rfl (by kernel_rfl) (by kernel_rfl) (by kernel_rfl) (fun _ _ _ h => h) (Or.inl ⟨by rfl, fun wx hS => ?_⟩) SX.out ?_
  · obtain ⟨⟨a0, a1, a2, a3, a4, a5⟩, ⟨b0, b1, b2, b3, b4, b5⟩, v0, d1, f0⟩ := hS.cells
    go_simp
  try simp only [Act.put, List.getElem_toArray, List.getElem_cons_succ, List.getElem_cons_zero, List.setIfInBounds_toArray, List.set_cons_zero, List.set_cons_succ]
  refine wpAnyH_take (i := 28) (v := .bool p) rfl (by kernel_rfl) (by kernel_rfl) (by kernel_rfl) (fun _ _ _ h => h) (Or.inl ⟨by rfl, fun wx hS => ?_⟩) SX.out ?_
  · obtain ⟨⟨a0, a1, a2, a3, a4, a5⟩, ⟨b0, b1, b2, b3, b4, b5⟩, v0, d1, f0⟩ := hS.cells
    go_simp
  try simp only [Act.put, List.getElem_toArray, List.getElem_cons_succ, List.getElem_cons_zero, List.setIfInBounds_toArray, List.set_cons_zero, List.set_cons_succ]
  refine wpAnyH_take (i := 29) (v := .bool p) rfl (by kernel_rfl) (by kernel_rfl) (by kernel_rfl) (fun _ _ _ h => h) (Or.inl ⟨by rfl, fun wx hS => ?_⟩) SX.out ?_
  · obtain ⟨⟨a0, a1, a2, a3, a4, a5⟩, ⟨b0, b1, b2, b3, b4, b5⟩, v0, d1, f0⟩ := hS.cells
    go_simp
  try simp only [Act.put, List.getElem_toArray, List.getElem_cons_succ, List.getElem_cons_zero, List.setIfInBounds_toArray, List.set_cons_zero, List.set_cons_succ]
  refine wpAnyH_take (i := 30) (v := .bool p) rfl (by kernel_rfl) (by kernel_rfl) (by kernel_rfl) (fun _ _ _ h => h) (Or.inl ⟨by rfl, fun wx hS => ?_⟩) SX.out ?_
  · obtain ⟨⟨a0, a1, a2, a3, a4, a5⟩, ⟨b0, b1, b2, b3, b4, b5⟩, v0, d1, f0⟩ := hS.cells
    go_simp
  try simp only [Act.put, List.getElem_toArray, List.getElem_cons_succ, List.getElem_cons_zero, List.setIfInBounds_toArray, List.set_cons_zero, List.set_cons_succ]
  refine wpAnyH_take (i := 31) (v := .bool p) rfl (by kernel_rfl) (by kernel_rfl) (by kernel_rfl) (fun _ _ _ h => h) (Or.inl ⟨by rfl, fun wx hS => ?_⟩) SX.out ?_
  · obtain ⟨⟨a0, a1, a2, a3, a4, a5⟩, ⟨b0, b1, b2, b3, b4, b5⟩, v0, d1, f0⟩ := hS.cells
    go_simp
  try simp only [Act.put, List.getElem_toArray, List.getElem_cons_succ, List.getElem_cons_zero, List.setIfInBounds_toArray, List.set_cons_zero, List.set_cons_succ]
  refine wpAnyH_done (by kernel_rfl) ?_ _
  (try refine no_panic ?_)
  go_wp2
  go_ret
  exact ⟨rfl, KD.out⟩
theorem rnew_d (vb g z cap i fb m capF last : Nat) (pF : Option Addr) (k n a l k' n' a' l' : Int) (x x' p : Bool) (s s' : ByteArray) (w : World) (hiz : i < z) (h0 : w.heap[vb]? = some (.cells #[.slice (some ⟨g, 0, none⟩) z cap, .int .i64 last] 75 (0, 0))) (h1 : w.cell? ⟨g, i * 2 + 1, none⟩ = some (ptr fb)) (h2 : w.heap[fb]? = some (.cells #[.slice pF m capF] 31 (0, 0)))
    (e2 : (k' == 11) = false)
    (hat : Hid (∀ wx, Below w.heap.size w wx → Calls Try.prog 97 #[ptr vb, obV k x n a l s] wx fun e w' => e = .returned (.int .i64 i) ∧ Below wx.heap.size wx w'))
    (hcm : Hid (∀ wx, Calls Try.prog 101 #[obV k' x' n' a' l' s'] wx fun e w' => e = .returned (.bool false) ∧ Below wx.heap.size wx w')) :
    Calls Try.prog 54 #[ptr vb, obV k x n a l s, obV k' x' n' a' l' s'] w fun e w' => e = .returned (.bool false) ∧ Below w.heap.size w w' := by
  have t0 : (0 : Int) ≤ i := by omega
  have t1 : (i : Int) < z := by omega
  have HH := Lib.hid (And.intro h0 (And.intro h1 h2))
  clear h0 h1 h2
  go_enter Try.func54, Try.ntmps54
  go_upto_region 1 with fail
  obtain ⟨wb, eb, kb, nx⟩ : ∃ wb, (w.alloc (.cells #[.int .i64 k, .bool x, .int .i64 n, .int .i64 a, .int .i64 l, .string s] 24)).alloc (.cells #[.int .i64 k', .bool x', .int .i64 n', .int .i64 a', .int .i64 l', .string s'] 24) = wb ∧ Below w.heap.size w wb ∧ NwX wb w.heap.size vb g z cap i fb m capF pF last k n a l k' n' a' l' x x' s s' := by
    have h2 := heap_alloc_new (w.alloc (.cells #[.int .i64 k, .bool x, .int .i64 n, .int .i64 a, .int .i64 l, .string s] 24)) (obObj k' x' n' a' l' s')
    have kb := below_and (box_below w (.cells #[.int .i64 k, .bool x, .int .i64 n, .int .i64 a, .int .i64 l, .string s] 24)) (box_below (w.alloc (.cells #[.int .i64 k, .bool x, .int .i64 n, .int .i64 a, .int .i64 l, .string s] 24)) (.cells #[.int .i64 k', .bool x', .int .i64 n', .int .i64 a', .int .i64 l', .string s'] 24))
    exact ⟨_, rfl, kb, (Below.heap_alloc _ _ _ (by simp)).trans (heap_alloc_new _ _), by simpa using h2, (kb.block _ (blk_lt HH.out.1)).trans HH.out.1, cell_later kb HH.out.2.1, (kb.block _ (blk_lt HH.out.2.2)).trans HH.out.2.2⟩
  rw [eb]
  have NX := Lib.hid nx
  have KB := Lib.hid kb
  obtain ⟨c0, c1, c2, c3, c4, c5⟩ := ob_cells nx.o
  clear eb kb nx
  go_wp2_with fail
  refine (hat.out _ KB.out).mono ?_
  rintro e wc ⟨rfl, kc⟩
  have nc := NX.out.later kc
  have kd := below_and KB.out kc
  clear kc c0 c1 c2 c3 c4 c5 NX KB
  go_upto_region 4 with fail
  have SX0 : NwX wc.drew w.heap.size vb g z cap i fb m capF pF last k n a l k' n' a' l' x x' s s' := nc.later (Below.refl _ _).drew
  have kd' : Below w.heap.size w wc.drew := kd.drew
  (try refine wp_region_noPanic ?_)
  refine wp_region_held_drew (S := fun wx => NwX wx w.heap.size vb g z cap i fb m capF pF last k n a l k' n' a' l' x x' s s') (by kernel_rfl) SX0 (fun _ => ?_)
  generalize wc.drew = wd at SX0 kd' ⊢
  have SX := Lib.hid SX0
  have KD := Lib.hid kd'
  clear SX0 kd' nc kd
  refine wpAnyH_take (i := 0) (v := obV k' x' n' a' l' s') rfl (by kernel_rfl) (by kernel_rfl) (by kernel_rfl) (fun _ _ _ h => h) (Or.inl ⟨by rfl, fun wx hS => ?_⟩) SX.out ?_
  · obtain ⟨⟨a0, a1, a2, a3, a4, a5⟩, ⟨b0, b1, b2, b3, b4, b5⟩, v0, d1, f0⟩ := hS.cells
    go_simp
  try simp only [Act.put, List.getElem_toArray, List.getElem_cons_succ, List.getElem_cons_zero, List.setIfInBounds_toArray, List.set_cons_zero, List.set_cons_succ]
  refine wpAnyH_ready (rs := [1]) (by kernel_rfl) (by simp) ?_
  refine AllReadyH.cons rfl (fun K hK => ?_) AllReadyH.nil
  go_simp
  refine (hcm.out _).mono ?_
  rintro e we ⟨rfl, ke⟩
  replace SX := Lib.hid (SX.out.later ke)
  replace KD := Lib.hid (below_and KD.out ke)
  clear ke
  refine hK.out _ _ SX.out (fun _ => ?_)
  clear hK
  try simp only [Act.put, List.getElem_toArray, List.getElem_cons_succ, List.getElem_cons_zero, List.setIfInBounds_toArray, List.set_cons_zero, List.set_cons_succ]
  refine wpAnyH_take (i := 2) (v := .bool false) rfl (by kernel_rfl) (by kernel_rfl) (by kernel_rfl) (fun _ _ _ h => h) (Or.inl ⟨by rfl, fun wx hS => ?_⟩) SX.out ?_
  · obtain ⟨⟨a0, a1, a2, a3, a4, a5⟩, ⟨b0, b1, b2, b3, b4, b5⟩, v0, d1, f0⟩ := hS.cells
    go_simp
  try simp only [Act.put, List.getElem_toArray, List.getElem_cons_succ, List.getElem_cons_zero, List.setIfInBounds_toArray, List.set_cons_zero, List.set_cons_succ]
  refine wpAnyH_take (i := 3) (v := undef) rfl (by kernel_rfl) (by kernel_rfl) (by kernel_rfl) (fun _ _ _ h => h) (Or.inr ⟨by rfl, rfl⟩) SX.out ?_
  try simp only [Act.put, List.getElem_toArray, List.getElem_cons_succ, List.getElem_cons_zero, List.setIfInBounds_toArray, List.set_cons_zero, List.set_cons_succ]
  refine wpAnyH_take (i := 4) (v := undef) rfl (by kernel_rfl) (by kernel_rfl) (by kernel_rfl) (fun _ _ _ h => h) (Or.inr ⟨by rfl, rfl⟩) SX.out ?_
  try simp only [Act.put, List.getElem_toArray, List.getElem_cons_succ, List.getElem_cons_zero, List.setIfInBounds_toArray, List.set_cons_zero, List.set_cons_succ]
  refine wpAnyH_take (i := 5) (v := undef) rfl (by kernel_rfl) (by kernel_rfl) (by kernel_rfl) (fun _ _ _ h => h) (Or.inr ⟨by rfl, rfl⟩) SX.out ?_
  try simp only [Act.put, List.getElem_toArray, List.getElem_cons_succ, List.getElem_cons_zero, List.setIfInBounds_toArray, List.set_cons_zero, List.set_cons_succ]
  refine wpAnyH_take (i := 6) (v := undef) rfl (by kernel_rfl) (by kernel_rfl) (by kernel_rfl) (fun _ _ _ h => h) (Or.inr ⟨by rfl, rfl⟩) SX.out ?_
  try simp only [Act.put, List.getElem_toArray, List.getElem_cons_succ, List.getElem_cons_zero, List.setIfInBounds_toArray, List.set_cons_zero, List.set_cons_succ]
  refine wpAnyH_take (i := 7) (v := undef) rfl (by kernel_rfl) (by kernel_rfl) (by kernel_rfl) (fun _ _ _ h => h) (Or.inr ⟨by rfl, rfl⟩) SX.out ?_
  try simp only [Act.put, List.getElem_toArray, List.getElem_cons_succ, List.getElem_cons_zero, List.setIfInBounds_toArray, List.set_cons_zero, List.set_cons_succ]
  refine wpAnyH_take (i := 8) (v := undef) rfl (by kernel_rfl) (by kernel_rfl) (by kernel_rfl) (fun _ _ _ h => h) (Or.inr ⟨by rfl, rfl⟩) SX.out ?_
  try simp only [Act.put, List.getElem_toArray, List.getElem_cons_succ, List.getElem_cons_zero, List.setIfInBounds_toArray, List.set_cons_zero, List.set_cons_succ]
  refine wpAnyH_take (i := 9) (v := undef) rfl (by kernel_rfl) (by kernel_rfl) (by kernel_rfl) (fun _ _ _ h => h) (Or.inr ⟨by rfl, rfl⟩) SX.out ?_
  try simp only [Act.put, List.getElem_toArray, List.getElem_cons_succ, List.getElem_cons_zero, List.setIfInBounds_toArray, List.set_cons_zero, List.set_cons_succ]
  refine wpAnyH_take (i := 10) (v := undef) rfl (by kernel_rfl) (by kernel_rfl) (by kernel_rfl) (fun _ _ _ h => h) (Or.inr ⟨by rfl, rfl⟩) SX.out ?_
  try simp only [Act.put, List.getElem_toArray, List.getElem_cons_succ, List.getElem_cons_zero, List.setIfInBounds_toArray, List.set_cons_zero, List.set_cons_succ]
  refine wpAnyH_take (i := 11) (v := undef) rfl (by kernel_rfl) (by kernel_rfl) (by kernel_rfl) (fun _ _ _ h => h) (Or.inr ⟨by rfl, rfl⟩) SX.out ?_
  try simp only [Act.put, List.getElem_toArray, List.getElem_cons_succ, List.getElem_cons_zero, List.setIfInBounds_toArray, List.set_cons_zero, List.set_cons_succ]
  refine wpAnyH_take (i := 12) (v := undef) rfl (by kernel_rfl) (by kernel_rfl) (by kernel_rfl) (fun _ _ _ h => h) (Or.inr ⟨by rfl, rfl⟩) SX.out ?_
  try simp only [Act.put, List.getElem_toArray, List.getElem_cons_succ, List.getElem_cons_zero, List.setIfInBounds_toArray, List.set_cons_zero, List.set_cons_succ]
  refine wpAnyH_take (i := 13) (v := undef) rfl (by kernel_rfl) (by kernel_rfl) (by kernel_rfl) (fun _ _ _ h => h) (Or.inr ⟨by rfl, rfl⟩) SX.out ?_
  try simp only [Act.put, List.getElem_toArray, List.getElem_cons_succ, List.getElem_cons_zero, List.setIfInBounds_toArray, List.set_cons_zero, List.set_cons_succ]
  refine wpAnyH_take (i := 14) (v := undef) rfl (by kernel_rfl) (by kernel_rfl) (by kernel_rfl) (fun _ _ _ h => h) (Or.inr ⟨by rfl, rfl⟩) SX.out ?_
  try simp only [Act.put, List.getElem_toArray, List.getElem_cons_succ, List.getElem_cons_zero, List.setIfInBounds_toArray, List.set_cons_zero, List.set_cons_succ]
  refine wpAnyH_take (i := 15) (v := undef) rfl (by kernel_rfl) (by kernel_rfl) (by kernel_rfl) (fun _ _ _ h => h) (Or.inr ⟨by rfl, rfl⟩) SX.out ?_
  try simp only [Act.put, List.getElem_toArray, List.getElem_cons_succ, List.getElem_cons_zero, List.setIfInBounds_toArray, List.set_cons_zero, List.set_cons_succ]
  refine wpAnyH_take (i := 16) (v := undef) rfl (by kernel_rfl) (by kernel_rfl) (by kernel_rfl) (fun _ _ _ h => h) (Or.inr ⟨by rfl, rfl⟩) SX.out ?_
  try simp only [Act.put, List.getElem_toArray, List.getElem_cons_succ, List.getElem_cons_zero, List.setIfInBounds_toArray, List.set_cons_zero, List.set_cons_succ]
  refine wpAnyH_take (i := 17) (v := undef) rfl (by kernel_rfl) (by kernel_rfl) (by kernel_rfl) (fun _ _ _ h => h) (Or.inr ⟨by rfl, rfl⟩) SX.out ?_
  try simp only [Act.put, List.getElem_toArray, List.getElem_cons_succ, List.getElem_cons_zero, List.setIfInBounds_toArray, List.set_cons_zero, List.set_cons_succ]
  refine wpAnyH_take (i := 18) (v := .bool false) rfl (by kernel_rfl) (by kernel_rfl) (by kernel_rfl) (fun _ _ _ h => h) (Or.inl ⟨by rfl, fun wx hS => ?_⟩) SX.out ?_
  · obtain ⟨⟨a0, a1, a2, a3, a4, a5⟩, ⟨b0, b1, b2, b3, b4, b5⟩, v0, d1, f0⟩ := hS.cells
    go_simp
  try simp only [Act.put, List.getElem_toArray, List.getElem_cons_succ, List.getElem_cons_zero, List.setIfInBounds_toArray, List.set_cons_zero, List.set_cons_succ]
  refine wpAnyH_take (i := 19) (v := .bool false) rfl (by kernel_rfl) (by kernel_rfl) (by kernel_rfl) (fun _ _ _ h => h) (Or.inl ⟨by rfl, fun wx hS => ?_⟩) SX.out ?_
  · obtain ⟨⟨a0, a1, a2, a3, a4, a5⟩, ⟨b0, b1, b2, b3, b4, b5⟩, v0, d1, f0⟩ := hS.cells
    go_simp
  try simp only [Act.put, List.getElem_toArray, List.getElem_cons_succ, List.getElem_cons_zero, List.setIfInBounds_toArray, List.set_cons_zero, List.set_cons_succ]
  refine wpAnyH_take (i := 20) (v := .pointer (some ⟨w.heap.size + 1, 0, none⟩)) rfl (by kernel_rfl) (by kernel_rfl) (by kernel_rfl) (fun _ _ _ h => h) (Or.inl ⟨by rfl, fun wx hS => ?_⟩) SX.out ?_
  · obtain ⟨⟨a0, a1, a2, a3, a4, a5⟩, ⟨b0, b1, b2, b3, b4, b5⟩, v0, d1, f0⟩ := hS.cells
    go_simp
  try simp only [Act.put, List.getElem_toArray, List.getElem_cons_succ, List.getElem_cons_zero, List.setIfInBounds_toArray, List.set_cons_zero, List.set_cons_succ]
  refine wpAnyH_take (i := 21) (v := .int .i64 k') rfl (by kernel_rfl) (by kernel_rfl) (by kernel_rfl) (fun _ _ _ h => h) (Or.inl ⟨by rfl, fun wx hS => ?_⟩) SX.out ?_
  · obtain ⟨⟨a0, a1, a2, a3, a4, a5⟩, ⟨b0, b1, b2, b3, b4, b5⟩, v0, d1, f0⟩ := hS.cells
    go_simp
  try simp only [Act.put, List.getElem_toArray, List.getElem_cons_succ, List.getElem_cons_zero, List.setIfInBounds_toArray, List.set_cons_zero, List.set_cons_succ]
  refine wpAnyH_take (i := 22) (v := .bool false) rfl (by kernel_rfl) (by kernel_rfl) (by kernel_rfl) (fun _ _ _ h => h) (Or.inl ⟨by rfl, fun wx hS => ?_⟩) SX.out ?_
  · obtain ⟨⟨a0, a1, a2, a3, a4, a5⟩, ⟨b0, b1, b2, b3, b4, b5⟩, v0, d1, f0⟩ := hS.cells
    go_simp
  try simp only [Act.put, List.getElem_toArray, List.getElem_cons_succ, List.getElem_cons_zero, List.setIfInBounds_toArray, List.set_cons_zero, List.set_cons_succ]
  refine wpAnyH_take (i := 23) (v := .bool false) rfl (by kernel_rfl) (by kernel_rfl) (by kernel_rfl) (fun _ _ _ h => h) (Or.inl ⟨by rfl, fun wx hS => ?_⟩) SX.out ?_
  · obtain ⟨⟨a0, a1, a2, a3, a4, a5⟩, ⟨b0, b1, b2, b3, b4, b5⟩, v0, d1, f0⟩ := hS.cells
    go_simp
  try simp only [Act.put, List.getElem_toArray, List.getElem_cons_succ, List.getElem_cons_zero, List.setIfInBounds_toArray, List.set_cons_zero, List.set_cons_succ]
  refine wpAnyH_take (i := 24) (v := undef) rfl (by kernel_rfl) (by kernel_rfl) (by kernel_rfl) (fun _ _ _ h => h) (Or.inr ⟨by rfl, rfl⟩) SX.out ?_
  try simp only [Act.put, List.getElem_toArray, List.getElem_cons_succ, List.getElem_cons_zero, List.setIfInBounds_toArray, List.set_cons_zero, List.set_cons_succ]
  refine wpAnyH_take (i := 25) (v := undef) rfl (by kernel_rfl) (by kernel_rfl) (by kernel_rfl) (fun _ _ _ h => h) (Or.inr ⟨by rfl, rfl⟩) SX.out ?_
  try simp only [Act.put, List.getElem_toArray, List.getElem_cons_succ, List.getElem_cons_zero, List.setIfInBounds_toArray, List.set_cons_zero, List.set_cons_succ]
  refine wpAnyH_take (i := 26) (v := undef) rfl (by kernel_rfl) (by kernel_rfl) (by kernel_rfl) (fun _ _ _ h => h) (Or.inr ⟨by rfl, rfl⟩) SX.out ?_
  try simp only [Act.put, List.getElem_toArray, List.getElem_cons_succ, List.getElem_cons_zero, List.setIfInBounds_toArray, List.set_cons_zero, List.set_cons_succ]
  refine wpAnyH_take (i := 27) (v := undef) rfl (by kernel_rfl) (by kernel_rfl) (by kernel_rfl) (fun _ _ _ h => h) (Or.inr ⟨by rfl, rfl⟩) SX.out ?_
  try simp only [Act.put, List.getElem_toArray, List.getElem_cons_succ, List.getElem_cons_zero, List.setIfInBounds_toArray, List.set_cons_zero, List.set_cons_succ]
  refine wpAnyH_take (i := 28) (v := undef) rfl (by kernel_rfl) (by kernel_rfl) (by kernel_rfl) (fun _ _ _ h => h) (Or.inr ⟨by rfl, rfl⟩) SX.out ?_
  try simp only [Act.put, List.getElem_toArray, List.getElem_cons_succ, List.getElem_cons_zero, List.setIfInBounds_toArray, List.set_cons_zero, List.set_cons_succ]
  refine wpAnyH_take (i := 29) (v := .bool false) rfl (by kernel_rfl) (by kernel_rfl) (by kernel_rfl) (fun _ _ _ h => h) (Or.inl ⟨by rfl, fun wx hS => ?_⟩) SX.out ?_
  · obtain ⟨⟨a0, a1, a2, a3, a4, a5⟩, ⟨b0, b1, b2, b3, b4, b5⟩, v0, d1, f0⟩ := hS.cells
    go_simp
  try simp only [Act.put, List.getElem_toArray, List.getElem_cons_succ, List.getElem_cons_zero, List.setIfInBounds_toArray, List.set_cons_zero, List.set_cons_succ]
  refine wpAnyH_take (i := 30) (v := .bool false) rfl (by kernel_rfl) (by kernel_rfl) (by kernel_rfl) (fun _ _ _ h => h) (Or.inl ⟨by rfl, fun wx hS => ?_⟩) SX.out ?_
  · obtain ⟨⟨a0, a1, a2, a3, a4, a5⟩, ⟨b0, b1, b2, b3, b4, b5⟩, v0, d1, f0⟩ := hS.cells
    go_simp
  try simp only [Act.put, List.getElem_toArray, List.getElem_cons_succ, List.getElem_cons_zero, List.setIfInBounds_toArray, List.set_cons_zero, List.set_cons_succ]
  refine wpAnyH_take (i := 31) (v := .bool false) rfl (by kernel_rfl) (by kernel_rfl) (by kernel_rfl) (fun _ _ _ h => h) (Or.inl ⟨by rfl, fun wx hS => ?_⟩) SX.out ?_
  · obtain ⟨⟨a0, a1, a2, a3, a4, a5⟩, ⟨b0, b1, b2, b3, b4, b5⟩, v0, d1, f0⟩ := hS.cells
    go_simp
  try simp only [Act.put, List.getElem_toArray, List.getElem_cons_succ, List.getElem_cons_zero, List.setIfInBounds_toArray, List.set_cons_zero, List.set_cons_succ]
  refine wpAnyH_done (by kernel_rfl) ?_ _
  (try refine no_panic ?_)
  go_wp2
  go_ret
  exact ⟨rfl, KD.out⟩
end Go.Proofs.Ytmlkmgeddkpgiaa
