/- Walks of heap: Dict that fits; Size. -/
import Derived.Test.YtiokilinlpacmaaK26
namespace Go.Proofs.Ytiokilinlpacmaa
open Go.RowKit
set_option linter.unusedVariables false

/-- The items of an empty dictionary of n pairs. -/
def emptyD (n : Nat) : List Ob := Ob.num 0 :: List.replicate (2 * n) Ob.null
theorem emptyD_length (n : Nat) : (emptyD n).length = 2 * n + 1 := by simp [emptyD]
theorem emptyD_set (n : Nat) : (List.replicate (2 * n + 1) Ob.null).set 0 (Ob.num 0) = emptyD n := by
  rw [List.replicate_succ]
  rfl
theorem below_set6 {n g : Nat} {w w' : World} (h : Below n w w') (hg : n ≤ g) (v0 v1 v2 v3 v4 v5 : Value) : Below n w (w'.setCells g 0 [v0, v1, v2, v3, v4, v5]) :=
  (((((h.setCell (p := ⟨g, 0, none⟩) hg v0).setCell (p := ⟨g, 1, none⟩) hg v1).setCell (p := ⟨g, 2, none⟩) hg v2).setCell (p := ⟨g, 3, none⟩) hg v3).setCell (p := ⟨g, 4, none⟩) hg v4).setCell (p := ⟨g, 5, none⟩) hg v5
section
variable {role : Nat → Nat × Nat} {c hb : Nat} {vc : Value} {ivs : List Value} {pb : Nat → Nat} {rv : Nat → Value} {P : List Cel} {w w' : World}
set_option maxHeartbeats 1000000 in
set_option maxRecDepth 100000 in
theorem dict_ok (h : PH role c hb vc ivs pb rv P w) (n m : Nat) (hm : m = 2 * n) (hn : n ≤ 1000) (hl : P.length < 2000) (hu : m + 1 + usedP P ≤ 40000) :
    Calls Try.prog 16 #[ptr hb, .int .i64 n] w fun e w' => e = .returned (.tuple #[obV 10 false P.length 0 0 ⟨#[]⟩, .int .i64 0]) ∧ ∃ role', PHeap role' c hb (P ++ [⟨10, false, emptyD n, []⟩]) w' ∧ Keep role c w role' w' := by
  have H := Lib.hid h
  have HL : Hid (decide (P.length < 2000 ∧ (((m + 1 : Nat) : Int)) + usedP P ≤ 40000) = true) := Lib.hid (decide_eq_true (by omega))
  have Hl := Lib.hid hl
  have Hu := Lib.hid hu
  have HM := Lib.hid hm
  have HN := Lib.hid hn
  have h1 : decide ((n : Int) < 0) = false := decide_eq_false (by omega)
  have h2 : decide ((n : Int) > 1000) = false := decide_eq_false (by omega)
  have e1 : IntKind.i64.wrap (2 * (n : Int)) = m := by rw [wrapi_in _ (by omega) (by omega)]; omega
  have e2 : IntKind.i64.wrap ((m : Int) + 1) = ((m + 1 : Nat) : Int) := by rw [wrapi_in _ (by omega) (by omega)]; omega
  clear h hl hu hm hn
  go_enter Try.func16, Try.ntmps16
  go_wp2_with fail
  obtain ⟨wa, ea, ka, za, oa⟩ := zero_box w
  rw [ea]
  have HA := Lib.hid (H.out.paint ka fun _ => (c + 1, 0))
  refine (hasRoom_is HA.out ((m + 1 : Nat) : Int) true HL.out).mono ?_
  rintro e wc ⟨rfl, rfl⟩
  have KA := Lib.hid ka
  have OA := Lib.hid oa
  have ZA := Lib.hid za
  clear ea ka za oa
  go_wp2_with fail
  refine (newItems_any 10 (m + 1) (by have := Hu.out; omega) wa).mono ?_
  rintro e w1 ⟨b, row, rfl, hb1, eblk, erow, ern, k1⟩
  obtain ⟨gr, cap, rfl, _, _⟩ := erow.form (by omega)
  have hgr : gr = wa.heap.size := by simpa [Value.ownBlock] using ern
  have B1 := Lib.hid hb1
  have B2 := Lib.hid eblk
  have B3 := Lib.hid erow
  have B4 := Lib.hid hgr
  have B5 := Lib.hid k1
  obtain ⟨gr', cap', ev, c0, c1, c2, c3, c4, c5⟩ := row_item (l := List.replicate (m + 1) Ob.null) (by rw [List.length_replicate]; exact erow) (i := 0) (o := Ob.null) (by simp)
  obtain ⟨rfl, _⟩ : gr = gr' ∧ cap = cap' := by rw [List.length_replicate] at ev; simpa using ev
  dsimp only [Ob.null] at c0 c1 c2 c3 c4 c5
  simp only [Nat.zero_mul, Nat.zero_add] at c0 c1 c2 c3 c4 c5
  have f0 : w1.frozen? ⟨gr, 0, none⟩ = false := erow.frozenAt 0
  have f1 : w1.frozen? ⟨gr, 1, none⟩ = false := erow.frozenAt 1
  have f2 : w1.frozen? ⟨gr, 2, none⟩ = false := erow.frozenAt 2
  have f3 : w1.frozen? ⟨gr, 3, none⟩ = false := erow.frozenAt 3
  have f4 : w1.frozen? ⟨gr, 4, none⟩ = false := erow.frozenAt 4
  have f5 : w1.frozen? ⟨gr, 5, none⟩ = false := erow.frozenAt 5
  have d2 : w1.cell? ⟨b, 2, none⟩ = some (.slice (some ⟨gr, 0, none⟩) (m + 1) cap) := by
    rw [cellAt eblk]
    rfl
  have hz : (0 : Int) < ((m + 1 : Nat) : Int) := by omega
  have hz' : (0 : Int) ≤ 0 := by omega
  clear hb1 eblk erow ern k1 hgr ev
  go_upto_region 9 with fail
  obtain ⟨wz, ez⟩ : ∃ wz, w1.setCells gr 0 [.int .i64 3, .bool false, .int .i64 0, .int .i64 0, .int .i64 0, .string ⟨#[]⟩] = wz := ⟨_, rfl⟩
  have EZ := Lib.hid ez
  change Code.wp _ _ _ _ (w1.setCells gr 0 [.int .i64 3, .bool false, .int .i64 0, .int .i64 0, .int .i64 0, .string ⟨#[]⟩])
  rw [ez]
  have K1 : Hid (Below wa.heap.size wa wz) := Lib.hid (by rw [← ez]; exact below_set6 B5.out (by rw [B4.out]; exact Nat.le_refl _) _ _ _ _ _ _)
  have hne : b ≠ gr := by
    have := B1.out
    have := B4.out
    omega
  have E0 := owns_put (Ob.num 0).cells 0 w1 _ B3.out
  have hr : wz.ownsRow 0 29 6 (.slice (some ⟨gr, 0, none⟩) (m + 1) cap) (m + 1) (obCells (emptyD n)) := by
    have q := E0.1
    have := obCells_put (Ob.num 0) (List.replicate (m + 1) Ob.null) 0 (by simp)
    rw [Nat.zero_mul] at this
    rw [this, show List.replicate (m + 1) Ob.null = List.replicate (2 * n + 1) Ob.null from by rw [HM.out], emptyD_set] at q
    rw [← ez]
    exact q
  have hbk : wz.heap[b]? = some (.cells #[.int .i64 10, .bool false, .slice (some ⟨gr, 0, none⟩) (m + 1) cap] 108 (0, 0)) := by
    rw [← ez]
    exact (E0.2.block b hne).trans B2.out
  have HR := Lib.hid hr
  have HK := Lib.hid hbk
  have H1 := Lib.hid (HA.out.below K1.out)
  clear ez hr hbk E0 hne c0 c1 c2 c3 c4 c5 f0 f1 f2 f3 f4 f5 d2 hz hz'
  go_wp2_with fail
  refine (cadd_any hb vc ivs P.length (usedP P) ((m + 1 : Nat) : Int) 103 b wz H1.out.hblk H1.out.crow H1.out.ne (by have := Hl.out; omega) (by omega) (by have := Hu.out; omega) (by omega) (by have := Hu.out; omega)).mono ?_
  rintro e w2 ⟨rfl, g, cap2, e1, e2, e3, e4, e5, e6, e7, e8⟩
  have hlen : (emptyD n).length = m + 1 := by rw [emptyD_length, HM.out]
  have cl : PCell wz (.iface 103 (ptr b)) b (.slice (some ⟨gr, 0, none⟩) (m + 1) cap) ⟨10, false, emptyD n, []⟩ := .inl ⟨rfl, .inr rfl, rfl, HK.out, by rw [hlen]; exact HR.out⟩
  have sz : (⟨10, false, emptyD n, []⟩ : Cel).size = m + 1 := by simp [Cel.size, hlen]
  have AD := Lib.hid (HA.out.added K1.out (Nat.le_of_lt B1.out) cl (fun q hq => by
    have : gr = q := by simpa [Value.ownBlock] using hq
    have := B1.out
    have := B4.out
    omega) Hl.out (by rw [sz]; exact Hu.out) (by rw [sz]; exact e1) e2 e3 e4 e5 e6 e7 e8)
  have O2 : w2.heap[w.heap.size]? = some emptyOb := (AD.out.2.block _ (blk_lt OA.out) (by rw [paint_new (Nat.le_refl _)]; simp)).trans OA.out
  have P2 := Lib.hid O2
  obtain ⟨⟨c0, c1, c2, c3, c4, c5⟩, f0, f1, f2, f3, f4, f5⟩ := cells6 O2
  clear e1 e2 e3 e4 e5 e6 e7 e8 cl sz O2
  go_wp2
  (try simp only [Exit.inBlock, Exit.then])
  refine bodyPost_ret (ret_cell rfl _ _ _ _ _ _ _ _ rfl rfl (set6 P2.out _ _ _ _ _ _) Try.underlying29 rfl (by kernel_rfl)) rfl ⟨rfl, _, AD.out.1.only (only6 _ _ _ _ _ _ _ _) ?_, (only6 _ _ _ _ _ _ _ _).keep ((Keep.paint role c KA.out _).trans AD.out.2) (Nat.le_refl _)⟩
  rw [AD.out.2.same _ (blk_lt OA.out), paint_new (Nat.le_refl _)]
  simp

theorem size_walk (hb : Nat) (k n a l u z E : Int) (x : Bool) (s : ByteArray) (iv : Value) (w : World) (hiv : iv = .nilIface ∨ ∃ T r, iv = .iface T (ptr r))
    (hf : Hid (∀ wx, Below w.heap.size w wx → Calls Try.prog 64 #[ptr hb, obV k x n a l s] wx fun e w' => e = .returned (.tuple #[pcV iv u z, .int .i64 E]) ∧ Below wx.heap.size wx w')) :
    Calls Try.prog 76 #[ptr hb, obV k x n a l s] w fun e w' => e = .returned (.tuple #[.int .i64 z, .int .i64 E]) ∧ Below w.heap.size w w' := by
  rcases hiv with rfl | ⟨T, r, rfl⟩
  · go_enter Try.func76, Try.ntmps76
    go_wp2_with fail
    obtain ⟨wb, eb, kb, zb, ob⟩ := ob_box w k n a l x s
    rw [eb]
    refine (hf.out _ kb).mono ?_
    rintro e wc ⟨rfl, kc⟩
    have KC := Lib.hid (below_and kb kc)
    clear eb kb zb kc ob
    go_upto_region 2 with fail
    obtain ⟨wd, ed, kd, zd, d0, d1, d2⟩ := pc_box wc .nilIface u z
    rw [ed]
    have KD := Lib.hid (below_and KC.out kd)
    clear ed kd zd
    go_wp2
    go_ret2
    exact ⟨rfl, KD.out⟩
  · go_enter Try.func76, Try.ntmps76
    go_wp2_with fail
    obtain ⟨wb, eb, kb, zb, ob⟩ := ob_box w k n a l x s
    rw [eb]
    refine (hf.out _ kb).mono ?_
    rintro e wc ⟨rfl, kc⟩
    have KC := Lib.hid (below_and kb kc)
    clear eb kb zb kc ob
    go_upto_region 2 with fail
    obtain ⟨wd, ed, kd, zd, d0, d1, d2⟩ := pc_box wc (.iface T (ptr r)) u z
    rw [ed]
    have KD := Lib.hid (below_and KC.out kd)
    clear ed kd zd
    go_wp2
    go_ret2
    exact ⟨rfl, KD.out⟩
theorem size_is (h : PH role c hb vc ivs pb rv P w) (o : Ob) : Calls Try.prog 76 #[ptr hb, o.val] w fun e w' => e = .returned (.tuple #[.int .i64 (lenO P o), .int .i64 (errO P o)]) ∧ Below w.heap.size w w' := by
  cases ho : okO P o
  · have e1 : lenO P o = 0 := by simp [lenO, ho]
    rw [e1]
    exact size_walk hb o.k o.n o.a o.l 0 0 (errO P o) o.x o.s .nilIface w (.inl rfl) (Lib.hid fun wx kx => find_no (h.below kx) o ho)
  · have e1 : errO P o = 0 := errO_ok ho
    rw [e1]
    exact size_walk hb o.k o.n o.a o.l o.a (lenO P o) 0 o.x o.s (.iface (celT (cellOf P o)) (ptr (pb o.n.toNat))) w (.inr ⟨_, _, rfl⟩) (Lib.hid fun wx kx => find_ok (h.below kx) o ho)
end
end Go.Proofs.Ytiokilinlpacmaa
