/- X11: K26, K30, D1, D2. -/
import Derived.Test.YtlkbnldpecolbaaX10
import Derived.Test.YtlkbnldpecolbaaX03
import Derived.Maps.OwnSet
import Derived.Maps.OwnOps
import Derived.DeepKeys4
/- A heap beside blocks that it does not touch: Bytes, Put within a string; a heap of one string. -/
namespace Go.Proofs.Ytlkbnldpecolbaa
open Go.RowKit
set_option linter.unusedVariables false
section
variable {own : Nat → Prop} {hb : Nat} {P P' : List Cel} {w w' : World}
theorem sBytes (h : Sep own hb P w) (o : Ob) (L : List UInt8) (ho : okO P o = true) (hk : o.k = 8) (hpos : 0 < (cellOf P o).bs.length) (hL : bytesL P o = L) :
    Calls Try.prog 91 #[ptr hb, o.val] w fun e w' => e = .returned (.tuple #[.string ⟨L.toArray⟩, .int .i64 0]) ∧ Sep own hb P w' ∧ Kept own w w' := by
  have h0 := h
  obtain ⟨role, ⟨vc, ivs, pb, rv, h1⟩, h2⟩ := h
  refine (bytes_is h1 o ho hk hpos).mono ?_
  rintro e w' ⟨rfl, k⟩
  rw [hL]
  exact ⟨rfl, h0.below k⟩
end
/-- The heap of one string. -/
def strP (l : List UInt8) : List Cel := [⟨8, false, [], l⟩]
def sub8 (a l : Nat) : Ob := ⟨8, false, 0, a, l, ⟨#[]⟩⟩
theorem str_ok {L : List UInt8} {a n : Nat} (h : a + n ≤ L.length) (hL : L.length ≤ 40000) : okO (strP L) (sub8 a n) = true := by
  rw [okO_iff]
  refine ⟨rfl, ?_, ?_⟩
  · simp [Ob.may, sub8, mayO, pieceP]
    omega
  · simp [inCell, strP, sub8, cellOf, Cel.size]
    omega
theorem str_len {L : List UInt8} {a n : Nat} (h : a + n ≤ L.length) (hL : L.length ≤ 40000) : lenO (strP L) (sub8 a n) = n := by
  rw [lenO, str_ok h hL]
  simp [sub8]
theorem str_cell (L : List UInt8) (a n : Nat) : cellOf (strP L) (sub8 a n) = ⟨8, false, [], L⟩ := rfl
theorem str_bytes {L : List UInt8} {a n : Nat} (h : a + n ≤ L.length) (hL : L.length ≤ 40000) : bytesL (strP L) (sub8 a n) = (L.drop a).take n := by
  rw [bytesL, str_len h hL, str_cell]
  simp [sub8]
theorem str_part {L : List UInt8} {k i m : Nat} (h : k ≤ L.length) (hL : L.length ≤ 40000) (hi : i + m ≤ k) : partE (strP L) (sub8 0 k) i m = 0 ∧ partO (strP L) (sub8 0 k) i m = ⟨8, false, 0, i, m, ⟨#[]⟩⟩ := by
  have e : partE (strP L) (sub8 0 k) i m = 0 := by
    rw [partE, str_ok (by omega) hL, str_len (by omega) hL]
    simp [sub8]
    omega
  refine ⟨e, ?_⟩
  rw [partO, e]
  simp [sub8]
theorem str_put {L : List UInt8} {k a m b : Nat} (h : k = L.length) (hL : L.length ≤ 40000) (ha : a + m ≤ k) (hb : b + m ≤ k) : bputP (strP L) (sub8 0 k) (sub8 a m) b = strP (putB L b ((L.drop a).take m)) := by
  unfold bputP
  rw [str_cell, str_bytes (by omega) hL]
  simp [sub8, strP]
end Go.Proofs.Ytlkbnldpecolbaa

/- Walks of heap: Dict that fits; Size. -/
namespace Go.Proofs.Ytlkbnldpecolbaa
open Go.RowKit
set_option linter.unusedVariables false

/-- The items of an empty dictionary of n pairs. -/
def emptyD (n : Nat) : List Ob := Ob.num 0 :: List.replicate (2 * n) Ob.null
theorem emptyD_length (n : Nat) : (emptyD n).length = 2 * n + 1 := by simp [emptyD]
theorem emptyD_set (n : Nat) : (List.replicate (2 * n + 1) Ob.null).set 0 (Ob.num 0) = emptyD n := by
  rw [List.replicate_succ]
  rfl
theorem below_set6 {n g : Nat} {w w' : World} (h : Below n w w') (hg : n ≤ g) (v0 v1 v2 v3 v4 v5 : Value) : Below n w (w'.setCells g 0 [v0, v1, v2, v3, v4, v5]) :=
  (((((h.setCell (p := ⟨g, 0, none⟩) hg v0).setCell (p := ⟨g, 1, none⟩) hg v1).setCell (p := ⟨g, 2, none⟩) hg v2).setCell (p := ⟨g, 3, none⟩) hg v3).setCell (p := ⟨g, 4, none⟩) hg v4).setCell (p := ⟨g, 5, none⟩) hg v5
section
variable {role : Nat → Nat × Nat} {c hb : Nat} {vc : Value} {ivs : List Value} {pb : Nat → Nat} {rv : Nat → Value} {P : List Cel} {w w' : World}
set_option maxHeartbeats 1000000 in
set_option maxRecDepth 100000 in
theorem dict_ok (h : PH role c hb vc ivs pb rv P w) (n m : Nat) (hm : m = 2 * n) (hn : n ≤ 1000) (hl : P.length < 2000) (hu : m + 1 + usedP P ≤ 40000) :
    Calls Try.prog 44 #[ptr hb, .int .i64 n] w fun e w' => e = .returned (.tuple #[obV 10 false P.length 0 0 ⟨#[]⟩, .int .i64 0]) ∧ ∃ role', PHeap role' c hb (P ++ [⟨10, false, emptyD n, []⟩]) w' ∧ Keep role c w role' w' := by
  have H := Lib.hid h
  have HL : Hid (decide (P.length < 2000 ∧ (((m + 1 : Nat) : Int)) + usedP P ≤ 40000) = true) := Lib.hid (decide_eq_true (by omega))
  have Hl := Lib.hid hl
  have Hu := Lib.hid hu
  have HM := Lib.hid hm
  have HN := Lib.hid hn
  have h1 : decide ((n : Int) < 0) = false := decide_eq_false (by omega)
  have h2 : decide ((n : Int) > 1000) = false := decide_eq_false (by omega)
  have e1 : IntKind.i64.wrap (2 * (n : Int)) = m := by rw [wrapi_in _ (by omega) (by omega)]; omega
  have e2 : IntKind.i64.wrap ((m : Int) + 1) = ((m + 1 : Nat) : Int) := by rw [wrapi_in _ (by omega) (by omega)]; omega
  clear h hl hu hm hn
  go_enter Try.func44, Try.ntmps44
  go_wp2_with fail
  obtain ⟨wa, ea, ka, za, oa⟩ := zero_box w
  rw [ea]
  have HA := Lib.hid (H.out.paint ka fun _ => (c + 1, 0))
  refine (hasRoom_is HA.out ((m + 1 : Nat) : Int) true HL.out).mono ?_
  rintro e wc ⟨rfl, rfl⟩
  have KA := Lib.hid ka
  have OA := Lib.hid oa
  have ZA := Lib.hid za
  clear ea ka za oa
  go_wp2_with fail
  refine (newItems_any 10 (m + 1) (by have := Hu.out; omega) wa).mono ?_
  rintro e w1 ⟨b, row, rfl, hb1, eblk, erow, ern, k1⟩
  obtain ⟨gr, cap, rfl, _, _⟩ := erow.form (by omega)
  have hgr : gr = wa.heap.size := by simpa [Value.ownBlock] using ern
  have B1 := Lib.hid hb1
  have B2 := Lib.hid eblk
  have B3 := Lib.hid erow
  have B4 := Lib.hid hgr
  have B5 := Lib.hid k1
  obtain ⟨gr', cap', ev, c0, c1, c2, c3, c4, c5⟩ := row_item (l := List.replicate (m + 1) Ob.null) (by rw [List.length_replicate]; exact erow) (i := 0) (o := Ob.null) (by simp)
  obtain ⟨rfl, _⟩ : gr = gr' ∧ cap = cap' := by rw [List.length_replicate] at ev; simpa using ev
  dsimp only [Ob.null] at c0 c1 c2 c3 c4 c5
  simp only [Nat.zero_mul, Nat.zero_add] at c0 c1 c2 c3 c4 c5
  have f0 : w1.frozen? ⟨gr, 0, none⟩ = false := erow.frozenAt 0
  have f1 : w1.frozen? ⟨gr, 1, none⟩ = false := erow.frozenAt 1
  have f2 : w1.frozen? ⟨gr, 2, none⟩ = false := erow.frozenAt 2
  have f3 : w1.frozen? ⟨gr, 3, none⟩ = false := erow.frozenAt 3
  have f4 : w1.frozen? ⟨gr, 4, none⟩ = false := erow.frozenAt 4
  have f5 : w1.frozen? ⟨gr, 5, none⟩ = false := erow.frozenAt 5
  have d2 : w1.cell? ⟨b, 2, none⟩ = some (.slice (some ⟨gr, 0, none⟩) (m + 1) cap) := by
    rw [cellAt eblk]
    rfl
  have hz : (0 : Int) < ((m + 1 : Nat) : Int) := by omega
  have hz' : (0 : Int) ≤ 0 := by omega
  clear hb1 eblk erow ern k1 hgr ev
  go_upto_region 9 with fail
  obtain ⟨wz, ez⟩ : ∃ wz, w1.setCells gr 0 [.int .i64 3, .bool false, .int .i64 0, .int .i64 0, .int .i64 0, .string ⟨#[]⟩] = wz := ⟨_, rfl⟩
  have EZ := Lib.hid ez
  change Code.wp _ _ _ _ (w1.setCells gr 0 [.int .i64 3, .bool false, .int .i64 0, .int .i64 0, .int .i64 0, .string ⟨#[]⟩])
  rw [ez]
  have K1 : Hid (Below wa.heap.size wa wz) := Lib.hid (by rw [← ez]; exact below_set6 B5.out (by rw [B4.out]; exact Nat.le_refl _) _ _ _ _ _ _)
  have hne : b ≠ gr := by
    have := B1.out
    have := B4.out
    omega
  have E0 := owns_put (Ob.num 0).cells 0 w1 _ B3.out
  have hr : wz.ownsRow 0 30 6 (.slice (some ⟨gr, 0, none⟩) (m + 1) cap) (m + 1) (obCells (emptyD n)) := by
    have q := E0.1
    have := obCells_put (Ob.num 0) (List.replicate (m + 1) Ob.null) 0 (by simp)
    rw [Nat.zero_mul] at this
    rw [this, show List.replicate (m + 1) Ob.null = List.replicate (2 * n + 1) Ob.null from by rw [HM.out], emptyD_set] at q
    rw [← ez]
    exact q
  have hbk : wz.heap[b]? = some (.cells #[.int .i64 10, .bool false, .slice (some ⟨gr, 0, none⟩) (m + 1) cap] 118 (0, 0)) := by
    rw [← ez]
    exact (E0.2.block b hne).trans B2.out
  have HR := Lib.hid hr
  have HK := Lib.hid hbk
  have H1 := Lib.hid (HA.out.below K1.out)
  clear ez hr hbk E0 hne c0 c1 c2 c3 c4 c5 f0 f1 f2 f3 f4 f5 d2 hz hz'
  go_wp2_with fail
  refine (cadd_any hb vc ivs P.length (usedP P) ((m + 1 : Nat) : Int) 113 b wz H1.out.hblk H1.out.crow H1.out.ne (by have := Hl.out; omega) (by omega) (by have := Hu.out; omega) (by omega) (by have := Hu.out; omega)).mono ?_
  rintro e w2 ⟨rfl, g, cap2, e1, e2, e3, e4, e5, e6, e7, e8⟩
  have hlen : (emptyD n).length = m + 1 := by rw [emptyD_length, HM.out]
  have cl : PCell wz (.iface 113 (ptr b)) b (.slice (some ⟨gr, 0, none⟩) (m + 1) cap) ⟨10, false, emptyD n, []⟩ := .inl ⟨rfl, .inr rfl, rfl, HK.out, by rw [hlen]; exact HR.out⟩
  have sz : (⟨10, false, emptyD n, []⟩ : Cel).size = m + 1 := by simp [Cel.size, hlen]
  have AD := Lib.hid (HA.out.added K1.out (Nat.le_of_lt B1.out) cl (fun q hq => by
    have : gr = q := by simpa [Value.ownBlock] using hq
    have := B1.out
    have := B4.out
    omega) Hl.out (by rw [sz]; exact Hu.out) (by rw [sz]; exact e1) e2 e3 e4 e5 e6 e7 e8)
  have O2 : w2.heap[w.heap.size]? = some emptyOb := (AD.out.2.block _ (blk_lt OA.out) (by rw [paint_new (Nat.le_refl _)]; simp)).trans OA.out
  have P2 := Lib.hid O2
  obtain ⟨⟨c0, c1, c2, c3, c4, c5⟩, f0, f1, f2, f3, f4, f5⟩ := cells6 O2
  clear e1 e2 e3 e4 e5 e6 e7 e8 cl sz O2
  go_wp2
  (try simp only [Exit.inBlock, Exit.then])
  refine bodyPost_ret (ret_cell rfl _ _ _ _ _ _ _ _ rfl rfl (set6 P2.out _ _ _ _ _ _) Try.underlying30 rfl (by kernel_rfl)) rfl ⟨rfl, _, AD.out.1.only (only6 _ _ _ _ _ _ _ _) ?_, (only6 _ _ _ _ _ _ _ _).keep ((Keep.paint role c KA.out _).trans AD.out.2) (Nat.le_refl _)⟩
  rw [AD.out.2.same _ (blk_lt OA.out), paint_new (Nat.le_refl _)]
  simp

theorem size_walk (hb : Nat) (k n a l u z E : Int) (x : Bool) (s : ByteArray) (iv : Value) (w : World) (hiv : iv = .nilIface ∨ ∃ T r, iv = .iface T (ptr r))
    (hf : Hid (∀ wx, Below w.heap.size w wx → Calls Try.prog 81 #[ptr hb, obV k x n a l s] wx fun e w' => e = .returned (.tuple #[pcV iv u z, .int .i64 E]) ∧ Below wx.heap.size wx w')) :
    Calls Try.prog 88 #[ptr hb, obV k x n a l s] w fun e w' => e = .returned (.tuple #[.int .i64 z, .int .i64 E]) ∧ Below w.heap.size w w' := by
  rcases hiv with rfl | ⟨T, r, rfl⟩
  · go_enter Try.func88, Try.ntmps88
    go_wp2_with fail
    obtain ⟨wb, eb, kb, zb, ob⟩ := ob_box w k n a l x s
    rw [eb]
    refine (hf.out _ kb).mono ?_
    rintro e wc ⟨rfl, kc⟩
    have KC := Lib.hid (below_and kb kc)
    clear eb kb zb kc ob
    go_upto_region 2 with fail
    obtain ⟨wd, ed, kd, zd, d0, d1, d2⟩ := pc_box wc .nilIface u z
    rw [ed]
    have KD := Lib.hid (below_and KC.out kd)
    clear ed kd zd
    go_wp2
    go_ret2
    exact ⟨rfl, KD.out⟩
  · go_enter Try.func88, Try.ntmps88
    go_wp2_with fail
    obtain ⟨wb, eb, kb, zb, ob⟩ := ob_box w k n a l x s
    rw [eb]
    refine (hf.out _ kb).mono ?_
    rintro e wc ⟨rfl, kc⟩
    have KC := Lib.hid (below_and kb kc)
    clear eb kb zb kc ob
    go_upto_region 2 with fail
    obtain ⟨wd, ed, kd, zd, d0, d1, d2⟩ := pc_box wc (.iface T (ptr r)) u z
    rw [ed]
    have KD := Lib.hid (below_and KC.out kd)
    clear ed kd zd
    go_wp2
    go_ret2
    exact ⟨rfl, KD.out⟩
theorem size_is (h : PH role c hb vc ivs pb rv P w) (o : Ob) : Calls Try.prog 88 #[ptr hb, o.val] w fun e w' => e = .returned (.tuple #[.int .i64 (lenO P o), .int .i64 (errO P o)]) ∧ Below w.heap.size w w' := by
  cases ho : okO P o
  · have e1 : lenO P o = 0 := by simp [lenO, ho]
    rw [e1]
    exact size_walk hb o.k o.n o.a o.l 0 0 (errO P o) o.x o.s .nilIface w (.inl rfl) (Lib.hid fun wx kx => find_no (h.below kx) o ho)
  · have e1 : errO P o = 0 := errO_ok ho
    rw [e1]
    exact size_walk hb o.k o.n o.a o.l o.a (lenO P o) 0 o.x o.s (.iface (celT (cellOf P o)) (ptr (pb o.n.toNat))) w (.inr ⟨_, _, rfl⟩) (Lib.hid fun wx kx => find_ok (h.below kx) o ho)
end
end Go.Proofs.Ytlkbnldpecolbaa

/- Walks of dict: the cell of a dictionary as a value; end, plain, set, count. -/
namespace Go.Proofs.Ytlkbnldpecolbaa
open Go.RowKit
set_option linter.unusedVariables false

/-- A dict.cell as a value, and in a block. -/
abbrev dcV (hb : Nat) (k : Int) (x : Bool) (n a l : Int) (s : ByteArray) (p r : Int) : Value := .agg #[ptr hb, .int .i64 k, .bool x, .int .i64 n, .int .i64 a, .int .i64 l, .string s, .int .i64 p, .int .i64 r]
abbrev dcObj (hb : Nat) (k : Int) (x : Bool) (n a l : Int) (s : ByteArray) (p r : Int) : Obj := .cells #[ptr hb, .int .i64 k, .bool x, .int .i64 n, .int .i64 a, .int .i64 l, .string s, .int .i64 p, .int .i64 r] 86 (0, 0)
def DcAt (w : World) (b hb : Nat) (k : Int) (x : Bool) (n a l : Int) (s : ByteArray) (p r : Int) : Prop :=
  w.cell? ⟨b, 0, none⟩ = some (ptr hb) ∧ w.cell? ⟨b, 1, none⟩ = some (.int .i64 k) ∧ w.cell? ⟨b, 2, none⟩ = some (.bool x) ∧ w.cell? ⟨b, 3, none⟩ = some (.int .i64 n) ∧ w.cell? ⟨b, 4, none⟩ = some (.int .i64 a) ∧ w.cell? ⟨b, 5, none⟩ = some (.int .i64 l) ∧ w.cell? ⟨b, 6, none⟩ = some (.string s) ∧ w.cell? ⟨b, 7, none⟩ = some (.int .i64 p) ∧ w.cell? ⟨b, 8, none⟩ = some (.int .i64 r)
theorem DcAt.later {w wx : World} {b hb : Nat} {k : Int} {x : Bool} {n a l : Int} {s : ByteArray} {p r : Int} (h : DcAt w b hb k x n a l s p r) (kc : Below w.heap.size w wx) : DcAt wx b hb k x n a l s p r := by
  obtain ⟨c0, c1, c2, c3, c4, c5, c6, c7, c8⟩ := h
  exact ⟨cell_later kc c0, cell_later kc c1, cell_later kc c2, cell_later kc c3, cell_later kc c4, cell_later kc c5, cell_later kc c6, cell_later kc c7, cell_later kc c8⟩
theorem dc_cells {w : World} {b hb : Nat} {k : Int} {x : Bool} {n a l : Int} {s : ByteArray} {p r : Int} (h : w.heap[b]? = some (dcObj hb k x n a l s p r)) : DcAt w b hb k x n a l s p r :=
  ⟨cellAt h 0, cellAt h 1, cellAt h 2, cellAt h 3, cellAt h 4, cellAt h 5, cellAt h 6, cellAt h 7, cellAt h 8⟩
theorem dc_box (w : World) (hb : Nat) (k : Int) (x : Bool) (n a l : Int) (s : ByteArray) (p r : Int) : ∃ wb, w.alloc (.cells #[ptr hb, .int .i64 k, .bool x, .int .i64 n, .int .i64 a, .int .i64 l, .string s, .int .i64 p, .int .i64 r] 86) = wb ∧ Below w.heap.size w wb ∧ wb.heap.size = w.heap.size + 1 ∧ wb.heap[w.heap.size]? = some (dcObj hb k x n a l s p r) :=
  ⟨_, rfl, box_below _ _, by simp, heap_alloc_new _ _⟩

/-- A boxed object, and a zero object behind it. -/
theorem ob_zero (w : World) (k n a l : Int) (x : Bool) (s : ByteArray) : ∃ wb, (w.alloc (.cells #[.int .i64 k, .bool x, .int .i64 n, .int .i64 a, .int .i64 l, .string s] 30)).alloc (.cells #[.int .i64 0, .bool false, .int .i64 0, .int .i64 0, .int .i64 0, .string ⟨#[]⟩] 30) = wb ∧ Below w.heap.size w wb ∧ wb.heap.size = w.heap.size + 2 ∧ wb.heap[w.heap.size]? = some (obObj k x n a l s) ∧ wb.heap[w.heap.size + 1]? = some emptyOb := by
  refine ⟨_, rfl, below_and (box_below _ _) (box_below _ _), by simp, ?_, ?_⟩
  · rw [Below.heap_alloc _ _ _ (by simp)]
    exact heap_alloc_new _ _
  · have := heap_alloc_new (w.alloc (.cells #[.int .i64 k, .bool x, .int .i64 n, .int .i64 a, .int .i64 l, .string s] 30)) emptyOb
    simpa using this
theorem end_any (hb : Nat) (k n a l r : Int) (x : Bool) (s : ByteArray) (p : Nat) (hp : p ≤ 1000) (w : World) : Calls Try.prog 60 #[dcV hb k x n a l s p r] w fun e w' => e = .returned (.int .i64 ((2 * p + 1 : Nat) : Int)) ∧ Below w.heap.size w w' := by
  obtain ⟨q, hq⟩ : ∃ q, q = 2 * p := ⟨_, rfl⟩
  have e1 : IntKind.i64.wrap (2 * (p : Int)) = q := by rw [wrapi_in _ (by omega) (by omega)]; omega
  have e2 : IntKind.i64.wrap (1 + (q : Int)) = ((q + 1 : Nat) : Int) := by rw [wrapi_in _ (by omega) (by omega)]; omega
  rw [← hq]
  clear hq hp
  go_enter Try.func60, Try.ntmps60
  go_wp2_with fail
  go_ret
  exact ⟨rfl, box_below _ _⟩

/-- A key as the map of the other kinds holds it. -/
def plainO (o : Ob) : Ob := if numOk o.k o.n then ⟨4, false, numV o.k o.n, 0, 0, ⟨#[]⟩⟩ else o
theorem plain_any (o : Ob) (w : World) : Calls Try.prog 84 #[o.val] w fun e w' => e = .returned (plainO o).val ∧ Below w.heap.size w w' := by
  obtain ⟨k, x, n, a, l, s⟩ := o
  have hn := Lib.hid fun w => numO_any k n a l x s w
  cases hq : numOk k n
  · have hp : Hid (plainO ⟨k, x, n, a, l, s⟩ = ⟨k, x, n, a, l, s⟩) := Lib.hid (by simp [plainO, hq])
    rw [hp.out]
    rw [hq] at hn
    clear hq
    show Calls Try.prog 84 #[obV k x n a l s] w _
    go_enter Try.func84, Try.ntmps84
    go_wp2_with fail
    obtain ⟨wb, eb, kb, zb, oa, ob⟩ := ob_zero w k n a l x s
    rw [eb]
    obtain ⟨a0, a1, a2, a3, a4, a5⟩ := ob_cells oa
    refine (hn.out wb).mono ?_
    rintro e wc ⟨rfl, kc⟩
    have KC := Lib.hid (below_and kb kc)
    have OC : Hid (wc.heap[w.heap.size + 1]? = some emptyOb) := Lib.hid ((kc.block _ (blk_lt ob)).trans ob)
    obtain ⟨o0, o1, o2, o3, o4, o5⟩ := ob_cells ((kc.block _ (blk_lt oa)).trans oa)
    obtain ⟨⟨c0, c1, c2, c3, c4, c5⟩, f0, f1, f2, f3, f4, f5⟩ := cells6 OC.out
    clear eb kb zb oa ob kc a0 a1 a2 a3 a4 a5
    go_wp2
    (try simp only [Exit.inBlock, Exit.then])
    refine bodyPost_ret (results_cell_row rfl _ _ _ _ _ _ _ rfl (set6 OC.out _ _ _ _ _ _) Try.underlying30 rfl (by kernel_rfl)) rfl ⟨rfl, set6_below KC.out (Nat.le_succ _) _ _ _ _ _ _⟩
  · have hp : Hid (plainO ⟨k, x, n, a, l, s⟩ = ⟨4, false, numV k n, 0, 0, ⟨#[]⟩⟩) := Lib.hid (by simp [plainO, hq])
    rw [hp.out]
    rw [hq] at hn
    obtain ⟨v, hv⟩ : ∃ v, v = numV k n := ⟨_, rfl⟩
    rw [← hv] at hn ⊢
    clear hq hp hv
    show Calls Try.prog 84 #[obV k x n a l s] w _
    go_enter Try.func84, Try.ntmps84
    go_wp2_with fail
    obtain ⟨wb, eb, kb, zb, oa, ob⟩ := ob_zero w k n a l x s
    rw [eb]
    obtain ⟨a0, a1, a2, a3, a4, a5⟩ := ob_cells oa
    refine (hn.out wb).mono ?_
    rintro e wc ⟨rfl, kc⟩
    have KC := Lib.hid (below_and kb kc)
    have OC : Hid (wc.heap[w.heap.size + 1]? = some emptyOb) := Lib.hid ((kc.block _ (blk_lt ob)).trans ob)
    obtain ⟨o0, o1, o2, o3, o4, o5⟩ := ob_cells ((kc.block _ (blk_lt oa)).trans oa)
    obtain ⟨⟨c0, c1, c2, c3, c4, c5⟩, f0, f1, f2, f3, f4, f5⟩ := cells6 OC.out
    clear eb kb zb oa ob kc a0 a1 a2 a3 a4 a5
    go_wp2
    (try simp only [Exit.inBlock, Exit.then])
    refine bodyPost_ret (results_cell_row rfl _ _ _ _ _ _ _ rfl (set6 OC.out _ _ _ _ _ _) Try.underlying30 rfl (by kernel_rfl)) rfl ⟨rfl, set6_below KC.out (Nat.le_succ _) _ _ _ _ _ _⟩

/-- set: what Set of the heap does, with no result. -/
theorem dset_any (hb : Nat) (k n a l p r i : Int) (x : Bool) (s : ByteArray) (k' n' a' l' : Int) (x' : Bool) (s' : ByteArray) (w : World) (E : Int) (R : World → World → Prop)
    (hs : Hid (∀ wx, Below w.heap.size w wx → Calls Try.prog 55 #[ptr hb, obV k x n a l s, .int .i64 i, obV k' x' n' a' l' s'] wx fun e w' => e = .returned (.int .i64 E) ∧ R wx w')) :
    Calls Try.prog 86 #[dcV hb k x n a l s p r, .int .i64 i, obV k' x' n' a' l' s'] w fun e w' => e = .returned (.tuple #[]) ∧ ∃ wx, Below w.heap.size w wx ∧ R wx w' := by
  go_enter Try.func86, Try.ntmps86
  go_wp2_with fail
  obtain ⟨wa, ea, ka, za, oa⟩ := dc_box w hb k x n a l s p r
  rw [ea]
  obtain ⟨wb, eb, kb, zb, ob⟩ := ob_box wa k' n' a' l' x' s'
  rw [eb]
  refine (hs.out wb (below_and ka kb)).mono ?_
  rintro e wc ⟨rfl, hR⟩
  have HR := Lib.hid hR
  have HB := Lib.hid (below_and ka kb)
  clear hR ea eb ka kb za zb oa ob
  go_wp2
  go_end0
  exact ⟨rfl, wb, HB.out, HR.out⟩
end Go.Proofs.Ytlkbnldpecolbaa

/- dict: pairs in a cell, how keys are found: plain answers, and what a map of them says. -/
namespace Go.Proofs.Ytlkbnldpecolbaa
open Go.RowKit Go.Maps
set_option linter.unusedVariables false

set_option maxRecDepth 100000 in
theorem laidOut : laidOutB Try.prog = true := by kernel_rfl
theorem law9 : Keyed Try.prog 9 := string_keyed Try.underlying9
theorem wide26 : (match Try.prog.underlying 30 with | some (.array _ _) | some (.struct _) => true | _ => false) = true := by rw [Try.underlying30]
set_option maxRecDepth 100000 in
theorem law26 : Keyed Try.prog 30 := Keyed.of_law (deep_law_laid laidOut (m := 2) (by omega) (of_decide_eq_true (by kernel_rfl)) (by kernel_rfl) wide26)

/-- Ints in their range, a string that can be. -/
structure Ob.Fine (o : Ob) : Prop where
  k : (Lit.int .i64 o.k).wf = true
  n : (Lit.int .i64 o.n).wf = true
  a : (Lit.int .i64 o.a).wf = true
  l : (Lit.int .i64 o.l).wf = true
  s : o.s.size ≤ maxLen
theorem key9 (o : Ob) (h : o.s.size ≤ maxLen) : keyOf Try.prog 9 (.string o.s) = some (.string o.s.data.toList) := WideMaps.keyOf_string_mk Try.underlying9 h
theorem key26 (o : Ob) (h : o.Fine) : ∃ kl, keyOf Try.prog 30 o.val = some kl := by
  have hk : Try.prog.keyType 30 = true := by kernel_rfl
  have hc : Try.prog.cellsOf 30 = 6 := by kernel_rfl
  have h3 : Try.prog.cellsOf 3 = 1 := by kernel_rfl
  have h4 : Try.prog.cellsOf 4 = 1 := by kernel_rfl
  have h9 : Try.prog.cellsOf 9 = 1 := by kernel_rfl
  have e3 : ∀ D v, (Lit.int .i64 v).wf = true → Try.prog.keyLits (D + 1) 3 [.int .i64 v] = some [.int .i64 v] := fun D v hv => by simp [Program.keyLits, Try.underlying3, hv]
  have e4 : ∀ D b, Try.prog.keyLits (D + 1) 4 [.bool b] = some [.bool b] := fun D v => by simp [Program.keyLits, Try.underlying4]
  have e9 : ∀ D (s : ByteArray), s.size ≤ maxLen → Try.prog.keyLits (D + 1) 9 [.string s] = some [.string s.data.toList] := fun D s hs => by simp [Program.keyLits, Try.underlying9, hs]
  obtain ⟨N, hN⟩ : ∃ N, Try.prog.types.size = N + 1 := ⟨169, by kernel_rfl⟩
  unfold keyOf
  rw [Try.underlying30]
  simp only [hk, hN, Value.formed, Ob.val, Try.underlying30, hc]
  unfold Program.keyLits
  simp [Try.underlying30, hc, h3, h4, h9, e3, e4, e9, h.k, h.n, h.a, h.l, h.s, Value.cells]
theorem val_inj {o q : Ob} (h : o.val = q.val) : o = q := by
  obtain ⟨k, x, n, a, l, s⟩ := o
  obtain ⟨k', x', n', a', l', s'⟩ := q
  simp [Ob.val] at h
  obtain ⟨rfl, rfl, rfl, rfl, rfl, rfl⟩ := h
  rfl

open Classical in
/-- The last of the first j keys that reads as kl. -/
noncomputable def ixL (ls : Nat → Option Lit) (kl : Lit) : Nat → Option Nat
  | 0 => none
  | j + 1 => if ls j = some kl then some j else ixL ls kl j
def atI (o : Option Nat) : Int := match o with | some i => 2 * i + 1 | none => 0
/-- A map tells of the first j keys. -/
def MapIs (D : DataW Unit) (j : Nat) (ls : Nat → Option Lit) : Prop := IsMap D ∧ ∀ kl, WideAt.IsKeyLit kl → Maps.has D kl = (ixL ls kl j).isSome ∧ D.atKey kl (.lit (.int .i64 0)) = .lit (.int .i64 (atI (ixL ls kl j)))
theorem MapIs.zero (ls : Nat → Option Lit) : MapIs (.map []) 0 ls := ⟨isMap_empty, fun kl _ => ⟨rfl, rfl⟩⟩
theorem MapIs.skip {D : DataW Unit} {j : Nat} {ls : Nat → Option Lit} (h : MapIs D j ls) (hn : ls j = none) : MapIs D (j + 1) ls :=
  ⟨h.1, fun kl hk => by
    have : ixL ls kl (j + 1) = ixL ls kl j := by simp [ixL, hn]
    rw [this]
    exact h.2 kl hk⟩
theorem MapIs.put {D : DataW Unit} {j : Nat} {ls : Nat → Option Lit} {kl : Lit} (h : MapIs D j ls) (hn : ls j = some kl) (hk : WideAt.IsKeyLit kl) : MapIs (D.put kl (.lit (.int .i64 (2 * j + 1)))) (j + 1) ls :=
  ⟨h.1.put _ _, fun k' hk' => by
    by_cases e : kl = k'
    · subst e
      have : ixL ls kl (j + 1) = some j := by simp [ixL, hn]
      rw [this]
      exact ⟨has_put_same h.1 hk _, atKey_put_same h.1 hk _ _⟩
    · have : ixL ls k' (j + 1) = ixL ls k' j := by simp [ixL, hn, e]
      rw [this]
      have q := h.2 k' hk'
      exact ⟨(has_put_other (Ne.symm e) _).trans q.1, (atKey_put_other (Ne.symm e) _ _).trans q.2⟩⟩

/-- Pairs one behind the other; the items of a dictionary's cell. -/
def flatD (ps : List (Ob × Ob)) : List Ob := ps.flatMap fun p => [p.1, p.2]
def itemsD (ps : List (Ob × Ob)) (room : Nat) : List Ob := Ob.num ps.length :: (flatD ps ++ List.replicate (2 * (room - ps.length)) Ob.null)
theorem flatD_length (ps : List (Ob × Ob)) : (flatD ps).length = 2 * ps.length := by
  induction ps with
  | nil => rfl
  | cons p ps ih =>
    show (p.1 :: p.2 :: flatD ps).length = _
    simp [ih]
    omega
theorem itemsD_length {ps : List (Ob × Ob)} {room : Nat} (h : ps.length ≤ room) : (itemsD ps room).length = 2 * room + 1 := by
  simp [itemsD, flatD_length]
  omega
theorem flatD_get (ps : List (Ob × Ob)) (j : Nat) : (flatD ps)[2 * j]? = ps[j]?.map (·.1) ∧ (flatD ps)[2 * j + 1]? = ps[j]?.map (·.2) := by
  induction ps generalizing j with
  | nil => simp [flatD]
  | cons p ps ih =>
    have e : flatD (p :: ps) = p.1 :: p.2 :: flatD ps := rfl
    cases j with
    | zero => simp [e]
    | succ j =>
      rw [e, show 2 * (j + 1) = 2 * j + 1 + 1 from by omega]
      simpa using ih j
theorem itemsD_key {ps : List (Ob × Ob)} {room j : Nat} {p : Ob × Ob} (h : ps[j]? = some p) : (itemsD ps room)[2 * j + 1]? = some p.1 ∧ (itemsD ps room)[2 * j + 2]? = some p.2 := by
  have hj := (List.getElem?_eq_some_iff.1 h).1
  have q := flatD_get ps j
  rw [h] at q
  unfold itemsD
  rw [List.getElem?_cons_succ, List.getElem?_append_left (by rw [flatD_length]; omega), show 2 * j + 2 = 2 * j + 1 + 1 from rfl, List.getElem?_cons_succ, List.getElem?_append_left (by rw [flatD_length]; omega)]
  simpa using q

/-- A dictionary of the heap P, with its pairs. -/
structure DictC (P : List Cel) (d : Ob) (ps : List (Ob × Ob)) (room : Nat) (lk : Bool) : Prop where
  ok : okO P d = true
  k : d.k = 10
  cell : cellOf P d = ⟨10, lk, itemsD ps room, []⟩
  le : ps.length ≤ room
  most : room ≤ 1000
  fine : ∀ p ∈ ps, p.1.Fine
theorem DictC.zeros {P : List Cel} {d : Ob} {ps : List (Ob × Ob)} {room : Nat} {lk : Bool} (h : DictC P d ps room lk) : d.a = 0 ∧ d.l = 0 := (ok_bd h.ok).2.2.2.2.2.2.2.2 h.k
theorem DictC.len {P : List Cel} {d : Ob} {ps : List (Ob × Ob)} {room : Nat} {lk : Bool} (h : DictC P d ps room lk) : lenO P d = ((2 * room + 1 : Nat) : Int) := by
  rw [lenO, h.ok, h.cell]
  simp [h.k, Cel.size, itemsD_length h.le]
theorem DictC.get {P : List Cel} {d : Ob} {ps : List (Ob × Ob)} {room : Nat} {lk : Bool} (h : DictC P d ps room lk) {i : Nat} {o : Ob} (hi : (itemsD ps room)[i]? = some o) : getE P d i = 0 ∧ getO P d i = o := by
  have hl := (List.getElem?_eq_some_iff.1 hi).1
  rw [itemsD_length h.le] at hl
  have e : getE P d i = 0 := by
    rw [getE, h.ok, h.len]
    simp
    omega
  refine ⟨e, ?_⟩
  rw [getO, e, h.cell, h.zeros.1]
  simp [itemAt, hi]
theorem DictC.size {P : List Cel} {d : Ob} {ps : List (Ob × Ob)} {room : Nat} {lk : Bool} (h : DictC P d ps room lk) : (cellOf P d).size = 2 * room + 1 := by
  rw [h.cell]
  simp [Cel.size, itemsD_length h.le]

def nameLit (ps : List (Ob × Ob)) (j : Nat) : Option Lit := (ps[j]?).bind fun p => if p.1.k = 5 then some (.string p.1.s.data.toList) else none
noncomputable def otherLit (ps : List (Ob × Ob)) (j : Nat) : Option Lit := (ps[j]?).bind fun p => if p.1.k = 5 then none else keyOf Try.prog 30 (plainO p.1).val
/-- Is the key p of a pair the key k that is looked for? -/
def isKey (k p : Ob) : Prop := if k.k = 5 then p.k = 5 ∧ p.s = k.s else p.k ≠ 5 ∧ plainO p = plainO k
instance (k p : Ob) : Decidable (isKey k p) := by unfold isKey; infer_instance
/-- The last of the first j pairs with the key k. -/
def ixD (ps : List (Ob × Ob)) (k : Ob) : Nat → Option Nat
  | 0 => none
  | j + 1 => if ∃ p, ps[j]? = some p ∧ isKey k p.1 then some j else ixD ps k j
theorem plain_fine {o : Ob} (h : o.Fine) : (plainO o).Fine := by
  unfold plainO
  split
  · next hq =>
    refine ⟨rfl, ?_, rfl, rfl, Nat.zero_le _⟩
    show (Lit.int .i64 (numV o.k o.n)).wf = true
    have hb : -2305843009213693952 < numV o.k o.n ∧ numV o.k o.n < 2305843009213693952 := by
      unfold numV gate numOk sizeO at *
      split <;> split <;> simp_all [mayF] <;> omega
    exact WalkArith.wf_i64 (by omega)
  · exact h
theorem ix_names {ps : List (Ob × Ob)} {k : Ob} (hk : k.k = 5) : ∀ j, ixL (nameLit ps) (.string k.s.data.toList) j = ixD ps k j
  | 0 => rfl
  | j + 1 => by
    have : nameLit ps j = some (.string k.s.data.toList) ↔ ∃ p, ps[j]? = some p ∧ isKey k p.1 := by
      unfold nameLit isKey
      cases e : ps[j]? with
      | none => simp
      | some p =>
        simp only [Option.bind_some, hk, if_true]
        constructor
        · intro h
          split at h
          · next h5 =>
            have : p.1.s.data.toList = k.s.data.toList := by simpa using h
            refine ⟨p, rfl, h5, ?_⟩
            have e2 := Array.toList_inj.1 this
            cases hs : p.1.s
            cases hs2 : k.s
            rw [hs, hs2] at e2
            simpa using e2
          · simp at h
        · rintro ⟨q, hq, h5, hs⟩
          have : p = q := by simpa using hq
          subst this
          rw [if_pos h5, hs]
    unfold ixL ixD
    rw [ix_names hk j]
    by_cases h : nameLit ps j = some (.string k.s.data.toList)
    · rw [if_pos h, if_pos (this.1 h)]
    · rw [if_neg h, if_neg (fun q => h (this.2 q))]
theorem ix_others {ps : List (Ob × Ob)} {k : Ob} (hk : k.k ≠ 5) {kl : Lit} (hl : keyOf Try.prog 30 (plainO k).val = some kl) : ∀ j, ixL (otherLit ps) kl j = ixD ps k j
  | 0 => rfl
  | j + 1 => by
    have : otherLit ps j = some kl ↔ ∃ p, ps[j]? = some p ∧ isKey k p.1 := by
      unfold otherLit isKey
      cases e : ps[j]? with
      | none => simp
      | some p =>
        simp only [Option.bind_some, hk, if_false]
        constructor
        · intro h
          split at h
          · simp at h
          · next h5 => exact ⟨p, rfl, h5, val_inj (law26.inj h hl)⟩
        · rintro ⟨q, hq, h5, hs⟩
          have : p = q := by simpa using hq
          subst this
          rw [if_neg h5, hs, hl]
    unfold ixL ixD
    rw [ix_others hk hl j]
    by_cases h : otherLit ps j = some kl
    · rw [if_pos h, if_pos (this.1 h)]
    · rw [if_neg h, if_neg (fun q => h (this.2 q))]
theorem owns_block {k : TypeId} {R : Value → Option (DataW Unit × List MemPlace)} {w w' : World} {b n : Nat} {D : DataW Unit} (h : w.ownsMap Try.prog k R b n D) (e : w'.heap[b]? = w.heap[b]?) : w'.ownsMap Try.prog k R b n D := by
  obtain ⟨es, clock, h1, h2⟩ := h
  exact ⟨es, clock, e.trans h1, h2⟩
end Go.Proofs.Ytlkbnldpecolbaa
