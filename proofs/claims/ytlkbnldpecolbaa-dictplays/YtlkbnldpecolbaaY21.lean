/- Y21: E1, E2, D1, D2. -/
import Derived.Test.YtlkbnldpecolbaaY20
import Derived.Test.YtlkbnldpecolbaaY16
import Derived.Test.YtlkbnldpecolbaaY03
import Derived.Maps.OwnSet
import Derived.Maps.OwnOps
import Derived.DeepKeys4
/- Walks of tympanref12: Room, Len. -/
namespace Go.Proofs.Ytlkbnldpecolbaa
open Go.RowKit
set_option linter.unusedVariables false
set_option linter.unusedSimpArgs false

/-- What Room answers. -/
def drE (P : List Cel) (d : Ob) : Int := if d.k ≠ 10 then 6 else if mayH P d then 0 else 1
def drN (P : List Cel) (d : Ob) : Int := if drE P d = 0 then Int.tdiv (lenO P d - 1) 2 else 0
set_option maxHeartbeats 1000000 in
set_option maxRecDepth 100000 in
theorem rroom_walk (rb : Nat) (k n a l z e0 : Int) (x : Bool) (s : ByteArray) (m : Bool) (w : World) (hz : 0 ≤ z) (hz1 : z ≤ 40000)
    (C1 : Hid (∀ wx, Below w.heap.size w wx → Calls Try.prog 65 #[ptr rb, obV k x n a l s] wx fun e w' => e = .returned (.bool m) ∧ Below wx.heap.size wx w'))
    (C2 : Hid (∀ wx, Below w.heap.size w wx → Calls Try.prog 96 #[ptr rb, obV k x n a l s] wx fun e w' => e = .returned (.tuple #[.int .i64 z, .int .i64 e0]) ∧ Below wx.heap.size wx w')) :
    Calls Try.prog 68 #[ptr rb, obV k x n a l s] w fun e w' => e = .returned (.tuple #[.int .i64 (if k ≠ 10 then 0 else if m then Int.tdiv (z - 1) 2 else 0), .int .i64 (if k ≠ 10 then 6 else if m then 0 else 1)]) ∧ Below w.heap.size w w' := by
  have e1 : IntKind.i64.wrap (z - 1) = z - 1 := IntWalk.i64_in _ (by omega)
  have h0 : 0 ≤ Int.tdiv (z - 1) 2 ∧ Int.tdiv (z - 1) 2 ≤ 40000 := by
    by_cases h : z = 0
    · subst h
      decide
    · rw [Int.tdiv_eq_ediv_of_nonneg (by omega)]
      omega
  have e2 : IntKind.i64.wrap (Int.tdiv (z - 1) 2) = Int.tdiv (z - 1) 2 := IntWalk.i64_in _ (by omega)
  go_enter Try.func68, Try.ntmps68
  go_upto_region 1 with fail
  obtain ⟨wb, eb, kb, zb, oa⟩ := ob_box w k n a l x s
  rw [eb]
  have KB := Lib.hid kb
  have OB := Lib.hid oa
  clear eb kb zb
  obtain ⟨c0, c1, c2, c3, c4, c5⟩ := oa
  by_cases hk : k = 10
  · subst hk
    go_wp2_with fail
    refine (C1.out _ KB.out).mono ?_
    rintro e w1 ⟨rfl, k1⟩
    have K1 := Lib.hid (below_and KB.out k1)
    have O1 := OB.out.later k1
    clear k1 c0 c1 c2 c3 c4 c5
    obtain ⟨c0, c1, c2, c3, c4, c5⟩ := O1
    cases m with
    | false =>
      go_wp2
      go_ret2
      exact ⟨rfl, K1.out⟩
    | true =>
      go_wp2_with fail
      refine (C2.out _ K1.out).mono ?_
      rintro e w2 ⟨rfl, k2⟩
      have K2 := Lib.hid (below_and K1.out k2)
      clear k2 c0 c1 c2 c3 c4 c5
      go_wp2
      go_ret2
      exact ⟨rfl, K2.out⟩
  · go_wp2
    go_ret2
    exact ⟨by simp [hk], KB.out⟩
theorem rroomD_tot {own : Nat → Prop} {rb : Nat} {v : Value} {R : List RC} {w : World} (h : RH own rb v R w) (d : Ob) : Calls Try.prog 68 #[ptr rb, d.val] w fun e w' => e = .returned (.tuple #[.int .i64 (drN (cels R) d), .int .i64 (drE (cels R) d)]) ∧ Below w.heap.size w w' := by
  obtain ⟨z0, z1⟩ := lenO_bd h.wf d
  have q := rroom_walk rb d.k d.n d.a d.l (lenO (cels R) d) (errO (cels R) d) d.x d.s (mayH (cels R) d) w (by omega) (by omega) (Lib.hid fun wx kx => rmayH_any (h.below kx) d) (Lib.hid fun wx kx => rsize_tot (h.below kx) d)
  refine q.mono ?_
  rintro e w' ⟨rfl, k⟩
  refine ⟨?_, k⟩
  rw [drN, drE]
  by_cases hk : d.k = 10
  · cases hm : mayH (cels R) d <;> simp [hk]
  · simp [hk]
end Go.Proofs.Ytlkbnldpecolbaa

/- Walks of tympanref12: Len. -/
namespace Go.Proofs.Ytlkbnldpecolbaa
open Go.RowKit
set_option linter.unusedVariables false
set_option linter.unusedSimpArgs false
set_option maxHeartbeats 1000000 in
set_option maxRecDepth 100000 in
theorem rlen_walk (rb : Nat) (k n a l z e0 e1 : Int) (x : Bool) (s : ByteArray) (k' n' a' l' : Int) (x' : Bool) (s' : ByteArray) (w : World)
    (C1 : Hid (∀ wx, Below w.heap.size w wx → Calls Try.prog 68 #[ptr rb, obV k x n a l s] wx fun e w' => e = .returned (.tuple #[.int .i64 z, .int .i64 e0]) ∧ Below wx.heap.size wx w'))
    (C2 : Hid (∀ wx, Below w.heap.size w wx → Calls Try.prog 70 #[ptr rb, obV k x n a l s, .int .i64 0] wx fun e w' => e = .returned (.tuple #[obV k' x' n' a' l' s', .int .i64 e1]) ∧ Below wx.heap.size wx w')) :
    Calls Try.prog 72 #[ptr rb, obV k x n a l s] w fun e w' => e = .returned (.tuple #[.int .i64 (if e0 = 0 then min (max n' 0) z else 0), .int .i64 e0]) ∧ Below w.heap.size w w' := by
  go_enter Try.func72, Try.ntmps72
  go_upto_region 1 with fail
  obtain ⟨wb, eb, kb, zb, oa⟩ := ob_box w k n a l x s
  rw [eb]
  have KB := Lib.hid kb
  have OB := Lib.hid oa
  clear eb kb zb
  obtain ⟨c0, c1, c2, c3, c4, c5⟩ := oa
  go_wp2_with fail
  refine (C1.out _ KB.out).mono ?_
  rintro e w1 ⟨rfl, k1⟩
  have K1 := Lib.hid (below_and KB.out k1)
  have O1 := OB.out.later k1
  clear k1 c0 c1 c2 c3 c4 c5
  obtain ⟨c0, c1, c2, c3, c4, c5⟩ := O1
  by_cases he : e0 = 0
  · subst he
    go_wp2_with fail
    refine (C2.out _ K1.out).mono ?_
    rintro e w2 ⟨rfl, k2⟩
    have K2 := Lib.hid (below_and K1.out k2)
    clear k2 c0 c1 c2 c3 c4 c5
    go_upto_region 5 with fail
    obtain ⟨w3, e3, k3, z3, o3⟩ := ob_box w2 k' n' a' l' x' s'
    rw [e3]
    have K3 := Lib.hid (below_and K2.out k3)
    clear e3 k3 z3
    obtain ⟨c0, c1, c2, c3, c4, c5⟩ := o3
    go_wp2
    all_goals
      go_ret2
      refine ⟨?_, K3.out⟩
      simp
      try omega
  · have he1 := bne_iff_ne.2 he
    go_wp2
    go_ret2
    exact ⟨by simp [he], K1.out⟩
/-- What Len answers. -/
def dlN (P : List Cel) (d : Ob) : Int := if drE P d = 0 then min (max (getO P d 0).n 0) (drN P d) else 0
theorem rlenD_tot {own : Nat → Prop} {rb : Nat} {v : Value} {R : List RC} {w : World} (h : RH own rb v R w) (d : Ob) : Calls Try.prog 72 #[ptr rb, d.val] w fun e w' => e = .returned (.tuple #[.int .i64 (dlN (cels R) d), .int .i64 (drE (cels R) d)]) ∧ Below w.heap.size w w' := by
  rw [dlN]
  exact rlen_walk rb d.k d.n d.a d.l (drN (cels R) d) (drE (cels R) d) (getE (cels R) d 0) d.x d.s (getO (cels R) d 0).k (getO (cels R) d 0).n (getO (cels R) d 0).a (getO (cels R) d 0).l (getO (cels R) d 0).x (getO (cels R) d 0).s w (Lib.hid fun wx kx => rroomD_tot (h.below kx) d) (Lib.hid fun wx kx => rget_tot (h.below kx) d 0)
end Go.Proofs.Ytlkbnldpecolbaa

/- Walks of dict: the cell of a dictionary as a value; end, plain, set, count. -/
namespace Go.Proofs.Ytlkbnldpecolbaa
open Go.RowKit
set_option linter.unusedVariables false

/-- A dict.cell as a value, and in a block. -/
abbrev dcV (hb : Nat) (k : Int) (x : Bool) (n a l : Int) (s : ByteArray) (p r : Int) : Value := .agg #[ptr hb, .int .i64 k, .bool x, .int .i64 n, .int .i64 a, .int .i64 l, .string s, .int .i64 p, .int .i64 r]
abbrev dcObj (hb : Nat) (k : Int) (x : Bool) (n a l : Int) (s : ByteArray) (p r : Int) : Obj := .cells #[ptr hb, .int .i64 k, .bool x, .int .i64 n, .int .i64 a, .int .i64 l, .string s, .int .i64 p, .int .i64 r] 86 (0, 0)
def DcAt (w : World) (b hb : Nat) (k : Int) (x : Bool) (n a l : Int) (s : ByteArray) (p r : Int) : Prop :=
  w.cell? ⟨b, 0, none⟩ = some (ptr hb) ∧ w.cell? ⟨b, 1, none⟩ = some (.int .i64 k) ∧ w.cell? ⟨b, 2, none⟩ = some (.bool x) ∧ w.cell? ⟨b, 3, none⟩ = some (.int .i64 n) ∧ w.cell? ⟨b, 4, none⟩ = some (.int .i64 a) ∧ w.cell? ⟨b, 5, none⟩ = some (.int .i64 l) ∧ w.cell? ⟨b, 6, none⟩ = some (.string s) ∧ w.cell? ⟨b, 7, none⟩ = some (.int .i64 p) ∧ w.cell? ⟨b, 8, none⟩ = some (.int .i64 r)
theorem DcAt.later {w wx : World} {b hb : Nat} {k : Int} {x : Bool} {n a l : Int} {s : ByteArray} {p r : Int} (h : DcAt w b hb k x n a l s p r) (kc : Below w.heap.size w wx) : DcAt wx b hb k x n a l s p r := by
  obtain ⟨c0, c1, c2, c3, c4, c5, c6, c7, c8⟩ := h
  exact ⟨cell_later kc c0, cell_later kc c1, cell_later kc c2, cell_later kc c3, cell_later kc c4, cell_later kc c5, cell_later kc c6, cell_later kc c7, cell_later kc c8⟩
theorem dc_cells {w : World} {b hb : Nat} {k : Int} {x : Bool} {n a l : Int} {s : ByteArray} {p r : Int} (h : w.heap[b]? = some (dcObj hb k x n a l s p r)) : DcAt w b hb k x n a l s p r :=
  ⟨cellAt h 0, cellAt h 1, cellAt h 2, cellAt h 3, cellAt h 4, cellAt h 5, cellAt h 6, cellAt h 7, cellAt h 8⟩
theorem dc_box (w : World) (hb : Nat) (k : Int) (x : Bool) (n a l : Int) (s : ByteArray) (p r : Int) : ∃ wb, w.alloc (.cells #[ptr hb, .int .i64 k, .bool x, .int .i64 n, .int .i64 a, .int .i64 l, .string s, .int .i64 p, .int .i64 r] 86) = wb ∧ Below w.heap.size w wb ∧ wb.heap.size = w.heap.size + 1 ∧ wb.heap[w.heap.size]? = some (dcObj hb k x n a l s p r) :=
  ⟨_, rfl, box_below _ _, by simp, heap_alloc_new _ _⟩

/-- A boxed object, and a zero object behind it. -/
theorem ob_zero (w : World) (k n a l : Int) (x : Bool) (s : ByteArray) : ∃ wb, (w.alloc (.cells #[.int .i64 k, .bool x, .int .i64 n, .int .i64 a, .int .i64 l, .string s] 30)).alloc (.cells #[.int .i64 0, .bool false, .int .i64 0, .int .i64 0, .int .i64 0, .string ⟨#[]⟩] 30) = wb ∧ Below w.heap.size w wb ∧ wb.heap.size = w.heap.size + 2 ∧ wb.heap[w.heap.size]? = some (obObj k x n a l s) ∧ wb.heap[w.heap.size + 1]? = some emptyOb := by
  refine ⟨_, rfl, below_and (box_below _ _) (box_below _ _), by simp, ?_, ?_⟩
  · rw [Below.heap_alloc _ _ _ (by simp)]
    exact heap_alloc_new _ _
  · have := heap_alloc_new (w.alloc (.cells #[.int .i64 k, .bool x, .int .i64 n, .int .i64 a, .int .i64 l, .string s] 30)) emptyOb
    simpa using this
theorem end_any (hb : Nat) (k n a l r : Int) (x : Bool) (s : ByteArray) (p : Nat) (hp : p ≤ 1000) (w : World) : Calls Try.prog 60 #[dcV hb k x n a l s p r] w fun e w' => e = .returned (.int .i64 ((2 * p + 1 : Nat) : Int)) ∧ Below w.heap.size w w' := by
  obtain ⟨q, hq⟩ : ∃ q, q = 2 * p := ⟨_, rfl⟩
  have e1 : IntKind.i64.wrap (2 * (p : Int)) = q := by rw [wrapi_in _ (by omega) (by omega)]; omega
  have e2 : IntKind.i64.wrap (1 + (q : Int)) = ((q + 1 : Nat) : Int) := by rw [wrapi_in _ (by omega) (by omega)]; omega
  rw [← hq]
  clear hq hp
  go_enter Try.func60, Try.ntmps60
  go_wp2_with fail
  go_ret
  exact ⟨rfl, box_below _ _⟩

/-- A key as the map of the other kinds holds it. -/
def plainO (o : Ob) : Ob := if numOk o.k o.n then ⟨4, false, numV o.k o.n, 0, 0, ⟨#[]⟩⟩ else o
theorem plain_any (o : Ob) (w : World) : Calls Try.prog 84 #[o.val] w fun e w' => e = .returned (plainO o).val ∧ Below w.heap.size w w' := by
  obtain ⟨k, x, n, a, l, s⟩ := o
  have hn := Lib.hid fun w => numO_any k n a l x s w
  cases hq : numOk k n
  · have hp : Hid (plainO ⟨k, x, n, a, l, s⟩ = ⟨k, x, n, a, l, s⟩) := Lib.hid (by simp [plainO, hq])
    rw [hp.out]
    rw [hq] at hn
    clear hq
    show Calls Try.prog 84 #[obV k x n a l s] w _
    go_enter Try.func84, Try.ntmps84
    go_wp2_with fail
    obtain ⟨wb, eb, kb, zb, oa, ob⟩ := ob_zero w k n a l x s
    rw [eb]
    obtain ⟨a0, a1, a2, a3, a4, a5⟩ := ob_cells oa
    refine (hn.out wb).mono ?_
    rintro e wc ⟨rfl, kc⟩
    have KC := Lib.hid (below_and kb kc)
    have OC : Hid (wc.heap[w.heap.size + 1]? = some emptyOb) := Lib.hid ((kc.block _ (blk_lt ob)).trans ob)
    obtain ⟨o0, o1, o2, o3, o4, o5⟩ := ob_cells ((kc.block _ (blk_lt oa)).trans oa)
    obtain ⟨⟨c0, c1, c2, c3, c4, c5⟩, f0, f1, f2, f3, f4, f5⟩ := cells6 OC.out
    clear eb kb zb oa ob kc a0 a1 a2 a3 a4 a5
    go_wp2
    (try simp only [Exit.inBlock, Exit.then])
    refine bodyPost_ret (results_cell_row rfl _ _ _ _ _ _ _ rfl (set6 OC.out _ _ _ _ _ _) Try.underlying30 rfl (by kernel_rfl)) rfl ⟨rfl, set6_below KC.out (Nat.le_succ _) _ _ _ _ _ _⟩
  · have hp : Hid (plainO ⟨k, x, n, a, l, s⟩ = ⟨4, false, numV k n, 0, 0, ⟨#[]⟩⟩) := Lib.hid (by simp [plainO, hq])
    rw [hp.out]
    rw [hq] at hn
    obtain ⟨v, hv⟩ : ∃ v, v = numV k n := ⟨_, rfl⟩
    rw [← hv] at hn ⊢
    clear hq hp hv
    show Calls Try.prog 84 #[obV k x n a l s] w _
    go_enter Try.func84, Try.ntmps84
    go_wp2_with fail
    obtain ⟨wb, eb, kb, zb, oa, ob⟩ := ob_zero w k n a l x s
    rw [eb]
    obtain ⟨a0, a1, a2, a3, a4, a5⟩ := ob_cells oa
    refine (hn.out wb).mono ?_
    rintro e wc ⟨rfl, kc⟩
    have KC := Lib.hid (below_and kb kc)
    have OC : Hid (wc.heap[w.heap.size + 1]? = some emptyOb) := Lib.hid ((kc.block _ (blk_lt ob)).trans ob)
    obtain ⟨o0, o1, o2, o3, o4, o5⟩ := ob_cells ((kc.block _ (blk_lt oa)).trans oa)
    obtain ⟨⟨c0, c1, c2, c3, c4, c5⟩, f0, f1, f2, f3, f4, f5⟩ := cells6 OC.out
    clear eb kb zb oa ob kc a0 a1 a2 a3 a4 a5
    go_wp2
    (try simp only [Exit.inBlock, Exit.then])
    refine bodyPost_ret (results_cell_row rfl _ _ _ _ _ _ _ rfl (set6 OC.out _ _ _ _ _ _) Try.underlying30 rfl (by kernel_rfl)) rfl ⟨rfl, set6_below KC.out (Nat.le_succ _) _ _ _ _ _ _⟩

/-- set: what Set of the heap does, with no result. -/
theorem dset_any (hb : Nat) (k n a l p r i : Int) (x : Bool) (s : ByteArray) (k' n' a' l' : Int) (x' : Bool) (s' : ByteArray) (w : World) (E : Int) (R : World → World → Prop)
    (hs : Hid (∀ wx, Below w.heap.size w wx → Calls Try.prog 55 #[ptr hb, obV k x n a l s, .int .i64 i, obV k' x' n' a' l' s'] wx fun e w' => e = .returned (.int .i64 E) ∧ R wx w')) :
    Calls Try.prog 86 #[dcV hb k x n a l s p r, .int .i64 i, obV k' x' n' a' l' s'] w fun e w' => e = .returned (.tuple #[]) ∧ ∃ wx, Below w.heap.size w wx ∧ R wx w' := by
  go_enter Try.func86, Try.ntmps86
  go_wp2_with fail
  obtain ⟨wa, ea, ka, za, oa⟩ := dc_box w hb k x n a l s p r
  rw [ea]
  obtain ⟨wb, eb, kb, zb, ob⟩ := ob_box wa k' n' a' l' x' s'
  rw [eb]
  refine (hs.out wb (below_and ka kb)).mono ?_
  rintro e wc ⟨rfl, hR⟩
  have HR := Lib.hid hR
  have HB := Lib.hid (below_and ka kb)
  clear hR ea eb ka kb za zb oa ob
  go_wp2
  go_end0
  exact ⟨rfl, wb, HB.out, HR.out⟩
end Go.Proofs.Ytlkbnldpecolbaa

/- dict: pairs in a cell, how keys are found: plain answers, and what a map of them says. -/
namespace Go.Proofs.Ytlkbnldpecolbaa
open Go.RowKit Go.Maps
set_option linter.unusedVariables false

set_option maxRecDepth 100000 in
theorem laidOut : laidOutB Try.prog = true := by kernel_rfl
theorem law9 : Keyed Try.prog 9 := string_keyed Try.underlying9
theorem wide26 : (match Try.prog.underlying 30 with | some (.array _ _) | some (.struct _) => true | _ => false) = true := by rw [Try.underlying30]
set_option maxRecDepth 100000 in
theorem law26 : Keyed Try.prog 30 := Keyed.of_law (deep_law_laid laidOut (m := 2) (by omega) (of_decide_eq_true (by kernel_rfl)) (by kernel_rfl) wide26)

/-- Ints in their range, a string that can be. -/
structure Ob.Fine (o : Ob) : Prop where
  k : (Lit.int .i64 o.k).wf = true
  n : (Lit.int .i64 o.n).wf = true
  a : (Lit.int .i64 o.a).wf = true
  l : (Lit.int .i64 o.l).wf = true
  s : o.s.size ≤ maxLen
theorem key9 (o : Ob) (h : o.s.size ≤ maxLen) : keyOf Try.prog 9 (.string o.s) = some (.string o.s.data.toList) := WideMaps.keyOf_string_mk Try.underlying9 h
theorem key26 (o : Ob) (h : o.Fine) : ∃ kl, keyOf Try.prog 30 o.val = some kl := by
  have hk : Try.prog.keyType 30 = true := by kernel_rfl
  have hc : Try.prog.cellsOf 30 = 6 := by kernel_rfl
  have h3 : Try.prog.cellsOf 3 = 1 := by kernel_rfl
  have h4 : Try.prog.cellsOf 4 = 1 := by kernel_rfl
  have h9 : Try.prog.cellsOf 9 = 1 := by kernel_rfl
  have e3 : ∀ D v, (Lit.int .i64 v).wf = true → Try.prog.keyLits (D + 1) 3 [.int .i64 v] = some [.int .i64 v] := fun D v hv => by simp [Program.keyLits, Try.underlying3, hv]
  have e4 : ∀ D b, Try.prog.keyLits (D + 1) 4 [.bool b] = some [.bool b] := fun D v => by simp [Program.keyLits, Try.underlying4]
  have e9 : ∀ D (s : ByteArray), s.size ≤ maxLen → Try.prog.keyLits (D + 1) 9 [.string s] = some [.string s.data.toList] := fun D s hs => by simp [Program.keyLits, Try.underlying9, hs]
  obtain ⟨N, hN⟩ : ∃ N, Try.prog.types.size = N + 1 := ⟨169, by kernel_rfl⟩
  unfold keyOf
  rw [Try.underlying30]
  simp only [hk, hN, Value.formed, Ob.val, Try.underlying30, hc]
  unfold Program.keyLits
  simp [Try.underlying30, hc, h3, h4, h9, e3, e4, e9, h.k, h.n, h.a, h.l, h.s, Value.cells]
theorem val_inj {o q : Ob} (h : o.val = q.val) : o = q := by
  obtain ⟨k, x, n, a, l, s⟩ := o
  obtain ⟨k', x', n', a', l', s'⟩ := q
  simp [Ob.val] at h
  obtain ⟨rfl, rfl, rfl, rfl, rfl, rfl⟩ := h
  rfl

open Classical in
/-- The last of the first j keys that reads as kl. -/
noncomputable def ixL (ls : Nat → Option Lit) (kl : Lit) : Nat → Option Nat
  | 0 => none
  | j + 1 => if ls j = some kl then some j else ixL ls kl j
def atI (o : Option Nat) : Int := match o with | some i => 2 * i + 1 | none => 0
/-- A map tells of the first j keys. -/
def MapIs (D : DataW Unit) (j : Nat) (ls : Nat → Option Lit) : Prop := IsMap D ∧ ∀ kl, WideAt.IsKeyLit kl → Maps.has D kl = (ixL ls kl j).isSome ∧ D.atKey kl (.lit (.int .i64 0)) = .lit (.int .i64 (atI (ixL ls kl j)))
theorem MapIs.zero (ls : Nat → Option Lit) : MapIs (.map []) 0 ls := ⟨isMap_empty, fun kl _ => ⟨rfl, rfl⟩⟩
theorem MapIs.skip {D : DataW Unit} {j : Nat} {ls : Nat → Option Lit} (h : MapIs D j ls) (hn : ls j = none) : MapIs D (j + 1) ls :=
  ⟨h.1, fun kl hk => by
    have : ixL ls kl (j + 1) = ixL ls kl j := by simp [ixL, hn]
    rw [this]
    exact h.2 kl hk⟩
theorem MapIs.put {D : DataW Unit} {j : Nat} {ls : Nat → Option Lit} {kl : Lit} (h : MapIs D j ls) (hn : ls j = some kl) (hk : WideAt.IsKeyLit kl) : MapIs (D.put kl (.lit (.int .i64 (2 * j + 1)))) (j + 1) ls :=
  ⟨h.1.put _ _, fun k' hk' => by
    by_cases e : kl = k'
    · subst e
      have : ixL ls kl (j + 1) = some j := by simp [ixL, hn]
      rw [this]
      exact ⟨has_put_same h.1 hk _, atKey_put_same h.1 hk _ _⟩
    · have : ixL ls k' (j + 1) = ixL ls k' j := by simp [ixL, hn, e]
      rw [this]
      have q := h.2 k' hk'
      exact ⟨(has_put_other (Ne.symm e) _).trans q.1, (atKey_put_other (Ne.symm e) _ _).trans q.2⟩⟩

/-- Pairs one behind the other; the items of a dictionary's cell. -/
def flatD (ps : List (Ob × Ob)) : List Ob := ps.flatMap fun p => [p.1, p.2]
def itemsD (ps : List (Ob × Ob)) (room : Nat) : List Ob := Ob.num ps.length :: (flatD ps ++ List.replicate (2 * (room - ps.length)) Ob.null)
theorem flatD_length (ps : List (Ob × Ob)) : (flatD ps).length = 2 * ps.length := by
  induction ps with
  | nil => rfl
  | cons p ps ih =>
    show (p.1 :: p.2 :: flatD ps).length = _
    simp [ih]
    omega
theorem itemsD_length {ps : List (Ob × Ob)} {room : Nat} (h : ps.length ≤ room) : (itemsD ps room).length = 2 * room + 1 := by
  simp [itemsD, flatD_length]
  omega
theorem flatD_get (ps : List (Ob × Ob)) (j : Nat) : (flatD ps)[2 * j]? = ps[j]?.map (·.1) ∧ (flatD ps)[2 * j + 1]? = ps[j]?.map (·.2) := by
  induction ps generalizing j with
  | nil => simp [flatD]
  | cons p ps ih =>
    have e : flatD (p :: ps) = p.1 :: p.2 :: flatD ps := rfl
    cases j with
    | zero => simp [e]
    | succ j =>
      rw [e, show 2 * (j + 1) = 2 * j + 1 + 1 from by omega]
      simpa using ih j
theorem itemsD_key {ps : List (Ob × Ob)} {room j : Nat} {p : Ob × Ob} (h : ps[j]? = some p) : (itemsD ps room)[2 * j + 1]? = some p.1 ∧ (itemsD ps room)[2 * j + 2]? = some p.2 := by
  have hj := (List.getElem?_eq_some_iff.1 h).1
  have q := flatD_get ps j
  rw [h] at q
  unfold itemsD
  rw [List.getElem?_cons_succ, List.getElem?_append_left (by rw [flatD_length]; omega), show 2 * j + 2 = 2 * j + 1 + 1 from rfl, List.getElem?_cons_succ, List.getElem?_append_left (by rw [flatD_length]; omega)]
  simpa using q

/-- A dictionary of the heap P, with its pairs. -/
structure DictC (P : List Cel) (d : Ob) (ps : List (Ob × Ob)) (room : Nat) (lk : Bool) : Prop where
  ok : okO P d = true
  k : d.k = 10
  cell : cellOf P d = ⟨10, lk, itemsD ps room, []⟩
  le : ps.length ≤ room
  most : room ≤ 1000
  fine : ∀ p ∈ ps, p.1.Fine
theorem DictC.zeros {P : List Cel} {d : Ob} {ps : List (Ob × Ob)} {room : Nat} {lk : Bool} (h : DictC P d ps room lk) : d.a = 0 ∧ d.l = 0 := (ok_bd h.ok).2.2.2.2.2.2.2.2 h.k
theorem DictC.len {P : List Cel} {d : Ob} {ps : List (Ob × Ob)} {room : Nat} {lk : Bool} (h : DictC P d ps room lk) : lenO P d = ((2 * room + 1 : Nat) : Int) := by
  rw [lenO, h.ok, h.cell]
  simp [h.k, Cel.size, itemsD_length h.le]
theorem DictC.get {P : List Cel} {d : Ob} {ps : List (Ob × Ob)} {room : Nat} {lk : Bool} (h : DictC P d ps room lk) {i : Nat} {o : Ob} (hi : (itemsD ps room)[i]? = some o) : getE P d i = 0 ∧ getO P d i = o := by
  have hl := (List.getElem?_eq_some_iff.1 hi).1
  rw [itemsD_length h.le] at hl
  have e : getE P d i = 0 := by
    rw [getE, h.ok, h.len]
    simp
    omega
  refine ⟨e, ?_⟩
  rw [getO, e, h.cell, h.zeros.1]
  simp [itemAt, hi]
theorem DictC.size {P : List Cel} {d : Ob} {ps : List (Ob × Ob)} {room : Nat} {lk : Bool} (h : DictC P d ps room lk) : (cellOf P d).size = 2 * room + 1 := by
  rw [h.cell]
  simp [Cel.size, itemsD_length h.le]

def nameLit (ps : List (Ob × Ob)) (j : Nat) : Option Lit := (ps[j]?).bind fun p => if p.1.k = 5 then some (.string p.1.s.data.toList) else none
noncomputable def otherLit (ps : List (Ob × Ob)) (j : Nat) : Option Lit := (ps[j]?).bind fun p => if p.1.k = 5 then none else keyOf Try.prog 30 (plainO p.1).val
/-- Is the key p of a pair the key k that is looked for? -/
def isKey (k p : Ob) : Prop := if k.k = 5 then p.k = 5 ∧ p.s = k.s else p.k ≠ 5 ∧ plainO p = plainO k
instance (k p : Ob) : Decidable (isKey k p) := by unfold isKey; infer_instance
/-- The last of the first j pairs with the key k. -/
def ixD (ps : List (Ob × Ob)) (k : Ob) : Nat → Option Nat
  | 0 => none
  | j + 1 => if ∃ p, ps[j]? = some p ∧ isKey k p.1 then some j else ixD ps k j
theorem plain_fine {o : Ob} (h : o.Fine) : (plainO o).Fine := by
  unfold plainO
  split
  · next hq =>
    refine ⟨rfl, ?_, rfl, rfl, Nat.zero_le _⟩
    show (Lit.int .i64 (numV o.k o.n)).wf = true
    have hb : -2305843009213693952 < numV o.k o.n ∧ numV o.k o.n < 2305843009213693952 := by
      unfold numV gate numOk sizeO at *
      split <;> split <;> simp_all [mayF] <;> omega
    exact WalkArith.wf_i64 (by omega)
  · exact h
theorem ix_names {ps : List (Ob × Ob)} {k : Ob} (hk : k.k = 5) : ∀ j, ixL (nameLit ps) (.string k.s.data.toList) j = ixD ps k j
  | 0 => rfl
  | j + 1 => by
    have : nameLit ps j = some (.string k.s.data.toList) ↔ ∃ p, ps[j]? = some p ∧ isKey k p.1 := by
      unfold nameLit isKey
      cases e : ps[j]? with
      | none => simp
      | some p =>
        simp only [Option.bind_some, hk, if_true]
        constructor
        · intro h
          split at h
          · next h5 =>
            have : p.1.s.data.toList = k.s.data.toList := by simpa using h
            refine ⟨p, rfl, h5, ?_⟩
            have e2 := Array.toList_inj.1 this
            cases hs : p.1.s
            cases hs2 : k.s
            rw [hs, hs2] at e2
            simpa using e2
          · simp at h
        · rintro ⟨q, hq, h5, hs⟩
          have : p = q := by simpa using hq
          subst this
          rw [if_pos h5, hs]
    unfold ixL ixD
    rw [ix_names hk j]
    by_cases h : nameLit ps j = some (.string k.s.data.toList)
    · rw [if_pos h, if_pos (this.1 h)]
    · rw [if_neg h, if_neg (fun q => h (this.2 q))]
theorem ix_others {ps : List (Ob × Ob)} {k : Ob} (hk : k.k ≠ 5) {kl : Lit} (hl : keyOf Try.prog 30 (plainO k).val = some kl) : ∀ j, ixL (otherLit ps) kl j = ixD ps k j
  | 0 => rfl
  | j + 1 => by
    have : otherLit ps j = some kl ↔ ∃ p, ps[j]? = some p ∧ isKey k p.1 := by
      unfold otherLit isKey
      cases e : ps[j]? with
      | none => simp
      | some p =>
        simp only [Option.bind_some, hk, if_false]
        constructor
        · intro h
          split at h
          · simp at h
          · next h5 => exact ⟨p, rfl, h5, val_inj (law26.inj h hl)⟩
        · rintro ⟨q, hq, h5, hs⟩
          have : p = q := by simpa using hq
          subst this
          rw [if_neg h5, hs, hl]
    unfold ixL ixD
    rw [ix_others hk hl j]
    by_cases h : otherLit ps j = some kl
    · rw [if_pos h, if_pos (this.1 h)]
    · rw [if_neg h, if_neg (fun q => h (this.2 q))]
theorem owns_block {k : TypeId} {R : Value → Option (DataW Unit × List MemPlace)} {w w' : World} {b n : Nat} {D : DataW Unit} (h : w.ownsMap Try.prog k R b n D) (e : w'.heap[b]? = w.heap[b]?) : w'.ownsMap Try.prog k R b n D := by
  obtain ⟨es, clock, h1, h2⟩ := h
  exact ⟨es, clock, e.trans h1, h2⟩
end Go.Proofs.Ytlkbnldpecolbaa
