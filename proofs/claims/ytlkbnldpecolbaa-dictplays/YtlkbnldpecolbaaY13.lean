/- Y13: Q4, Q5, S1, S2. -/
import Derived.Test.YtlkbnldpecolbaaY12
import Derived.Deep.MidRow
import Derived.StillTailTactics
import Derived.Deep.RegionHeld3
/- tympanref11: May; the place of an object. -/
namespace Go.Proofs.Ytlkbnldpecolbaa
open Go.RowKit
set_option linter.unusedVariables false
section
variable {own : Nat → Prop} {rb : Nat} {v : Value} {R : List RC} {w : World}
theorem may_piece {o : Ob} (h : o.may = true) (hc : comp o.k = true) : 0 ≤ o.n ∧ 0 ≤ o.a ∧ o.a ≤ 40000 ∧ 0 ≤ o.l ∧ o.l ≤ 40000 := by
  rw [comp_iff] at hc
  unfold Ob.may mayO at h
  rcases hc with hc | hc | hc <;> simp [hc, pieceP, onlyP] at h ⊢ <;> omega
theorem rmayH_any (h : RH own rb v R w) (o : Ob) : Calls Try.prog 65 #[ptr rb, o.val] w fun e w' => e = .returned (.bool (mayH (cels R) o)) ∧ Below w.heap.size w w' := by
  have q1 := Lib.hid (fun wx => rmayO_any o.k o.n o.a o.l o.x o.s wx)
  have q2 := Lib.hid (fun wx => rcomp_any o.k o.n o.a o.l o.x o.s wx)
  cases hm : o.may
  · rw [show mayO o.k o.n o.a o.l o.s = false from hm] at q1
    rw [show mayH (cels R) o = false from by simp [mayH, hm]]
    exact rmayH_no rb o.k o.n o.a o.l o.x o.s w q1
  rw [show mayO o.k o.n o.a o.l o.s = true from hm] at q1
  cases hc : comp o.k
  · rw [show compP o.k = false from hc] at q2
    rw [show mayH (cels R) o = true from by simp [mayH, hm, hc]]
    exact rmayH_plain rb o.k o.n o.a o.l o.x o.s w q1 q2
  rw [show compP o.k = true from hc] at q2
  have hp := may_piece hm hc
  have h0 := h.hcell
  by_cases hn : o.n < R.length
  · obtain ⟨r, hr⟩ : ∃ r, R[o.n.toNat]? = some r := ⟨_, List.getElem?_eq_getElem (by omega)⟩
    obtain ⟨g, cap, ev, _, _, _, d0, d1, d2, d3⟩ := h.at hr
    rw [ev] at h0
    obtain ⟨p, q, c, d, e1, e2, hz⟩ := h.size hr
    have en : ((o.n.toNat : Nat) : Int) = o.n := by omega
    have hv : o.val = obV o.k o.x (o.n.toNat : Nat) o.a o.l o.s := by rw [en]; rfl
    rw [hv]
    rw [← en] at q1 q2
    have hin : inCell (cels R) o = ((r.c.k == o.k) && decide (o.a + o.l ≤ (r.c.size : Int))) := by
      rw [inCell, h.cellOf hr, cels_length]
      simp [hn]
      by_cases e : r.c.k = o.k <;> simp [e]
    rw [show mayH (cels R) o = ((r.c.k == o.k) && decide (o.a + o.l ≤ (r.c.size : Int))) from by simp [mayH, hm, hc, hin]]
    cases hk : r.c.k == o.k
    · exact rmayH_kind rb g R.length cap o.n.toNat r.c.k r.it r.bs r.c.lk o.k o.a o.l o.x o.s w (by omega) h0 d0 d1 d2 d3 q1 q2 hk
    · refine rmayH_cell rb g R.length cap o.n.toNat r.c.k r.it r.bs r.c.lk o.k o.a o.l o.x o.s w (by omega) h0 d0 d1 d2 d3 q1 q2 hk r.c.size _ (IntWalk.i64_in _ (by omega)) (by rw [Bool.true_and]) (Lib.hid fun wx => ?_)
      rw [e1, e2]
      refine rcsize_any r.c.k p q r.c.it.length c r.c.bs.length d r.c.size r.c.lk wx ?_
      unfold Cel.size at hz ⊢
      rw [IntWalk.i64_in _ (by omega)]
      omega
  · obtain ⟨p, cap, ev, _⟩ := h.row.form
    rw [ev] at h0
    rw [show mayH (cels R) o = false from by simp [mayH, hm, hc, inCell, cels_length]; omega]
    exact rmayH_far rb R.length cap p o.k o.n o.a o.l o.x o.s w hn h0 q1 q2
end
end Go.Proofs.Ytlkbnldpecolbaa

/- Walks of tympanref11: room, Size, Used. -/
namespace Go.Proofs.Ytlkbnldpecolbaa
open Go.RowKit
set_option linter.unusedVariables false
set_option maxHeartbeats 1000000
set_option maxRecDepth 100000

theorem room_type (rb : Nat) (k n a l : Int) (x : Bool) (s : ByteArray) (w : World)
    (h2 : Hid (∀ wx, Calls Try.prog 93 #[obV k x n a l s] wx fun e w' => e = .returned (.bool false) ∧ Below wx.heap.size wx w')) :
    Calls Try.prog 94 #[ptr rb, obV k x n a l s] w fun e w' => e = .returned (.tuple #[.int .i64 0, .int .i64 0, .int .i64 6]) ∧ Below w.heap.size w w' := by
  go_enter Try.func94, Try.ntmps94
  go_upto_region 1 with fail
  obtain ⟨wb, eb, kb, zb, c0, c1, c2, c3, c4, c5⟩ := ob_box w k n a l x s
  rw [eb]
  go_wp2_with fail
  refine (h2.out _).mono ?_
  rintro e wc ⟨rfl, kc⟩
  have KC := Lib.hid (below_and kb kc)
  clear eb kb kc c0 c1 c2 c3 c4 c5
  go_wp2
  go_ret3
  exact ⟨rfl, KC.out⟩
theorem room_arg (rb : Nat) (k n a l : Int) (x : Bool) (s : ByteArray) (w : World)
    (h2 : Hid (∀ wx, Calls Try.prog 93 #[obV k x n a l s] wx fun e w' => e = .returned (.bool true) ∧ Below wx.heap.size wx w'))
    (h1 : Hid (∀ wx, Below w.heap.size w wx → Calls Try.prog 65 #[ptr rb, obV k x n a l s] wx fun e w' => e = .returned (.bool false) ∧ Below wx.heap.size wx w')) :
    Calls Try.prog 94 #[ptr rb, obV k x n a l s] w fun e w' => e = .returned (.tuple #[.int .i64 0, .int .i64 0, .int .i64 1]) ∧ Below w.heap.size w w' := by
  go_enter Try.func94, Try.ntmps94
  go_upto_region 1 with fail
  obtain ⟨wb, eb, kb, zb, oa⟩ := ob_box w k n a l x s
  rw [eb]
  have OA := Lib.hid oa
  obtain ⟨c0, c1, c2, c3, c4, c5⟩ := oa
  go_wp2_with fail
  refine (h2.out _).mono ?_
  rintro e wc ⟨rfl, kc⟩
  have KC := Lib.hid (below_and kb kc)
  have OC := OA.out.later kc
  clear eb kb kc c0 c1 c2 c3 c4 c5
  obtain ⟨c0, c1, c2, c3, c4, c5⟩ := OC
  go_wp2_with fail
  refine (h1.out _ KC.out).mono ?_
  rintro e wd ⟨rfl, kd⟩
  have KD := Lib.hid (below_and KC.out kd)
  clear kd c0 c1 c2 c3 c4 c5
  go_wp2
  go_ret3
  exact ⟨rfl, KD.out⟩
theorem room_plain (rb : Nat) (k n a l : Int) (x : Bool) (s : ByteArray) (w : World) (hk : (k == 10) = false)
    (h2 : Hid (∀ wx, Calls Try.prog 93 #[obV k x n a l s] wx fun e w' => e = .returned (.bool true) ∧ Below wx.heap.size wx w'))
    (h1 : Hid (∀ wx, Below w.heap.size w wx → Calls Try.prog 65 #[ptr rb, obV k x n a l s] wx fun e w' => e = .returned (.bool true) ∧ Below wx.heap.size wx w')) :
    Calls Try.prog 94 #[ptr rb, obV k x n a l s] w fun e w' => e = .returned (.tuple #[.int .i64 a, .int .i64 l, .int .i64 0]) ∧ Below w.heap.size w w' := by
  go_enter Try.func94, Try.ntmps94
  go_upto_region 1 with fail
  obtain ⟨wb, eb, kb, zb, oa⟩ := ob_box w k n a l x s
  rw [eb]
  have OA := Lib.hid oa
  obtain ⟨c0, c1, c2, c3, c4, c5⟩ := oa
  go_wp2_with fail
  refine (h2.out _).mono ?_
  rintro e wc ⟨rfl, kc⟩
  have KC := Lib.hid (below_and kb kc)
  have OC := Lib.hid (OA.out.later kc)
  clear eb kb kc c0 c1 c2 c3 c4 c5
  obtain ⟨c0, c1, c2, c3, c4, c5⟩ := OC.out
  go_wp2_with fail
  refine (h1.out _ KC.out).mono ?_
  rintro e wd ⟨rfl, kd⟩
  have KD := Lib.hid (below_and KC.out kd)
  have OD := OC.out.later kd
  clear kd c0 c1 c2 c3 c4 c5
  obtain ⟨c0, c1, c2, c3, c4, c5⟩ := OD
  go_wp2_with fail
  go_quiet (fail)
  go_wp2
  go_ret3
  exact ⟨rfl, below_and KD.out (below_drewN _ _)⟩
theorem room_dict (rb g z cap i m c : Nat) (p : Option Addr) (a l : Int) (x : Bool) (s : ByteArray) (w : World) (hi : i < z) (h0 : w.cell? ⟨rb, 0, none⟩ = some (.slice (some ⟨g, 0, none⟩) z cap)) (d1 : w.cell? ⟨g, i * 4 + 1, none⟩ = some (.slice p m c))
    (h2 : Hid (∀ wx, Calls Try.prog 93 #[obV 10 x i a l s] wx fun e w' => e = .returned (.bool true) ∧ Below wx.heap.size wx w'))
    (h1 : Hid (∀ wx, Below w.heap.size w wx → Calls Try.prog 65 #[ptr rb, obV 10 x i a l s] wx fun e w' => e = .returned (.bool true) ∧ Below wx.heap.size wx w')) :
    Calls Try.prog 94 #[ptr rb, obV 10 x i a l s] w fun e w' => e = .returned (.tuple #[.int .i64 0, .int .i64 m, .int .i64 0]) ∧ Below w.heap.size w w' := by
  have t0 : (0 : Int) ≤ i := by omega
  have t1 : (i : Int) < z := by omega
  have DD : Hid (w.cell? ⟨rb, 0, none⟩ = some (.slice (some ⟨g, 0, none⟩) z cap) ∧ w.cell? ⟨g, i * 4 + 1, none⟩ = some (.slice p m c)) := Lib.hid ⟨h0, d1⟩
  clear h0 d1
  go_enter Try.func94, Try.ntmps94
  go_upto_region 1 with fail
  obtain ⟨wb, eb, kb, zb, oa⟩ := ob_box w 10 i a l x s
  rw [eb]
  have OA := Lib.hid oa
  obtain ⟨c0, c1, c2, c3, c4, c5⟩ := oa
  go_wp2_with fail
  refine (h2.out _).mono ?_
  rintro e wc ⟨rfl, kc⟩
  have KC := Lib.hid (below_and kb kc)
  have OC := Lib.hid (OA.out.later kc)
  clear eb kb kc c0 c1 c2 c3 c4 c5
  obtain ⟨c0, c1, c2, c3, c4, c5⟩ := OC.out
  go_wp2_with fail
  refine (h1.out _ KC.out).mono ?_
  rintro e wd ⟨rfl, kd⟩
  have KD := Lib.hid (below_and KC.out kd)
  have OD := OC.out.later kd
  have h0 := cell_later KD.out DD.out.1
  have d1 := cell_later KD.out DD.out.2
  clear kd c0 c1 c2 c3 c4 c5
  obtain ⟨c0, c1, c2, c3, c4, c5⟩ := OD
  go_wp2_with fail
  go_quiet (fail)
  go_wp2
  go_ret3
  exact ⟨rfl, below_and KD.out (below_drewN _ _)⟩
section
variable {own : Nat → Prop} {rb : Nat} {v : Value} {R : List RC} {w : World}
theorem rroom_any (h : RH own rb v R w) (o : Ob) : Calls Try.prog 94 #[ptr rb, o.val] w fun e w' => e = .returned (.tuple #[.int .i64 (atO (cels R) o), .int .i64 (lenO (cels R) o), .int .i64 (errO (cels R) o)]) ∧ Below w.heap.size w w' := by
  have q2 := Lib.hid (fun wx => rcomp_any o.k o.n o.a o.l o.x o.s wx)
  have q1 : Hid (∀ wx, Below w.heap.size w wx → Calls Try.prog 65 #[ptr rb, o.val] wx fun e w' => e = .returned (.bool (mayH (cels R) o)) ∧ Below wx.heap.size wx w') := Lib.hid fun wx kx => rmayH_any (h.below kx) o
  cases hc : comp o.k
  · rw [show compP o.k = false from hc] at q2
    rw [show atO (cels R) o = 0 from by simp [atO, okO, hc], show lenO (cels R) o = 0 from by simp [lenO, okO, hc], show errO (cels R) o = 6 from by simp [errO, hc]]
    exact room_type rb o.k o.n o.a o.l o.x o.s w q2
  rw [show compP o.k = true from hc] at q2
  have hmo : mayH (cels R) o = okO (cels R) o := by simp [mayH, okO, hc]
  rw [hmo] at q1
  cases ho : okO (cels R) o
  · rw [ho] at q1
    rw [show atO (cels R) o = 0 from by simp [atO, ho], show lenO (cels R) o = 0 from by simp [lenO, ho], show errO (cels R) o = 1 from by simp [errO, hc, ho]]
    exact room_arg rb o.k o.n o.a o.l o.x o.s w q2 q1
  rw [ho] at q1
  obtain ⟨b0, b1, b2, b3, b4, b5, b6, b7, b8⟩ := ok_bd ho
  rw [errO_ok ho, show atO (cels R) o = o.a from by simp [atO, ho]]
  by_cases hk : o.k = 10
  · rw [cels_length] at b1
    obtain ⟨r, hr⟩ : ∃ r, R[o.n.toNat]? = some r := ⟨_, List.getElem?_eq_getElem (by omega)⟩
    obtain ⟨g, cap, ev, _, _, _, d0, d1, d2, d3⟩ := h.at hr
    have h0 := h.hcell
    rw [ev] at h0
    obtain ⟨p, q, c, d, e1, e2, hz⟩ := h.size hr
    rw [e1] at d1
    have en : ((o.n.toNat : Nat) : Int) = o.n := by omega
    have hv : o.val = obV 10 o.x (o.n.toNat : Nat) o.a o.l o.s := by rw [en, ← hk]; rfl
    rw [hv] at q1 ⊢
    rw [hk, ← en] at q2
    rw [h.cellOf hr, hk] at b6
    have hbs : r.c.bs = [] := by
      rcases h.wf.kind r.c (cell_mem (cels_get hr)) with ⟨q, _⟩ | ⟨_, q⟩
      · omega
      · exact q
    rw [(b8 hk).1, show lenO (cels R) o = (r.c.it.length : Int) from by simp [lenO, ho, hk, h.cellOf hr, Cel.size, hbs]]
    have := room_dict rb g R.length cap o.n.toNat r.c.it.length c p o.a o.l o.x o.s w (by omega) h0 d1 q2 q1
    rw [(b8 hk).1] at this
    exact this
  · rw [show lenO (cels R) o = o.l from by simp [lenO, ho, hk]]
    exact room_plain rb o.k o.n o.a o.l o.x o.s w (by simpa using hk) q2 q1
end
/-- The sizes of the first j cells. -/
def usedTo (R : List RC) (j : Nat) : Nat := usedP ((cels R).take j)
theorem usedTo_all (R : List RC) : usedTo R R.length = usedP (cels R) := by
  rw [usedTo, List.take_of_length_le (by rw [cels_length]; exact Nat.le_refl _)]
theorem usedTo_succ {R : List RC} {j : Nat} {r : RC} (h : R[j]? = some r) : usedTo R (j + 1) = usedTo R j + r.c.size := by
  unfold usedTo usedP
  rw [List.take_add_one, cels_get h]
  simp
theorem usedTo_le (R : List RC) (j : Nat) : usedTo R j ≤ usedP (cels R) := by
  have : usedP (cels R) = usedP ((cels R).take j) + usedP ((cels R).drop j) := by
    unfold usedP
    rw [← List.sum_append, ← List.map_append, List.take_append_drop]
  unfold usedTo
  omega
theorem rused_any {own : Nat → Prop} {rb : Nat} {v : Value} {R : List RC} {w : World} (h : RH own rb v R w) : Calls Try.prog 38 #[ptr rb] w fun e w' => e = .returned (.int .i64 (usedP (cels R))) ∧ Below w.heap.size w w' := by
  have H := Lib.hid h
  have HL : Hid (R.length ≤ 2000) := Lib.hid (by have := h.wf.len; rw [cels_length] at this; exact this)
  obtain ⟨p, cap, rfl, _⟩ := h.row.form
  clear h
  go_enter Try.func38, Try.ntmps38
  go_wp2
  go_loopw [3, 4] (fun n i wr => ∃ j : Nat, j ≤ R.length ∧ i = .int .i64 j ∧ n = .int .i64 (usedTo R j) ∧ Below w.heap.size w wr) (fun _ i _ => R.length - (intOf i).toNat)
  case atStart => exact ⟨0, Nat.zero_le _, rfl, rfl, Below.refl _ _⟩
  case round =>
    obtain ⟨j, hj, rfl, rfl, hb⟩ := hrel
    have HB := Lib.hid hb
    have h0 := (H.out.below hb).hcell
    clear hb
    by_cases hlt : j < R.length
    · obtain ⟨r, hr⟩ : ∃ r, R[j]? = some r := ⟨_, List.getElem?_eq_getElem hlt⟩
      obtain ⟨g, cap', ev, _, _, _, d0, d1, d2, d3⟩ := (H.out.below HB.out).at hr
      obtain ⟨rfl, rfl⟩ : p = some ⟨g, 0, none⟩ ∧ cap = cap' := by simpa using ev
      obtain ⟨p1, p2, c1, c2, e1, e2, hz⟩ := H.out.size hr
      have HR := Lib.hid hr
      have HT := Lib.hid hlt
      have t1 : (j : Int) < R.length := by omega
      have t0 : (0 : Int) ≤ j := by omega
      have hu := usedTo_succ hr
      have hu2 := usedTo_le R (j + 1)
      have hu3 := H.out.wf.used
      have e3 : IntKind.i64.wrap ((usedTo R j : Int) + (r.c.size : Int)) = ((usedTo R (j + 1) : Nat) : Int) := by rw [IntWalk.i64_in _ (by omega)]; omega
      have E3 := Lib.hid e3
      have hsz : IntKind.i64.wrap ((r.c.it.length : Int) + (r.c.bs.length : Int)) = (r.c.size : Nat) := by unfold Cel.size at hz ⊢; rw [IntWalk.i64_in _ (by omega)]; omega
      have HC := Lib.hid (fun wx => rcsize_any r.c.k p1 p2 r.c.it.length c1 r.c.bs.length c2 r.c.size r.c.lk wx hsz)
      rw [e1] at d1
      rw [e2] at d2
      clear hr hlt ev hu hu2 hu3 e3 hsz hz e1 e2
      go_wp2_with fail
      refine (HC.out _).mono ?_
      rintro e wb ⟨rfl, kb⟩
      have KB := Lib.hid (below_and HB.out kb)
      have e3 := E3.out
      clear kb h0 d0 d1 d2 d3
      go_wp2
      go_roundw
      case rel => exact ⟨j + 1, HT.out, congrArg (Value.int .i64) (wrap64_step j HL.out HT.out), by first | rfl | exact congrArg (Value.int .i64) E3.out, KB.out⟩
      case measure => exact measure_up R.length j _ (wrap64_step j HL.out HT.out) HT.out
    · have e : j = R.length := by omega
      subst e
      have t1 : ¬ ((R.length : Int) < R.length) := by omega
      rw [usedTo_all]
      go_wp2
      go_ret
      exact ⟨rfl, HB.out⟩
end Go.Proofs.Ytlkbnldpecolbaa

/- How the saves of layer 13 lie in memory, beside a heap and its copies. -/
namespace Go.Proofs.Ytlkbnldpecolbaa
open Go.RowKit
set_option linter.unusedVariables false

/-- An open save: its number, the block of its copy, the copy's cells. -/
structure Sv where
  n : Nat
  g : Nat
  q : List Cel
def svOb (n : Nat) : Ob := ⟨11, false, n, 0, 0, ⟨#[]⟩⟩
abbrev svC (n : Int) (g : Nat) : List Value := [.int .i64 11, .bool false, .int .i64 n, .int .i64 0, .int .i64 0, .string ⟨#[]⟩, ptr g]
def svG (L : List Sv) : List (Nat × List Cel) := L.map fun s => (s.g, s.q)
structure SAt (w : World) (sb : Nat) (L : List Sv) (last : Nat) : Prop where
  len : L.length ≤ 10
  there : w.there sb 0 72
  ents : ∀ (i : Nat) (s : Sv), L[i]? = some s → w.rangeAt sb (i * 7) (svC s.n s.g)
  count : w.cell? ⟨sb, 70, none⟩ = some (.int .i64 L.length)
  last : w.cell? ⟨sb, 71, none⟩ = some (.int .i64 last)
  lt : sb < w.heap.size
section
variable {own : Nat → Prop} {hb sb last : Nat} {P P' : List Cel} {L : List Sv} {w w' : World}
theorem SAt.same (h : SAt w sb L last) (k : w'.heap[sb]? = w.heap[sb]?) (hs : w.heap.size ≤ w'.heap.size) : SAt w' sb L last := by
  have c : ∀ j, w'.cell? ⟨sb, j, none⟩ = w.cell? ⟨sb, j, none⟩ := fun j => World.cell?_of_block (w := w) k
  have f : ∀ j, w'.frozen? ⟨sb, j, none⟩ = w.frozen? ⟨sb, j, none⟩ := fun j => World.frozen?_of_block (w := w) k
  refine ⟨h.len, fun j hj => ?_, fun i s hi j v hv => ?_, ?_, ?_, Nat.lt_of_lt_of_le h.lt hs⟩
  · rw [c, f]
    exact h.there j hj
  · rw [c]
    exact h.ents i s hi j v hv
  · rw [c]
    exact h.count
  · rw [c]
    exact h.last
theorem SAt.drew (h : SAt w sb L last) : SAt w.drew sb L last := h.same rfl (Nat.le_refl _)
/-- The heap, the copies of its open saves, the saves; the blocks 'own' are none of theirs. -/
structure SH (own : Nat → Prop) (hb : Nat) (P : List Cel) (sb : Nat) (L : List Sv) (last : Nat) (w : World) : Prop where
  many : Many (fun b => own b ∨ b = sb) hb P (svG L) w
  sat : SAt w sb L last
  nown : ¬ own sb
theorem SH.sub {own' : Nat → Prop} (h : SH own hb P sb L last w) (k : ∀ b, own' b → own b) : SH own' hb P sb L last w :=
  ⟨h.many.sub fun b q => q.imp (k b) id, h.sat, fun q => h.nown (k _ q)⟩
theorem SH.below (h : SH own hb P sb L last w) (k : Below w.heap.size w w') : SH own hb P sb L last w' ∧ Kept own w w' := by
  obtain ⟨m, q⟩ := h.many.below k
  exact ⟨⟨m, h.sat.same (k.block _ h.sat.lt) k.size, h.nown⟩, q.sub fun b => .inl⟩
theorem SH.box (h : SH own hb P sb L last w) (o : Obj) : SH (fun b => own b ∨ b = w.heap.size) hb P sb L last (w.alloc o) := by
  refine ⟨(h.many.box o).sub fun b q => ?_, h.sat.same ((box_below w o).block _ h.sat.lt) (box_below w o).size, fun q => ?_⟩
  · rcases q with (q | q) | q
    · exact .inl (.inl q)
    · exact .inr q
    · exact .inl (.inr q)
  · rcases q with q | q
    · exact h.nown q
    · have := h.sat.lt
      omega
theorem SH.box_ob (h : SH own hb P sb L last w) (k : Int) (x : Bool) (n a l : Int) (s : ByteArray) :
    ∃ w', w.alloc (.cells #[.int .i64 k, .bool x, .int .i64 n, .int .i64 a, .int .i64 l, .string s] 30) = w' ∧ SH (fun b => own b ∨ b = w.heap.size) hb P sb L last w' ∧ Kept own w w' ∧ w'.heap[w.heap.size]? = some (obObj k x n a l s) :=
  ⟨_, rfl, h.box _, (h.below (box_below _ _)).2, heap_alloc_new _ _⟩
/-- Whatever is said of the heap by Sep and Kept holds beside its saves. -/
theorem SH.lift (h : SH own hb P sb L last w) : ∃ own' : Nat → Prop, Sep own' hb P w ∧ (∀ b, own b → own' b) ∧ ∀ P' w', Sep own' hb P' w' → Kept own' w w' → SH own hb P' sb L last w' := by
  obtain ⟨own', s, ho, hl⟩ := h.many.lift
  exact ⟨own', s, fun b q => ho b (.inl q), fun P' w' s' k => ⟨hl P' w' s' k, h.sat.same (k.block _ (ho _ (.inr rfl))) k.size, h.nown⟩⟩
theorem SH.lt (h : SH own hb P sb L last w) {b : Nat} (q : own b) : b < w.heap.size := by
  obtain ⟨role, _, _, h3⟩ := h.many
  exact (h3 b (.inl q)).1

theorem svG_get {i : Nat} {s : Sv} (h : L[i]? = some s) : (svG L)[i]? = some (s.g, s.q) := by simp [svG, h]
theorem svG_append (s : Sv) : svG (L ++ [s]) = svG L ++ [(s.g, s.q)] := by simp [svG]
theorem svG_take (n : Nat) : svG (L.take n) = (svG L).take n := by simp [svG, List.map_take]

/-- Which open save an object is. -/
def atS (L : List Sv) (o : Ob) : Option Nat := L.findIdx? fun s => sameO 11 s.n 0 0 ⟨#[]⟩ o.k o.n o.a o.l o.s
theorem same_sv (n : Nat) (o : Ob) : sameO 11 n 0 0 ⟨#[]⟩ o.k o.n o.a o.l o.s = decide (o.k = 11 ∧ o.n = n ∧ o.a = 0 ∧ o.l = 0 ∧ o.s = ⟨#[]⟩) := by
  have : numO 11 n 0 0 ⟨#[]⟩ = false := by simp [numO]
  unfold sameO
  rw [this]
  simp only [Bool.false_eq_true, false_and, if_false]
  apply decide_eq_decide.2
  constructor <;> (rintro ⟨h1, h2, h3, h4, h5⟩; exact ⟨h1.symm, h2.symm, h3.symm, h4.symm, h5.symm⟩)
end
theorem only_cells (b : Nat) : ∀ (vs : List Value) (o : Nat) (w : World), Only b w (w.setCells b o vs)
  | [], _, w => Only.refl b w
  | v :: vs, o, w => by
    have q := only_cells b vs (o + 1) (w.setCell ⟨b, o, none⟩ v)
    have r := (Only.refl b w).set o v
    exact ⟨q.os.trans r.os, q.tape.trans r.tape, q.output.trans r.output, q.size.trans r.size, fun k hk => (q.block k hk).trans (r.block k hk)⟩
theorem Only.trans {b : Nat} {w0 w1 w2 : World} (r : Only b w0 w1) (q : Only b w1 w2) : Only b w0 w2 := ⟨q.os.trans r.os, q.tape.trans r.tape, q.output.trans r.output, q.size.trans r.size, fun k hk => (q.block k hk).trans (r.block k hk)⟩
theorem Many.only {own : Nat → Prop} {hb A : Nat} {P : List Cel} {gs : List (Nat × List Cel)} {w w' : World} (h : Many own hb P gs w) (hA : own A) (k : Only A w w') : Many own hb P gs w' := by
  obtain ⟨role, h1, h2, h3⟩ := h
  refine ⟨role, h1.only k (by rw [(h3 A hA).2]; decide), fun i g hg => (h2 i g hg).only k (by rw [(h3 A hA).2]; simp), fun b hb => ⟨by rw [k.size]; exact (h3 b hb).1, (h3 b hb).2⟩⟩
theorem kept_only {own : Nat → Prop} {A : Nat} {w w' : World} (k : Only A w w') (hA : ¬ own A) : Kept own w w' :=
  ⟨k.os, k.tape, k.output, by rw [k.size]; exact Nat.le_refl _, fun b hb => k.block b fun e => hA (e ▸ hb)⟩
section
variable {sb last : Nat} {L : List Sv} {w : World}
theorem SAt.put70 (h : SAt w sb L last) (M : List Sv) (hM : M.length ≤ 10) (he : ∀ i s, M[i]? = some s → w.rangeAt sb (i * 7) (svC s.n s.g)) : SAt (w.setCell ⟨sb, 70, none⟩ (.int .i64 M.length)) sb M last := by
  have on : Only sb w (w.setCell ⟨sb, 70, none⟩ (.int .i64 M.length)) := (Only.refl sb w).set 70 _
  refine ⟨hM, World.there_setCells h.there sb 70 [_], fun i s hi => ?_, World.cell?_setCell_same _ _ _ h.count, ?_, by rw [on.size]; exact h.lt⟩
  · have hl := (List.getElem?_eq_some_iff.1 hi).1
    exact World.rangeAt_setCells_apart (he i s hi) sb 70 [.int .i64 M.length] (.inr (.inl (by show i * 7 + 7 ≤ 70; omega)))
  · rw [World.cell?_setCell_other _ _ _ _ (by simp)]
    exact h.last
theorem SAt.put71 (h : SAt w sb L last) (m : Nat) : SAt (w.setCell ⟨sb, 71, none⟩ (.int .i64 m)) sb L m := by
  have on : Only sb w (w.setCell ⟨sb, 71, none⟩ (.int .i64 m)) := (Only.refl sb w).set 71 _
  refine ⟨h.len, World.there_setCells h.there sb 71 [_], fun i s hi => ?_, ?_, World.cell?_setCell_same _ _ _ h.last, by rw [on.size]; exact h.lt⟩
  · have hl := (List.getElem?_eq_some_iff.1 hi).1
    have := h.len
    exact World.rangeAt_setCells_apart (h.ents i s hi) sb 71 [.int .i64 m] (.inr (.inl (by show i * 7 + 7 ≤ 71; omega)))
  · rw [World.cell?_setCell_other _ _ _ _ (by simp)]
    exact h.count
/-- Other cells of the entries from the a-th on. -/
theorem SAt.putE (h : SAt w sb L last) (a : Nat) (vs : List Value) (hv : a * 7 + vs.length ≤ 70) :
    (w.setCells sb (a * 7) vs).there sb 0 72 ∧ (∀ i s, i < a → L[i]? = some s → (w.setCells sb (a * 7) vs).rangeAt sb (i * 7) (svC s.n s.g)) ∧ (w.setCells sb (a * 7) vs).cell? ⟨sb, 70, none⟩ = some (.int .i64 L.length) ∧ (w.setCells sb (a * 7) vs).cell? ⟨sb, 71, none⟩ = some (.int .i64 last) ∧ sb < (w.setCells sb (a * 7) vs).heap.size := by
  refine ⟨World.there_setCells h.there sb _ _, fun i s hi hs => World.rangeAt_setCells_apart (h.ents i s hs) sb _ _ (.inr (.inl (by show i * 7 + 7 ≤ a * 7; omega))), ?_, ?_, by rw [(only_cells sb vs (a * 7) w).size]; exact h.lt⟩
  · rw [World.cell?_setCells_out sb vs _ w _ (fun _ _ => .inr (by show a * 7 + vs.length ≤ 70; omega))]
    exact h.count
  · rw [World.cell?_setCells_out sb vs _ w _ (fun _ _ => .inr (by show a * 7 + vs.length ≤ 71; omega))]
    exact h.last
theorem SAt.push (h : SAt w sb L last) (hl : L.length < 10) (n g : Nat) (q : List Cel) : SAt ((w.setCells sb (L.length * 7) (svC n g)).setCell ⟨sb, 70, none⟩ (.int .i64 ((L.length + 1 : Nat) : Int))) sb (L ++ [⟨n, g, q⟩]) last := by
  obtain ⟨h1, h2, h3, h4, h5⟩ := h.putE L.length (svC n g) (by show L.length * 7 + 7 ≤ 70; omega)
  have hM : (L ++ [(⟨n, g, q⟩ : Sv)]).length = L.length + 1 := by simp
  have := SAt.put70 (L := L) ⟨h.len, h1, fun i s hs => h2 i s (List.getElem?_eq_some_iff.1 hs).1 hs, h3, h4, h5⟩ (L ++ [⟨n, g, q⟩]) (by omega) (fun i s hs => ?_)
  · rw [hM] at this
    exact this
  · rw [List.getElem?_append] at hs
    split at hs
    · next hi => exact h2 i s hi hs
    · next hi =>
      have hi' : i = L.length := by
        have := (List.getElem?_eq_some_iff.1 hs).1
        simp at this
        omega
      subst hi'
      obtain rfl : (⟨n, g, q⟩ : Sv) = s := by simpa using hs
      exact World.rangeAt_setCells_same w sb _ _ fun j hj => by
        have := h.there (L.length * 7 + j) (by simp at hj; omega)
        simpa using this
theorem SAt.cut (h : SAt w sb L last) (a : Nat) (ha : a ≤ L.length) (vs : List Value) (hv : a * 7 + vs.length ≤ 70) : SAt ((w.setCells sb (a * 7) vs).setCell ⟨sb, 70, none⟩ (.int .i64 a)) sb (L.take a) last := by
  obtain ⟨h1, h2, h3, h4, h5⟩ := h.putE a vs hv
  have hM : (L.take a).length = a := by rw [List.length_take]; omega
  have h' : SAt ((w.setCells sb (a * 7) vs).setCell ⟨sb, 70, none⟩ (.int .i64 (L.take a).length)) sb (L.take a) last := by
    have on : Only sb (w.setCells sb (a * 7) vs) ((w.setCells sb (a * 7) vs).setCell ⟨sb, 70, none⟩ (.int .i64 (L.take a).length)) := (Only.refl sb _).set 70 _
    refine ⟨by have := h.len; omega, World.there_setCells h1 sb 70 [_], fun i s hi => ?_, World.cell?_setCell_same _ _ _ h3, ?_, by rw [on.size]; exact h5⟩
    · have hl := (List.getElem?_eq_some_iff.1 hi).1
      rw [List.getElem?_take_of_lt (by omega)] at hi
      exact World.rangeAt_setCells_apart (h2 i s (by omega) hi) sb 70 [.int .i64 (L.take a).length] (.inr (.inl (by show i * 7 + 7 ≤ 70; have := h.len; omega)))
    · rw [World.cell?_setCell_other _ _ _ _ (by simp)]
      exact h4
  rw [hM] at h'
  exact h'
end
end Go.Proofs.Ytlkbnldpecolbaa

/- Walks of save: New, Len, find. -/
namespace Go.Proofs.Ytlkbnldpecolbaa
open Go.RowKit
set_option linter.unusedVariables false

section
variable {L : List Sv} {o : Ob}
theorem atS_none (h : ∀ (i : Nat) (s : Sv), L[i]? = some s → sameO 11 s.n 0 0 ⟨#[]⟩ o.k o.n o.a o.l o.s = false) : atS L o = none := by
  rw [atS, List.findIdx?_eq_none_iff]
  intro s hs
  obtain ⟨i, hi⟩ := List.mem_iff_getElem?.1 hs
  exact h i s hi
theorem atS_some {j : Nat} {s : Sv} (hj : L[j]? = some s) (hs : sameO 11 s.n 0 0 ⟨#[]⟩ o.k o.n o.a o.l o.s = true) (h : ∀ (i : Nat) (s : Sv), i < j → L[i]? = some s → sameO 11 s.n 0 0 ⟨#[]⟩ o.k o.n o.a o.l o.s = false) : atS L o = some j := by
  rw [atS, List.findIdx?_eq_some_iff_getElem]
  obtain ⟨hl, he⟩ := List.getElem?_eq_some_iff.1 hj
  refine ⟨hl, by rw [he]; exact hs, fun i hi => ?_⟩
  rw [h i L[i] hi (List.getElem?_eq_getElem (by omega))]
  decide
theorem atS_lt {j : Nat} (h : atS L o = some j) : j < L.length := by
  rw [atS, List.findIdx?_eq_some_iff_getElem] at h
  exact h.1
end

structure FindSt (L : List Sv) (sb last A : Nat) (o : Ob) (w wr : World) (j : Nat) : Prop where
  le : j ≤ L.length
  no : ∀ (i : Nat) (s : Sv), i < j → L[i]? = some s → sameO 11 s.n 0 0 ⟨#[]⟩ o.k o.n o.a o.l o.s = false
  sat : SAt wr sb L last
  ob : ObAt wr A o.k o.x o.n o.a o.l o.s
  below : Below w.heap.size w wr

theorem ent_cells {w : World} {sb last : Nat} {L : List Sv} (h : SAt w sb L last) {i : Nat} {s : Sv} (hi : L[i]? = some s) :
    w.cell? ⟨sb, i * 7, none⟩ = some (.int .i64 11) ∧ w.cell? ⟨sb, i * 7 + 1, none⟩ = some (.bool false) ∧ w.cell? ⟨sb, i * 7 + 2, none⟩ = some (.int .i64 s.n) ∧ w.cell? ⟨sb, i * 7 + 3, none⟩ = some (.int .i64 0) ∧ w.cell? ⟨sb, i * 7 + 4, none⟩ = some (.int .i64 0) ∧ w.cell? ⟨sb, i * 7 + 5, none⟩ = some (.string ⟨#[]⟩) ∧ w.cell? ⟨sb, i * 7 + 6, none⟩ = some (ptr s.g) :=
  ⟨h.ents i s hi 0 _ rfl, h.ents i s hi 1 _ rfl, h.ents i s hi 2 _ rfl, h.ents i s hi 3 _ rfl, h.ents i s hi 4 _ rfl, h.ents i s hi 5 _ rfl, h.ents i s hi 6 _ rfl⟩

end Go.Proofs.Ytlkbnldpecolbaa
