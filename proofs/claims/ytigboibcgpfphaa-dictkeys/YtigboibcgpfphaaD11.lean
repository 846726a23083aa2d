/- Walks of dict: isLocked, set, count, add beside blocks that the heap does not touch. -/
import Derived.Test.YtigboibcgpfphaaD10
namespace Go.Proofs.Ytigboibcgpfphaa
open Go.RowKit Go.Maps
set_option linter.unusedVariables false
section
variable {own : Nat → Prop} {hb : Nat} {P P' : List Cel} {w w' : World} {d : Ob} {ps : List (Ob × Ob)} {room : Nat} {lk : Bool}
theorem Sep.box_dc (h : Sep own hb P w) (hh : Nat) (k : Int) (x : Bool) (n a l : Int) (s : ByteArray) (p r : Int) :
    ∃ w', w.alloc (.cells #[ptr hh, .int .i64 k, .bool x, .int .i64 n, .int .i64 a, .int .i64 l, .string s, .int .i64 p, .int .i64 r] 118) = w' ∧ Sep (fun b => own b ∨ b = w.heap.size) hb P w' ∧ Kept own w w' ∧ w'.heap[w.heap.size]? = some (dcObj hh k x n a l s p r) :=
  ⟨_, rfl, h.box _, (h.below (box_below _ _)).2, heap_alloc_new _ _⟩

set_option maxRecDepth 100000 in
theorem locked_walk (hb : Nat) (k n a l p r E : Int) (x b : Bool) (s : ByteArray) (kc nc ac lc : Int) (xc : Bool) (sc : ByteArray) (w : World) (R : World → World → Prop) (hE : Hid ((E != 0) = b))
    (hg : Hid (∀ wx, Below w.heap.size w wx → Calls Try.prog 50 #[ptr hb, obV k x n a l s, .int .i64 0] wx fun e w' => e = .returned (.tuple #[obV kc xc nc ac lc sc, .int .i64 0]) ∧ Below wx.heap.size wx w'))
    (hs : Hid (∀ wx, Below w.heap.size w wx → Calls Try.prog 19 #[ptr hb, obV k x n a l s, .int .i64 0, obV kc xc nc ac lc sc] wx fun e w' => e = .returned (.int .i64 E) ∧ R wx w')) :
    Calls Try.prog 76 #[dcV hb k x n a l s p r] w fun e w' => e = .returned (.bool b) ∧ ∃ wx, Below w.heap.size w wx ∧ R wx w' := by
  go_enter Try.func76, Try.ntmps76
  go_wp2_with fail
  obtain ⟨wa, ea, ka, za, oa⟩ := dc_box w hb k x n a l s p r
  rw [ea]
  refine (hg.out wa ka).mono ?_
  rintro e w1 ⟨rfl, k1⟩
  have K1 := Lib.hid (below_and ka k1)
  have O1 := Lib.hid ((k1.block _ (blk_lt oa)).trans oa)
  clear ea ka za oa k1
  go_upto_region 2 with fail
  obtain ⟨w2, e2, k2, z2, o2⟩ := ob_box w1 kc nc ac lc xc sc
  rw [e2]
  have K2 := Lib.hid (below_and K1.out k2)
  obtain ⟨d0, d1, d2, d3, d4, d5, d6, d7, d8⟩ := dc_cells ((k2.block _ (blk_lt O1.out)).trans O1.out)
  obtain ⟨o0, o1, o2, o3, o4, o5⟩ := o2
  clear e2 k2 z2
  go_wp2_with fail
  refine (hs.out w2 K2.out).mono ?_
  rintro e w3 ⟨rfl, hR⟩
  have HR := Lib.hid hR
  clear hR d0 d1 d2 d3 d4 d5 d6 d7 d8 o0 o1 o2 o3 o4 o5
  have hb' := hE.out
  clear hE
  go_wp2
  go_ret
  exact ⟨rfl, w2, K2.out, HR.out⟩
theorem sLocked (h : Sep own hb P w) (D : DictC P d ps room lk) (p r : Int) : Calls Try.prog 76 #[dcV hb d.k d.x d.n d.a d.l d.s p r] w fun e w' => e = .returned (.bool lk) ∧ Sep own hb P w' ∧ Kept own w w' := by
  obtain ⟨role, ⟨vc, ivs, pb, rv, h1⟩, h2⟩ := h
  refine (locked_walk hb d.k d.n d.a d.l p r (if lk then 1 else 0) d.x lk d.s 3 ps.length 0 0 false ⟨#[]⟩ w (fun wx w' => PH role 1 hb vc ivs pb rv P w' ∧ Keep role 1 wx role w') (Lib.hid (by cases lk <;> rfl)) (Lib.hid fun wx kx => ?_) (Lib.hid fun wx kx => ?_)).mono ?_
  · exact dget_is (h1.below kx) D (i := 0) (o := Ob.num ps.length) rfl
  · have := set_is (h1.below kx) d 0 (Ob.num ps.length)
    rw [D.same.1, D.same.2] at this
    exact this
  · rintro e w' ⟨rfl, wx, kx, q1, q2⟩
    exact ⟨rfl, Sep.of_keep h2 ⟨vc, ivs, pb, rv, q1⟩ ((Keep.of_below 1 kx).trans q2)⟩

/-- A call that sets one item. -/
theorem sPutItem (h : Sep own hb P w) {its : List Ob} (D : DictR P d its) (p r : Int) (i : Nat) (o : Ob) (hi : i < its.length) (hx : mayH P o = true) :
    Calls Try.prog 95 #[dcV hb d.k d.x d.n d.a d.l d.s p r, .int .i64 i, o.val] w fun e w' => e = .returned (.tuple #[]) ∧ Sep own hb (P.set d.n.toNat ⟨10, false, its.set i o, []⟩) w' ∧ Kept own w w' := by
  obtain ⟨role, ⟨vc, ivs, pb, rv, h1⟩, h2⟩ := h
  refine (dset_any hb d.k d.n d.a d.l p r i d.x d.s o.k o.n o.a o.l o.x o.s w 0 (fun wx w' => PH role 1 hb vc ivs pb rv (P.set d.n.toNat ⟨10, false, its.set i o, []⟩) w' ∧ Keep role 1 wx role w') (Lib.hid fun wx kx => ?_)).mono ?_
  · have := set_is (h1.below kx) d i o
    rw [(D.put hi hx).1, (D.put hi hx).2] at this
    exact this
  · rintro e w' ⟨rfl, wx, kx, q1, q2⟩
    exact ⟨rfl, Sep.of_keep h2 ⟨vc, ivs, pb, rv, q1⟩ ((Keep.of_below 1 kx).trans q2)⟩

set_option maxRecDepth 100000 in
theorem sCount (h : Sep own hb P w) {its : List Ob} (D : DictR P d its) (p r : Int) (q : Nat) (hi : 0 < its.length) (hq : q ≤ 2147483647) :
    Calls Try.prog 96 #[dcV hb d.k d.x d.n d.a d.l d.s p r, .int .i64 q] w fun e w' => e = .returned (.tuple #[]) ∧ Sep own hb (P.set d.n.toNat ⟨10, false, its.set 0 (Ob.num q), []⟩) w' ∧ Kept own w w' := by
  have H := Lib.hid h
  have HD := Lib.hid D
  have HI := Lib.hid hi
  have HQ := Lib.hid hq
  clear h D hi hq
  obtain ⟨k, x, n, a, l, s⟩ := d
  go_enter Try.func96, Try.ntmps96
  go_wp2_with fail
  obtain ⟨wa, ea, sa, ka, oa⟩ := H.out.box_dc hb k x n a l s p r
  rw [ea]
  refine (sPutItem sa HD.out p r 0 (Ob.num q) HI.out (may_num P q HQ.out)).mono ?_
  rintro e w1 ⟨rfl, s1, k1⟩
  have S1 := Lib.hid (s1.sub fun b hb => Or.inl hb)
  have K1 := Lib.hid (ka.trans (k1.sub fun b hb => Or.inl hb))
  clear ea sa ka oa s1 k1
  go_wp2
  go_end0
  exact ⟨rfl, S1.out, K1.out⟩
end
end Go.Proofs.Ytigboibcgpfphaa
