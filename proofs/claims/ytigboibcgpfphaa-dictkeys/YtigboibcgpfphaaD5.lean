/- Walks of dict: find. -/
import Derived.Test.YtigboibcgpfphaaD4
import Derived.Deep.RegionHeldLaw
namespace Go.Proofs.Ytigboibcgpfphaa
open Go.RowKit Go.Maps
set_option linter.unusedVariables false

theorem look_is {w : World} {T t : TypeId} {B n j : Nat} {M : DataW Unit} {ls : Nat → Option Lit} {key : Value} {kl : Lit} (law : Keyed Try.prog T) (ht : Try.prog.underlying t = some (.map T 3)) (hown : w.ownsMap Try.prog T (plainElem Try.prog 3) B n M) (hM : MapIs M j ls) (hkey : keyOf Try.prog T key = some kl) :
    (Instr.lookup t (.map (some B)) key true).run Try.prog w = .ok (.tuple #[.int .i64 (atI (ixL ls kl j)), .bool (ixL ls kl j).isSome]) w := by
  obtain ⟨v, ps, hrun, hv⟩ := hown.look_ok law ht (zero3 w) (plainElem_int Try.underlying3 rfl) hkey
  have q := hM.2 kl (law.key hkey)
  rw [q.2] at hv
  obtain ⟨c, rfl, hz, _⟩ := plainElem_int_inv Try.underlying3 hv
  rw [hrun, q.1]
  have : c = atI (ixL ls kl j) := by
    have := congrArg Prod.fst hz
    simpa using this.symm
  rw [this]

def FindAt (w : World) (A B hb : Nat) (k : Int) (x : Bool) (n a l : Int) (s : ByteArray) (p r : Int) (k' : Int) (x' : Bool) (n' a' l' : Int) (s' : ByteArray) : Prop := DcAt w A hb k x n a l s p r ∧ ObAt w B k' x' n' a' l' s'
theorem FindAt.later {w wx : World} {A B hb : Nat} {k : Int} {x : Bool} {n a l : Int} {s : ByteArray} {p r : Int} {k' : Int} {x' : Bool} {n' a' l' : Int} {s' : ByteArray} (h : FindAt w A B hb k x n a l s p r k' x' n' a' l' s') (kc : Below w.heap.size w wx) : FindAt wx A B hb k x n a l s p r k' x' n' a' l' s' := ⟨h.1.later kc, h.2.later kc⟩
theorem dc_ob (w : World) (hb : Nat) (k n a l p r : Int) (x : Bool) (s : ByteArray) (k' n' a' l' : Int) (x' : Bool) (s' : ByteArray) :
    ∃ wb, (w.alloc (.cells #[ptr hb, .int .i64 k, .bool x, .int .i64 n, .int .i64 a, .int .i64 l, .string s, .int .i64 p, .int .i64 r] 118)).alloc (.cells #[.int .i64 k', .bool x', .int .i64 n', .int .i64 a', .int .i64 l', .string s'] 26) = wb ∧ Below w.heap.size w wb ∧ wb.heap.size = w.heap.size + 2 ∧ FindAt wb w.heap.size (w.heap.size + 1) hb k x n a l s p r k' x' n' a' l' s' := by
  refine ⟨_, rfl, below_and (box_below _ _) (box_below _ _), by simp, (dc_cells (heap_alloc_new _ _)).later (box_below _ _), ?_⟩
  have := heap_alloc_new (w.alloc (.cells #[ptr hb, .int .i64 k, .bool x, .int .i64 n, .int .i64 a, .int .i64 l, .string s, .int .i64 p, .int .i64 r] 118)) (obObj k' x' n' a' l' s')
  exact ob_cells (by simpa using this)

set_option maxHeartbeats 1000000 in
set_option maxRecDepth 100000 in
theorem find_name (hb n : Nat) (k nn a l r v : Int) (y : Bool) (x : Bool) (s : ByteArray) (x' : Bool) (n' a' l' : Int) (s' : ByteArray) (w : World)
    (hm : Hid (∀ wx, Below w.heap.size w wx → Calls Try.prog 92 #[dcV hb k x nn a l s n r] wx fun e w' => ∃ B, e = .returned (.map (some B)) ∧ (Instr.lookup 139 (.map (some B)) (.string s') true).run Try.prog w' = .ok (.tuple #[.int .i64 v, .bool y]) w' ∧ Below wx.heap.size wx w')) :
    Calls Try.prog 77 #[dcV hb k x nn a l s n r, obV 5 x' n' a' l' s'] w fun e w' => e = .returned (.tuple #[.int .i64 v, .bool y]) ∧ Below w.heap.size w w' := by
  go_enter Try.func77, Try.ntmps77
  go_wp2_with fail
  obtain ⟨wb, eb, kb, zb, fb⟩ := dc_ob w hb k nn a l n r x s 5 n' a' l' x' s'
  rw [eb]
  have gb := Lib.hid kb
  have go := Lib.hid fb
  obtain ⟨⟨c0, c1, c2, c3, c4, c5, c6, c7, c8⟩, d0, d1, d2, d3, d4, d5⟩ := fb
  clear eb kb zb
  go_wp2_with fail
  replace gb : Hid (Below w.heap.size w wb.drew) := Lib.hid gb.out.drew
  replace go : Hid (FindAt wb.drew w.heap.size (w.heap.size + 1) hb k x nn a l s n r 5 x' n' a' l' s') := Lib.hid go.out
  go_region_held3 (fun wx => wx.cell? ⟨w.heap.size, 0, none⟩ = some (ptr hb) ∧ wx.cell? ⟨w.heap.size, 1, none⟩ = some (.int .i64 k) ∧ wx.cell? ⟨w.heap.size, 2, none⟩ = some (.bool x) ∧ wx.cell? ⟨w.heap.size, 3, none⟩ = some (.int .i64 nn) ∧ wx.cell? ⟨w.heap.size, 4, none⟩ = some (.int .i64 a) ∧ wx.cell? ⟨w.heap.size, 5, none⟩ = some (.int .i64 l) ∧ wx.cell? ⟨w.heap.size, 6, none⟩ = some (.string s) ∧ wx.cell? ⟨w.heap.size, 7, none⟩ = some (.int .i64 n) ∧ wx.cell? ⟨w.heap.size, 8, none⟩ = some (.int .i64 r) ∧ wx.cell? ⟨w.heap.size + 1, 5, none⟩ = some (.string s'))
    (first | exact ⟨go.out.1.1, go.out.1.2.1, go.out.1.2.2.1, go.out.1.2.2.2.1, go.out.1.2.2.2.2.1, go.out.1.2.2.2.2.2.1, go.out.1.2.2.2.2.2.2.1, go.out.1.2.2.2.2.2.2.2.1, go.out.1.2.2.2.2.2.2.2.2, go.out.2.2.2.2.2.2⟩ | go_keep)
    (first | (go_at_call 92; refine (hm.out _ gb.out).mono ?_; rintro e wc ⟨B, rfl, hlk, kc⟩; replace gb := Lib.hid (below_and gb.out kc); replace go := Lib.hid (go.out.later kc)))
  go_wp2
  go_ret2
  exact ⟨rfl, gb.out⟩

set_option maxHeartbeats 1000000 in
set_option maxRecDepth 100000 in
theorem find_other (hb n : Nat) (k nn a l r v : Int) (y : Bool) (x : Bool) (s : ByteArray) (k' : Int) (x' : Bool) (n' a' l' : Int) (s' : ByteArray) (kq nq aq lq : Int) (xq : Bool) (sq : ByteArray) (w : World) (h5 : (k' == 5) = false)
    (hm : Hid (∀ wx, Below w.heap.size w wx → Calls Try.prog 93 #[dcV hb k x nn a l s n r] wx fun e w' => ∃ B, e = .returned (.map (some B)) ∧ (∀ wy, Below w'.heap.size w' wy → (Instr.lookup 141 (.map (some B)) (obV kq xq nq aq lq sq) true).run Try.prog wy = .ok (.tuple #[.int .i64 v, .bool y]) wy) ∧ Below wx.heap.size wx w'))
    (hp : Hid (∀ wx, Calls Try.prog 94 #[obV k' x' n' a' l' s'] wx fun e w' => e = .returned (obV kq xq nq aq lq sq) ∧ Below wx.heap.size wx w')) :
    Calls Try.prog 77 #[dcV hb k x nn a l s n r, obV k' x' n' a' l' s'] w fun e w' => e = .returned (.tuple #[.int .i64 v, .bool y]) ∧ Below w.heap.size w w' := by
  go_enter Try.func77, Try.ntmps77
  go_wp2_with fail
  obtain ⟨wb, eb, kb, zb, fb⟩ := dc_ob w hb k nn a l n r x s k' n' a' l' x' s'
  rw [eb]
  have gb := Lib.hid kb
  have go := Lib.hid fb
  obtain ⟨⟨c0, c1, c2, c3, c4, c5, c6, c7, c8⟩, d0, d1, d2, d3, d4, d5⟩ := fb
  clear eb kb zb
  go_wp2_with fail
  replace gb : Hid (Below w.heap.size w wb.drew) := Lib.hid gb.out.drew
  replace go : Hid (FindAt wb.drew w.heap.size (w.heap.size + 1) hb k x nn a l s n r k' x' n' a' l' s') := Lib.hid go.out
  go_region_held3 (fun wx => wx.cell? ⟨w.heap.size, 0, none⟩ = some (ptr hb) ∧ wx.cell? ⟨w.heap.size, 1, none⟩ = some (.int .i64 k) ∧ wx.cell? ⟨w.heap.size, 2, none⟩ = some (.bool x) ∧ wx.cell? ⟨w.heap.size, 3, none⟩ = some (.int .i64 nn) ∧ wx.cell? ⟨w.heap.size, 4, none⟩ = some (.int .i64 a) ∧ wx.cell? ⟨w.heap.size, 5, none⟩ = some (.int .i64 l) ∧ wx.cell? ⟨w.heap.size, 6, none⟩ = some (.string s) ∧ wx.cell? ⟨w.heap.size, 7, none⟩ = some (.int .i64 n) ∧ wx.cell? ⟨w.heap.size, 8, none⟩ = some (.int .i64 r) ∧
      wx.cell? ⟨w.heap.size + 1, 0, none⟩ = some (.int .i64 k') ∧ wx.cell? ⟨w.heap.size + 1, 1, none⟩ = some (.bool x') ∧ wx.cell? ⟨w.heap.size + 1, 2, none⟩ = some (.int .i64 n') ∧ wx.cell? ⟨w.heap.size + 1, 3, none⟩ = some (.int .i64 a') ∧ wx.cell? ⟨w.heap.size + 1, 4, none⟩ = some (.int .i64 l') ∧ wx.cell? ⟨w.heap.size + 1, 5, none⟩ = some (.string s'))
    (first | exact ⟨go.out.1.1, go.out.1.2.1, go.out.1.2.2.1, go.out.1.2.2.2.1, go.out.1.2.2.2.2.1, go.out.1.2.2.2.2.2.1, go.out.1.2.2.2.2.2.2.1, go.out.1.2.2.2.2.2.2.2.1, go.out.1.2.2.2.2.2.2.2.2, go.out.2⟩ | go_keep)
    (first | (go_at_call 93; refine (hm.out _ gb.out).mono ?_; rintro e wc ⟨B, rfl, hl, kc⟩; have HL := Lib.hid hl; replace gb := Lib.hid (below_and gb.out kc); replace go := Lib.hid (go.out.later kc); clear hl kc) | (go_at_call 94; refine (hp.out _).mono ?_; rintro e wd ⟨rfl, kd⟩; have hlk := HL.out _ kd; replace gb := Lib.hid (below_and gb.out kd); replace go := Lib.hid (go.out.later kd); clear kd))
  go_wp2
  go_ret2
  exact ⟨rfl, gb.out⟩

section
variable {role : Nat → Nat × Nat} {c hb : Nat} {vc : Value} {ivs : List Value} {pb : Nat → Nat} {rv : Nat → Value} {P : List Cel} {w w' : World} {d : Ob} {ps : List (Ob × Ob)} {room : Nat} {lk : Bool}
/-- Where the key is, and whether it is there. -/
theorem find_is (h : PH role c hb vc ivs pb rv P w) (D : DictC P d ps room lk) (k : Ob) (hk : k.Fine) :
    Calls Try.prog 77 #[dcV hb d.k d.x d.n d.a d.l d.s ps.length room, k.val] w fun e w' => e = .returned (.tuple #[.int .i64 (atI (ixD ps k ps.length)), .bool (ixD ps k ps.length).isSome]) ∧ Below w.heap.size w w' := by
  by_cases h5 : k.k = 5
  · have hv : k.val = obV 5 k.x k.n k.a k.l k.s := by
      rw [← h5]
      rfl
    rw [hv]
    refine find_name hb ps.length d.k d.n d.a d.l room _ _ d.x d.s k.x k.n k.a k.l k.s w (Lib.hid fun wx kx => ?_)
    refine (names_is (h.below kx) D).mono ?_
    rintro e w' ⟨rfl, R⟩
    obtain ⟨M, m1, m2⟩ := R.map
    have := look_is law9 Try.underlying139 m1 m2 (key9 k hk.s)
    rw [ix_names h5] at this
    exact ⟨_, rfl, this, R.below⟩
  · obtain ⟨kl, hkl⟩ := key26 (plainO k) (plain_fine hk)
    refine find_other hb ps.length d.k d.n d.a d.l room _ _ d.x d.s k.k k.x k.n k.a k.l k.s (plainO k).k (plainO k).n (plainO k).a (plainO k).l (plainO k).x (plainO k).s w (by simpa using h5) (Lib.hid fun wx kx => ?_) (Lib.hid fun wx => plain_any k wx)
    refine (others_is (h.below kx) D).mono ?_
    rintro e w' ⟨rfl, R⟩
    obtain ⟨M, m1, m2⟩ := R.map
    refine ⟨_, rfl, fun wy ky => ?_, R.below⟩
    have := look_is law26 Try.underlying141 (owns_block m1 (ky.block _ m1.lt)) m2 hkl
    rw [ix_others h5 hkl] at this
    exact this
end
end Go.Proofs.Ytigboibcgpfphaa
