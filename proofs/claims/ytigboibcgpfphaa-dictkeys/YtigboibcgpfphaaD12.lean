/- Walks of dict: add. -/
import Derived.Test.YtigboibcgpfphaaD11
namespace Go.Proofs.Ytigboibcgpfphaa
open Go.RowKit Go.Maps
set_option linter.unusedVariables false

/-- A heap beside three boxes of ours. -/
structure AddAt (own : Nat → Prop) (hb : Nat) (P : List Cel) (w wx : World) (A hh : Nat) (d k v : Ob) (p r : Int) : Prop where
  sep : Sep (fun b => own b ∨ b = A ∨ b = A + 1 ∨ b = A + 2) hb P wx
  kept : Kept own w wx
  b0 : wx.heap[A]? = some (dcObj hh d.k d.x d.n d.a d.l d.s p r)
  b1 : wx.heap[A + 1]? = some (obObj k.k k.x k.n k.a k.l k.s)
  b2 : wx.heap[A + 2]? = some (obObj v.k v.x v.n v.a v.l v.s)
section
variable {own : Nat → Prop} {hb : Nat} {P P' : List Cel} {w wx wy : World} {A hh : Nat} {d k v : Ob} {p r : Int}
theorem AddAt.below (h : AddAt own hb P w wx A hh d k v p r) (kx : Below wx.heap.size wx wy) : AddAt own hb P w wy A hh d k v p r :=
  ⟨(h.sep.below kx).1, h.kept.trans ((h.sep.below kx).2.sub fun b hb => .inl hb), (kx.block _ (blk_lt h.b0)).trans h.b0, (kx.block _ (blk_lt h.b1)).trans h.b1, (kx.block _ (blk_lt h.b2)).trans h.b2⟩
theorem AddAt.put (h : AddAt own hb P w wx A hh d k v p r) (s : Sep (fun b => own b ∨ b = A ∨ b = A + 1 ∨ b = A + 2) hb P' wy) (kx : Kept (fun b => own b ∨ b = A ∨ b = A + 1 ∨ b = A + 2) wx wy) : AddAt own hb P' w wy A hh d k v p r :=
  ⟨s, h.kept.trans (kx.sub fun b hb => .inl hb), (kx.block _ (.inr (.inl rfl))).trans h.b0, (kx.block _ (.inr (.inr (.inl rfl)))).trans h.b1, (kx.block _ (.inr (.inr (.inr rfl)))).trans h.b2⟩
theorem AddAt.flat1 (h : AddAt own hb P w wx A hh d k v p r) : wx.cell? ⟨A, 0, none⟩ = some (ptr hh) ∧ wx.cell? ⟨A, 1, none⟩ = some (.int .i64 d.k) ∧ wx.cell? ⟨A, 2, none⟩ = some (.bool d.x) ∧ wx.cell? ⟨A, 3, none⟩ = some (.int .i64 d.n) ∧ wx.cell? ⟨A, 4, none⟩ = some (.int .i64 d.a) ∧ wx.cell? ⟨A, 5, none⟩ = some (.int .i64 d.l) ∧ wx.cell? ⟨A, 6, none⟩ = some (.string d.s) ∧ wx.cell? ⟨A, 7, none⟩ = some (.int .i64 p) ∧ wx.cell? ⟨A, 8, none⟩ = some (.int .i64 r) ∧ wx.cell? ⟨A + 1, 0, none⟩ = some (.int .i64 k.k) ∧ wx.cell? ⟨A + 1, 1, none⟩ = some (.bool k.x) ∧ wx.cell? ⟨A + 1, 2, none⟩ = some (.int .i64 k.n) ∧ wx.cell? ⟨A + 1, 3, none⟩ = some (.int .i64 k.a) ∧ wx.cell? ⟨A + 1, 4, none⟩ = some (.int .i64 k.l) ∧ wx.cell? ⟨A + 1, 5, none⟩ = some (.string k.s) :=
  ⟨cellAt h.b0 0, cellAt h.b0 1, cellAt h.b0 2, cellAt h.b0 3, cellAt h.b0 4, cellAt h.b0 5, cellAt h.b0 6, cellAt h.b0 7, cellAt h.b0 8, cellAt h.b1 0, cellAt h.b1 1, cellAt h.b1 2, cellAt h.b1 3, cellAt h.b1 4, cellAt h.b1 5⟩
theorem AddAt.flat2 (h : AddAt own hb P w wx A hh d k v p r) : wx.cell? ⟨A, 0, none⟩ = some (ptr hh) ∧ wx.cell? ⟨A, 1, none⟩ = some (.int .i64 d.k) ∧ wx.cell? ⟨A, 2, none⟩ = some (.bool d.x) ∧ wx.cell? ⟨A, 3, none⟩ = some (.int .i64 d.n) ∧ wx.cell? ⟨A, 4, none⟩ = some (.int .i64 d.a) ∧ wx.cell? ⟨A, 5, none⟩ = some (.int .i64 d.l) ∧ wx.cell? ⟨A, 6, none⟩ = some (.string d.s) ∧ wx.cell? ⟨A, 7, none⟩ = some (.int .i64 p) ∧ wx.cell? ⟨A, 8, none⟩ = some (.int .i64 r) ∧ wx.cell? ⟨A + 2, 0, none⟩ = some (.int .i64 v.k) ∧ wx.cell? ⟨A + 2, 1, none⟩ = some (.bool v.x) ∧ wx.cell? ⟨A + 2, 2, none⟩ = some (.int .i64 v.n) ∧ wx.cell? ⟨A + 2, 3, none⟩ = some (.int .i64 v.a) ∧ wx.cell? ⟨A + 2, 4, none⟩ = some (.int .i64 v.l) ∧ wx.cell? ⟨A + 2, 5, none⟩ = some (.string v.s) :=
  ⟨cellAt h.b0 0, cellAt h.b0 1, cellAt h.b0 2, cellAt h.b0 3, cellAt h.b0 4, cellAt h.b0 5, cellAt h.b0 6, cellAt h.b0 7, cellAt h.b0 8, cellAt h.b2 0, cellAt h.b2 1, cellAt h.b2 2, cellAt h.b2 3, cellAt h.b2 4, cellAt h.b2 5⟩
theorem AddAt.start (h : Sep own hb P w) (hh : Nat) (d k v : Ob) (p r : Int) :
    ∃ wb, (((w.alloc (.cells #[ptr hh, .int .i64 d.k, .bool d.x, .int .i64 d.n, .int .i64 d.a, .int .i64 d.l, .string d.s, .int .i64 p, .int .i64 r] 118)).alloc (.cells #[.int .i64 k.k, .bool k.x, .int .i64 k.n, .int .i64 k.a, .int .i64 k.l, .string k.s] 26)).alloc (.cells #[.int .i64 v.k, .bool v.x, .int .i64 v.n, .int .i64 v.a, .int .i64 v.l, .string v.s] 26)) = wb ∧ AddAt own hb P w wb w.heap.size hh d k v p r := by
  obtain ⟨w1, e1, s1, k1, o1⟩ := h.box_dc hh d.k d.x d.n d.a d.l d.s p r
  have z1 : w1.heap.size = w.heap.size + 1 := by rw [← e1]; simp
  obtain ⟨w2, e2, s2, k2, o2⟩ := s1.box_ob k.k k.x k.n k.a k.l k.s
  have z2 : w2.heap.size = w.heap.size + 2 := by rw [← e2]; simp [z1]
  obtain ⟨w3, e3, s3, k3, o3⟩ := s2.box_ob v.k v.x v.n v.a v.l v.s
  rw [e1, e2, e3]
  rw [z1] at s2 k3 o2 s3
  rw [z2] at o3 s3
  refine ⟨w3, rfl, s3.sub fun b hb => ?_, (k1.trans (k2.sub fun b hb => .inl hb)).trans (k3.sub fun b hb => .inl (.inl hb)), ?_, ?_, o3⟩
  · rcases hb with hb | hb | hb | hb
    · exact .inl (.inl (.inl hb))
    · exact .inl (.inl (.inr hb))
    · exact .inl (.inr hb)
    · exact .inr hb
  · rw [k3.block _ (.inl (.inr rfl)), k2.block _ (.inr rfl)]
    exact o1
  · rw [k3.block _ (.inr rfl)]
    exact o2

set_option maxHeartbeats 1000000 in
set_option maxRecDepth 100000 in
theorem sAdd (h : Sep own hb P w) {its : List Ob} (D : DictR P d its) (r : Int) (n q : Nat) (hq : q = 2 * n + 1) (hn : n ≤ 1000) (hl : q + 1 < its.length) (hk : mayH P k = true) (hv : mayH P v = true) :
    Calls Try.prog 78 #[dcV hb d.k d.x d.n d.a d.l d.s n r, k.val, v.val] w fun e w' => e = .returned (.tuple #[]) ∧ Sep own hb (P.set d.n.toNat ⟨10, false, ((its.set q k).set (q + 1) v).set 0 (Ob.num ((n + 1 : Nat) : Int)), []⟩) w' ∧ Kept own w w' := by
  have e1 : IntKind.i64.wrap ((q : Int) + 1) = ((q + 1 : Nat) : Int) := by rw [wrapi_in _ (by omega) (by omega)]; omega
  have e2 : IntKind.i64.wrap ((n : Int) + 1) = ((n + 1 : Nat) : Int) := by rw [wrapi_in _ (by omega) (by omega)]; omega
  have H := Lib.hid h
  have HD := Lib.hid D
  have D1 := Lib.hid (D.setAll (its' := its.set q k) (by simp))
  have D2 := Lib.hid (D.setAll (its' := (its.set q k).set (q + 1) v) (by simp))
  have M1 := Lib.hid (D.may (its' := its.set q k) (by simp) v)
  have HQ := Lib.hid hq
  have HN := Lib.hid hn
  have HL := Lib.hid hl
  have HK := Lib.hid hk
  have HV := Lib.hid hv
  clear h D hq hn hl hk hv
  show Calls Try.prog 78 #[dcV hb d.k d.x d.n d.a d.l d.s n r, obV k.k k.x k.n k.a k.l k.s, obV v.k v.x v.n v.a v.l v.s] w _
  go_enter Try.func78, Try.ntmps78
  go_upto_region 1 with fail
  obtain ⟨wb, eb, st⟩ := AddAt.start H.out hb d k v n r
  rw [eb]
  have go : Hid (AddAt own hb P w wb.drew w.heap.size hb d k v n r) := Lib.hid (st.below (Below.refl _ wb).drew)
  clear eb st
  go_region_held3 (fun wx => wx.cell? ⟨w.heap.size, 0, none⟩ = some (ptr hb) ∧ wx.cell? ⟨w.heap.size, 1, none⟩ = some (.int .i64 d.k) ∧ wx.cell? ⟨w.heap.size, 2, none⟩ = some (.bool d.x) ∧ wx.cell? ⟨w.heap.size, 3, none⟩ = some (.int .i64 d.n) ∧ wx.cell? ⟨w.heap.size, 4, none⟩ = some (.int .i64 d.a) ∧ wx.cell? ⟨w.heap.size, 5, none⟩ = some (.int .i64 d.l) ∧ wx.cell? ⟨w.heap.size, 6, none⟩ = some (.string d.s) ∧ wx.cell? ⟨w.heap.size, 7, none⟩ = some (.int .i64 n) ∧ wx.cell? ⟨w.heap.size, 8, none⟩ = some (.int .i64 r) ∧
      wx.cell? ⟨w.heap.size + 1, 0, none⟩ = some (.int .i64 k.k) ∧ wx.cell? ⟨w.heap.size + 1, 1, none⟩ = some (.bool k.x) ∧ wx.cell? ⟨w.heap.size + 1, 2, none⟩ = some (.int .i64 k.n) ∧ wx.cell? ⟨w.heap.size + 1, 3, none⟩ = some (.int .i64 k.a) ∧ wx.cell? ⟨w.heap.size + 1, 4, none⟩ = some (.int .i64 k.l) ∧ wx.cell? ⟨w.heap.size + 1, 5, none⟩ = some (.string k.s))
    (first | exact go.out.flat1 | go_keep)
    (first | (go_at_call 83; refine (end_is hb d.k d.n d.a d.l r d.x d.s n q HQ.out HN.out _).mono ?_; rintro e wc ⟨rfl, kc⟩; replace go := Lib.hid (go.out.below kc); clear kc) | (go_at_call 95; refine (sPutItem go.out.sep HD.out n r q k (by have := HL.out; omega) HK.out).mono ?_; rintro e wd ⟨rfl, sd, kd⟩; replace go := Lib.hid (go.out.put sd kd); clear sd kd))
  go_upto_region 2 with fail
  replace go := Lib.hid (go.out.below (Below.refl _ _).drew)
  go_region_held3 (fun wx => wx.cell? ⟨w.heap.size, 0, none⟩ = some (ptr hb) ∧ wx.cell? ⟨w.heap.size, 1, none⟩ = some (.int .i64 d.k) ∧ wx.cell? ⟨w.heap.size, 2, none⟩ = some (.bool d.x) ∧ wx.cell? ⟨w.heap.size, 3, none⟩ = some (.int .i64 d.n) ∧ wx.cell? ⟨w.heap.size, 4, none⟩ = some (.int .i64 d.a) ∧ wx.cell? ⟨w.heap.size, 5, none⟩ = some (.int .i64 d.l) ∧ wx.cell? ⟨w.heap.size, 6, none⟩ = some (.string d.s) ∧ wx.cell? ⟨w.heap.size, 7, none⟩ = some (.int .i64 n) ∧ wx.cell? ⟨w.heap.size, 8, none⟩ = some (.int .i64 r) ∧
      wx.cell? ⟨w.heap.size + 2, 0, none⟩ = some (.int .i64 v.k) ∧ wx.cell? ⟨w.heap.size + 2, 1, none⟩ = some (.bool v.x) ∧ wx.cell? ⟨w.heap.size + 2, 2, none⟩ = some (.int .i64 v.n) ∧ wx.cell? ⟨w.heap.size + 2, 3, none⟩ = some (.int .i64 v.a) ∧ wx.cell? ⟨w.heap.size + 2, 4, none⟩ = some (.int .i64 v.l) ∧ wx.cell? ⟨w.heap.size + 2, 5, none⟩ = some (.string v.s))
    (first | exact go.out.flat2 | go_keep)
    (first | (go_at_call 83; refine (end_is hb d.k d.n d.a d.l r d.x d.s n q HQ.out HN.out _).mono ?_; rintro e wc ⟨rfl, kc⟩; replace go := Lib.hid (go.out.below kc); clear kc) | (go_at_call 95; refine (sPutItem go.out.sep D1.out n r (q + 1) v (by rw [List.length_set]; exact HL.out) (by rw [M1.out]; exact HV.out)).mono ?_; rintro e wd ⟨rfl, sd, kd⟩; replace go := Lib.hid (go.out.put sd kd); clear sd kd))
  go_upto_region 3 with fail
  have st := go.out
  rw [List.set_set] at st
  have ST := Lib.hid st
  obtain ⟨c0, c1, c2, c3, c4, c5, c6, c7, c8, _⟩ := st.flat1
  clear st go
  go_wp2_with fail
  refine (sCount ST.out.sep D2.out n r (n + 1) (by rw [List.length_set, List.length_set]; have := HL.out; omega) (by have := HN.out; omega)).mono ?_
  rintro e wz ⟨rfl, sz, kz⟩
  rw [List.set_set] at sz
  have SZ := Lib.hid (sz.sub fun b hb => Or.inl hb)
  have KZ := Lib.hid (ST.out.kept.trans (kz.sub fun b hb => .inl hb))
  clear sz kz c0 c1 c2 c3 c4 c5 c6 c7 c8
  go_wp2
  go_end0
  exact ⟨rfl, SZ.out, KZ.out⟩
end
end Go.Proofs.Ytigboibcgpfphaa
