/- Y26: D18, P1, P2, E4. -/
import Derived.Test.YtlkbnldpecolbaaY25
import Derived.Test.YtlkbnldpecolbaaY23
/- Walks of dict: Drop. -/
namespace Go.Proofs.Ytlkbnldpecolbaa
open Go.RowKit Go.Maps
set_option linter.unusedVariables false

/-- A heap beside boxes of ours: q, and the dictionary's cell. -/
structure DropAt (own : Nat → Prop) (hb : Nat) (P : List Cel) (w wx : World) (A C : Nat) (q : Ob) (dc : Obj) : Prop where
  sep : Sep (fun b => own b ∨ b = A ∨ b = A + 1 ∨ b = C) hb P wx
  kept : Kept own w wx
  b1 : wx.heap[A + 1]? = some (obObj q.k q.x q.n q.a q.l q.s)
  b3 : wx.heap[C]? = some dc
structure Box2 (own : Nat → Prop) (hb : Nat) (P : List Cel) (w wx : World) (A : Nat) (d k : Ob) : Prop where
  sep : Sep (fun b => own b ∨ b = A ∨ b = A + 1) hb P wx
  kept : Kept own w wx
  b0 : wx.heap[A]? = some (obObj d.k d.x d.n d.a d.l d.s)
  b1 : wx.heap[A + 1]? = some (obObj k.k k.x k.n k.a k.l k.s)
section
variable {own : Nat → Prop} {hb : Nat} {P P' : List Cel} {w wx wy : World} {A C hh : Nat} {d q k v : Ob} {dc : Obj}
theorem DropAt.below (h : DropAt own hb P w wx A C q dc) (kx : Below wx.heap.size wx wy) : DropAt own hb P w wy A C q dc :=
  ⟨(h.sep.below kx).1, h.kept.trans ((h.sep.below kx).2.sub fun b hb => .inl hb), (kx.block _ (blk_lt h.b1)).trans h.b1, (kx.block _ (blk_lt h.b3)).trans h.b3⟩
theorem DropAt.put (h : DropAt own hb P w wx A C q dc) (s : Sep (fun b => own b ∨ b = A ∨ b = A + 1 ∨ b = C) hb P' wy) (kx : Kept (fun b => own b ∨ b = A ∨ b = A + 1 ∨ b = C) wx wy) : DropAt own hb P' w wy A C q dc :=
  ⟨s, h.kept.trans (kx.sub fun b hb => .inl hb), (kx.block _ (.inr (.inr (.inl rfl)))).trans h.b1, (kx.block _ (.inr (.inr (.inr rfl)))).trans h.b3⟩
theorem Box2.below (h : Box2 own hb P w wx A d k) (kx : Below wx.heap.size wx wy) : Box2 own hb P w wy A d k :=
  ⟨(h.sep.below kx).1, h.kept.trans ((h.sep.below kx).2.sub fun b hb => .inl hb), (kx.block _ (blk_lt h.b0)).trans h.b0, (kx.block _ (blk_lt h.b1)).trans h.b1⟩
theorem Box2.start (h : Sep own hb P w) (d k : Ob) :
    ∃ wb, ((w.alloc (.cells #[.int .i64 d.k, .bool d.x, .int .i64 d.n, .int .i64 d.a, .int .i64 d.l, .string d.s] 30)).alloc (.cells #[.int .i64 k.k, .bool k.x, .int .i64 k.n, .int .i64 k.a, .int .i64 k.l, .string k.s] 30)) = wb ∧ Box2 own hb P w wb w.heap.size d k := by
  obtain ⟨w1, e1, s1, k1, o1⟩ := h.box_ob d.k d.x d.n d.a d.l d.s
  have z1 : w1.heap.size = w.heap.size + 1 := by rw [← e1]; simp
  obtain ⟨w2, e2, s2, k2, o2⟩ := s1.box_ob k.k k.x k.n k.a k.l k.s
  rw [e1, e2]
  rw [z1] at s2 o2
  refine ⟨w2, rfl, s2.sub fun b hb => ?_, k1.trans (k2.sub fun b hb => .inl hb), ?_, o2⟩
  · rcases hb with hb | hb | hb
    · exact .inl (.inl hb)
    · exact .inl (.inr hb)
    · exact .inr hb
  · rw [k2.block _ (.inr rfl)]
    exact o1
theorem Box2.opened (h : Box2 own hb P w wx A d k) (hA : ∀ b, own b → b < A) (cs : Array Value) (q : Ob) : DropAt own hb P w (put6 (wx.alloc (.cells cs 86)) (A + 1) (.int .i64 q.k) (.bool q.x) (.int .i64 q.n) (.int .i64 q.a) (.int .i64 q.l) (.string q.s)) A wx.heap.size q (.cells cs 86 (0, 0)) := by
  have hx := h.sep.box (.cells cs 86)
  have on : Only (A + 1) (wx.alloc (.cells cs 86)) (put6 (wx.alloc (.cells cs 86)) (A + 1) (.int .i64 q.k) (.bool q.x) (.int .i64 q.n) (.int .i64 q.a) (.int .i64 q.l) (.string q.s)) := only6 _ _ _ _ _ _ _ _
  have kb := box_below wx (.cells cs 86)
  have l1 := blk_lt h.b1
  refine ⟨(hx.only (.inl (.inr (.inr rfl))) on).sub fun b hb => ?_, (h.kept.trans ((h.sep.below kb).2.sub fun b hb => .inl hb)).only (own' := own) on (fun e => by have := hA _ e; omega), ?_, ?_⟩
  · rcases hb with hb | hb | hb | hb
    · exact .inl (.inl hb)
    · exact .inl (.inr (.inl hb))
    · exact .inl (.inr (.inr hb))
    · exact .inr hb
  · exact set6 ((kb.block _ l1).trans h.b1) _ _ _ _ _ _
  · rw [on.block _ (by omega)]
    exact heap_alloc_new _ _
end
section
variable {own : Nat → Prop} {hb : Nat} {P : List Cel} {w : World} {d k : Ob} {ps : List (Ob × Ob)} {room : Nat} {lk : Bool}
set_option maxHeartbeats 1000000 in
set_option maxRecDepth 100000 in
theorem drop_fail (h : Sep own hb P w) (D : DictC P d ps room lk) (E : Int) (hk : keyE P k = E) (hE : E ≠ 0) :
    Calls Try.prog 21 #[ptr hb, d.val, k.val] w fun e w' => e = .returned (.int .i64 E) ∧ Sep own hb P w' ∧ Kept own w w' := by
  show Calls Try.prog 21 #[ptr hb, obV d.k d.x d.n d.a d.l d.s, obV k.k k.x k.n k.a k.l k.s] w _
  have H := Lib.hid h
  have HD := Lib.hid D
  have HA := Lib.hid h.lt
  have HK := Lib.hid hk
  have HE := Lib.hid hE
  have HE' : Hid ((E != 0) = true) := Lib.hid (by simpa using hE)
  clear h D hk hE
  go_enter Try.func21, Try.ntmps21
  go_upto_region 1 with fail
  obtain ⟨wb, eb, st⟩ := Box2.start H.out d k
  rw [eb]
  have ST := Lib.hid st
  obtain ⟨o0, o1, o2, o3, o4, o5⟩ := ob_cells st.b0
  obtain ⟨p0, p1, p2, p3, p4, p5⟩ := ob_cells st.b1
  clear eb st
  go_wp2_with fail
  have hop : Calls Try.prog 51 #[ptr hb, d.val, k.val] wb fun e w' => e = .returned (.tuple #[zeroDcV, zeroOb, .int .i64 E]) ∧ Below wb.heap.size wb w' := by
    obtain ⟨role, ⟨vc, ivs, pb, rv, h1⟩, h2⟩ := ST.out.sep
    have := openFor_no h1 HD.out k (by rw [HK.out]; exact HE.out)
    rw [HK.out] at this
    exact this
  refine hop.mono ?_
  rintro e w1 ⟨rfl, k1⟩
  have S1 := Lib.hid (ST.out.below k1)
  clear hop k1 o0 o1 o2 o3 o4 o5 p0 p1 p2 p3 p4 p5
  obtain ⟨⟨p0, p1, p2, p3, p4, p5⟩, f0, f1, f2, f3, f4, f5⟩ := later6 S1.out.b1
  go_upto_region 2 with fail
  obtain ⟨w3, e3⟩ : ∃ w3, put6 (w1.alloc (.cells #[.pointer none, .int .i64 0, .bool false, .int .i64 0, .int .i64 0, .int .i64 0, .string ⟨#[]⟩, .int .i64 0, .int .i64 0] 86)) (w.heap.size + 1) (.int .i64 0) (.bool false) (.int .i64 0) (.int .i64 0) (.int .i64 0) (.string ⟨#[]⟩) = w3 := ⟨_, rfl⟩
  have go : DropAt own hb P w (put6 (w1.alloc (.cells #[.pointer none, .int .i64 0, .bool false, .int .i64 0, .int .i64 0, .int .i64 0, .string ⟨#[]⟩, .int .i64 0, .int .i64 0] 86)) (w.heap.size + 1) (.int .i64 0) (.bool false) (.int .i64 0) (.int .i64 0) (.int .i64 0) (.string ⟨#[]⟩)) w.heap.size w1.heap.size Ob.zero _ := S1.out.opened HA.out #[.pointer none, .int .i64 0, .bool false, .int .i64 0, .int .i64 0, .int .i64 0, .string ⟨#[]⟩, .int .i64 0, .int .i64 0] Ob.zero
  rw [e3] at go
  unfold put6 at e3
  rw [e3]
  have GO := Lib.hid go
  clear go e3 p0 p1 p2 p3 p4 p5 f0 f1 f2 f3 f4 f5
  have hE' := HE'.out
  go_wp2
  go_ret
  exact ⟨rfl, GO.out.sep.sub fun b hb => .inl hb, GO.out.kept⟩

set_option maxHeartbeats 1000000 in
set_option maxRecDepth 100000 in
theorem drop_miss (h : Sep own hb P w) (D : DictC P d ps room lk) (hk : keyE P k = 0) (hf : (keyO P k).Fine) (hi : ixD ps (keyO P k) ps.length = none) :
    Calls Try.prog 21 #[ptr hb, d.val, k.val] w fun e w' => e = .returned (.int .i64 0) ∧ Sep own hb P w' ∧ Kept own w w' := by
  show Calls Try.prog 21 #[ptr hb, obV d.k d.x d.n d.a d.l d.s, obV k.k k.x k.n k.a k.l k.s] w _
  have H := Lib.hid h
  have HD := Lib.hid D
  have HA := Lib.hid h.lt
  have HK := Lib.hid hk
  have HF := Lib.hid hf
  have HI := Lib.hid hi
  clear h D hk hf hi
  go_enter Try.func21, Try.ntmps21
  go_upto_region 1 with fail
  obtain ⟨wb, eb, st⟩ := Box2.start H.out d k
  rw [eb]
  have ST := Lib.hid st
  obtain ⟨o0, o1, o2, o3, o4, o5⟩ := ob_cells st.b0
  obtain ⟨p0, p1, p2, p3, p4, p5⟩ := ob_cells st.b1
  clear eb st
  go_wp2_with fail
  have hop : Calls Try.prog 51 #[ptr hb, d.val, k.val] wb fun e w' => e = .returned (.tuple #[dcV hb d.k d.x d.n d.a d.l d.s ps.length room, (keyO P k).val, .int .i64 0]) ∧ Below wb.heap.size wb w' := by
    obtain ⟨role, ⟨vc, ivs, pb, rv, h1⟩, h2⟩ := ST.out.sep
    exact openFor_is h1 HD.out k HK.out
  obtain ⟨q, hq⟩ : ∃ q, keyO P k = q := ⟨_, rfl⟩
  rw [hq] at hop
  have HQ := Lib.hid hq
  simp only [Ob.val] at hop
  clear hq
  refine hop.mono ?_
  rintro e w1 ⟨rfl, k1⟩
  have S1 := Lib.hid (ST.out.below k1)
  clear hop k1 o0 o1 o2 o3 o4 o5 p0 p1 p2 p3 p4 p5
  obtain ⟨⟨p0, p1, p2, p3, p4, p5⟩, f0, f1, f2, f3, f4, f5⟩ := later6 S1.out.b1
  go_upto_region 2 with fail
  obtain ⟨w3, e3⟩ : ∃ w3, put6 (w1.alloc (.cells #[ptr hb, .int .i64 d.k, .bool d.x, .int .i64 d.n, .int .i64 d.a, .int .i64 d.l, .string d.s, .int .i64 ps.length, .int .i64 room] 86)) (w.heap.size + 1) (.int .i64 q.k) (.bool q.x) (.int .i64 q.n) (.int .i64 q.a) (.int .i64 q.l) (.string q.s) = w3 := ⟨_, rfl⟩
  have go : DropAt own hb P w (put6 (w1.alloc (.cells #[ptr hb, .int .i64 d.k, .bool d.x, .int .i64 d.n, .int .i64 d.a, .int .i64 d.l, .string d.s, .int .i64 ps.length, .int .i64 room] 86)) (w.heap.size + 1) (.int .i64 q.k) (.bool q.x) (.int .i64 q.n) (.int .i64 q.a) (.int .i64 q.l) (.string q.s)) w.heap.size w1.heap.size q _ := S1.out.opened HA.out #[ptr hb, .int .i64 d.k, .bool d.x, .int .i64 d.n, .int .i64 d.a, .int .i64 d.l, .string d.s, .int .i64 ps.length, .int .i64 room] q
  rw [e3] at go
  unfold put6 at e3
  rw [e3]
  have GO := Lib.hid go
  clear go e3 p0 p1 p2 p3 p4 p5 f0 f1 f2 f3 f4 f5
  obtain ⟨d0, d1, d2, d3, d4, d5, d6, d7, d8⟩ := dc_cells GO.out.b3
  obtain ⟨q0, q1, q2, q3, q4, q5⟩ := ob_cells GO.out.b1
  go_wp2_with fail
  have hfind : Calls Try.prog 54 #[dcV hb d.k d.x d.n d.a d.l d.s ps.length room, q.val] w3 fun e w' => e = .returned (.tuple #[.int .i64 (atI (ixD ps q ps.length)), .bool (ixD ps q ps.length).isSome]) ∧ Below w3.heap.size w3 w' := by
    obtain ⟨role, ⟨vc, ivs, pb, rv, h1⟩, h2⟩ := GO.out.sep
    exact find_is h1 HD.out q (by rw [← HQ.out]; exact HF.out)
  rw [show ixD ps q ps.length = none from by rw [← HQ.out]; exact HI.out] at hfind
  skip
  refine hfind.mono ?_
  rintro e w6 ⟨rfl, k6⟩
  replace GO := Lib.hid (GO.out.below k6)
  clear hfind k6 d0 d1 d2 d3 d4 d5 d6 d7 d8 q0 q1 q2 q3 q4 q5
  go_wp2
  go_ret
  exact ⟨rfl, GO.out.sep.sub fun b hb => .inl hb, GO.out.kept⟩

set_option maxHeartbeats 1000000 in
set_option maxRecDepth 100000 in
theorem drop_lock (h : Sep own hb P w) (D : DictC P d ps room lk) (hl : lk = true) (hk : keyE P k = 0) (hf : (keyO P k).Fine) (i A : Nat) (hAA : A = 2 * i + 1) (hi : ixD ps (keyO P k) ps.length = some i) :
    Calls Try.prog 21 #[ptr hb, d.val, k.val] w fun e w' => e = .returned (.int .i64 1) ∧ Sep own hb P w' ∧ Kept own w w' := by
  show Calls Try.prog 21 #[ptr hb, obV d.k d.x d.n d.a d.l d.s, obV k.k k.x k.n k.a k.l k.s] w _
  have H := Lib.hid h
  have HD := Lib.hid D
  have HA := Lib.hid h.lt
  subst hl
  have HK := Lib.hid hk
  have HF := Lib.hid hf
  have HI := Lib.hid hi
  have HI2 : Hid (i < ps.length) := Lib.hid (ixD_some hi).1
  have HAA := Lib.hid hAA
  clear h D hk hf hi hAA
  go_enter Try.func21, Try.ntmps21
  go_upto_region 1 with fail
  obtain ⟨wb, eb, st⟩ := Box2.start H.out d k
  rw [eb]
  have ST := Lib.hid st
  obtain ⟨o0, o1, o2, o3, o4, o5⟩ := ob_cells st.b0
  obtain ⟨p0, p1, p2, p3, p4, p5⟩ := ob_cells st.b1
  clear eb st
  go_wp2_with fail
  have hop : Calls Try.prog 51 #[ptr hb, d.val, k.val] wb fun e w' => e = .returned (.tuple #[dcV hb d.k d.x d.n d.a d.l d.s ps.length room, (keyO P k).val, .int .i64 0]) ∧ Below wb.heap.size wb w' := by
    obtain ⟨role, ⟨vc, ivs, pb, rv, h1⟩, h2⟩ := ST.out.sep
    exact openFor_is h1 HD.out k HK.out
  obtain ⟨q, hq⟩ : ∃ q, keyO P k = q := ⟨_, rfl⟩
  rw [hq] at hop
  have HQ := Lib.hid hq
  simp only [Ob.val] at hop
  clear hq
  refine hop.mono ?_
  rintro e w1 ⟨rfl, k1⟩
  have S1 := Lib.hid (ST.out.below k1)
  clear hop k1 o0 o1 o2 o3 o4 o5 p0 p1 p2 p3 p4 p5
  obtain ⟨⟨p0, p1, p2, p3, p4, p5⟩, f0, f1, f2, f3, f4, f5⟩ := later6 S1.out.b1
  go_upto_region 2 with fail
  obtain ⟨w3, e3⟩ : ∃ w3, put6 (w1.alloc (.cells #[ptr hb, .int .i64 d.k, .bool d.x, .int .i64 d.n, .int .i64 d.a, .int .i64 d.l, .string d.s, .int .i64 ps.length, .int .i64 room] 86)) (w.heap.size + 1) (.int .i64 q.k) (.bool q.x) (.int .i64 q.n) (.int .i64 q.a) (.int .i64 q.l) (.string q.s) = w3 := ⟨_, rfl⟩
  have go : DropAt own hb P w (put6 (w1.alloc (.cells #[ptr hb, .int .i64 d.k, .bool d.x, .int .i64 d.n, .int .i64 d.a, .int .i64 d.l, .string d.s, .int .i64 ps.length, .int .i64 room] 86)) (w.heap.size + 1) (.int .i64 q.k) (.bool q.x) (.int .i64 q.n) (.int .i64 q.a) (.int .i64 q.l) (.string q.s)) w.heap.size w1.heap.size q _ := S1.out.opened HA.out #[ptr hb, .int .i64 d.k, .bool d.x, .int .i64 d.n, .int .i64 d.a, .int .i64 d.l, .string d.s, .int .i64 ps.length, .int .i64 room] q
  rw [e3] at go
  unfold put6 at e3
  rw [e3]
  have GO := Lib.hid go
  clear go e3 p0 p1 p2 p3 p4 p5 f0 f1 f2 f3 f4 f5
  obtain ⟨d0, d1, d2, d3, d4, d5, d6, d7, d8⟩ := dc_cells GO.out.b3
  obtain ⟨q0, q1, q2, q3, q4, q5⟩ := ob_cells GO.out.b1
  go_wp2_with fail
  have hfind : Calls Try.prog 54 #[dcV hb d.k d.x d.n d.a d.l d.s ps.length room, q.val] w3 fun e w' => e = .returned (.tuple #[.int .i64 (atI (ixD ps q ps.length)), .bool (ixD ps q ps.length).isSome]) ∧ Below w3.heap.size w3 w' := by
    obtain ⟨role, ⟨vc, ivs, pb, rv, h1⟩, h2⟩ := GO.out.sep
    exact find_is h1 HD.out q (by rw [← HQ.out]; exact HF.out)
  rw [show ixD ps q ps.length = some i from by rw [← HQ.out]; exact HI.out] at hfind
  rw [show atI (some i) = (A : Int) from by simp [atI, HAA.out]] at hfind
  refine hfind.mono ?_
  rintro e w6 ⟨rfl, k6⟩
  replace GO := Lib.hid (GO.out.below k6)
  clear hfind k6 d0 d1 d2 d3 d4 d5 d6 d7 d8 q0 q1 q2 q3 q4 q5
  obtain ⟨d0, d1, d2, d3, d4, d5, d6, d7, d8⟩ := dc_cells GO.out.b3
  go_wp2_with fail
  refine (sLocked GO.out.sep HD.out ps.length room).mono ?_
  rintro e w5 ⟨rfl, s5, k5⟩
  replace GO := Lib.hid (GO.out.put s5 k5)
  clear s5 k5 d0 d1 d2 d3 d4 d5 d6 d7 d8
  go_wp2
  go_ret
  exact ⟨rfl, GO.out.sep.sub fun b hb => .inl hb, GO.out.kept⟩

set_option maxHeartbeats 1000000 in
set_option maxRecDepth 100000 in
theorem drop_have (h : Sep own hb P w) (D : DictC P d ps room lk) (hl : lk = false) (hk : keyE P k = 0) (hf : (keyO P k).Fine) (i A : Nat) (hAA : A = 2 * i + 1) (hi : ixD ps (keyO P k) ps.length = some i) (hv : ∀ x ∈ itemsD ps room, mayH P x = true) :
    Calls Try.prog 21 #[ptr hb, d.val, k.val] w fun e w' => e = .returned (.int .i64 0) ∧ Sep own hb (P.set d.n.toNat ⟨10, false, itemsD (ps.eraseIdx i) room, []⟩) w' ∧ Kept own w w' := by
  show Calls Try.prog 21 #[ptr hb, obV d.k d.x d.n d.a d.l d.s, obV k.k k.x k.n k.a k.l k.s] w _
  have H := Lib.hid h
  have HD := Lib.hid D
  have HA := Lib.hid h.lt
  subst hl
  have HK := Lib.hid hk
  have HF := Lib.hid hf
  have HI := Lib.hid hi
  have HI2 : Hid (i < ps.length) := Lib.hid (ixD_some hi).1
  have HAA := Lib.hid hAA
  have HV := Lib.hid hv
  clear h D hk hf hi hAA hv
  go_enter Try.func21, Try.ntmps21
  go_upto_region 1 with fail
  obtain ⟨wb, eb, st⟩ := Box2.start H.out d k
  rw [eb]
  have ST := Lib.hid st
  obtain ⟨o0, o1, o2, o3, o4, o5⟩ := ob_cells st.b0
  obtain ⟨p0, p1, p2, p3, p4, p5⟩ := ob_cells st.b1
  clear eb st
  go_wp2_with fail
  have hop : Calls Try.prog 51 #[ptr hb, d.val, k.val] wb fun e w' => e = .returned (.tuple #[dcV hb d.k d.x d.n d.a d.l d.s ps.length room, (keyO P k).val, .int .i64 0]) ∧ Below wb.heap.size wb w' := by
    obtain ⟨role, ⟨vc, ivs, pb, rv, h1⟩, h2⟩ := ST.out.sep
    exact openFor_is h1 HD.out k HK.out
  obtain ⟨q, hq⟩ : ∃ q, keyO P k = q := ⟨_, rfl⟩
  rw [hq] at hop
  have HQ := Lib.hid hq
  simp only [Ob.val] at hop
  clear hq
  refine hop.mono ?_
  rintro e w1 ⟨rfl, k1⟩
  have S1 := Lib.hid (ST.out.below k1)
  clear hop k1 o0 o1 o2 o3 o4 o5 p0 p1 p2 p3 p4 p5
  obtain ⟨⟨p0, p1, p2, p3, p4, p5⟩, f0, f1, f2, f3, f4, f5⟩ := later6 S1.out.b1
  go_upto_region 2 with fail
  obtain ⟨w3, e3⟩ : ∃ w3, put6 (w1.alloc (.cells #[ptr hb, .int .i64 d.k, .bool d.x, .int .i64 d.n, .int .i64 d.a, .int .i64 d.l, .string d.s, .int .i64 ps.length, .int .i64 room] 86)) (w.heap.size + 1) (.int .i64 q.k) (.bool q.x) (.int .i64 q.n) (.int .i64 q.a) (.int .i64 q.l) (.string q.s) = w3 := ⟨_, rfl⟩
  have go : DropAt own hb P w (put6 (w1.alloc (.cells #[ptr hb, .int .i64 d.k, .bool d.x, .int .i64 d.n, .int .i64 d.a, .int .i64 d.l, .string d.s, .int .i64 ps.length, .int .i64 room] 86)) (w.heap.size + 1) (.int .i64 q.k) (.bool q.x) (.int .i64 q.n) (.int .i64 q.a) (.int .i64 q.l) (.string q.s)) w.heap.size w1.heap.size q _ := S1.out.opened HA.out #[ptr hb, .int .i64 d.k, .bool d.x, .int .i64 d.n, .int .i64 d.a, .int .i64 d.l, .string d.s, .int .i64 ps.length, .int .i64 room] q
  rw [e3] at go
  unfold put6 at e3
  rw [e3]
  have GO := Lib.hid go
  clear go e3 p0 p1 p2 p3 p4 p5 f0 f1 f2 f3 f4 f5
  obtain ⟨d0, d1, d2, d3, d4, d5, d6, d7, d8⟩ := dc_cells GO.out.b3
  obtain ⟨q0, q1, q2, q3, q4, q5⟩ := ob_cells GO.out.b1
  go_wp2_with fail
  have hfind : Calls Try.prog 54 #[dcV hb d.k d.x d.n d.a d.l d.s ps.length room, q.val] w3 fun e w' => e = .returned (.tuple #[.int .i64 (atI (ixD ps q ps.length)), .bool (ixD ps q ps.length).isSome]) ∧ Below w3.heap.size w3 w' := by
    obtain ⟨role, ⟨vc, ivs, pb, rv, h1⟩, h2⟩ := GO.out.sep
    exact find_is h1 HD.out q (by rw [← HQ.out]; exact HF.out)
  rw [show ixD ps q ps.length = some i from by rw [← HQ.out]; exact HI.out] at hfind
  rw [show atI (some i) = (A : Int) from by simp [atI, HAA.out]] at hfind
  refine hfind.mono ?_
  rintro e w6 ⟨rfl, k6⟩
  replace GO := Lib.hid (GO.out.below k6)
  clear hfind k6 d0 d1 d2 d3 d4 d5 d6 d7 d8 q0 q1 q2 q3 q4 q5
  obtain ⟨d0, d1, d2, d3, d4, d5, d6, d7, d8⟩ := dc_cells GO.out.b3
  go_wp2_with fail
  refine (sLocked GO.out.sep HD.out ps.length room).mono ?_
  rintro e w5 ⟨rfl, s5, k5⟩
  replace GO := Lib.hid (GO.out.put s5 k5)
  clear s5 k5 d0 d1 d2 d3 d4 d5 d6 d7 d8
  obtain ⟨d0, d1, d2, d3, d4, d5, d6, d7, d8⟩ := dc_cells GO.out.b3
  go_wp2_with fail
  have hrem := sRemove GO.out.sep HD.out.r HV.out room ps.length (ps.length - 1) A (2 * ps.length + 1) (2 * ps.length + 1 - 1) (2 * ps.length + 1 - 2) (2 * ps.length + 1 - 2 - A) rfl rfl rfl (by have := HI2.out; have := HAA.out; omega) rfl (by have := HI2.out; omega) (Nat.le_trans HD.out.le HD.out.most) (by rw [itemsD_length HD.out.le]; have := HD.out.le; omega)
  rw [items_drop HD.out.le HI2.out HAA.out rfl (by have := HI2.out; have := HAA.out; omega)] at hrem
  refine hrem.mono ?_
  rintro e w7 ⟨rfl, s7, k7⟩
  replace GO := Lib.hid (GO.out.put s7 k7)
  clear hrem s7 k7 d0 d1 d2 d3 d4 d5 d6 d7 d8
  go_wp2
  go_ret
  exact ⟨rfl, GO.out.sep.sub fun b hb => .inl hb, GO.out.kept⟩

/-- What Drop returns, and the pairs behind it. -/
def dropE (P : List Cel) (ps : List (Ob × Ob)) (lk : Bool) (k : Ob) : Int := if keyE P k = 0 then (if (ixD ps (keyO P k) ps.length).isSome ∧ lk = true then 1 else 0) else keyE P k
def dropL (ps : List (Ob × Ob)) (k : Ob) : List (Ob × Ob) := match ixD ps k ps.length with | some i => ps.eraseIdx i | none => ps
theorem sDictDrop (h : Sep own hb P w) (D : DictC P d ps room false) (hf : keyE P k = 0 → (keyO P k).Fine) (hv : ∀ x ∈ itemsD ps room, mayH P x = true) :
    Calls Try.prog 21 #[ptr hb, d.val, k.val] w fun e w' => e = .returned (.int .i64 (dropE P ps false k)) ∧ Sep own hb (if dropE P ps false k = 0 then P.set d.n.toNat ⟨10, false, itemsD (dropL ps (keyO P k)) room, []⟩ else P) w' ∧ Kept own w w' := by
  by_cases hk : keyE P k = 0
  · have e : dropE P ps false k = 0 := by simp [dropE, hk]
    rw [e, if_pos rfl]
    cases hi : ixD ps (keyO P k) ps.length with
    | none =>
      have q : dropL ps (keyO P k) = ps := by simp [dropL, hi]
      rw [q, D.r.self]
      exact drop_miss h D hk (hf hk) hi
    | some i =>
      have q : dropL ps (keyO P k) = ps.eraseIdx i := by simp [dropL, hi]
      rw [q]
      exact drop_have h D rfl hk (hf hk) i _ rfl hi hv
  · have e : dropE P ps false k = keyE P k := by simp [dropE, hk]
    rw [e, if_neg hk]
    exact drop_fail h D _ rfl hk
end
end Go.Proofs.Ytlkbnldpecolbaa

/- Plain: heaps all of whose cells are dictionaries. -/
namespace Go.Proofs.Ytlkbnldpecolbaa
set_option linter.unusedVariables false
set_option linter.unusedSimpArgs false

/-- A dictionary: its pairs, its room, its lock. -/
structure Dc where
  ps : List (Ob × Ob)
  rm : Nat
  lk : Bool
def Dc.cel (c : Dc) : Cel := ⟨10, c.lk, itemsD c.ps c.rm, []⟩
def HD (ds : List Dc) : List Cel := ds.map Dc.cel
/-- Each has no more pairs than room; each key can be a key of a map. -/
def DsOk (ds : List Dc) : Prop := ∀ c ∈ ds, c.ps.length ≤ c.rm ∧ c.rm ≤ 1000 ∧ ∀ p ∈ c.ps, p.1.Fine
/-- One of n dictionaries. -/
def IsD (n : Nat) (d : Ob) : Prop := d.k = 10 ∧ 0 ≤ d.n ∧ d.n ≤ 40000 ∧ d.n < n ∧ d.a = 0 ∧ d.l = 0 ∧ d.s = ⟨#[]⟩
theorem IsD.lt {n : Nat} {d : Ob} (h : IsD n d) : d.n.toNat < n := by
  have := h.2.1
  have := h.2.2.2.1
  omega
theorem IsD.more {n m : Nat} {d : Ob} (h : IsD n d) (k : n ≤ m) : IsD m d := ⟨h.1, h.2.1, h.2.2.1, by have := h.2.2.2.1; omega, h.2.2.2.2⟩
section
variable {ds : List Dc} {d k v : Ob} {c : Dc}
theorem hd_length : (HD ds).length = ds.length := by simp [HD]
theorem hd_cell (h : ds[d.n.toNat]? = some c) : cellOf (HD ds) d = c.cel := by
  rw [cellOf, List.getD_eq_getElem?_getD, HD, List.getElem?_map, h]
  rfl
theorem okO_hd (h : IsD ds.length d) : okO (HD ds) d = true := by
  obtain ⟨c, hc⟩ : ∃ c, ds[d.n.toNat]? = some c := ⟨_, List.getElem?_eq_getElem h.lt⟩
  obtain ⟨h1, h2, h3, h4, h5, h6, h7⟩ := h
  refine okO_iff.2 ⟨by rw [h1]; decide, ?_, ?_⟩
  · simp [Ob.may, mayO, h1, onlyP, h5, h6, h7, h2, h3]
  · rw [inCell, hd_cell hc, hd_length, h5, h6, h1]
    simp [Dc.cel, h4]
theorem isD_of (h : okO (HD ds) d = true) (hk : d.k = 10) : IsD ds.length d := by
  obtain ⟨h1, h2, h3⟩ := okO_iff.1 h
  simp [Ob.may, mayO, hk, onlyP] at h2
  have := (ok_bd h).2.1
  rw [hd_length] at this
  exact ⟨hk, h2.1, h2.2.1, this, h2.2.2⟩
theorem IsD.dc (h : IsD ds.length d) (ok : DsOk ds) (hc : ds[d.n.toNat]? = some c) : DictC (HD ds) d c.ps c.rm c.lk :=
  ⟨okO_hd h, h.1, hd_cell hc, (ok c (List.mem_of_getElem? hc)).1, (ok c (List.mem_of_getElem? hc)).2.1, (ok c (List.mem_of_getElem? hc)).2.2⟩
theorem hd_set (i : Nat) (c : Dc) : (HD ds).set i c.cel = HD (ds.set i c) := by simp [HD, List.map_set]
theorem hd_add (c : Dc) : HD ds ++ [c.cel] = HD (ds ++ [c]) := by simp [HD]
theorem DsOk.set (h : DsOk ds) (i : Nat) (hc : c.ps.length ≤ c.rm ∧ c.rm ≤ 1000 ∧ ∀ p ∈ c.ps, p.1.Fine) : DsOk (ds.set i c) := fun q hq => by
  rcases List.mem_or_eq_of_mem_set hq with hq | rfl
  · exact h q hq
  · exact hc
theorem DsOk.add (h : DsOk ds) (hc : c.ps.length ≤ c.rm ∧ c.rm ≤ 1000 ∧ ∀ p ∈ c.ps, p.1.Fine) : DsOk (ds ++ [c]) := fun q hq => by
  rcases List.mem_append.1 hq with hq | hq
  · exact h q hq
  · obtain rfl : q = c := by simpa using hq
    exact hc
theorem wf_of {v : Int} (h1 : -9223372036854775808 ≤ v) (h2 : v ≤ 9223372036854775807) : (Lit.int .i64 v).wf = true := WalkArith.wf_i64 ⟨h1, h2⟩
/-- What may be is fine. -/
theorem fine_may {o : Ob} (h : o.may = true) : o.Fine := by
  have hx : -9223372036854775808 ≤ o.k ∧ o.k ≤ 9223372036854775807 ∧ -9223372036854775808 ≤ o.n ∧ o.n ≤ 9223372036854775807 ∧ 0 ≤ o.a ∧ o.a ≤ 40000 ∧ 0 ≤ o.l ∧ o.l ≤ 40000 ∧ o.s.size ≤ 100 := by
    unfold Ob.may mayO at h
    by_cases h5 : o.k = 5
    · simp [h5, nameP] at h
      omega
    · have hs : o.s = ⟨#[]⟩ → o.s.size = 0 := fun e => by rw [e]; rfl
      split at h <;> (try simp only [onlyP, nameP, pieceP, decide_eq_true_eq] at h)
      · have := hs h.2.2.2.2
        omega
      split at h <;> (try simp only [onlyP, nameP, pieceP, decide_eq_true_eq] at h)
      · have := hs h.2.2.2.2
        omega
      split at h <;> (try simp only [onlyP, nameP, pieceP, decide_eq_true_eq] at h)
      · have := hs h.2.2.2.2
        omega
      split at h <;> (try simp only [onlyP, nameP, pieceP, decide_eq_true_eq] at h)
      · have := hs h.2.2.2.2
        omega
      split at h <;> (try simp only [onlyP, nameP, pieceP, decide_eq_true_eq] at h)
      · have := hs h.2.2.2.2
        omega
      split at h <;> (try simp only [onlyP, nameP, pieceP, decide_eq_true_eq] at h)
      · have := hs h.2.2.2.2
        omega
      split at h <;> (try simp only [onlyP, nameP, pieceP, decide_eq_true_eq] at h)
      · have := hs h.2.2.2.2.2.2
        omega
      split at h <;> (try simp only [onlyP, nameP, pieceP, decide_eq_true_eq] at h)
      · have := hs h.2.2.2.2.2.2
        omega
      split at h <;> (try simp only [onlyP, nameP, pieceP, decide_eq_true_eq] at h)
      · have := hs h.2.2.2.2
        omega
      split at h <;> (try simp only [onlyP, nameP, pieceP, decide_eq_true_eq] at h)
      · have := hs h.2.2.2.2
        omega
      cases h
  exact ⟨wf_of hx.1 hx.2.1, wf_of hx.2.2.1 hx.2.2.2.1, wf_of (by omega) (by omega), wf_of (by omega) (by omega), Nat.le_trans hx.2.2.2.2.2.2.2.2 (by decide)⟩
theorem may_of_mayH {P : List Cel} {o : Ob} (h : mayH P o = true) : o.may = true := by
  rw [mayH, Bool.and_eq_true] at h
  exact h.1
/-- A key is fine, and may be. -/
theorem key_may {P : List Cel} {o : Ob} (h : keyE P o = 0) : mayH P (keyO P o) = true := by
  have h0 := h
  rw [keyO, if_pos h]
  unfold keyE at h
  split at h
  · cases h
  split at h
  case isFalse => cases h
  rename_i h1 h2
  split
  · rename_i h8
    rw [if_pos h8] at h
    split at h
    case isFalse => cases h
    rename_i hl
    have hs : (⟨(bytesL P o).toArray⟩ : ByteArray).size ≤ 100 := by
      show (bytesL P o).toArray.size ≤ 100
      simpa using hl
    simp [mayH, Ob.may, mayO, nameP, comp, hs]
  · simpa [mayH, Ob.may, inCell, cellOf] using h2
theorem key_fine {P : List Cel} {o : Ob} (h : keyE P o = 0) : (keyO P o).Fine := fine_may (may_of_mayH (key_may h))
/-- A name. -/
def nmO (s : ByteArray) : Ob := ⟨5, false, 0, 0, 0, s⟩
theorem nm_key {P : List Cel} {s : ByteArray} (h : s.size ≤ 100) : keyE P (nmO s) = 0 ∧ keyO P (nmO s) = nmO s := by
  have e : keyE P (nmO s) = 0 := by simp [keyE, nmO, mayH, Ob.may, mayO, nameP, comp, h]
  exact ⟨e, by rw [keyO, if_pos e]; simp [nmO]⟩
theorem nm_is {s : ByteArray} {p : Ob} : isKey (nmO s) p ↔ p.k = 5 ∧ p.s = s := by simp [isKey, nmO]
theorem dsetL_length (ps : List (Ob × Ob)) (k v : Ob) : (dsetL ps k v).length ≤ ps.length + 1 := by
  unfold dsetL
  split <;> simp
theorem dset_ok {P : List Cel} {ps : List (Ob × Ob)} {rm : Nat} {lk : Bool} (h1 : ps.length ≤ rm) (h3 : ∀ p ∈ ps, p.1.Fine) (hE : dsetE P ps rm lk k v = 0) : (dsetL ps (keyO P k) v).length ≤ rm ∧ (∀ p ∈ dsetL ps (keyO P k) v, p.1.Fine) ∧ lk = false := by
  unfold dsetE at hE
  split at hE
  case isFalse h => exact absurd hE h
  rename_i hk
  have hkf := key_fine hk
  split at hE
  case isFalse => cases hE
  rename_i hm
  refine ⟨?_, ?_, hm.2⟩
  · unfold dsetL
    cases hi : ixD ps (keyO P k) ps.length with
    | some i => simpa using h1
    | none =>
      rw [hi] at hE
      simp only at hE
      split at hE
      · cases hE
      · simp
        omega
  · intro p hp
    unfold dsetL at hp
    cases hi : ixD ps (keyO P k) ps.length with
    | some i =>
      rw [hi] at hp
      simp only at hp
      rcases List.mem_or_eq_of_mem_set hp with hp | rfl
      · exact h3 p hp
      · have hlt := (ixD_some hi).1
        show ((ps.getD i (Ob.zero, Ob.zero)).1).Fine
        rw [List.getD_eq_getElem?_getD, List.getElem?_eq_getElem hlt]
        exact h3 _ (List.getElem_mem hlt)
    | none =>
      rw [hi] at hp
      simp only at hp
      rcases List.mem_append.1 hp with hp | hp
      · exact h3 p hp
      · obtain rfl : p = (keyO P k, v) := by simpa using hp
        exact hkf
end
end Go.Proofs.Ytlkbnldpecolbaa

/- What dict's calls do to a heap of dictionaries. -/
namespace Go.Proofs.Ytlkbnldpecolbaa
open Go.RowKit Go.Maps
set_option linter.unusedVariables false

def newD (n : Nat) : Dc := ⟨[], n, false⟩
theorem newD_cel (n : Nat) : (⟨10, false, emptyD n, []⟩ : Cel) = (newD n).cel := by simp [newD, Dc.cel, itemsD, flatD, emptyD]
theorem newD_ok (n : Nat) (h : n ≤ 1000) : (newD n).ps.length ≤ (newD n).rm ∧ (newD n).rm ≤ 1000 ∧ ∀ p ∈ (newD n).ps, p.1.Fine := ⟨Nat.zero_le _, h, fun p hp => by simp [newD] at hp⟩
/-- The dictionaries behind Set. -/
def setD (ds : List Dc) (c : Dc) (d k v : Ob) : List Dc := if dsetE (HD ds) c.ps c.rm c.lk k v = 0 then ds.set d.n.toNat ⟨dsetL c.ps (keyO (HD ds) k) v, c.rm, false⟩ else ds
section
variable {own : Nat → Prop} {hb : Nat} {ds : List Dc} {c : Dc} {d : Ob} {w : World}
theorem setD_length (k v : Ob) : (setD ds c d k v).length = ds.length := by
  unfold setD
  split <;> simp
theorem setD_ok (ok : DsOk ds) (hc : ds[d.n.toNat]? = some c) (k v : Ob) : DsOk (setD ds c d k v) := by
  unfold setD
  split
  · rename_i h
    have h0 := ok c (List.mem_of_getElem? hc)
    have h1 := dset_ok h0.1 h0.2.2 h
    exact ok.set _ ⟨h1.1, h0.2.1, h1.2.1⟩
  · exact ok
theorem hNew (h : Sep own hb (HD ds) w) (n : Nat) (hn : n ≤ 1000) (hl : ds.length < 2000) (hu : 2 * n + 1 + usedP (HD ds) ≤ 40000) :
    Calls Try.prog 12 #[ptr hb, .int .i64 n] w fun e w' => e = .returned (.tuple #[obV 10 false ds.length 0 0 ⟨#[]⟩, .int .i64 0]) ∧ Sep own hb (HD (ds ++ [newD n])) w' ∧ Kept own w w' := by
  have := sNewDict h h.lt n hn (by rw [hd_length]; exact hl) hu
  rw [hd_length, newD_cel, hd_add] at this
  exact this
theorem hKey (h : Sep own hb (HD ds) w) (k : Ob) : Calls Try.prog 27 #[ptr hb, k.val] w fun e w' => e = .returned (.tuple #[(keyO (HD ds) k).val, .int .i64 (keyE (HD ds) k)]) ∧ Below w.heap.size w w' := by
  obtain ⟨role, ⟨vc, ivs, pb, rv, h1⟩, h2⟩ := h
  exact key_is h1 k
theorem hGet (h : Sep own hb (HD ds) w) (ok : DsOk ds) (hd : IsD ds.length d) (hc : ds[d.n.toNat]? = some c) (k : Ob) : Calls Try.prog 31 #[ptr hb, d.val, k.val] w fun e w' => e = .returned (.tuple #[(dgetO (HD ds) c.ps k).val, .int .i64 (dgetE (HD ds) c.ps k)]) ∧ Below w.heap.size w w' := by
  obtain ⟨role, ⟨vc, ivs, pb, rv, h1⟩, h2⟩ := h
  exact dictGet_is h1 (hd.dc ok hc) k key_fine
theorem hSet (h : Sep own hb (HD ds) w) (ok : DsOk ds) (hd : IsD ds.length d) (hc : ds[d.n.toNat]? = some c) (k v : Ob) :
    Calls Try.prog 20 #[ptr hb, d.val, k.val, v.val] w fun e w' => e = .returned (.int .i64 (dsetE (HD ds) c.ps c.rm c.lk k v)) ∧ Sep own hb (HD (setD ds c d k v)) w' ∧ Kept own w w' := by
  have := sDictSet h (hd.dc ok hc) h.lt key_fine key_may (k := k) (v := v)
  rw [show (if dsetE (HD ds) c.ps c.rm c.lk k v = 0 then (HD ds).set d.n.toNat ⟨10, false, itemsD (dsetL c.ps (keyO (HD ds) k) v) c.rm, []⟩ else HD ds) = HD (setD ds c d k v) from by
    unfold setD
    split
    · exact hd_set _ ⟨dsetL c.ps (keyO (HD ds) k) v, c.rm, false⟩
    · rfl] at this
  exact this
theorem hPairs (h : Sep own hb (HD ds) w) (ok : DsOk ds) (hd : IsD ds.length d) (hc : ds[d.n.toNat]? = some c) (q : Nat) (hq : q = 2 * c.ps.length + 1) :
    Calls Try.prog 22 #[ptr hb, d.val] w fun e w' => ∃ g cap ad, e = .returned (.tuple #[.slice ad (q - 1) (cap - 1), .int .i64 0]) ∧ (0 < c.ps.length → ad = some ⟨g, 6, none⟩) ∧ w.heap.size ≤ g ∧ w'.ownsRow 0 30 6 (.slice (some ⟨g, 0, none⟩) (2 * c.rm + 1) cap) (2 * c.rm + 1) (obCells (itemsD c.ps c.rm)) ∧ Below w.heap.size w w' := by
  obtain ⟨role, ⟨vc, ivs, pb, rv, h1⟩, h2⟩ := h
  exact pairs_is h1 (hd.dc ok hc) q hq
theorem hDropLock (h : Sep own hb (HD ds) w) (ok : DsOk ds) (hd : IsD ds.length d) (hc : ds[d.n.toNat]? = some c) (hl : c.lk = true) (k : Ob) (hk : keyE (HD ds) k = 0) {i : Nat} (hi : ixD c.ps (keyO (HD ds) k) c.ps.length = some i) :
    Calls Try.prog 21 #[ptr hb, d.val, k.val] w fun e w' => e = .returned (.int .i64 1) ∧ Sep own hb (HD ds) w' ∧ Kept own w w' := by
  exact drop_lock h (hd.dc ok hc) hl hk (key_fine hk) i _ rfl hi
theorem hMay (h : Sep own hb (HD ds) w) (o : Ob) : Calls Try.prog 52 #[ptr hb, o.val] w fun e w' => e = .returned (.bool (mayH (HD ds) o)) ∧ Below w.heap.size w w' := by
  obtain ⟨role, ⟨vc, ivs, pb, rv, h1⟩, h2⟩ := h
  exact mayH_is h1 o
end
end Go.Proofs.Ytlkbnldpecolbaa

/- A heap of the program beside one of the reference, and boxes. -/
namespace Go.Proofs.Ytlkbnldpecolbaa
open Go.RowKit
set_option linter.unusedVariables false

section
variable {own : Nat → Prop} {hb : Nat} {P : List Cel} {w w' : World}
/-- Blocks of ours may have changed, and there are new ones. -/
theorem Sep.mut (h : Sep own hb P w) (k : Kept (fun b => b < w.heap.size ∧ ¬ own b) w w') : Sep (Plus own w w') hb P w' := by
  obtain ⟨role, ⟨vc, ivs, pb, rv, h1⟩, h2⟩ := h
  refine ⟨paint role w.heap.size fun _ => (0, 0), ⟨vc, ivs, pb, rv, h1.same fun b hb hc => ⟨k.block b ⟨hb, fun e => (h2 b e).2 hc⟩, paint_old hb⟩⟩, fun b q => ?_⟩
  rcases q with q | q
  · have := h2 b q
    exact ⟨Nat.lt_of_lt_of_le this.1 k.size, by rw [paint_old this.1]; exact this.2⟩
  · exact ⟨q.2, by rw [paint_new q.1]; decide⟩
end

/-- The program's heap hb holds P, the reference's rb holds A; 'out' are blocks of ours that neither has. -/
def DP (out : Nat → Prop) (hb rb : Nat) (P A : List Cel) (w : World) : Prop :=
  ∃ own v R, Sep (fun b => own b ∨ out b) hb P w ∧ RH own rb v R w ∧ (∀ b, out b → ¬ own b) ∧ cels R = A
section
variable {out : Nat → Prop} {hb rb : Nat} {P A P' A' : List Cel} {w w' : World}
theorem DP.lt (h : DP out hb rb P A w) {b : Nat} (q : out b) : b < w.heap.size := by
  obtain ⟨own, v, R, h1, h2, h4, h5⟩ := h
  exact h1.lt b (.inr q)
theorem DP.kept (h : DP out hb rb P A w) (k : Below w.heap.size w w') : Kept out w w' := kept_of k fun b q => h.lt q
theorem DP.sub {out' : Nat → Prop} (h : DP out hb rb P A w) (k : ∀ b, out' b → out b) : DP out' hb rb P A w := by
  obtain ⟨own, v, R, h1, h2, h4, h5⟩ := h
  exact ⟨own, v, R, h1.sub fun b q => q.imp id (k b), h2, fun b q => h4 b (k b q), h5⟩
theorem DP.below (h : DP out hb rb P A w) (k : Below w.heap.size w w') : DP out hb rb P A w' := by
  obtain ⟨own, v, R, h1, h2, h4, h5⟩ := h
  exact ⟨own, v, R, (h1.below k).1, h2.below k, h4, h5⟩
theorem DP.box (h : DP out hb rb P A w) (o : Obj) : DP (fun b => out b ∨ b = w.heap.size) hb rb P A (w.alloc o) := by
  obtain ⟨own, v, R, h1, h2, h4, h5⟩ := h
  have hl := fun b (q : own b) => h1.lt b (.inl q)
  refine ⟨own, v, R, (h1.box o).sub ?_, h2.below (box_below _ _), ?_, h5⟩
  · rintro b (q | q | q)
    · exact .inl (.inl q)
    · exact .inl (.inr q)
    · exact .inr q
  · rintro b (q | rfl)
    · exact h4 b q
    · exact fun q => Nat.lt_irrefl _ (hl _ q)
/-- Blocks of ours may have changed, and there are new ones. -/
theorem DP.mine (h : DP out hb rb P A w) (k : Kept (fun b => b < w.heap.size ∧ ¬ out b) w w') : DP (Plus out w w') hb rb P A w' := by
  obtain ⟨own, v, R, h1, h2, h4, h5⟩ := h
  have hl := fun b (q : own b) => h1.lt b (.inl q)
  have kk : ∀ b, own b → b < w.heap.size → w'.heap[b]? = w.heap[b]? := fun b q hb => k.block b ⟨hb, fun e => h4 b e q⟩
  refine ⟨own, v, R, (h1.mut (k.sub fun b q => ⟨q.1, fun e => q.2 (.inr e)⟩)).sub ?_, h2.kept (fun b q => q) k.size kk, ?_, h5⟩
  · rintro b (q | q | q)
    · exact .inl (.inl q)
    · exact .inl (.inr q)
    · exact .inr q
  · rintro b (q | q)
    · exact h4 b q
    · exact fun e => by have := hl b e; have := q.1; omega
/-- The program has done something. -/
theorem DP.prog (h : DP out hb rb P A w) {f : Nat} {xs : Array Value} {v : Value} (C : ∀ own, Sep own hb P w → Calls Try.prog f xs w fun e w' => e = .returned v ∧ Sep own hb P' w' ∧ Kept own w w') :
    Calls Try.prog f xs w fun e w' => e = .returned v ∧ DP out hb rb P' A w' ∧ Kept out w w' := by
  obtain ⟨own, u, R, h1, h2, h4, h5⟩ := h
  refine (C _ h1).mono ?_
  rintro e w' ⟨rfl, c1, k⟩
  exact ⟨rfl, ⟨own, u, R, c1, h2.kept (fun b q => q) k.size fun b q _ => k.block b (.inl q), h4, h5⟩, k.sub fun b q => .inr q⟩
theorem DP.progLeaf (h : DP out hb rb P A w) {f : Nat} {xs : Array Value} {v : Value} (C : ∀ own, Sep own hb P w → Calls Try.prog f xs w fun e w' => e = .returned v ∧ Below w.heap.size w w') :
    Calls Try.prog f xs w fun e w' => e = .returned v ∧ Below w.heap.size w w' := by
  obtain ⟨own, u, R, h1, h2, h4, h5⟩ := h
  exact C _ h1
theorem DP.refLeaf (h : DP out hb rb P A w) {f : Nat} {xs : Array Value} {v : Value} (C : ∀ own u R, RH own rb u R w → cels R = A → Calls Try.prog f xs w fun e w' => e = .returned v ∧ Below w.heap.size w w') :
    Calls Try.prog f xs w fun e w' => e = .returned v ∧ Below w.heap.size w w' := by
  obtain ⟨own, u, R, h1, h2, h4, h5⟩ := h
  exact C _ _ _ h2 h5
end
section
variable {out own : Nat → Prop} {hb rb : Nat} {P A A' : List Cel} {v : Value} {R : List RC} {w w' : World}
/-- The reference's heap has done something. -/
theorem DP.ref (h1 : Sep (fun b => own b ∨ out b) hb P w) (h2 : RH own rb v R w) (h4 : ∀ b, out b → ¬ own b)
    (k : Kept (fun b => b < w.heap.size ∧ b ≠ rb ∧ v.ownBlock ≠ some b) w w') {v' : Value} {R' : List RC} (r : RH (Plus own w w') rb v' R' w') (e : cels R' = A') :
    DP out hb rb P A' w' ∧ Kept out w w' := by
  have hl := fun b (q : own b) => h1.lt b (.inl q)
  have fx : ∀ b, ¬ own b → b ≠ rb ∧ v.ownBlock ≠ some b := fun b q => ⟨fun e => q (e ▸ h2.mine), fun e => q (by
    rcases h2.row with ⟨rfl, _⟩ | ⟨g, cap, rfl, _, q2, _⟩
    · cases e
    · obtain rfl := own_eq e
      exact q2.1)⟩
  refine ⟨⟨Plus own w w', v', R', (h1.mut (k.sub fun b q => ⟨q.1, fx b fun e => q.2 (.inl e)⟩)).sub ?_, r, ?_, e⟩, k.sub fun b q => ⟨h1.lt b (.inr q), fx b (h4 b q)⟩⟩
  · rintro b ((q | q) | q)
    · exact .inl (.inl q)
    · exact .inr q
    · exact .inl (.inr q)
  · rintro b q (q' | q')
    · exact h4 b q q'
    · have := h1.lt b (.inr q)
      have := q'.1
      omega
theorem qSet (h : DP out hb rb P A w) (o : Ob) (i : Int) (q : Ob) : Calls Try.prog 69 #[ptr rb, o.val, .int .i64 i, q.val] w fun e w' => e = .returned (.int .i64 (setE A o i q)) ∧ DP out hb rb P (setP A o i q) w' ∧ Kept out w w' := by
  obtain ⟨own, u, R, h1, h2, h4, rfl⟩ := h
  refine (rset_tot h2 (fun b q => h1.lt b (.inl q)) o i q).mono ?_
  rintro e w' ⟨rfl, ⟨R', r, e⟩, k⟩
  exact ⟨rfl, DP.ref h1 h2 h4 k r e⟩
theorem qDict (h : DP out hb rb P A w) (n : Int) : Calls Try.prog 25 #[ptr rb, .int .i64 n] w fun e w' => e = .returned (.tuple #[(dicO A n).val, .int .i64 (dicE A n)]) ∧ DP out hb rb P (dicP A n) w' ∧ Kept out w w' := by
  obtain ⟨own, u, R, h1, h2, h4, rfl⟩ := h
  refine (rdict_tot h2 (fun b q => h1.lt b (.inl q)) n).mono ?_
  rintro e w' ⟨rfl, ⟨v', R', r, e, _⟩, k⟩
  exact ⟨rfl, DP.ref h1 h2 h4 (k.sub fun b q => ⟨q.1, q.2.1⟩) r e⟩
end

/-- Both heaps, and the boxes bs (a block and what lies in it); w0 is the world at the call, 'base' what the caller has. -/
structure Dr (base : Nat → Prop) (w0 : World) (hb rb : Nat) (P A : List Cel) (bs : List (Nat × Obj)) (w : World) : Prop where
  st : ∃ out, DP out hb rb P A w ∧ (∀ b, base b → out b) ∧ ∀ p, p ∈ bs → out p.1
  box : ∀ p, p ∈ bs → w.heap[p.1]? = some p.2 ∧ w0.heap.size ≤ p.1
  nd : (bs.map (·.1)).Nodup
  kept : Kept base w0 w
  lt : ∀ b, base b → b < w0.heap.size
section
variable {base : Nat → Prop} {w0 w w' : World} {hb rb : Nat} {P A P' A' : List Cel} {bs : List (Nat × Obj)}
theorem Dr.begin (h : DP base hb rb P A w) : Dr base w hb rb P A [] w := ⟨⟨base, h, fun b q => q, fun p q => (by cases q)⟩, fun p q => (by cases q), List.nodup_nil, ⟨rfl, rfl, rfl, Nat.le_refl _, fun b q => rfl⟩, fun b q => h.lt q⟩
theorem Dr.fin (h : Dr base w0 hb rb P A bs w) : DP base hb rb P A w ∧ Kept base w0 w := by
  obtain ⟨out, h1, h2, h3⟩ := h.st
  exact ⟨h1.sub h2, h.kept⟩
theorem Dr.blk (h : Dr base w0 hb rb P A bs w) {p : Nat × Obj} (q : p ∈ bs) : p.1 < w.heap.size := by
  obtain ⟨out, h1, _, h3⟩ := h.st
  exact h1.lt (h3 p q)
/-- A call: what it leaves of what is ours. -/
theorem Dr.step (h : Dr base w0 hb rb P A bs w) : ∃ out, DP out hb rb P A w ∧ ∀ (P' A' : List Cel) (w' : World), DP out hb rb P' A' w' → Kept out w w' → Dr base w0 hb rb P' A' bs w' := by
  obtain ⟨out, h1, h2, h3⟩ := h.st
  exact ⟨out, h1, fun _ _ w' p k => ⟨⟨out, p, h2, h3⟩, fun q m => ⟨(k.block _ (h3 q m)).trans (h.box q m).1, (h.box q m).2⟩, h.nd, h.kept.trans (k.sub fun b q => h2 b q), h.lt⟩⟩
theorem Dr.call (h : Dr base w0 hb rb P A bs w) {f : Nat} {xs : Array Value} {v : Value} (C : ∀ out, DP out hb rb P A w → Calls Try.prog f xs w fun e w' => e = .returned v ∧ DP out hb rb P' A' w' ∧ Kept out w w') :
    Calls Try.prog f xs w fun e w' => e = .returned v ∧ Dr base w0 hb rb P' A' bs w' := by
  obtain ⟨out, h1, fin⟩ := h.step
  refine (C out h1).mono ?_
  rintro e w' ⟨rfl, s, k⟩
  exact ⟨rfl, fin _ _ _ s k⟩
theorem Dr.later (h : Dr base w0 hb rb P A bs w) (k : Below w.heap.size w w') : Dr base w0 hb rb P A bs w' := by
  obtain ⟨out, h1, fin⟩ := h.step
  exact fin _ _ w' (h1.below k) (h1.kept k)
theorem Dr.leaf (h : Dr base w0 hb rb P A bs w) {f : Nat} {xs : Array Value} {v : Value} (C : ∀ out, DP out hb rb P A w → Calls Try.prog f xs w fun e w' => e = .returned v ∧ Below w.heap.size w w') :
    Calls Try.prog f xs w fun e w' => e = .returned v ∧ Dr base w0 hb rb P A bs w' := by
  obtain ⟨out, h1, fin⟩ := h.step
  refine (C out h1).mono ?_
  rintro e w' ⟨rfl, k⟩
  exact ⟨rfl, fin _ _ w' (h1.below k) (h1.kept k)⟩
theorem Dr.new (h : Dr base w0 hb rb P A bs w) (o : Obj) : Dr base w0 hb rb P A ((w.heap.size, o) :: bs) (w.alloc o) := by
  obtain ⟨out, h1, h2, h3⟩ := h.st
  have hn : w0.heap.size ≤ w.heap.size := h.kept.size
  refine ⟨⟨_, h1.box o, fun b q => .inl (h2 b q), fun p q => ?_⟩, fun p q => ?_, ?_, h.kept.trans (kept_of (box_below w o) fun b q => Nat.lt_of_lt_of_le (h.lt b q) hn), h.lt⟩
  · rcases List.mem_cons.1 q with rfl | q
    · exact .inr rfl
    · exact .inl (h3 p q)
  · rcases List.mem_cons.1 q with rfl | q
    · exact ⟨heap_alloc_new _ _, hn⟩
    · exact ⟨(Below.heap_alloc _ _ _ (h.blk q)).trans (h.box p q).1, (h.box p q).2⟩
  · rw [List.map_cons, List.nodup_cons]
    refine ⟨fun e => ?_, h.nd⟩
    obtain ⟨p, q, e⟩ := List.mem_map.1 e
    have := h.blk q
    omega
theorem Dr.sub {bs' : List (Nat × Obj)} (h : Dr base w0 hb rb P A bs w) (s : bs'.Sublist bs) : Dr base w0 hb rb P A bs' w := by
  obtain ⟨out, h1, h2, h3⟩ := h.st
  exact ⟨⟨out, h1, h2, fun p q => h3 p (s.subset q)⟩, fun p q => h.box p (s.subset q), h.nd.sublist (s.map _), h.kept, h.lt⟩
theorem Dr.swap {a b : Nat × Obj} (h : Dr base w0 hb rb P A (a :: b :: bs) w) : Dr base w0 hb rb P A (b :: a :: bs) w := by
  obtain ⟨out, h1, h2, h3⟩ := h.st
  have hp : ∀ p, p ∈ b :: a :: bs → p ∈ a :: b :: bs := fun p q => by simpa [or_left_comm] using q
  refine ⟨⟨out, h1, h2, fun p q => h3 p (hp p q)⟩, fun p q => h.box p (hp p q), ?_, h.kept, h.lt⟩
  have := h.nd
  simp only [List.map_cons, List.nodup_cons, List.mem_cons, not_or] at this ⊢
  exact ⟨⟨fun e => this.1.1 e.symm, this.2.1⟩, this.1.2, this.2.2⟩
/-- Boxes more. -/
theorem Dr.one (h : Dr base w0 hb rb P A bs w) (a : Ob) : ∃ wb, w.alloc (.cells #[.int .i64 a.k, .bool a.x, .int .i64 a.n, .int .i64 a.a, .int .i64 a.l, .string a.s] 30) = wb ∧ Dr base w0 hb rb P A ((w.heap.size, obObj a.k a.x a.n a.a a.l a.s) :: bs) wb ∧ wb.heap.size = w.heap.size + 1 := ⟨_, rfl, h.new _, World.size_alloc _ _⟩
theorem Dr.two (h : Dr base w0 hb rb P A bs w) (a b : Ob) : ∃ wb, (w.alloc (.cells #[.int .i64 a.k, .bool a.x, .int .i64 a.n, .int .i64 a.a, .int .i64 a.l, .string a.s] 30)).alloc (.cells #[.int .i64 b.k, .bool b.x, .int .i64 b.n, .int .i64 b.a, .int .i64 b.l, .string b.s] 30) = wb ∧ Dr base w0 hb rb P A ((w.heap.size + 1, obObj b.k b.x b.n b.a b.l b.s) :: (w.heap.size, obObj a.k a.x a.n a.a a.l a.s) :: bs) wb ∧ wb.heap.size = w.heap.size + 2 := by
  obtain ⟨w1, e1, h1, z1⟩ := h.one a
  obtain ⟨w2, e2, h2, z2⟩ := h1.one b
  rw [z1] at h2 z2
  exact ⟨w2, by rw [e1, e2], h2, z2⟩
theorem Dr.three (h : Dr base w0 hb rb P A bs w) (a b c : Ob) : ∃ wb, ((w.alloc (.cells #[.int .i64 a.k, .bool a.x, .int .i64 a.n, .int .i64 a.a, .int .i64 a.l, .string a.s] 30)).alloc (.cells #[.int .i64 b.k, .bool b.x, .int .i64 b.n, .int .i64 b.a, .int .i64 b.l, .string b.s] 30)).alloc (.cells #[.int .i64 c.k, .bool c.x, .int .i64 c.n, .int .i64 c.a, .int .i64 c.l, .string c.s] 30) = wb ∧ Dr base w0 hb rb P A ((w.heap.size + 2, obObj c.k c.x c.n c.a c.l c.s) :: (w.heap.size + 1, obObj b.k b.x b.n b.a b.l b.s) :: (w.heap.size, obObj a.k a.x a.n a.a a.l a.s) :: bs) wb ∧ wb.heap.size = w.heap.size + 3 := by
  obtain ⟨w1, e1, h1, z1⟩ := h.two a b
  obtain ⟨w2, e2, h2, z2⟩ := h1.one c
  rw [z1] at h2 z2
  exact ⟨w2, by rw [e1, e2], h2, z2⟩
theorem Dr.at0 {p : Nat × Obj} (h : Dr base w0 hb rb P A (p :: bs) w) : w.heap[p.1]? = some p.2 := (h.box _ (List.mem_cons_self ..)).1
theorem Dr.at1 {p q : Nat × Obj} (h : Dr base w0 hb rb P A (q :: p :: bs) w) : w.heap[p.1]? = some p.2 := (h.box _ (List.mem_cons_of_mem _ (List.mem_cons_self ..))).1
theorem Dr.at2 {p q r : Nat × Obj} (h : Dr base w0 hb rb P A (r :: q :: p :: bs) w) : w.heap[p.1]? = some p.2 := (h.box _ (List.mem_cons_of_mem _ (List.mem_cons_of_mem _ (List.mem_cons_self ..)))).1
theorem Dr.at3 {p q r t : Nat × Obj} (h : Dr base w0 hb rb P A (t :: r :: q :: p :: bs) w) : w.heap[p.1]? = some p.2 := (h.box _ (List.mem_cons_of_mem _ (List.mem_cons_of_mem _ (List.mem_cons_of_mem _ (List.mem_cons_self ..))))).1
theorem Dr.at4 {p q r t u : Nat × Obj} (h : Dr base w0 hb rb P A (u :: t :: r :: q :: p :: bs) w) : w.heap[p.1]? = some p.2 := (h.box _ (List.mem_cons_of_mem _ (List.mem_cons_of_mem _ (List.mem_cons_of_mem _ (List.mem_cons_of_mem _ (List.mem_cons_self ..)))))).1
/-- The newest box is written. -/
theorem Dr.set {b : Nat} {o o' : Obj} (h : Dr base w0 hb rb P A ((b, o) :: bs) w) (on : Only b w w') (hb' : w'.heap[b]? = some o') : Dr base w0 hb rb P A ((b, o') :: bs) w' := by
  obtain ⟨out, h1, h2, h3⟩ := h.st
  have ob : out b := h3 _ (List.mem_cons_self ..)
  have hb0 : w0.heap.size ≤ b := (h.box _ (List.mem_cons_self ..)).2
  have nd := h.nd
  rw [List.map_cons, List.nodup_cons] at nd
  refine ⟨⟨out, (h1.mine (kept_only on fun q => q.2 ob)).sub fun b q => .inl q, h2, fun p q => ?_⟩, fun p q => ?_, ?_, h.kept.trans (kept_only on fun q => Nat.lt_irrefl _ (Nat.lt_of_lt_of_le (h.lt _ q) hb0)), h.lt⟩
  · rcases List.mem_cons.1 q with rfl | q
    · exact ob
    · exact h3 p (List.mem_cons_of_mem _ q)
  · rcases List.mem_cons.1 q with rfl | q
    · exact ⟨hb', hb0⟩
    · refine ⟨(on.block _ fun e => nd.1 (List.mem_map.2 ⟨p, q, e⟩)).trans (h.box p (List.mem_cons_of_mem _ q)).1, (h.box p (List.mem_cons_of_mem _ q)).2⟩
  · rw [List.map_cons, List.nodup_cons]
    exact nd
theorem Dr.put {b : Nat} {k n a l : Int} {x : Bool} {s : ByteArray} (h : Dr base w0 hb rb P A ((b, obObj k x n a l s) :: bs) w) (v : Ob) :
    ∃ w', put6 w b (.int .i64 v.k) (.bool v.x) (.int .i64 v.n) (.int .i64 v.a) (.int .i64 v.l) (.string v.s) = w' ∧ Dr base w0 hb rb P A ((b, obObj v.k v.x v.n v.a v.l v.s) :: bs) w' := by
  have on : Only b w (put6 w b (.int .i64 v.k) (.bool v.x) (.int .i64 v.n) (.int .i64 v.a) (.int .i64 v.l) (.string v.s)) := only6 _ _ _ _ _ _ _ _
  exact ⟨_, rfl, h.set on (set6 h.at0 _ _ _ _ _ _)⟩
end
end Go.Proofs.Ytlkbnldpecolbaa
