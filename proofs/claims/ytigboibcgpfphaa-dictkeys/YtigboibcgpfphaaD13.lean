/- Walks of dict: Set. -/
import Derived.Test.YtigboibcgpfphaaD12
namespace Go.Proofs.Ytigboibcgpfphaa
open Go.RowKit Go.Maps
set_option linter.unusedVariables false

section
variable {role : Nat → Nat × Nat} {c hb : Nat} {vc : Value} {ivs : List Value} {pb : Nat → Nat} {rv : Nat → Value} {P : List Cel} {w w' : World} {d : Ob} {ps : List (Ob × Ob)} {room : Nat} {lk : Bool}
theorem open_is (h : PH role c hb vc ivs pb rv P w) (D : DictC P d ps room lk) : Calls Try.prog 82 #[ptr hb, d.val] w fun e w' => e = .returned (.tuple #[dcV hb d.k d.x d.n d.a d.l d.s ps.length room, .int .i64 0]) ∧ Below w.heap.size w w' := by
  have hv : d.val = obV 10 d.x d.n d.a d.l d.s := by
    rw [← D.k]
    rfl
  have hd : dcV hb d.k d.x d.n d.a d.l d.s ps.length room = dcV hb 10 d.x d.n d.a d.l d.s ps.length room := by rw [D.k]
  rw [hv, hd]
  refine open_walk hb (2 * room + 1) (2 * room) ps.length room d.n d.a d.l d.x d.s w rfl rfl D.le D.most (Lib.hid fun wx kx => ?_) (Lib.hid fun wx kx => ?_)
  · have := size_is (h.below kx) d
    rw [D.len, errO_ok D.ok, hv] at this
    exact this
  · have := dget_is (h.below kx) D (i := 0) (o := Ob.num ps.length) rfl
    rw [hv] at this
    exact this
theorem openFor_is (h : PH role c hb vc ivs pb rv P w) (D : DictC P d ps room lk) (k : Ob) (hk : keyE P k = 0) : Calls Try.prog 75 #[ptr hb, d.val, k.val] w fun e w' => e = .returned (.tuple #[dcV hb d.k d.x d.n d.a d.l d.s ps.length room, (keyO P k).val, .int .i64 0]) ∧ Below w.heap.size w w' := by
  refine openFor_ok hb d.k d.n d.a d.l ps.length room d.x d.s k.k k.n k.a k.l k.x k.s (keyO P k).k (keyO P k).n (keyO P k).a (keyO P k).l (keyO P k).x (keyO P k).s w (Lib.hid fun wx kx => open_is (h.below kx) D) (Lib.hid fun wx kx => ?_)
  have := key_is (h.below kx) k
  rw [hk] at this
  exact this
theorem openFor_no (h : PH role c hb vc ivs pb rv P w) (D : DictC P d ps room lk) (k : Ob) (hk : keyE P k ≠ 0) : Calls Try.prog 75 #[ptr hb, d.val, k.val] w fun e w' => e = .returned (.tuple #[zeroDcV, zeroOb, .int .i64 (keyE P k)]) ∧ Below w.heap.size w w' := by
  refine openFor_key hb d.k d.n d.a d.l ps.length room (keyE P k) d.x d.s k.k k.n k.a k.l k.x k.s w (by simpa using hk) (Lib.hid fun wx kx => open_is (h.below kx) D) (Lib.hid fun wx kx => ?_)
  have := key_is (h.below kx) k
  rw [show keyO P k = Ob.zero from by simp [keyO, hk]] at this
  exact this
end

/-- A heap beside boxes of ours: d, q, v, and the dictionary's cell. -/
structure SetAt (own : Nat → Prop) (hb : Nat) (P : List Cel) (w wx : World) (A C hh : Nat) (d q v : Ob) (dc : Obj) : Prop where
  sep : Sep (fun b => own b ∨ b = A ∨ b = A + 1 ∨ b = A + 2 ∨ b = C) hb P wx
  kept : Kept own w wx
  b0 : wx.heap[A]? = some (obObj d.k d.x d.n d.a d.l d.s)
  b1 : wx.heap[A + 1]? = some (obObj q.k q.x q.n q.a q.l q.s)
  b2 : wx.heap[A + 2]? = some (obObj v.k v.x v.n v.a v.l v.s)
  b3 : wx.heap[C]? = some dc
section
variable {own : Nat → Prop} {hb : Nat} {P P' : List Cel} {w wx wy : World} {A C hh : Nat} {d q k v : Ob} {dc : Obj}
theorem SetAt.below (h : SetAt own hb P w wx A C hh d q v dc) (kx : Below wx.heap.size wx wy) : SetAt own hb P w wy A C hh d q v dc :=
  ⟨(h.sep.below kx).1, h.kept.trans ((h.sep.below kx).2.sub fun b hb => .inl hb), (kx.block _ (blk_lt h.b0)).trans h.b0, (kx.block _ (blk_lt h.b1)).trans h.b1, (kx.block _ (blk_lt h.b2)).trans h.b2, (kx.block _ (blk_lt h.b3)).trans h.b3⟩
theorem SetAt.put (h : SetAt own hb P w wx A C hh d q v dc) (s : Sep (fun b => own b ∨ b = A ∨ b = A + 1 ∨ b = A + 2 ∨ b = C) hb P' wy) (kx : Kept (fun b => own b ∨ b = A ∨ b = A + 1 ∨ b = A + 2 ∨ b = C) wx wy) : SetAt own hb P' w wy A C hh d q v dc :=
  ⟨s, h.kept.trans (kx.sub fun b hb => .inl hb), (kx.block _ (.inr (.inl rfl))).trans h.b0, (kx.block _ (.inr (.inr (.inl rfl)))).trans h.b1, (kx.block _ (.inr (.inr (.inr (.inl rfl))))).trans h.b2, (kx.block _ (.inr (.inr (.inr (.inr rfl))))).trans h.b3⟩
/-- One block of ours has changed. -/
theorem Sep.only {own : Nat → Prop} (h : Sep own hb P wx) (hA : own A) (k : Only A wx wy) : Sep own hb P wy := by
  obtain ⟨role, h1, h2⟩ := h
  refine ⟨role, h1.only k (h2 A hA).2, fun b hb => ⟨by rw [k.size]; exact (h2 b hb).1, (h2 b hb).2⟩⟩
theorem Kept.only {own own' : Nat → Prop} (h : Kept own w wx) (k : Only A wx wy) (hA : ¬ own A) : Kept own w wy :=
  ⟨k.os.trans h.os, k.tape.trans h.tape, k.output.trans h.output, by rw [k.size]; exact h.size, fun b hb => (k.block b (fun e => hA (e ▸ hb))).trans (h.block b hb)⟩
/-- Three boxes of ours. -/
structure Box3 (own : Nat → Prop) (hb : Nat) (P : List Cel) (w wx : World) (A : Nat) (d k v : Ob) : Prop where
  sep : Sep (fun b => own b ∨ b = A ∨ b = A + 1 ∨ b = A + 2) hb P wx
  kept : Kept own w wx
  b0 : wx.heap[A]? = some (obObj d.k d.x d.n d.a d.l d.s)
  b1 : wx.heap[A + 1]? = some (obObj k.k k.x k.n k.a k.l k.s)
  b2 : wx.heap[A + 2]? = some (obObj v.k v.x v.n v.a v.l v.s)
theorem Box3.below (h : Box3 own hb P w wx A d k v) (kx : Below wx.heap.size wx wy) : Box3 own hb P w wy A d k v :=
  ⟨(h.sep.below kx).1, h.kept.trans ((h.sep.below kx).2.sub fun b hb => .inl hb), (kx.block _ (blk_lt h.b0)).trans h.b0, (kx.block _ (blk_lt h.b1)).trans h.b1, (kx.block _ (blk_lt h.b2)).trans h.b2⟩
theorem Box3.start (h : Sep own hb P w) (d k v : Ob) :
    ∃ wb, (((w.alloc (.cells #[.int .i64 d.k, .bool d.x, .int .i64 d.n, .int .i64 d.a, .int .i64 d.l, .string d.s] 26)).alloc (.cells #[.int .i64 k.k, .bool k.x, .int .i64 k.n, .int .i64 k.a, .int .i64 k.l, .string k.s] 26)).alloc (.cells #[.int .i64 v.k, .bool v.x, .int .i64 v.n, .int .i64 v.a, .int .i64 v.l, .string v.s] 26)) = wb ∧ Box3 own hb P w wb w.heap.size d k v := by
  obtain ⟨w1, e1, s1, k1, o1⟩ := h.box_ob d.k d.x d.n d.a d.l d.s
  have z1 : w1.heap.size = w.heap.size + 1 := by rw [← e1]; simp
  obtain ⟨w2, e2, s2, k2, o2⟩ := s1.box_ob k.k k.x k.n k.a k.l k.s
  have z2 : w2.heap.size = w.heap.size + 2 := by rw [← e2]; simp [z1]
  obtain ⟨w3, e3, s3, k3, o3⟩ := s2.box_ob v.k v.x v.n v.a v.l v.s
  rw [e1, e2, e3]
  rw [z1] at s2 k3 o2 s3
  rw [z2] at o3 s3
  refine ⟨w3, rfl, s3.sub fun b hb => ?_, (k1.trans (k2.sub fun b hb => .inl hb)).trans (k3.sub fun b hb => .inl (.inl hb)), ?_, ?_, o3⟩
  · rcases hb with hb | hb | hb | hb
    · exact .inl (.inl (.inl hb))
    · exact .inl (.inl (.inr hb))
    · exact .inl (.inr hb)
    · exact .inr hb
  · rw [k3.block _ (.inl (.inr rfl)), k2.block _ (.inr rfl)]
    exact o1
  · rw [k3.block _ (.inr rfl)]
    exact o2
/-- Behind openFor: the cell in a new box, the key in the place of k. -/
theorem Box3.opened (h : Box3 own hb P w wx A d k v) (hA : ∀ b, own b → b < A) (cs : Array Value) (q : Ob) : SetAt own hb P w (put6 (wx.alloc (.cells cs 118)) (A + 1) (.int .i64 q.k) (.bool q.x) (.int .i64 q.n) (.int .i64 q.a) (.int .i64 q.l) (.string q.s)) A wx.heap.size hh d q v (.cells cs 118 (0, 0)) := by
  have hx := h.sep.box (.cells cs 118)
  have on : Only (A + 1) (wx.alloc (.cells cs 118)) (put6 (wx.alloc (.cells cs 118)) (A + 1) (.int .i64 q.k) (.bool q.x) (.int .i64 q.n) (.int .i64 q.a) (.int .i64 q.l) (.string q.s)) := only6 _ _ _ _ _ _ _ _
  have kb := box_below wx (.cells cs 118)
  have l1 := blk_lt h.b1
  refine ⟨(hx.only (.inl (.inr (.inr (.inl rfl)))) on).sub fun b hb => ?_, (h.kept.trans ((h.sep.below kb).2.sub fun b hb => .inl hb)).only (own' := own) on (fun e => by have := hA _ e; omega), ?_, ?_, ?_, ?_⟩
  · rcases hb with hb | hb | hb | hb | hb
    · exact .inl (.inl hb)
    · exact .inl (.inr (.inl hb))
    · exact .inl (.inr (.inr (.inl hb)))
    · exact .inl (.inr (.inr (.inr hb)))
    · exact .inr hb
  · rw [on.block _ (by omega), kb.block _ (blk_lt h.b0)]
    exact h.b0
  · exact set6 ((kb.block _ l1).trans h.b1) _ _ _ _ _ _
  · rw [on.block _ (by omega), kb.block _ (blk_lt h.b2)]
    exact h.b2
  · rw [on.block _ (by omega)]
    exact heap_alloc_new _ _
end

section
variable {own : Nat → Prop} {hb : Nat} {P : List Cel} {w : World} {d k v : Ob} {ps : List (Ob × Ob)} {room : Nat} {lk : Bool}
set_option maxHeartbeats 1000000 in
set_option maxRecDepth 100000 in
theorem set_may (h : Sep own hb P w) (D : DictC P d ps room lk) (hA : ∀ b, own b → b < w.heap.size) (hk : keyE P k = 0) (hm : mayH P v = false) :
    Calls Try.prog 38 #[ptr hb, d.val, k.val, v.val] w fun e w' => e = .returned (.int .i64 1) ∧ Sep own hb P w' ∧ Kept own w w' := by
  show Calls Try.prog 38 #[ptr hb, obV d.k d.x d.n d.a d.l d.s, obV k.k k.x k.n k.a k.l k.s, obV v.k v.x v.n v.a v.l v.s] w _
  have H := Lib.hid h
  have HD := Lib.hid D
  have HA := Lib.hid hA
  have HK := Lib.hid hk
  have HM := Lib.hid hm
  clear h D hA hk hm
  go_enter Try.func38, Try.ntmps38
  go_upto_region 1 with fail
  obtain ⟨wb, eb, st⟩ := Box3.start H.out d k v
  rw [eb]
  have ST := Lib.hid st
  obtain ⟨o0, o1, o2, o3, o4, o5⟩ := ob_cells st.b0
  obtain ⟨p0, p1, p2, p3, p4, p5⟩ := ob_cells st.b1
  clear eb st
  go_wp2_with fail
  have hop : Calls Try.prog 75 #[ptr hb, d.val, k.val] wb fun e w' => e = .returned (.tuple #[dcV hb d.k d.x d.n d.a d.l d.s ps.length room, (keyO P k).val, .int .i64 0]) ∧ Below wb.heap.size wb w' := by
    obtain ⟨role, ⟨vc, ivs, pb, rv, h1⟩, h2⟩ := ST.out.sep
    exact openFor_is h1 HD.out k HK.out
  obtain ⟨q, hq⟩ : ∃ q, keyO P k = q := ⟨_, rfl⟩
  rw [hq] at hop
  have HQ := Lib.hid hq
  simp only [Ob.val] at hop
  clear hq
  refine hop.mono ?_
  rintro e w1 ⟨rfl, k1⟩
  have S1 := Lib.hid (ST.out.below k1)
  clear hop k1 o0 o1 o2 o3 o4 o5 p0 p1 p2 p3 p4 p5
  obtain ⟨⟨p0, p1, p2, p3, p4, p5⟩, f0, f1, f2, f3, f4, f5⟩ := later6 S1.out.b1
  go_upto_region 2 with fail
  obtain ⟨w3, e3⟩ : ∃ w3, put6 (w1.alloc (.cells #[ptr hb, .int .i64 d.k, .bool d.x, .int .i64 d.n, .int .i64 d.a, .int .i64 d.l, .string d.s, .int .i64 ps.length, .int .i64 room] 118)) (w.heap.size + 1) (.int .i64 q.k) (.bool q.x) (.int .i64 q.n) (.int .i64 q.a) (.int .i64 q.l) (.string q.s) = w3 := ⟨_, rfl⟩
  have go := S1.out.opened (hh := hb) HA.out #[ptr hb, .int .i64 d.k, .bool d.x, .int .i64 d.n, .int .i64 d.a, .int .i64 d.l, .string d.s, .int .i64 ps.length, .int .i64 room] q
  rw [e3] at go
  unfold put6 at e3
  rw [e3]
  have GO := Lib.hid go
  clear go e3 p0 p1 p2 p3 p4 p5 f0 f1 f2 f3 f4 f5
  obtain ⟨v0, v1, v2, v3, v4, v5⟩ := ob_cells GO.out.b2
  obtain ⟨d0, d1, d2, d3, d4, d5, d6, d7, d8⟩ := dc_cells GO.out.b3
  go_wp2_with fail
  have hmay : Calls Try.prog 70 #[ptr hb, v.val] w3 fun e w' => e = .returned (.bool false) ∧ Below w3.heap.size w3 w' := by
    obtain ⟨role, ⟨vc, ivs, pb, rv, h1⟩, h2⟩ := GO.out.sep
    have := mayH_is h1 v
    rw [HM.out] at this
    exact this
  refine hmay.mono ?_
  rintro e w4 ⟨rfl, k4⟩
  replace GO := Lib.hid (GO.out.below k4)
  clear hmay k4 v0 v1 v2 v3 v4 v5 d0 d1 d2 d3 d4 d5 d6 d7 d8
  go_wp2
  go_ret
  exact ⟨rfl, GO.out.sep.sub fun b hb => .inl hb, GO.out.kept⟩

set_option maxHeartbeats 1000000 in
set_option maxRecDepth 100000 in
theorem set_lock (h : Sep own hb P w) (D : DictC P d ps room lk) (hA : ∀ b, own b → b < w.heap.size) (hk : keyE P k = 0) (hm : mayH P v = true) (hl : lk = true) :
    Calls Try.prog 38 #[ptr hb, d.val, k.val, v.val] w fun e w' => e = .returned (.int .i64 1) ∧ Sep own hb P w' ∧ Kept own w w' := by
  show Calls Try.prog 38 #[ptr hb, obV d.k d.x d.n d.a d.l d.s, obV k.k k.x k.n k.a k.l k.s, obV v.k v.x v.n v.a v.l v.s] w _
  have H := Lib.hid h
  have HD := Lib.hid D
  have HA := Lib.hid hA
  subst hl
  have HK := Lib.hid hk
  have HM := Lib.hid hm
  clear h D hA hk hm
  go_enter Try.func38, Try.ntmps38
  go_upto_region 1 with fail
  obtain ⟨wb, eb, st⟩ := Box3.start H.out d k v
  rw [eb]
  have ST := Lib.hid st
  obtain ⟨o0, o1, o2, o3, o4, o5⟩ := ob_cells st.b0
  obtain ⟨p0, p1, p2, p3, p4, p5⟩ := ob_cells st.b1
  clear eb st
  go_wp2_with fail
  have hop : Calls Try.prog 75 #[ptr hb, d.val, k.val] wb fun e w' => e = .returned (.tuple #[dcV hb d.k d.x d.n d.a d.l d.s ps.length room, (keyO P k).val, .int .i64 0]) ∧ Below wb.heap.size wb w' := by
    obtain ⟨role, ⟨vc, ivs, pb, rv, h1⟩, h2⟩ := ST.out.sep
    exact openFor_is h1 HD.out k HK.out
  obtain ⟨q, hq⟩ : ∃ q, keyO P k = q := ⟨_, rfl⟩
  rw [hq] at hop
  have HQ := Lib.hid hq
  simp only [Ob.val] at hop
  clear hq
  refine hop.mono ?_
  rintro e w1 ⟨rfl, k1⟩
  have S1 := Lib.hid (ST.out.below k1)
  clear hop k1 o0 o1 o2 o3 o4 o5 p0 p1 p2 p3 p4 p5
  obtain ⟨⟨p0, p1, p2, p3, p4, p5⟩, f0, f1, f2, f3, f4, f5⟩ := later6 S1.out.b1
  go_upto_region 2 with fail
  obtain ⟨w3, e3⟩ : ∃ w3, put6 (w1.alloc (.cells #[ptr hb, .int .i64 d.k, .bool d.x, .int .i64 d.n, .int .i64 d.a, .int .i64 d.l, .string d.s, .int .i64 ps.length, .int .i64 room] 118)) (w.heap.size + 1) (.int .i64 q.k) (.bool q.x) (.int .i64 q.n) (.int .i64 q.a) (.int .i64 q.l) (.string q.s) = w3 := ⟨_, rfl⟩
  have go := S1.out.opened (hh := hb) HA.out #[ptr hb, .int .i64 d.k, .bool d.x, .int .i64 d.n, .int .i64 d.a, .int .i64 d.l, .string d.s, .int .i64 ps.length, .int .i64 room] q
  rw [e3] at go
  unfold put6 at e3
  rw [e3]
  have GO := Lib.hid go
  clear go e3 p0 p1 p2 p3 p4 p5 f0 f1 f2 f3 f4 f5
  obtain ⟨v0, v1, v2, v3, v4, v5⟩ := ob_cells GO.out.b2
  obtain ⟨d0, d1, d2, d3, d4, d5, d6, d7, d8⟩ := dc_cells GO.out.b3
  go_wp2_with fail
  have hmay : Calls Try.prog 70 #[ptr hb, v.val] w3 fun e w' => e = .returned (.bool true) ∧ Below w3.heap.size w3 w' := by
    obtain ⟨role, ⟨vc, ivs, pb, rv, h1⟩, h2⟩ := GO.out.sep
    have := mayH_is h1 v
    rw [HM.out] at this
    exact this
  refine hmay.mono ?_
  rintro e w4 ⟨rfl, k4⟩
  replace GO := Lib.hid (GO.out.below k4)
  clear hmay k4 v0 v1 v2 v3 v4 v5 d0 d1 d2 d3 d4 d5 d6 d7 d8
  obtain ⟨d0, d1, d2, d3, d4, d5, d6, d7, d8⟩ := dc_cells GO.out.b3
  go_wp2_with fail
  refine (sLocked GO.out.sep HD.out ps.length room).mono ?_
  rintro e w5 ⟨rfl, s5, k5⟩
  replace GO := Lib.hid (GO.out.put s5 k5)
  clear s5 k5 d0 d1 d2 d3 d4 d5 d6 d7 d8
  go_wp2
  go_ret
  exact ⟨rfl, GO.out.sep.sub fun b hb => .inl hb, GO.out.kept⟩

set_option maxHeartbeats 1000000 in
set_option maxRecDepth 100000 in
theorem set_full (h : Sep own hb P w) (D : DictC P d ps room lk) (hA : ∀ b, own b → b < w.heap.size) (hk : keyE P k = 0) (hm : mayH P v = true) (hl : lk = false) (hf : (keyO P k).Fine) (hi : ixD ps (keyO P k) ps.length = none) (hp : ps.length = room) :
    Calls Try.prog 38 #[ptr hb, d.val, k.val, v.val] w fun e w' => e = .returned (.int .i64 20) ∧ Sep own hb P w' ∧ Kept own w w' := by
  show Calls Try.prog 38 #[ptr hb, obV d.k d.x d.n d.a d.l d.s, obV k.k k.x k.n k.a k.l k.s, obV v.k v.x v.n v.a v.l v.s] w _
  have H := Lib.hid h
  have HD := Lib.hid D
  have HA := Lib.hid hA
  subst hl
  have HK := Lib.hid hk
  have HM := Lib.hid hm
  have HF := Lib.hid hf
  have HI := Lib.hid hi
  have HP : Hid (((ps.length : Int) == (room : Int)) = true) := Lib.hid (by rw [hp]; simp)
  clear h D hA hk hm hf hi hp
  go_enter Try.func38, Try.ntmps38
  go_upto_region 1 with fail
  obtain ⟨wb, eb, st⟩ := Box3.start H.out d k v
  rw [eb]
  have ST := Lib.hid st
  obtain ⟨o0, o1, o2, o3, o4, o5⟩ := ob_cells st.b0
  obtain ⟨p0, p1, p2, p3, p4, p5⟩ := ob_cells st.b1
  clear eb st
  go_wp2_with fail
  have hop : Calls Try.prog 75 #[ptr hb, d.val, k.val] wb fun e w' => e = .returned (.tuple #[dcV hb d.k d.x d.n d.a d.l d.s ps.length room, (keyO P k).val, .int .i64 0]) ∧ Below wb.heap.size wb w' := by
    obtain ⟨role, ⟨vc, ivs, pb, rv, h1⟩, h2⟩ := ST.out.sep
    exact openFor_is h1 HD.out k HK.out
  obtain ⟨q, hq⟩ : ∃ q, keyO P k = q := ⟨_, rfl⟩
  rw [hq] at hop
  have HQ := Lib.hid hq
  simp only [Ob.val] at hop
  clear hq
  refine hop.mono ?_
  rintro e w1 ⟨rfl, k1⟩
  have S1 := Lib.hid (ST.out.below k1)
  clear hop k1 o0 o1 o2 o3 o4 o5 p0 p1 p2 p3 p4 p5
  obtain ⟨⟨p0, p1, p2, p3, p4, p5⟩, f0, f1, f2, f3, f4, f5⟩ := later6 S1.out.b1
  go_upto_region 2 with fail
  obtain ⟨w3, e3⟩ : ∃ w3, put6 (w1.alloc (.cells #[ptr hb, .int .i64 d.k, .bool d.x, .int .i64 d.n, .int .i64 d.a, .int .i64 d.l, .string d.s, .int .i64 ps.length, .int .i64 room] 118)) (w.heap.size + 1) (.int .i64 q.k) (.bool q.x) (.int .i64 q.n) (.int .i64 q.a) (.int .i64 q.l) (.string q.s) = w3 := ⟨_, rfl⟩
  have go := S1.out.opened (hh := hb) HA.out #[ptr hb, .int .i64 d.k, .bool d.x, .int .i64 d.n, .int .i64 d.a, .int .i64 d.l, .string d.s, .int .i64 ps.length, .int .i64 room] q
  rw [e3] at go
  unfold put6 at e3
  rw [e3]
  have GO := Lib.hid go
  clear go e3 p0 p1 p2 p3 p4 p5 f0 f1 f2 f3 f4 f5
  obtain ⟨v0, v1, v2, v3, v4, v5⟩ := ob_cells GO.out.b2
  obtain ⟨d0, d1, d2, d3, d4, d5, d6, d7, d8⟩ := dc_cells GO.out.b3
  go_wp2_with fail
  have hmay : Calls Try.prog 70 #[ptr hb, v.val] w3 fun e w' => e = .returned (.bool true) ∧ Below w3.heap.size w3 w' := by
    obtain ⟨role, ⟨vc, ivs, pb, rv, h1⟩, h2⟩ := GO.out.sep
    have := mayH_is h1 v
    rw [HM.out] at this
    exact this
  refine hmay.mono ?_
  rintro e w4 ⟨rfl, k4⟩
  replace GO := Lib.hid (GO.out.below k4)
  clear hmay k4 v0 v1 v2 v3 v4 v5 d0 d1 d2 d3 d4 d5 d6 d7 d8
  obtain ⟨d0, d1, d2, d3, d4, d5, d6, d7, d8⟩ := dc_cells GO.out.b3
  go_wp2_with fail
  refine (sLocked GO.out.sep HD.out ps.length room).mono ?_
  rintro e w5 ⟨rfl, s5, k5⟩
  replace GO := Lib.hid (GO.out.put s5 k5)
  clear s5 k5 d0 d1 d2 d3 d4 d5 d6 d7 d8
  obtain ⟨d0, d1, d2, d3, d4, d5, d6, d7, d8⟩ := dc_cells GO.out.b3
  obtain ⟨q0, q1, q2, q3, q4, q5⟩ := ob_cells GO.out.b1
  go_wp2_with fail
  have hfind : Calls Try.prog 77 #[dcV hb d.k d.x d.n d.a d.l d.s ps.length room, q.val] w5 fun e w' => e = .returned (.tuple #[.int .i64 (atI (ixD ps q ps.length)), .bool (ixD ps q ps.length).isSome]) ∧ Below w5.heap.size w5 w' := by
    obtain ⟨role, ⟨vc, ivs, pb, rv, h1⟩, h2⟩ := GO.out.sep
    exact find_is h1 HD.out q (by rw [← HQ.out]; exact HF.out)
  rw [show ixD ps q ps.length = none from by rw [← HQ.out]; exact HI.out] at hfind
  refine hfind.mono ?_
  rintro e w6 ⟨rfl, k6⟩
  replace GO := Lib.hid (GO.out.below k6)
  clear hfind k6 d0 d1 d2 d3 d4 d5 d6 d7 d8 q0 q1 q2 q3 q4 q5
  obtain ⟨d0, d1, d2, d3, d4, d5, d6, d7, d8⟩ := dc_cells GO.out.b3
  have hpr := HP.out
  go_wp2
  go_ret
  exact ⟨rfl, GO.out.sep.sub fun b hb => .inl hb, GO.out.kept⟩

set_option maxHeartbeats 1000000 in
set_option maxRecDepth 100000 in
theorem set_add (h : Sep own hb P w) (D : DictC P d ps room lk) (hA : ∀ b, own b → b < w.heap.size) (hk : keyE P k = 0) (hm : mayH P v = true) (hl : lk = false) (hf : (keyO P k).Fine) (hi : ixD ps (keyO P k) ps.length = none) (hp : ps.length < room) (hmq : mayH P (keyO P k) = true) :
    Calls Try.prog 38 #[ptr hb, d.val, k.val, v.val] w fun e w' => e = .returned (.int .i64 0) ∧ Sep own hb (P.set d.n.toNat ⟨10, false, itemsD (ps ++ [(keyO P k, v)]) room, []⟩) w' ∧ Kept own w w' := by
  show Calls Try.prog 38 #[ptr hb, obV d.k d.x d.n d.a d.l d.s, obV k.k k.x k.n k.a k.l k.s, obV v.k v.x v.n v.a v.l v.s] w _
  have H := Lib.hid h
  have HD := Lib.hid D
  have HA := Lib.hid hA
  subst hl
  have HK := Lib.hid hk
  have HM := Lib.hid hm
  have HF := Lib.hid hf
  have HI := Lib.hid hi
  have HP : Hid (((ps.length : Int) == (room : Int)) = false) := Lib.hid (by simp; omega)
  have HR := Lib.hid hp
  have HMQ := Lib.hid hmq
  clear h D hA hk hm hf hi hp hmq
  go_enter Try.func38, Try.ntmps38
  go_upto_region 1 with fail
  obtain ⟨wb, eb, st⟩ := Box3.start H.out d k v
  rw [eb]
  have ST := Lib.hid st
  obtain ⟨o0, o1, o2, o3, o4, o5⟩ := ob_cells st.b0
  obtain ⟨p0, p1, p2, p3, p4, p5⟩ := ob_cells st.b1
  clear eb st
  go_wp2_with fail
  have hop : Calls Try.prog 75 #[ptr hb, d.val, k.val] wb fun e w' => e = .returned (.tuple #[dcV hb d.k d.x d.n d.a d.l d.s ps.length room, (keyO P k).val, .int .i64 0]) ∧ Below wb.heap.size wb w' := by
    obtain ⟨role, ⟨vc, ivs, pb, rv, h1⟩, h2⟩ := ST.out.sep
    exact openFor_is h1 HD.out k HK.out
  obtain ⟨q, hq⟩ : ∃ q, keyO P k = q := ⟨_, rfl⟩
  rw [hq] at hop
  have HQ := Lib.hid hq
  simp only [Ob.val] at hop
  clear hq
  refine hop.mono ?_
  rintro e w1 ⟨rfl, k1⟩
  have S1 := Lib.hid (ST.out.below k1)
  clear hop k1 o0 o1 o2 o3 o4 o5 p0 p1 p2 p3 p4 p5
  obtain ⟨⟨p0, p1, p2, p3, p4, p5⟩, f0, f1, f2, f3, f4, f5⟩ := later6 S1.out.b1
  go_upto_region 2 with fail
  obtain ⟨w3, e3⟩ : ∃ w3, put6 (w1.alloc (.cells #[ptr hb, .int .i64 d.k, .bool d.x, .int .i64 d.n, .int .i64 d.a, .int .i64 d.l, .string d.s, .int .i64 ps.length, .int .i64 room] 118)) (w.heap.size + 1) (.int .i64 q.k) (.bool q.x) (.int .i64 q.n) (.int .i64 q.a) (.int .i64 q.l) (.string q.s) = w3 := ⟨_, rfl⟩
  have go := S1.out.opened (hh := hb) HA.out #[ptr hb, .int .i64 d.k, .bool d.x, .int .i64 d.n, .int .i64 d.a, .int .i64 d.l, .string d.s, .int .i64 ps.length, .int .i64 room] q
  rw [e3] at go
  unfold put6 at e3
  rw [e3]
  have GO := Lib.hid go
  clear go e3 p0 p1 p2 p3 p4 p5 f0 f1 f2 f3 f4 f5
  obtain ⟨v0, v1, v2, v3, v4, v5⟩ := ob_cells GO.out.b2
  obtain ⟨d0, d1, d2, d3, d4, d5, d6, d7, d8⟩ := dc_cells GO.out.b3
  go_wp2_with fail
  have hmay : Calls Try.prog 70 #[ptr hb, v.val] w3 fun e w' => e = .returned (.bool true) ∧ Below w3.heap.size w3 w' := by
    obtain ⟨role, ⟨vc, ivs, pb, rv, h1⟩, h2⟩ := GO.out.sep
    have := mayH_is h1 v
    rw [HM.out] at this
    exact this
  refine hmay.mono ?_
  rintro e w4 ⟨rfl, k4⟩
  replace GO := Lib.hid (GO.out.below k4)
  clear hmay k4 v0 v1 v2 v3 v4 v5 d0 d1 d2 d3 d4 d5 d6 d7 d8
  obtain ⟨d0, d1, d2, d3, d4, d5, d6, d7, d8⟩ := dc_cells GO.out.b3
  go_wp2_with fail
  refine (sLocked GO.out.sep HD.out ps.length room).mono ?_
  rintro e w5 ⟨rfl, s5, k5⟩
  replace GO := Lib.hid (GO.out.put s5 k5)
  clear s5 k5 d0 d1 d2 d3 d4 d5 d6 d7 d8
  obtain ⟨d0, d1, d2, d3, d4, d5, d6, d7, d8⟩ := dc_cells GO.out.b3
  obtain ⟨q0, q1, q2, q3, q4, q5⟩ := ob_cells GO.out.b1
  go_wp2_with fail
  have hfind : Calls Try.prog 77 #[dcV hb d.k d.x d.n d.a d.l d.s ps.length room, q.val] w5 fun e w' => e = .returned (.tuple #[.int .i64 (atI (ixD ps q ps.length)), .bool (ixD ps q ps.length).isSome]) ∧ Below w5.heap.size w5 w' := by
    obtain ⟨role, ⟨vc, ivs, pb, rv, h1⟩, h2⟩ := GO.out.sep
    exact find_is h1 HD.out q (by rw [← HQ.out]; exact HF.out)
  rw [show ixD ps q ps.length = none from by rw [← HQ.out]; exact HI.out] at hfind
  refine hfind.mono ?_
  rintro e w6 ⟨rfl, k6⟩
  replace GO := Lib.hid (GO.out.below k6)
  clear hfind k6 d0 d1 d2 d3 d4 d5 d6 d7 d8 q0 q1 q2 q3 q4 q5
  obtain ⟨d0, d1, d2, d3, d4, d5, d6, d7, d8⟩ := dc_cells GO.out.b3
  obtain ⟨q0, q1, q2, q3, q4, q5⟩ := ob_cells GO.out.b1
  obtain ⟨v0, v1, v2, v3, v4, v5⟩ := ob_cells GO.out.b2
  have hpr := HP.out
  go_wp2_with fail
  refine (sAdd GO.out.sep HD.out.r room ps.length (2 * ps.length + 1) rfl (Nat.le_trans HD.out.le HD.out.most) (by rw [itemsD_length HD.out.le]; have := HR.out; omega) (by rw [← HQ.out]; exact HMQ.out) HM.out).mono ?_
  rintro e w7 ⟨rfl, s7, k7⟩
  rw [show 2 * ps.length + 1 + 1 = 2 * ps.length + 2 from rfl, items_add HR.out] at s7
  replace GO := Lib.hid (GO.out.put s7 k7)
  clear s7 k7 d0 d1 d2 d3 d4 d5 d6 d7 d8 q0 q1 q2 q3 q4 q5 v0 v1 v2 v3 v4 v5
  have HQ2 := HQ.out
  subst HQ2
  go_wp2
  go_ret
  exact ⟨rfl, GO.out.sep.sub fun b hb => .inl hb, GO.out.kept⟩

set_option maxHeartbeats 1000000 in
set_option maxRecDepth 100000 in
theorem set_have (h : Sep own hb P w) (D : DictC P d ps room lk) (hA : ∀ b, own b → b < w.heap.size) (hk : keyE P k = 0) (hm : mayH P v = true) (hl : lk = false) (hf : (keyO P k).Fine) (i A B : Nat) (hAA : A = 2 * i + 1) (hB : B = 2 * i + 2) (p : Ob × Ob) (hi : ixD ps (keyO P k) ps.length = some i) (hp : ps[i]? = some p) :
    Calls Try.prog 38 #[ptr hb, d.val, k.val, v.val] w fun e w' => e = .returned (.int .i64 0) ∧ Sep own hb (P.set d.n.toNat ⟨10, false, itemsD (ps.set i (p.1, v)) room, []⟩) w' ∧ Kept own w w' := by
  show Calls Try.prog 38 #[ptr hb, obV d.k d.x d.n d.a d.l d.s, obV k.k k.x k.n k.a k.l k.s, obV v.k v.x v.n v.a v.l v.s] w _
  have H := Lib.hid h
  have HD := Lib.hid D
  have HA := Lib.hid hA
  subst hl
  have HK := Lib.hid hk
  have HM := Lib.hid hm
  have HF := Lib.hid hf
  have HAA := Lib.hid hAA
  have HB := Lib.hid hB
  have HI := Lib.hid hi
  have HI2 : Hid (i < ps.length ∧ ps[i]? = some p) := Lib.hid ⟨(List.getElem?_eq_some_iff.1 hp).1, hp⟩
  have HW : Hid (IntKind.i64.wrap ((A : Int) + 1) = (B : Int)) := Lib.hid (by have := (List.getElem?_eq_some_iff.1 hp).1; have := D.le; have := D.most; rw [wrapi_in _ (by omega) (by omega)]; omega)
  clear h D hA hk hm hf hi hp hAA hB
  go_enter Try.func38, Try.ntmps38
  go_upto_region 1 with fail
  obtain ⟨wb, eb, st⟩ := Box3.start H.out d k v
  rw [eb]
  have ST := Lib.hid st
  obtain ⟨o0, o1, o2, o3, o4, o5⟩ := ob_cells st.b0
  obtain ⟨p0, p1, p2, p3, p4, p5⟩ := ob_cells st.b1
  clear eb st
  go_wp2_with fail
  have hop : Calls Try.prog 75 #[ptr hb, d.val, k.val] wb fun e w' => e = .returned (.tuple #[dcV hb d.k d.x d.n d.a d.l d.s ps.length room, (keyO P k).val, .int .i64 0]) ∧ Below wb.heap.size wb w' := by
    obtain ⟨role, ⟨vc, ivs, pb, rv, h1⟩, h2⟩ := ST.out.sep
    exact openFor_is h1 HD.out k HK.out
  obtain ⟨q, hq⟩ : ∃ q, keyO P k = q := ⟨_, rfl⟩
  rw [hq] at hop
  have HQ := Lib.hid hq
  simp only [Ob.val] at hop
  clear hq
  refine hop.mono ?_
  rintro e w1 ⟨rfl, k1⟩
  have S1 := Lib.hid (ST.out.below k1)
  clear hop k1 o0 o1 o2 o3 o4 o5 p0 p1 p2 p3 p4 p5
  obtain ⟨⟨p0, p1, p2, p3, p4, p5⟩, f0, f1, f2, f3, f4, f5⟩ := later6 S1.out.b1
  go_upto_region 2 with fail
  obtain ⟨w3, e3⟩ : ∃ w3, put6 (w1.alloc (.cells #[ptr hb, .int .i64 d.k, .bool d.x, .int .i64 d.n, .int .i64 d.a, .int .i64 d.l, .string d.s, .int .i64 ps.length, .int .i64 room] 118)) (w.heap.size + 1) (.int .i64 q.k) (.bool q.x) (.int .i64 q.n) (.int .i64 q.a) (.int .i64 q.l) (.string q.s) = w3 := ⟨_, rfl⟩
  have go := S1.out.opened (hh := hb) HA.out #[ptr hb, .int .i64 d.k, .bool d.x, .int .i64 d.n, .int .i64 d.a, .int .i64 d.l, .string d.s, .int .i64 ps.length, .int .i64 room] q
  rw [e3] at go
  unfold put6 at e3
  rw [e3]
  have GO := Lib.hid go
  clear go e3 p0 p1 p2 p3 p4 p5 f0 f1 f2 f3 f4 f5
  obtain ⟨v0, v1, v2, v3, v4, v5⟩ := ob_cells GO.out.b2
  obtain ⟨d0, d1, d2, d3, d4, d5, d6, d7, d8⟩ := dc_cells GO.out.b3
  go_wp2_with fail
  have hmay : Calls Try.prog 70 #[ptr hb, v.val] w3 fun e w' => e = .returned (.bool true) ∧ Below w3.heap.size w3 w' := by
    obtain ⟨role, ⟨vc, ivs, pb, rv, h1⟩, h2⟩ := GO.out.sep
    have := mayH_is h1 v
    rw [HM.out] at this
    exact this
  refine hmay.mono ?_
  rintro e w4 ⟨rfl, k4⟩
  replace GO := Lib.hid (GO.out.below k4)
  clear hmay k4 v0 v1 v2 v3 v4 v5 d0 d1 d2 d3 d4 d5 d6 d7 d8
  obtain ⟨d0, d1, d2, d3, d4, d5, d6, d7, d8⟩ := dc_cells GO.out.b3
  go_wp2_with fail
  refine (sLocked GO.out.sep HD.out ps.length room).mono ?_
  rintro e w5 ⟨rfl, s5, k5⟩
  replace GO := Lib.hid (GO.out.put s5 k5)
  clear s5 k5 d0 d1 d2 d3 d4 d5 d6 d7 d8
  obtain ⟨d0, d1, d2, d3, d4, d5, d6, d7, d8⟩ := dc_cells GO.out.b3
  obtain ⟨q0, q1, q2, q3, q4, q5⟩ := ob_cells GO.out.b1
  go_wp2_with fail
  have hfind : Calls Try.prog 77 #[dcV hb d.k d.x d.n d.a d.l d.s ps.length room, q.val] w5 fun e w' => e = .returned (.tuple #[.int .i64 (atI (ixD ps q ps.length)), .bool (ixD ps q ps.length).isSome]) ∧ Below w5.heap.size w5 w' := by
    obtain ⟨role, ⟨vc, ivs, pb, rv, h1⟩, h2⟩ := GO.out.sep
    exact find_is h1 HD.out q (by rw [← HQ.out]; exact HF.out)
  rw [show ixD ps q ps.length = some i from by rw [← HQ.out]; exact HI.out] at hfind
  rw [show atI (some i) = (A : Int) from by simp [atI, HAA.out]] at hfind
  refine hfind.mono ?_
  rintro e w6 ⟨rfl, k6⟩
  replace GO := Lib.hid (GO.out.below k6)
  clear hfind k6 d0 d1 d2 d3 d4 d5 d6 d7 d8 q0 q1 q2 q3 q4 q5
  obtain ⟨o0, o1, o2, o3, o4, o5⟩ := ob_cells GO.out.b0
  obtain ⟨v0, v1, v2, v3, v4, v5⟩ := ob_cells GO.out.b2
  have hw := HW.out
  go_wp2_with fail
  have hput := HD.out.r.put (i := B) (x := v) (by rw [itemsD_length HD.out.le]; have := HI2.out.1; have := HD.out.le; have := HB.out; omega) HM.out
  have hset := sSet GO.out.sep d (B : Int) v 0 _ hput.1 hput.2
  rw [HB.out, items_update HI2.out.2, ← HB.out] at hset
  refine hset.mono ?_
  rintro e w7 ⟨rfl, s7, k7⟩
  replace GO := Lib.hid (GO.out.put s7 k7)
  clear hset hput s7 k7 o0 o1 o2 o3 o4 o5 v0 v1 v2 v3 v4 v5
  go_wp2
  go_ret
  exact ⟨rfl, GO.out.sep.sub fun b hb => .inl hb, GO.out.kept⟩

set_option maxHeartbeats 1000000 in
set_option maxRecDepth 100000 in
theorem set_fail (h : Sep own hb P w) (D : DictC P d ps room lk) (hA : ∀ b, own b → b < w.heap.size) (E : Int) (hk : keyE P k = E) (hE : E ≠ 0) :
    Calls Try.prog 38 #[ptr hb, d.val, k.val, v.val] w fun e w' => e = .returned (.int .i64 E) ∧ Sep own hb P w' ∧ Kept own w w' := by
  show Calls Try.prog 38 #[ptr hb, obV d.k d.x d.n d.a d.l d.s, obV k.k k.x k.n k.a k.l k.s, obV v.k v.x v.n v.a v.l v.s] w _
  have H := Lib.hid h
  have HD := Lib.hid D
  have HA := Lib.hid hA
  have HK := Lib.hid hk
  have HE := Lib.hid hE
  have HE' : Hid ((E != 0) = true) := Lib.hid (by simpa using hE)
  clear h D hA hk hE
  go_enter Try.func38, Try.ntmps38
  go_upto_region 1 with fail
  obtain ⟨wb, eb, st⟩ := Box3.start H.out d k v
  rw [eb]
  have ST := Lib.hid st
  obtain ⟨o0, o1, o2, o3, o4, o5⟩ := ob_cells st.b0
  obtain ⟨p0, p1, p2, p3, p4, p5⟩ := ob_cells st.b1
  clear eb st
  go_wp2_with fail
  have hop : Calls Try.prog 75 #[ptr hb, d.val, k.val] wb fun e w' => e = .returned (.tuple #[zeroDcV, zeroOb, .int .i64 E]) ∧ Below wb.heap.size wb w' := by
    obtain ⟨role, ⟨vc, ivs, pb, rv, h1⟩, h2⟩ := ST.out.sep
    have := openFor_no h1 HD.out k (by rw [HK.out]; exact HE.out)
    rw [HK.out] at this
    exact this
  refine hop.mono ?_
  rintro e w1 ⟨rfl, k1⟩
  have S1 := Lib.hid (ST.out.below k1)
  clear hop k1 o0 o1 o2 o3 o4 o5 p0 p1 p2 p3 p4 p5
  obtain ⟨⟨p0, p1, p2, p3, p4, p5⟩, f0, f1, f2, f3, f4, f5⟩ := later6 S1.out.b1
  go_upto_region 2 with fail
  obtain ⟨w3, e3⟩ : ∃ w3, put6 (w1.alloc (.cells #[.pointer none, .int .i64 0, .bool false, .int .i64 0, .int .i64 0, .int .i64 0, .string ⟨#[]⟩, .int .i64 0, .int .i64 0] 118)) (w.heap.size + 1) (.int .i64 0) (.bool false) (.int .i64 0) (.int .i64 0) (.int .i64 0) (.string ⟨#[]⟩) = w3 := ⟨_, rfl⟩
  have go := S1.out.opened (hh := hb) HA.out #[.pointer none, .int .i64 0, .bool false, .int .i64 0, .int .i64 0, .int .i64 0, .string ⟨#[]⟩, .int .i64 0, .int .i64 0] Ob.zero
  replace go : SetAt own hb P w (put6 (w1.alloc (.cells #[.pointer none, .int .i64 0, .bool false, .int .i64 0, .int .i64 0, .int .i64 0, .string ⟨#[]⟩, .int .i64 0, .int .i64 0] 118)) (w.heap.size + 1) (.int .i64 0) (.bool false) (.int .i64 0) (.int .i64 0) (.int .i64 0) (.string ⟨#[]⟩)) w.heap.size w1.heap.size hb d Ob.zero v _ := go
  rw [e3] at go
  unfold put6 at e3
  rw [e3]
  have GO := Lib.hid go
  clear go e3 p0 p1 p2 p3 p4 p5 f0 f1 f2 f3 f4 f5
  have hE' := HE'.out
  go_wp2
  go_ret
  exact ⟨rfl, GO.out.sep.sub fun b hb => .inl hb, GO.out.kept⟩

/-- Set. -/
theorem sDictSet (h : Sep own hb P w) (D : DictC P d ps room lk) (hA : ∀ b, own b → b < w.heap.size) (hf : keyE P k = 0 → (keyO P k).Fine) (hmq : keyE P k = 0 → mayH P (keyO P k) = true) :
    Calls Try.prog 38 #[ptr hb, d.val, k.val, v.val] w fun e w' => e = .returned (.int .i64 (dsetE P ps room lk k v)) ∧ Sep own hb (if dsetE P ps room lk k v = 0 then P.set d.n.toNat ⟨10, false, itemsD (dsetL ps (keyO P k) v) room, []⟩ else P) w' ∧ Kept own w w' := by
  by_cases hk : keyE P k = 0
  · cases hm : mayH P v
    · have e : dsetE P ps room lk k v = 1 := by simp [dsetE, hk, hm]
      rw [e, if_neg (by decide)]
      exact set_may h D hA hk hm
    · cases lk
      · cases hi : ixD ps (keyO P k) ps.length with
        | none =>
          by_cases hp : ps.length = room
          · have e : dsetE P ps room false k v = 20 := by
              unfold dsetE
              rw [if_pos hk, if_pos ⟨hm, rfl⟩]
              simp only [hi]
              rw [if_pos hp]
            rw [e, if_neg (by decide)]
            exact set_full h D hA hk hm rfl (hf hk) hi hp
          · have e : dsetE P ps room false k v = 0 := by simp [dsetE, hk, hm, hi, hp]
            rw [e, if_pos rfl, show dsetL ps (keyO P k) v = ps ++ [(keyO P k, v)] from by simp [dsetL, hi]]
            exact set_add h D hA hk hm rfl (hf hk) hi (by have := D.le; omega) (hmq hk)
        | some i =>
          have e : dsetE P ps room false k v = 0 := by simp [dsetE, hk, hm, hi]
          obtain ⟨p, hp, _⟩ := (ixD_some hi).2
          rw [e, if_pos rfl, show dsetL ps (keyO P k) v = ps.set i (p.1, v) from by simp [dsetL, hi, List.getD_eq_getElem?_getD, hp]]
          exact set_have h D hA hk hm rfl (hf hk) i _ _ rfl rfl p hi hp
      · have e : dsetE P ps room true k v = 1 := by simp [dsetE, hk]
        rw [e, if_neg (by decide)]
        exact set_lock h D hA hk hm rfl
  · have e : dsetE P ps room lk k v = keyE P k := by simp [dsetE, hk]
    rw [e, if_neg hk]
    exact set_fail h D hA _ rfl hk
end
end Go.Proofs.Ytigboibcgpfphaa
