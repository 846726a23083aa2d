/- Walks of tympanref12: Set. -/
import Derived.Test.YtlkbnldpecolbaaY27
namespace Go.Proofs.Ytlkbnldpecolbaa
open Go.RowKit
set_option linter.unusedVariables false
set_option linter.unusedSimpArgs false

/-- A heap of one dictionary that has these items. -/
abbrev HL (its : List Ob) : List Cel := [⟨10, false, its, []⟩]
theorem hl_r (its : List Ob) : DictR (HL its) dO0 its := ⟨okO_iff.2 ⟨rfl, rfl, by simp [inCell, cellOf, dO0]⟩, rfl, rfl⟩
theorem hl_put {its : List Ob} {i : Nat} {x : Ob} (hi : i < its.length) (hx : mayH (HL its) x = true) : setE (HL its) dO0 i x = 0 ∧ setP (HL its) dO0 i x = HL (its.set i x) := (hl_r its).put hi hx
theorem hl_may {its its' : List Ob} (h : its.length = its'.length) (x : Ob) : mayH (HL its) x = mayH (HL its') x :=
  ((hl_r its').may h x)
section
variable {out : Nat → Prop} {hb rb rm : Nat} {P : List Cel} {its : List Ob} {w w' : World}
/-- Put: the item of a place. -/
theorem qPut (h : DP out hb rb P (HL its) w) (i : Nat) (x : Ob) (hi : i < its.length) (hx : mayH (HL its) x = true) : Calls Try.prog 69 #[ptr rb, dO0.val, .int .i64 i, x.val] w fun e w' => e = .returned (.int .i64 0) ∧ DP out hb rb P (HL (its.set i x)) w' ∧ Kept out w w' := by
  have := qSet h dO0 i x
  rw [(hl_put hi hx).1, (hl_put hi hx).2] at this
  exact this
theorem qMay (h : DP out hb rb P (HL its) w) (x : Ob) : Calls Try.prog 65 #[ptr rb, x.val] w fun e w' => e = .returned (.bool (mayH (HL its) x)) ∧ Below w.heap.size w w' := h.refLeaf fun own u R r e => by
  have := rmayH_any r x
  rw [e] at this
  exact this
theorem qRoom {ps : List (Ob × Ob)} (h : DP out hb rb P (H1 ps rm) w) (G : Good rm ps) : Calls Try.prog 68 #[ptr rb, dO0.val] w fun e w' => e = .returned (.tuple #[.int .i64 rm, .int .i64 0]) ∧ Below w.heap.size w w' := h.refLeaf fun own u R r e => by
  have := rroomD_tot r dO0
  rw [e, G.dc.drN, G.dc.drE] at this
  exact this
/-- The lock, as it is read. -/
theorem DP.lock (h : DP out hb rb P (HL its) w) : ∃ g cap, w.cell? ⟨rb, 0, none⟩ = some (.slice (some ⟨g, 0, none⟩) (1 : Nat) cap) ∧ w.cell? ⟨g, 3, none⟩ = some (.bool false) := by
  obtain ⟨own, v, R, h1, h2, h4, h5⟩ := h
  obtain ⟨r, rfl⟩ : ∃ r, R = [r] := by
    have hl : R.length = 1 := by rw [← cels_length, h5]; rfl
    match R, hl with
    | [r], _ => exact ⟨r, rfl⟩
  have hc : r.c = ⟨10, false, its, []⟩ := by simpa [cels] using h5
  obtain ⟨g, cap, rfl, _, _, _, _, _, _, q⟩ := h2.at (i := 0) (r := r) rfl
  rw [hc] at q
  exact ⟨g, cap, h2.hcell, by simpa using q⟩
end
section
variable {base : Nat → Prop} {hb rb rm : Nat} {P : List Cel} {ps : List (Ob × Ob)} {w w' : World}
set_option maxHeartbeats 2000000 in
set_option maxRecDepth 100000 in
theorem qset_err (h : DP base hb rb P (H1 ps rm) w) (G : Good rm ps) (k v : Ob) (E : Int) (hk : keyE (H1 ps rm) k = E) (hE : E ≠ 0) :
    Calls Try.prog 29 #[ptr rb, dO0.val, k.val, v.val] w fun e w' => e = .returned (.int .i64 E) ∧ DP base hb rb P (H1 ps rm) w' ∧ Kept base w w' := by
  have H := Lib.hid h
  have HG := Lib.hid G
  have hE' : (E != 0) = true := by simpa using hE
  obtain ⟨q, hq⟩ : ∃ q, keyO (H1 ps rm) k = q := ⟨_, rfl⟩
  have HK := Lib.hid hk
  have HQ := Lib.hid hq
  have HN : Hid (¬ E = 0) := Lib.hid hE
  clear h G hk hE hq
  simp only [Ob.val, dO0]
  go_enter Try.func29, Try.ntmps29
  go_upto_region 1 with fail
  obtain ⟨wb, eb, r1, zb⟩ := (Dr.begin H.out).three dO0 k v
  simp only [dO0] at eb r1
  rw [eb]
  have R := Lib.hid r1
  clear eb r1 zb
  obtain ⟨⟨c0, c1, c2, c3, c4, c5⟩, f0, f1, f2, f3, f4, f5⟩ := cells6 R.out.at0
  obtain ⟨⟨o0, o1, o2, o3, o4, o5⟩, _⟩ := cells6 R.out.at1
  obtain ⟨⟨p0, p1, p2, p3, p4, p5⟩, _⟩ := cells6 R.out.at2
  go_wp2_with fail
  have hc := R.out.leaf fun out h => qfind h HG.out k
  rw [HK.out, HQ.out, if_neg HN.out, if_neg HN.out] at hc
  simp only [Ob.val, dO0] at hc
  refine hc.mono ?_
  rintro e wc ⟨rfl, rr⟩
  replace R := Lib.hid rr
  clear hc rr o0 o1 o2 o3 o4 o5 p0 p1 p2 p3 p4 p5 c0 c1 c2 c3 c4 c5 f0 f1 f2 f3 f4 f5
  replace R := Lib.hid R.out.swap
  obtain ⟨⟨c0, c1, c2, c3, c4, c5⟩, f0, f1, f2, f3, f4, f5⟩ := cells6 R.out.at0
  obtain ⟨⟨o0, o1, o2, o3, o4, o5⟩, _⟩ := cells6 R.out.at1
  obtain ⟨⟨p0, p1, p2, p3, p4, p5⟩, _⟩ := cells6 R.out.at2
  go_upto_region 2 with fail
  obtain ⟨w3, e3, go⟩ := R.out.put q
  unfold put6 at e3
  rw [e3]
  replace R := Lib.hid go
  clear go e3 o0 o1 o2 o3 o4 o5 p0 p1 p2 p3 p4 p5 c0 c1 c2 c3 c4 c5 f0 f1 f2 f3 f4 f5
  go_wp2
  go_ret
  exact ⟨rfl, R.out.fin⟩
set_option maxHeartbeats 4000000 in
set_option maxRecDepth 100000 in
theorem qset_arg (h : DP base hb rb P (H1 ps rm) w) (G : Good rm ps) (k v : Ob) (hk : keyE (H1 ps rm) k = 0) (hv : mayH (H1 ps rm) v = false) :
    Calls Try.prog 29 #[ptr rb, dO0.val, k.val, v.val] w fun e w' => e = .returned (.int .i64 1) ∧ DP base hb rb P (H1 ps rm) w' ∧ Kept base w w' := by
  have H := Lib.hid h
  have HG := Lib.hid G
  obtain ⟨q, hq⟩ : ∃ q, keyO (H1 ps rm) k = q := ⟨_, rfl⟩
  have HK := Lib.hid hk
  have HQ := Lib.hid hq
  have HM : Hid (mayH (HL (itemsD ps rm)) v = false) := Lib.hid hv
  clear h G hk hv hq
  simp only [Ob.val, dO0]
  go_enter Try.func29, Try.ntmps29
  go_upto_region 1 with fail
  obtain ⟨wb, eb, r1, zb⟩ := (Dr.begin H.out).three dO0 k v
  simp only [dO0] at eb r1
  rw [eb]
  have R := Lib.hid r1
  clear eb r1 zb
  obtain ⟨⟨c0, c1, c2, c3, c4, c5⟩, f0, f1, f2, f3, f4, f5⟩ := cells6 R.out.at0
  obtain ⟨⟨o0, o1, o2, o3, o4, o5⟩, _⟩ := cells6 R.out.at1
  obtain ⟨⟨p0, p1, p2, p3, p4, p5⟩, _⟩ := cells6 R.out.at2
  go_wp2_with fail
  have hc := R.out.leaf fun out h => qfind h HG.out k
  rw [HK.out, HQ.out, if_pos rfl, if_pos rfl] at hc
  simp only [Ob.val, dO0] at hc
  refine hc.mono ?_
  rintro e wc ⟨rfl, rr⟩
  replace R := Lib.hid rr
  clear hc rr o0 o1 o2 o3 o4 o5 p0 p1 p2 p3 p4 p5 c0 c1 c2 c3 c4 c5 f0 f1 f2 f3 f4 f5
  replace R := Lib.hid R.out.swap
  obtain ⟨⟨c0, c1, c2, c3, c4, c5⟩, f0, f1, f2, f3, f4, f5⟩ := cells6 R.out.at0
  obtain ⟨⟨o0, o1, o2, o3, o4, o5⟩, _⟩ := cells6 R.out.at1
  obtain ⟨⟨p0, p1, p2, p3, p4, p5⟩, _⟩ := cells6 R.out.at2
  go_upto_region 2 with fail
  obtain ⟨w3, e3, go⟩ := R.out.put q
  unfold put6 at e3
  rw [e3]
  replace R := Lib.hid go
  clear go e3 o0 o1 o2 o3 o4 o5 p0 p1 p2 p3 p4 p5 c0 c1 c2 c3 c4 c5 f0 f1 f2 f3 f4 f5
  obtain ⟨g, cap, l1, l2⟩ : ∃ g cap, w3.cell? ⟨rb, 0, none⟩ = some (.slice (some ⟨g, 0, none⟩) (1 : Nat) cap) ∧ w3.cell? ⟨g, 3, none⟩ = some (.bool false) := by
    obtain ⟨out, hd, _⟩ := R.out.st
    exact hd.lock
  have SX : Hid (w3.heap[w.heap.size + 2]? = some (obObj v.k v.x v.n v.a v.l v.s) ∧ w3.heap[w.heap.size]? = some (obObj 10 false 0 0 0 ⟨#[]⟩) ∧ w3.cell? ⟨rb, 0, none⟩ = some (.slice (some ⟨g, 0, none⟩) (1 : Nat) cap) ∧ w3.cell? ⟨g, 3, none⟩ = some (.bool false)) := Lib.hid ⟨R.out.at1, R.out.at2, l1, l2⟩
  clear l1 l2
  go_upto_region 4 with fail
  replace R := Lib.hid (R.out.later (Below.refl _ _).drew)
  (try refine wp_region_noPanic ?_)
  refine wp_region_held_drew (S := fun wx => wx.heap[w.heap.size + 2]? = some (obObj v.k v.x v.n v.a v.l v.s) ∧ wx.heap[w.heap.size]? = some (obObj 10 false 0 0 0 ⟨#[]⟩) ∧ wx.cell? ⟨rb, 0, none⟩ = some (.slice (some ⟨g, 0, none⟩) (1 : Nat) cap) ∧ wx.cell? ⟨g, 3, none⟩ = some (.bool false)) (by kernel_rfl) SX.out (fun sx0 => ?_)
  clear SX
  have SX := Lib.hid sx0
  clear sx0
  generalize World.drew _ = wd4 at R SX ⊢
  refine wpAnyH_take (i := 0) (v := ptr rb) rfl (by kernel_rfl) (by kernel_rfl) (by kernel_rfl) (fun _ _ _ h => h) (Or.inl ⟨by rfl, fun wx hS => ?_⟩) SX.out ?_
  · go_simp
  try simp only [Act.put, List.getElem_toArray, List.getElem_cons_succ, List.getElem_cons_zero, List.setIfInBounds_toArray, List.set_cons_zero, List.set_cons_succ]
  refine wpAnyH_take (i := 1) (v := obV v.k v.x v.n v.a v.l v.s) rfl (by kernel_rfl) (by kernel_rfl) (by kernel_rfl) (fun _ _ _ h => h) (Or.inl ⟨by rfl, fun wx hS => ?_⟩) SX.out ?_
  · obtain ⟨⟨c0, c1, c2, c3, c4, c5⟩, _⟩ := cells6 hS.1; go_simp
  try simp only [Act.put, List.getElem_toArray, List.getElem_cons_succ, List.getElem_cons_zero, List.setIfInBounds_toArray, List.set_cons_zero, List.set_cons_succ]
  refine wpAnyH_ready (rs := [2]) (by kernel_rfl) (by simp) ?_
  refine AllReadyH.cons rfl (fun K hK => ?_) AllReadyH.nil
  go_simp
  obtain ⟨out', hd', _⟩ := R.out.st
  have hc2 := qMay hd' v
  rw [HM.out] at hc2
  simp only [Ob.val] at hc2
  refine hc2.mono ?_
  rintro e wc ⟨rfl, kc⟩
  replace R := Lib.hid (R.out.later kc)
  have SY := Lib.hid (And.intro R.out.at1 (And.intro R.out.at2 (And.intro (cell_later kc SX.out.2.2.1) (cell_later kc SX.out.2.2.2))))
  clear kc SX hc2 hd'
  have SX := SY
  clear SY
  refine hK.out _ _ SX.out (fun _ => ?_)
  clear hK
  try simp only [Act.put, List.getElem_toArray, List.getElem_cons_succ, List.getElem_cons_zero, List.setIfInBounds_toArray, List.set_cons_zero, List.set_cons_succ]
  refine wpAnyH_take (i := 3) (v := .bool true) rfl (by kernel_rfl) (by kernel_rfl) (by kernel_rfl) (fun _ _ _ h => h) (Or.inl ⟨by rfl, fun wx hS => ?_⟩) SX.out ?_
  · go_simp
  try simp only [Act.put, List.getElem_toArray, List.getElem_cons_succ, List.getElem_cons_zero, List.setIfInBounds_toArray, List.set_cons_zero, List.set_cons_succ]
  refine wpAnyH_take (i := 4) (v := .bool true) rfl (by kernel_rfl) (by kernel_rfl) (by kernel_rfl) (fun _ _ _ h => h) (Or.inl ⟨by rfl, fun wx hS => ?_⟩) SX.out ?_
  · go_simp
  try simp only [Act.put, List.getElem_toArray, List.getElem_cons_succ, List.getElem_cons_zero, List.setIfInBounds_toArray, List.set_cons_zero, List.set_cons_succ]
  refine wpAnyH_take (i := 5) (v := undef) rfl (by kernel_rfl) (by kernel_rfl) (by kernel_rfl) (fun _ _ _ h => h) (Or.inr ⟨by rfl, rfl⟩) SX.out ?_
  try simp only [Act.put, List.getElem_toArray, List.getElem_cons_succ, List.getElem_cons_zero, List.setIfInBounds_toArray, List.set_cons_zero, List.set_cons_succ]
  refine wpAnyH_take (i := 6) (v := undef) rfl (by kernel_rfl) (by kernel_rfl) (by kernel_rfl) (fun _ _ _ h => h) (Or.inr ⟨by rfl, rfl⟩) SX.out ?_
  try simp only [Act.put, List.getElem_toArray, List.getElem_cons_succ, List.getElem_cons_zero, List.setIfInBounds_toArray, List.set_cons_zero, List.set_cons_succ]
  refine wpAnyH_take (i := 7) (v := undef) rfl (by kernel_rfl) (by kernel_rfl) (by kernel_rfl) (fun _ _ _ h => h) (Or.inr ⟨by rfl, rfl⟩) SX.out ?_
  try simp only [Act.put, List.getElem_toArray, List.getElem_cons_succ, List.getElem_cons_zero, List.setIfInBounds_toArray, List.set_cons_zero, List.set_cons_succ]
  refine wpAnyH_take (i := 8) (v := undef) rfl (by kernel_rfl) (by kernel_rfl) (by kernel_rfl) (fun _ _ _ h => h) (Or.inr ⟨by rfl, rfl⟩) SX.out ?_
  try simp only [Act.put, List.getElem_toArray, List.getElem_cons_succ, List.getElem_cons_zero, List.setIfInBounds_toArray, List.set_cons_zero, List.set_cons_succ]
  refine wpAnyH_take (i := 9) (v := undef) rfl (by kernel_rfl) (by kernel_rfl) (by kernel_rfl) (fun _ _ _ h => h) (Or.inr ⟨by rfl, rfl⟩) SX.out ?_
  try simp only [Act.put, List.getElem_toArray, List.getElem_cons_succ, List.getElem_cons_zero, List.setIfInBounds_toArray, List.set_cons_zero, List.set_cons_succ]
  refine wpAnyH_take (i := 10) (v := undef) rfl (by kernel_rfl) (by kernel_rfl) (by kernel_rfl) (fun _ _ _ h => h) (Or.inr ⟨by rfl, rfl⟩) SX.out ?_
  try simp only [Act.put, List.getElem_toArray, List.getElem_cons_succ, List.getElem_cons_zero, List.setIfInBounds_toArray, List.set_cons_zero, List.set_cons_succ]
  refine wpAnyH_take (i := 11) (v := undef) rfl (by kernel_rfl) (by kernel_rfl) (by kernel_rfl) (fun _ _ _ h => h) (Or.inr ⟨by rfl, rfl⟩) SX.out ?_
  try simp only [Act.put, List.getElem_toArray, List.getElem_cons_succ, List.getElem_cons_zero, List.setIfInBounds_toArray, List.set_cons_zero, List.set_cons_succ]
  refine wpAnyH_take (i := 12) (v := undef) rfl (by kernel_rfl) (by kernel_rfl) (by kernel_rfl) (fun _ _ _ h => h) (Or.inr ⟨by rfl, rfl⟩) SX.out ?_
  try simp only [Act.put, List.getElem_toArray, List.getElem_cons_succ, List.getElem_cons_zero, List.setIfInBounds_toArray, List.set_cons_zero, List.set_cons_succ]
  refine wpAnyH_take (i := 13) (v := undef) rfl (by kernel_rfl) (by kernel_rfl) (by kernel_rfl) (fun _ _ _ h => h) (Or.inr ⟨by rfl, rfl⟩) SX.out ?_
  try simp only [Act.put, List.getElem_toArray, List.getElem_cons_succ, List.getElem_cons_zero, List.setIfInBounds_toArray, List.set_cons_zero, List.set_cons_succ]
  refine wpAnyH_take (i := 14) (v := .bool true) rfl (by kernel_rfl) (by kernel_rfl) (by kernel_rfl) (fun _ _ _ h => h) (Or.inl ⟨by rfl, fun wx hS => ?_⟩) SX.out ?_
  · go_simp
  try simp only [Act.put, List.getElem_toArray, List.getElem_cons_succ, List.getElem_cons_zero, List.setIfInBounds_toArray, List.set_cons_zero, List.set_cons_succ]
  refine wpAnyH_take (i := 15) (v := .bool true) rfl (by kernel_rfl) (by kernel_rfl) (by kernel_rfl) (fun _ _ _ h => h) (Or.inl ⟨by rfl, fun wx hS => ?_⟩) SX.out ?_
  · go_simp
  try simp only [Act.put, List.getElem_toArray, List.getElem_cons_succ, List.getElem_cons_zero, List.setIfInBounds_toArray, List.set_cons_zero, List.set_cons_succ]
  refine wpAnyH_done (by kernel_rfl) ?_ _
  (try refine no_panic ?_)
  clear SX
  go_wp2
  go_ret
  exact ⟨rfl, R.out.fin⟩
theorem set_three {its : List Ob} {a : Nat} {x y z : Ob} : ((its.set (a + 1) x).set 0 y).set (a + 2) z = ((its.set (a + 1) x).set (a + 2) z).set 0 y := List.set_comm _ _ (by omega)
set_option maxHeartbeats 4000000 in
set_option maxRecDepth 100000 in
theorem qset_have (h : DP base hb rb P (H1 ps rm) w) (G : Good rm ps) (k v : Ob) (hk : keyE (H1 ps rm) k = 0) (hv : mayH (H1 ps rm) v = true) (i : Nat) (hix : ixD ps (keyO (H1 ps rm) k) ps.length = some i) :
    Calls Try.prog 29 #[ptr rb, dO0.val, k.val, v.val] w fun e w' => e = .returned (.int .i64 0) ∧ DP base hb rb P (H1 (dsetL ps (keyO (H1 ps rm) k) v) rm) w' ∧ Kept base w w' := by
  have H := Lib.hid h
  have HG := Lib.hid G
  obtain ⟨q, hq⟩ : ∃ q, keyO (H1 ps rm) k = q := ⟨_, rfl⟩
  have HK := Lib.hid hk
  have HQ := Lib.hid hq
  have HM : Hid (mayH (HL (itemsD ps rm)) v = true) := Lib.hid hv
  have hkm := key_may hk
  rw [hq] at hkm
  have HKM : Hid (mayH (HL (itemsD ps rm)) q = true) := Lib.hid hkm
  have HN : Hid (ps.length ≤ rm ∧ rm ≤ 1000 ∧ (itemsD ps rm).length = 2 * rm + 1) := Lib.hid ⟨G.le, G.most, itemsD_length G.le⟩
  rw [hq] at hix
  obtain ⟨hl, p, hp, _⟩ := ixD_some hix
  obtain ⟨m, hm⟩ : ∃ m, m = 2 * i := ⟨_, rfl⟩
  have bd := HN.out
  have v1 : IntKind.i64.wrap (2 * (i : Int)) = m := by rw [IntWalk.i64_in _ (by omega)]; omega
  have v2 : wrap64 (2 * (i : Int)) = m := by rw [← IntWalk.i64_left]; exact v1
  have v3 : IntKind.i64.wrap ((m : Int) + 2) = ((m + 2 : Nat) : Int) := by rw [IntWalk.i64_in _ (by omega)]; omega
  have v4 : wrap64 ((m : Int) + 2) = ((m + 2 : Nat) : Int) := by rw [← IntWalk.i64_left]; exact v3
  have HB : Hid (m + 2 < (itemsD ps rm).length) := Lib.hid (by omega)
  have HX : Hid (HL ((itemsD ps rm).set (m + 2) v) = H1 (dsetL ps (keyO (H1 ps rm) k) v) rm) := Lib.hid (by
    have e : ps.getD i (Ob.zero, Ob.zero) = p := by rw [List.getD_eq_getElem?_getD, hp]; rfl
    rw [hq, dsetL, hix]
    simp only
    rw [e, hm, items_update hp]
    rfl)
  have HI : Hid (atD ps q = i) := Lib.hid (atD_some hix)
  obtain ⟨n, hn⟩ : ∃ n, ps.length = n := ⟨_, rfl⟩
  have HNN := Lib.hid hn
  have t1 : ((i : Int) == n) = false := by simp; omega
  have t2 : ¬ (i : Int) = n := by omega
  have t3 : ¬ i = n := by omega
  clear h G hk hv hq hix hkm hl hp hm bd hn
  simp only [Ob.val, dO0]
  go_enter Try.func29, Try.ntmps29
  go_upto_region 1 with fail
  obtain ⟨wb, eb, r1, zb⟩ := (Dr.begin H.out).three dO0 k v
  simp only [dO0] at eb r1
  rw [eb]
  have R := Lib.hid r1
  clear eb r1 zb
  obtain ⟨⟨c0, c1, c2, c3, c4, c5⟩, f0, f1, f2, f3, f4, f5⟩ := cells6 R.out.at0
  obtain ⟨⟨o0, o1, o2, o3, o4, o5⟩, _⟩ := cells6 R.out.at1
  obtain ⟨⟨p0, p1, p2, p3, p4, p5⟩, _⟩ := cells6 R.out.at2
  go_wp2_with fail
  have hc := R.out.leaf fun out h => qfind h HG.out k
  rw [HK.out, HQ.out, if_pos rfl, if_pos rfl, HI.out, HNN.out] at hc
  simp only [Ob.val, dO0] at hc
  refine hc.mono ?_
  rintro e wc ⟨rfl, rr⟩
  replace R := Lib.hid rr
  clear hc rr o0 o1 o2 o3 o4 o5 p0 p1 p2 p3 p4 p5 c0 c1 c2 c3 c4 c5 f0 f1 f2 f3 f4 f5
  replace R := Lib.hid R.out.swap
  obtain ⟨⟨c0, c1, c2, c3, c4, c5⟩, f0, f1, f2, f3, f4, f5⟩ := cells6 R.out.at0
  obtain ⟨⟨o0, o1, o2, o3, o4, o5⟩, _⟩ := cells6 R.out.at1
  obtain ⟨⟨p0, p1, p2, p3, p4, p5⟩, _⟩ := cells6 R.out.at2
  go_upto_region 2 with fail
  obtain ⟨w3, e3, go⟩ := R.out.put q
  unfold put6 at e3
  rw [e3]
  replace R := Lib.hid go
  clear go e3 o0 o1 o2 o3 o4 o5 p0 p1 p2 p3 p4 p5 c0 c1 c2 c3 c4 c5 f0 f1 f2 f3 f4 f5
  obtain ⟨g, cap, l1, l2⟩ : ∃ g cap, w3.cell? ⟨rb, 0, none⟩ = some (.slice (some ⟨g, 0, none⟩) (1 : Nat) cap) ∧ w3.cell? ⟨g, 3, none⟩ = some (.bool false) := by
    obtain ⟨out, hd, _⟩ := R.out.st
    exact hd.lock
  have SX : Hid (w3.heap[w.heap.size + 2]? = some (obObj v.k v.x v.n v.a v.l v.s) ∧ w3.heap[w.heap.size]? = some (obObj 10 false 0 0 0 ⟨#[]⟩) ∧ w3.cell? ⟨rb, 0, none⟩ = some (.slice (some ⟨g, 0, none⟩) (1 : Nat) cap) ∧ w3.cell? ⟨g, 3, none⟩ = some (.bool false)) := Lib.hid ⟨R.out.at1, R.out.at2, l1, l2⟩
  clear l1 l2
  go_upto_region 4 with fail
  replace R := Lib.hid (R.out.later (Below.refl _ _).drew)
  (try refine wp_region_noPanic ?_)
  refine wp_region_held_drew (S := fun wx => wx.heap[w.heap.size + 2]? = some (obObj v.k v.x v.n v.a v.l v.s) ∧ wx.heap[w.heap.size]? = some (obObj 10 false 0 0 0 ⟨#[]⟩) ∧ wx.cell? ⟨rb, 0, none⟩ = some (.slice (some ⟨g, 0, none⟩) (1 : Nat) cap) ∧ wx.cell? ⟨g, 3, none⟩ = some (.bool false)) (by kernel_rfl) SX.out (fun sx0 => ?_)
  clear SX
  have SX := Lib.hid sx0
  clear sx0
  generalize World.drew _ = wd4 at R SX ⊢
  refine wpAnyH_take (i := 0) (v := ptr rb) rfl (by kernel_rfl) (by kernel_rfl) (by kernel_rfl) (fun _ _ _ h => h) (Or.inl ⟨by rfl, fun wx hS => ?_⟩) SX.out ?_
  · go_simp
  try simp only [Act.put, List.getElem_toArray, List.getElem_cons_succ, List.getElem_cons_zero, List.setIfInBounds_toArray, List.set_cons_zero, List.set_cons_succ]
  refine wpAnyH_take (i := 1) (v := obV v.k v.x v.n v.a v.l v.s) rfl (by kernel_rfl) (by kernel_rfl) (by kernel_rfl) (fun _ _ _ h => h) (Or.inl ⟨by rfl, fun wx hS => ?_⟩) SX.out ?_
  · obtain ⟨⟨c0, c1, c2, c3, c4, c5⟩, _⟩ := cells6 hS.1; go_simp
  try simp only [Act.put, List.getElem_toArray, List.getElem_cons_succ, List.getElem_cons_zero, List.setIfInBounds_toArray, List.set_cons_zero, List.set_cons_succ]
  refine wpAnyH_ready (rs := [2]) (by kernel_rfl) (by simp) ?_
  refine AllReadyH.cons rfl (fun K hK => ?_) AllReadyH.nil
  go_simp
  obtain ⟨out', hd', _⟩ := R.out.st
  have hc2 := qMay hd' v
  rw [HM.out] at hc2
  simp only [Ob.val] at hc2
  refine hc2.mono ?_
  rintro e wc ⟨rfl, kc⟩
  replace R := Lib.hid (R.out.later kc)
  have SY := Lib.hid (And.intro R.out.at1 (And.intro R.out.at2 (And.intro (cell_later kc SX.out.2.2.1) (cell_later kc SX.out.2.2.2))))
  clear kc SX hc2 hd'
  have SX := SY
  clear SY
  refine hK.out _ _ SX.out (fun _ => ?_)
  clear hK
  try simp only [Act.put, List.getElem_toArray, List.getElem_cons_succ, List.getElem_cons_zero, List.setIfInBounds_toArray, List.set_cons_zero, List.set_cons_succ]
  refine wpAnyH_take (i := 3) (v := .bool false) rfl (by kernel_rfl) (by kernel_rfl) (by kernel_rfl) (fun _ _ _ h => h) (Or.inl ⟨by rfl, fun wx hS => ?_⟩) SX.out ?_
  · go_simp
  try simp only [Act.put, List.getElem_toArray, List.getElem_cons_succ, List.getElem_cons_zero, List.setIfInBounds_toArray, List.set_cons_zero, List.set_cons_succ]
  refine wpAnyH_take (i := 4) (v := .bool false) rfl (by kernel_rfl) (by kernel_rfl) (by kernel_rfl) (fun _ _ _ h => h) (Or.inl ⟨by rfl, fun wx hS => ?_⟩) SX.out ?_
  · go_simp
  try simp only [Act.put, List.getElem_toArray, List.getElem_cons_succ, List.getElem_cons_zero, List.setIfInBounds_toArray, List.set_cons_zero, List.set_cons_succ]
  refine wpAnyH_take (i := 5) (v := ptr rb) rfl (by kernel_rfl) (by kernel_rfl) (by kernel_rfl) (fun _ _ _ h => h) (Or.inl ⟨by rfl, fun wx hS => ?_⟩) SX.out ?_
  · go_simp
  try simp only [Act.put, List.getElem_toArray, List.getElem_cons_succ, List.getElem_cons_zero, List.setIfInBounds_toArray, List.set_cons_zero, List.set_cons_succ]
  refine wpAnyH_take (i := 6) (v := ptr rb) rfl (by kernel_rfl) (by kernel_rfl) (by kernel_rfl) (fun _ _ _ h => h) (Or.inl ⟨by rfl, fun wx hS => ?_⟩) SX.out ?_
  · go_simp
  try simp only [Act.put, List.getElem_toArray, List.getElem_cons_succ, List.getElem_cons_zero, List.setIfInBounds_toArray, List.set_cons_zero, List.set_cons_succ]
  refine wpAnyH_take (i := 7) (v := .pointer (some ⟨rb, 0, none⟩)) rfl (by kernel_rfl) (by kernel_rfl) (by kernel_rfl) (fun _ _ _ h => h) (Or.inl ⟨by rfl, fun wx hS => ?_⟩) SX.out ?_
  · go_simp
  try simp only [Act.put, List.getElem_toArray, List.getElem_cons_succ, List.getElem_cons_zero, List.setIfInBounds_toArray, List.set_cons_zero, List.set_cons_succ]
  refine wpAnyH_take (i := 8) (v := .slice (some ⟨g, 0, none⟩) (1 : Nat) cap) rfl (by kernel_rfl) (by kernel_rfl) (by kernel_rfl) (fun _ _ _ h => h) (Or.inl ⟨by rfl, fun wx hS => ?_⟩) SX.out ?_
  · have q1 := hS.2.2.1; go_simp
  try simp only [Act.put, List.getElem_toArray, List.getElem_cons_succ, List.getElem_cons_zero, List.setIfInBounds_toArray, List.set_cons_zero, List.set_cons_succ]
  refine wpAnyH_take (i := 9) (v := .pointer (some ⟨w.heap.size, 2, none⟩)) rfl (by kernel_rfl) (by kernel_rfl) (by kernel_rfl) (fun _ _ _ h => h) (Or.inl ⟨by rfl, fun wx hS => ?_⟩) SX.out ?_
  · go_simp
  try simp only [Act.put, List.getElem_toArray, List.getElem_cons_succ, List.getElem_cons_zero, List.setIfInBounds_toArray, List.set_cons_zero, List.set_cons_succ]
  refine wpAnyH_take (i := 10) (v := .int .i64 0) rfl (by kernel_rfl) (by kernel_rfl) (by kernel_rfl) (fun _ _ _ h => h) (Or.inl ⟨by rfl, fun wx hS => ?_⟩) SX.out ?_
  · obtain ⟨⟨c0, c1, c2, c3, c4, c5⟩, _⟩ := cells6 hS.2.1; go_simp
  try simp only [Act.put, List.getElem_toArray, List.getElem_cons_succ, List.getElem_cons_zero, List.setIfInBounds_toArray, List.set_cons_zero, List.set_cons_succ]
  refine wpAnyH_take (i := 11) (v := .pointer (some ⟨g, 0, none⟩)) rfl (by kernel_rfl) (by kernel_rfl) (by kernel_rfl) (fun _ _ _ h => h) (Or.inl ⟨by rfl, fun wx hS => ?_⟩) SX.out ?_
  · go_simp
  try simp only [Act.put, List.getElem_toArray, List.getElem_cons_succ, List.getElem_cons_zero, List.setIfInBounds_toArray, List.set_cons_zero, List.set_cons_succ]
  refine wpAnyH_take (i := 12) (v := .pointer (some ⟨g, 3, none⟩)) rfl (by kernel_rfl) (by kernel_rfl) (by kernel_rfl) (fun _ _ _ h => h) (Or.inl ⟨by rfl, fun wx hS => ?_⟩) SX.out ?_
  · go_simp
  try simp only [Act.put, List.getElem_toArray, List.getElem_cons_succ, List.getElem_cons_zero, List.setIfInBounds_toArray, List.set_cons_zero, List.set_cons_succ]
  refine wpAnyH_take (i := 13) (v := .bool false) rfl (by kernel_rfl) (by kernel_rfl) (by kernel_rfl) (fun _ _ _ h => h) (Or.inl ⟨by rfl, fun wx hS => ?_⟩) SX.out ?_
  · have q2 := hS.2.2.2; go_simp
  try simp only [Act.put, List.getElem_toArray, List.getElem_cons_succ, List.getElem_cons_zero, List.setIfInBounds_toArray, List.set_cons_zero, List.set_cons_succ]
  refine wpAnyH_take (i := 14) (v := .bool false) rfl (by kernel_rfl) (by kernel_rfl) (by kernel_rfl) (fun _ _ _ h => h) (Or.inl ⟨by rfl, fun wx hS => ?_⟩) SX.out ?_
  · go_simp
  try simp only [Act.put, List.getElem_toArray, List.getElem_cons_succ, List.getElem_cons_zero, List.setIfInBounds_toArray, List.set_cons_zero, List.set_cons_succ]
  refine wpAnyH_take (i := 15) (v := .bool false) rfl (by kernel_rfl) (by kernel_rfl) (by kernel_rfl) (fun _ _ _ h => h) (Or.inl ⟨by rfl, fun wx hS => ?_⟩) SX.out ?_
  · go_simp
  try simp only [Act.put, List.getElem_toArray, List.getElem_cons_succ, List.getElem_cons_zero, List.setIfInBounds_toArray, List.set_cons_zero, List.set_cons_succ]
  refine wpAnyH_done (by kernel_rfl) ?_ _
  (try refine no_panic ?_)
  clear SX
  replace R := Lib.hid R.out.swap
  obtain ⟨⟨c0, c1, c2, c3, c4, c5⟩, f0, f1, f2, f3, f4, f5⟩ := cells6 R.out.at0
  obtain ⟨⟨o0, o1, o2, o3, o4, o5⟩, _⟩ := cells6 R.out.at1
  obtain ⟨⟨p0, p1, p2, p3, p4, p5⟩, _⟩ := cells6 R.out.at2
  go_wp2_with fail
  have hc := R.out.call fun out h => qPut h (m + 2) v HB.out HM.out
  refine hc.mono ?_
  rintro e wc ⟨rfl, rr⟩
  replace R := Lib.hid rr
  clear hc rr o0 o1 o2 o3 o4 o5 p0 p1 p2 p3 p4 p5 c0 c1 c2 c3 c4 c5 f0 f1 f2 f3 f4 f5
  go_wp2
  go_ret
  rw [HX.out] at R
  exact ⟨rfl, R.out.fin⟩
set_option maxHeartbeats 4000000 in
set_option maxRecDepth 100000 in
theorem qset_full (h : DP base hb rb P (H1 ps rm) w) (G : Good rm ps) (k v : Ob) (hk : keyE (H1 ps rm) k = 0) (hv : mayH (H1 ps rm) v = true) (hix : ixD ps (keyO (H1 ps rm) k) ps.length = none) (hf : ps.length = rm) :
    Calls Try.prog 29 #[ptr rb, dO0.val, k.val, v.val] w fun e w' => e = .returned (.int .i64 20) ∧ DP base hb rb P (H1 ps rm) w' ∧ Kept base w w' := by
  have H := Lib.hid h
  have HG := Lib.hid G
  obtain ⟨q, hq⟩ : ∃ q, keyO (H1 ps rm) k = q := ⟨_, rfl⟩
  have HK := Lib.hid hk
  have HQ := Lib.hid hq
  have HM : Hid (mayH (HL (itemsD ps rm)) v = true) := Lib.hid hv
  have hkm := key_may hk
  rw [hq] at hkm
  have HKM : Hid (mayH (HL (itemsD ps rm)) q = true) := Lib.hid hkm
  have HN : Hid (ps.length ≤ rm ∧ rm ≤ 1000 ∧ (itemsD ps rm).length = 2 * rm + 1) := Lib.hid ⟨G.le, G.most, itemsD_length G.le⟩
  rw [hq] at hix
  have HI : Hid (atD ps q = ps.length) := Lib.hid (atD_none hix)
  have HNN := Lib.hid hf
  clear h G hk hv hq hix hkm hf
  simp only [Ob.val, dO0]
  go_enter Try.func29, Try.ntmps29
  go_upto_region 1 with fail
  obtain ⟨wb, eb, r1, zb⟩ := (Dr.begin H.out).three dO0 k v
  simp only [dO0] at eb r1
  rw [eb]
  have R := Lib.hid r1
  clear eb r1 zb
  obtain ⟨⟨c0, c1, c2, c3, c4, c5⟩, f0, f1, f2, f3, f4, f5⟩ := cells6 R.out.at0
  obtain ⟨⟨o0, o1, o2, o3, o4, o5⟩, _⟩ := cells6 R.out.at1
  obtain ⟨⟨p0, p1, p2, p3, p4, p5⟩, _⟩ := cells6 R.out.at2
  go_wp2_with fail
  have hc := R.out.leaf fun out h => qfind h HG.out k
  rw [HK.out, HQ.out, if_pos rfl, if_pos rfl, HI.out, HNN.out] at hc
  simp only [Ob.val, dO0] at hc
  refine hc.mono ?_
  rintro e wc ⟨rfl, rr⟩
  replace R := Lib.hid rr
  clear hc rr o0 o1 o2 o3 o4 o5 p0 p1 p2 p3 p4 p5 c0 c1 c2 c3 c4 c5 f0 f1 f2 f3 f4 f5
  replace R := Lib.hid R.out.swap
  obtain ⟨⟨c0, c1, c2, c3, c4, c5⟩, f0, f1, f2, f3, f4, f5⟩ := cells6 R.out.at0
  obtain ⟨⟨o0, o1, o2, o3, o4, o5⟩, _⟩ := cells6 R.out.at1
  obtain ⟨⟨p0, p1, p2, p3, p4, p5⟩, _⟩ := cells6 R.out.at2
  go_upto_region 2 with fail
  obtain ⟨w3, e3, go⟩ := R.out.put q
  unfold put6 at e3
  rw [e3]
  replace R := Lib.hid go
  clear go e3 o0 o1 o2 o3 o4 o5 p0 p1 p2 p3 p4 p5 c0 c1 c2 c3 c4 c5 f0 f1 f2 f3 f4 f5
  obtain ⟨g, cap, l1, l2⟩ : ∃ g cap, w3.cell? ⟨rb, 0, none⟩ = some (.slice (some ⟨g, 0, none⟩) (1 : Nat) cap) ∧ w3.cell? ⟨g, 3, none⟩ = some (.bool false) := by
    obtain ⟨out, hd, _⟩ := R.out.st
    exact hd.lock
  have SX : Hid (w3.heap[w.heap.size + 2]? = some (obObj v.k v.x v.n v.a v.l v.s) ∧ w3.heap[w.heap.size]? = some (obObj 10 false 0 0 0 ⟨#[]⟩) ∧ w3.cell? ⟨rb, 0, none⟩ = some (.slice (some ⟨g, 0, none⟩) (1 : Nat) cap) ∧ w3.cell? ⟨g, 3, none⟩ = some (.bool false)) := Lib.hid ⟨R.out.at1, R.out.at2, l1, l2⟩
  clear l1 l2
  go_upto_region 4 with fail
  replace R := Lib.hid (R.out.later (Below.refl _ _).drew)
  (try refine wp_region_noPanic ?_)
  refine wp_region_held_drew (S := fun wx => wx.heap[w.heap.size + 2]? = some (obObj v.k v.x v.n v.a v.l v.s) ∧ wx.heap[w.heap.size]? = some (obObj 10 false 0 0 0 ⟨#[]⟩) ∧ wx.cell? ⟨rb, 0, none⟩ = some (.slice (some ⟨g, 0, none⟩) (1 : Nat) cap) ∧ wx.cell? ⟨g, 3, none⟩ = some (.bool false)) (by kernel_rfl) SX.out (fun sx0 => ?_)
  clear SX
  have SX := Lib.hid sx0
  clear sx0
  generalize World.drew _ = wd4 at R SX ⊢
  refine wpAnyH_take (i := 0) (v := ptr rb) rfl (by kernel_rfl) (by kernel_rfl) (by kernel_rfl) (fun _ _ _ h => h) (Or.inl ⟨by rfl, fun wx hS => ?_⟩) SX.out ?_
  · go_simp
  try simp only [Act.put, List.getElem_toArray, List.getElem_cons_succ, List.getElem_cons_zero, List.setIfInBounds_toArray, List.set_cons_zero, List.set_cons_succ]
  refine wpAnyH_take (i := 1) (v := obV v.k v.x v.n v.a v.l v.s) rfl (by kernel_rfl) (by kernel_rfl) (by kernel_rfl) (fun _ _ _ h => h) (Or.inl ⟨by rfl, fun wx hS => ?_⟩) SX.out ?_
  · obtain ⟨⟨c0, c1, c2, c3, c4, c5⟩, _⟩ := cells6 hS.1; go_simp
  try simp only [Act.put, List.getElem_toArray, List.getElem_cons_succ, List.getElem_cons_zero, List.setIfInBounds_toArray, List.set_cons_zero, List.set_cons_succ]
  refine wpAnyH_ready (rs := [2]) (by kernel_rfl) (by simp) ?_
  refine AllReadyH.cons rfl (fun K hK => ?_) AllReadyH.nil
  go_simp
  obtain ⟨out', hd', _⟩ := R.out.st
  have hc2 := qMay hd' v
  rw [HM.out] at hc2
  simp only [Ob.val] at hc2
  refine hc2.mono ?_
  rintro e wc ⟨rfl, kc⟩
  replace R := Lib.hid (R.out.later kc)
  have SY := Lib.hid (And.intro R.out.at1 (And.intro R.out.at2 (And.intro (cell_later kc SX.out.2.2.1) (cell_later kc SX.out.2.2.2))))
  clear kc SX hc2 hd'
  have SX := SY
  clear SY
  refine hK.out _ _ SX.out (fun _ => ?_)
  clear hK
  try simp only [Act.put, List.getElem_toArray, List.getElem_cons_succ, List.getElem_cons_zero, List.setIfInBounds_toArray, List.set_cons_zero, List.set_cons_succ]
  refine wpAnyH_take (i := 3) (v := .bool false) rfl (by kernel_rfl) (by kernel_rfl) (by kernel_rfl) (fun _ _ _ h => h) (Or.inl ⟨by rfl, fun wx hS => ?_⟩) SX.out ?_
  · go_simp
  try simp only [Act.put, List.getElem_toArray, List.getElem_cons_succ, List.getElem_cons_zero, List.setIfInBounds_toArray, List.set_cons_zero, List.set_cons_succ]
  refine wpAnyH_take (i := 4) (v := .bool false) rfl (by kernel_rfl) (by kernel_rfl) (by kernel_rfl) (fun _ _ _ h => h) (Or.inl ⟨by rfl, fun wx hS => ?_⟩) SX.out ?_
  · go_simp
  try simp only [Act.put, List.getElem_toArray, List.getElem_cons_succ, List.getElem_cons_zero, List.setIfInBounds_toArray, List.set_cons_zero, List.set_cons_succ]
  refine wpAnyH_take (i := 5) (v := ptr rb) rfl (by kernel_rfl) (by kernel_rfl) (by kernel_rfl) (fun _ _ _ h => h) (Or.inl ⟨by rfl, fun wx hS => ?_⟩) SX.out ?_
  · go_simp
  try simp only [Act.put, List.getElem_toArray, List.getElem_cons_succ, List.getElem_cons_zero, List.setIfInBounds_toArray, List.set_cons_zero, List.set_cons_succ]
  refine wpAnyH_take (i := 6) (v := ptr rb) rfl (by kernel_rfl) (by kernel_rfl) (by kernel_rfl) (fun _ _ _ h => h) (Or.inl ⟨by rfl, fun wx hS => ?_⟩) SX.out ?_
  · go_simp
  try simp only [Act.put, List.getElem_toArray, List.getElem_cons_succ, List.getElem_cons_zero, List.setIfInBounds_toArray, List.set_cons_zero, List.set_cons_succ]
  refine wpAnyH_take (i := 7) (v := .pointer (some ⟨rb, 0, none⟩)) rfl (by kernel_rfl) (by kernel_rfl) (by kernel_rfl) (fun _ _ _ h => h) (Or.inl ⟨by rfl, fun wx hS => ?_⟩) SX.out ?_
  · go_simp
  try simp only [Act.put, List.getElem_toArray, List.getElem_cons_succ, List.getElem_cons_zero, List.setIfInBounds_toArray, List.set_cons_zero, List.set_cons_succ]
  refine wpAnyH_take (i := 8) (v := .slice (some ⟨g, 0, none⟩) (1 : Nat) cap) rfl (by kernel_rfl) (by kernel_rfl) (by kernel_rfl) (fun _ _ _ h => h) (Or.inl ⟨by rfl, fun wx hS => ?_⟩) SX.out ?_
  · have q1 := hS.2.2.1; go_simp
  try simp only [Act.put, List.getElem_toArray, List.getElem_cons_succ, List.getElem_cons_zero, List.setIfInBounds_toArray, List.set_cons_zero, List.set_cons_succ]
  refine wpAnyH_take (i := 9) (v := .pointer (some ⟨w.heap.size, 2, none⟩)) rfl (by kernel_rfl) (by kernel_rfl) (by kernel_rfl) (fun _ _ _ h => h) (Or.inl ⟨by rfl, fun wx hS => ?_⟩) SX.out ?_
  · go_simp
  try simp only [Act.put, List.getElem_toArray, List.getElem_cons_succ, List.getElem_cons_zero, List.setIfInBounds_toArray, List.set_cons_zero, List.set_cons_succ]
  refine wpAnyH_take (i := 10) (v := .int .i64 0) rfl (by kernel_rfl) (by kernel_rfl) (by kernel_rfl) (fun _ _ _ h => h) (Or.inl ⟨by rfl, fun wx hS => ?_⟩) SX.out ?_
  · obtain ⟨⟨c0, c1, c2, c3, c4, c5⟩, _⟩ := cells6 hS.2.1; go_simp
  try simp only [Act.put, List.getElem_toArray, List.getElem_cons_succ, List.getElem_cons_zero, List.setIfInBounds_toArray, List.set_cons_zero, List.set_cons_succ]
  refine wpAnyH_take (i := 11) (v := .pointer (some ⟨g, 0, none⟩)) rfl (by kernel_rfl) (by kernel_rfl) (by kernel_rfl) (fun _ _ _ h => h) (Or.inl ⟨by rfl, fun wx hS => ?_⟩) SX.out ?_
  · go_simp
  try simp only [Act.put, List.getElem_toArray, List.getElem_cons_succ, List.getElem_cons_zero, List.setIfInBounds_toArray, List.set_cons_zero, List.set_cons_succ]
  refine wpAnyH_take (i := 12) (v := .pointer (some ⟨g, 3, none⟩)) rfl (by kernel_rfl) (by kernel_rfl) (by kernel_rfl) (fun _ _ _ h => h) (Or.inl ⟨by rfl, fun wx hS => ?_⟩) SX.out ?_
  · go_simp
  try simp only [Act.put, List.getElem_toArray, List.getElem_cons_succ, List.getElem_cons_zero, List.setIfInBounds_toArray, List.set_cons_zero, List.set_cons_succ]
  refine wpAnyH_take (i := 13) (v := .bool false) rfl (by kernel_rfl) (by kernel_rfl) (by kernel_rfl) (fun _ _ _ h => h) (Or.inl ⟨by rfl, fun wx hS => ?_⟩) SX.out ?_
  · have q2 := hS.2.2.2; go_simp
  try simp only [Act.put, List.getElem_toArray, List.getElem_cons_succ, List.getElem_cons_zero, List.setIfInBounds_toArray, List.set_cons_zero, List.set_cons_succ]
  refine wpAnyH_take (i := 14) (v := .bool false) rfl (by kernel_rfl) (by kernel_rfl) (by kernel_rfl) (fun _ _ _ h => h) (Or.inl ⟨by rfl, fun wx hS => ?_⟩) SX.out ?_
  · go_simp
  try simp only [Act.put, List.getElem_toArray, List.getElem_cons_succ, List.getElem_cons_zero, List.setIfInBounds_toArray, List.set_cons_zero, List.set_cons_succ]
  refine wpAnyH_take (i := 15) (v := .bool false) rfl (by kernel_rfl) (by kernel_rfl) (by kernel_rfl) (fun _ _ _ h => h) (Or.inl ⟨by rfl, fun wx hS => ?_⟩) SX.out ?_
  · go_simp
  try simp only [Act.put, List.getElem_toArray, List.getElem_cons_succ, List.getElem_cons_zero, List.setIfInBounds_toArray, List.set_cons_zero, List.set_cons_succ]
  refine wpAnyH_done (by kernel_rfl) ?_ _
  (try refine no_panic ?_)
  clear SX
  replace R := Lib.hid R.out.swap
  obtain ⟨⟨c0, c1, c2, c3, c4, c5⟩, f0, f1, f2, f3, f4, f5⟩ := cells6 R.out.at0
  obtain ⟨⟨o0, o1, o2, o3, o4, o5⟩, _⟩ := cells6 R.out.at1
  obtain ⟨⟨p0, p1, p2, p3, p4, p5⟩, _⟩ := cells6 R.out.at2
  go_wp2_with fail
  have hc := R.out.leaf fun out h => qRoom h HG.out
  refine hc.mono ?_
  rintro e wc ⟨rfl, rr⟩
  replace R := Lib.hid rr
  clear hc rr o0 o1 o2 o3 o4 o5 p0 p1 p2 p3 p4 p5 c0 c1 c2 c3 c4 c5 f0 f1 f2 f3 f4 f5
  go_wp2
  go_ret
  exact ⟨rfl, R.out.fin⟩
set_option maxHeartbeats 4000000 in
set_option maxRecDepth 100000 in
theorem qset_new (h : DP base hb rb P (H1 ps rm) w) (G : Good rm ps) (k v : Ob) (hk : keyE (H1 ps rm) k = 0) (hv : mayH (H1 ps rm) v = true) (hix : ixD ps (keyO (H1 ps rm) k) ps.length = none) (hf : ¬ ps.length = rm) :
    Calls Try.prog 29 #[ptr rb, dO0.val, k.val, v.val] w fun e w' => e = .returned (.int .i64 0) ∧ DP base hb rb P (H1 (dsetL ps (keyO (H1 ps rm) k) v) rm) w' ∧ Kept base w w' := by
  have H := Lib.hid h
  have HG := Lib.hid G
  obtain ⟨q, hq⟩ : ∃ q, keyO (H1 ps rm) k = q := ⟨_, rfl⟩
  have HK := Lib.hid hk
  have HQ := Lib.hid hq
  have HM : Hid (mayH (HL (itemsD ps rm)) v = true) := Lib.hid hv
  have hkm := key_may hk
  rw [hq] at hkm
  have HKM : Hid (mayH (HL (itemsD ps rm)) q = true) := Lib.hid hkm
  have HN : Hid (ps.length ≤ rm ∧ rm ≤ 1000 ∧ (itemsD ps rm).length = 2 * rm + 1) := Lib.hid ⟨G.le, G.most, itemsD_length G.le⟩
  rw [hq] at hix
  obtain ⟨i, hi⟩ : ∃ i, ps.length = i := ⟨_, rfl⟩
  obtain ⟨m, hm⟩ : ∃ m, m = 2 * i := ⟨_, rfl⟩
  have bd := HN.out
  rw [hi] at hf bd
  have t1 : ((i : Int) == rm) = false := by simp; omega
  have t2 : ¬ (i : Int) = rm := by omega
  have t3 : ¬ i = rm := by omega
  have B1 : Hid (m + 1 < (itemsD ps rm).length) := Lib.hid (by omega)
  have B2 : Hid (0 < ((itemsD ps rm).set (m + 1) q).length) := Lib.hid (by rw [List.length_set]; omega)
  have B3 : Hid (m + 2 < (((itemsD ps rm).set (m + 1) q).set 0 (Ob.num ((i + 1 : Nat) : Int))).length) := Lib.hid (by rw [List.length_set, List.length_set]; omega)
  have M2 : Hid (mayH (HL ((itemsD ps rm).set (m + 1) q)) (Ob.num ((i + 1 : Nat) : Int)) = true) := Lib.hid (may_num _ _ (by omega))
  have M3 : Hid (mayH (HL (((itemsD ps rm).set (m + 1) q).set 0 (Ob.num ((i + 1 : Nat) : Int)))) v = true) := Lib.hid (by rw [hl_may (its' := itemsD ps rm) (by rw [List.length_set, List.length_set])]; exact HM.out)
  have HX : Hid (HL ((((itemsD ps rm).set (m + 1) q).set 0 (Ob.num ((i + 1 : Nat) : Int))).set (m + 2) v) = H1 (dsetL ps (keyO (H1 ps rm) k) v) rm) := Lib.hid (by
    rw [hq, dsetL, hix]
    simp only
    have := items_add (room := rm) (k := q) (v := v) (ps := ps) (by omega)
    rw [hi, ← hm] at this
    rw [set_three, this]
    rfl)
  have v1 : IntKind.i64.wrap (2 * (i : Int)) = m := by rw [IntWalk.i64_in _ (by omega)]; omega
  have v2 : wrap64 (2 * (i : Int)) = m := by rw [← IntWalk.i64_left]; exact v1
  have v3 : IntKind.i64.wrap ((m : Int) + 2) = ((m + 2 : Nat) : Int) := by rw [IntWalk.i64_in _ (by omega)]; omega
  have v4 : wrap64 ((m : Int) + 2) = ((m + 2 : Nat) : Int) := by rw [← IntWalk.i64_left]; exact v3
  have v5 : IntKind.i64.wrap ((m : Int) + 1) = ((m + 1 : Nat) : Int) := by rw [IntWalk.i64_in _ (by omega)]; omega
  have v6 : wrap64 ((m : Int) + 1) = ((m + 1 : Nat) : Int) := by rw [← IntWalk.i64_left]; exact v5
  have v7 : IntKind.i64.wrap ((i : Int) + 1) = ((i + 1 : Nat) : Int) := by rw [IntWalk.i64_in _ (by omega)]; omega
  have v8 : wrap64 ((i : Int) + 1) = ((i + 1 : Nat) : Int) := by rw [← IntWalk.i64_left]; exact v7
  have HI : Hid (atD ps q = ps.length) := Lib.hid (atD_none hix)
  have HNN := Lib.hid hi
  clear h G hk hv hq hix hkm hm bd hi hf
  simp only [Ob.val, dO0]
  go_enter Try.func29, Try.ntmps29
  go_upto_region 1 with fail
  obtain ⟨wb, eb, r1, zb⟩ := (Dr.begin H.out).three dO0 k v
  simp only [dO0] at eb r1
  rw [eb]
  have R := Lib.hid r1
  clear eb r1 zb
  obtain ⟨⟨c0, c1, c2, c3, c4, c5⟩, f0, f1, f2, f3, f4, f5⟩ := cells6 R.out.at0
  obtain ⟨⟨o0, o1, o2, o3, o4, o5⟩, _⟩ := cells6 R.out.at1
  obtain ⟨⟨p0, p1, p2, p3, p4, p5⟩, _⟩ := cells6 R.out.at2
  go_wp2_with fail
  have hc := R.out.leaf fun out h => qfind h HG.out k
  rw [HK.out, HQ.out, if_pos rfl, if_pos rfl, HI.out, HNN.out] at hc
  simp only [Ob.val, dO0] at hc
  refine hc.mono ?_
  rintro e wc ⟨rfl, rr⟩
  replace R := Lib.hid rr
  clear hc rr o0 o1 o2 o3 o4 o5 p0 p1 p2 p3 p4 p5 c0 c1 c2 c3 c4 c5 f0 f1 f2 f3 f4 f5
  replace R := Lib.hid R.out.swap
  obtain ⟨⟨c0, c1, c2, c3, c4, c5⟩, f0, f1, f2, f3, f4, f5⟩ := cells6 R.out.at0
  obtain ⟨⟨o0, o1, o2, o3, o4, o5⟩, _⟩ := cells6 R.out.at1
  obtain ⟨⟨p0, p1, p2, p3, p4, p5⟩, _⟩ := cells6 R.out.at2
  go_upto_region 2 with fail
  obtain ⟨w3, e3, go⟩ := R.out.put q
  unfold put6 at e3
  rw [e3]
  replace R := Lib.hid go
  clear go e3 o0 o1 o2 o3 o4 o5 p0 p1 p2 p3 p4 p5 c0 c1 c2 c3 c4 c5 f0 f1 f2 f3 f4 f5
  obtain ⟨g, cap, l1, l2⟩ : ∃ g cap, w3.cell? ⟨rb, 0, none⟩ = some (.slice (some ⟨g, 0, none⟩) (1 : Nat) cap) ∧ w3.cell? ⟨g, 3, none⟩ = some (.bool false) := by
    obtain ⟨out, hd, _⟩ := R.out.st
    exact hd.lock
  have SX : Hid (w3.heap[w.heap.size + 2]? = some (obObj v.k v.x v.n v.a v.l v.s) ∧ w3.heap[w.heap.size]? = some (obObj 10 false 0 0 0 ⟨#[]⟩) ∧ w3.cell? ⟨rb, 0, none⟩ = some (.slice (some ⟨g, 0, none⟩) (1 : Nat) cap) ∧ w3.cell? ⟨g, 3, none⟩ = some (.bool false)) := Lib.hid ⟨R.out.at1, R.out.at2, l1, l2⟩
  clear l1 l2
  go_upto_region 4 with fail
  replace R := Lib.hid (R.out.later (Below.refl _ _).drew)
  (try refine wp_region_noPanic ?_)
  refine wp_region_held_drew (S := fun wx => wx.heap[w.heap.size + 2]? = some (obObj v.k v.x v.n v.a v.l v.s) ∧ wx.heap[w.heap.size]? = some (obObj 10 false 0 0 0 ⟨#[]⟩) ∧ wx.cell? ⟨rb, 0, none⟩ = some (.slice (some ⟨g, 0, none⟩) (1 : Nat) cap) ∧ wx.cell? ⟨g, 3, none⟩ = some (.bool false)) (by kernel_rfl) SX.out (fun sx0 => ?_)
  clear SX
  have SX := Lib.hid sx0
  clear sx0
  generalize World.drew _ = wd4 at R SX ⊢
  refine wpAnyH_take (i := 0) (v := ptr rb) rfl (by kernel_rfl) (by kernel_rfl) (by kernel_rfl) (fun _ _ _ h => h) (Or.inl ⟨by rfl, fun wx hS => ?_⟩) SX.out ?_
  · go_simp
  try simp only [Act.put, List.getElem_toArray, List.getElem_cons_succ, List.getElem_cons_zero, List.setIfInBounds_toArray, List.set_cons_zero, List.set_cons_succ]
  refine wpAnyH_take (i := 1) (v := obV v.k v.x v.n v.a v.l v.s) rfl (by kernel_rfl) (by kernel_rfl) (by kernel_rfl) (fun _ _ _ h => h) (Or.inl ⟨by rfl, fun wx hS => ?_⟩) SX.out ?_
  · obtain ⟨⟨c0, c1, c2, c3, c4, c5⟩, _⟩ := cells6 hS.1; go_simp
  try simp only [Act.put, List.getElem_toArray, List.getElem_cons_succ, List.getElem_cons_zero, List.setIfInBounds_toArray, List.set_cons_zero, List.set_cons_succ]
  refine wpAnyH_ready (rs := [2]) (by kernel_rfl) (by simp) ?_
  refine AllReadyH.cons rfl (fun K hK => ?_) AllReadyH.nil
  go_simp
  obtain ⟨out', hd', _⟩ := R.out.st
  have hc2 := qMay hd' v
  rw [HM.out] at hc2
  simp only [Ob.val] at hc2
  refine hc2.mono ?_
  rintro e wc ⟨rfl, kc⟩
  replace R := Lib.hid (R.out.later kc)
  have SY := Lib.hid (And.intro R.out.at1 (And.intro R.out.at2 (And.intro (cell_later kc SX.out.2.2.1) (cell_later kc SX.out.2.2.2))))
  clear kc SX hc2 hd'
  have SX := SY
  clear SY
  refine hK.out _ _ SX.out (fun _ => ?_)
  clear hK
  try simp only [Act.put, List.getElem_toArray, List.getElem_cons_succ, List.getElem_cons_zero, List.setIfInBounds_toArray, List.set_cons_zero, List.set_cons_succ]
  refine wpAnyH_take (i := 3) (v := .bool false) rfl (by kernel_rfl) (by kernel_rfl) (by kernel_rfl) (fun _ _ _ h => h) (Or.inl ⟨by rfl, fun wx hS => ?_⟩) SX.out ?_
  · go_simp
  try simp only [Act.put, List.getElem_toArray, List.getElem_cons_succ, List.getElem_cons_zero, List.setIfInBounds_toArray, List.set_cons_zero, List.set_cons_succ]
  refine wpAnyH_take (i := 4) (v := .bool false) rfl (by kernel_rfl) (by kernel_rfl) (by kernel_rfl) (fun _ _ _ h => h) (Or.inl ⟨by rfl, fun wx hS => ?_⟩) SX.out ?_
  · go_simp
  try simp only [Act.put, List.getElem_toArray, List.getElem_cons_succ, List.getElem_cons_zero, List.setIfInBounds_toArray, List.set_cons_zero, List.set_cons_succ]
  refine wpAnyH_take (i := 5) (v := ptr rb) rfl (by kernel_rfl) (by kernel_rfl) (by kernel_rfl) (fun _ _ _ h => h) (Or.inl ⟨by rfl, fun wx hS => ?_⟩) SX.out ?_
  · go_simp
  try simp only [Act.put, List.getElem_toArray, List.getElem_cons_succ, List.getElem_cons_zero, List.setIfInBounds_toArray, List.set_cons_zero, List.set_cons_succ]
  refine wpAnyH_take (i := 6) (v := ptr rb) rfl (by kernel_rfl) (by kernel_rfl) (by kernel_rfl) (fun _ _ _ h => h) (Or.inl ⟨by rfl, fun wx hS => ?_⟩) SX.out ?_
  · go_simp
  try simp only [Act.put, List.getElem_toArray, List.getElem_cons_succ, List.getElem_cons_zero, List.setIfInBounds_toArray, List.set_cons_zero, List.set_cons_succ]
  refine wpAnyH_take (i := 7) (v := .pointer (some ⟨rb, 0, none⟩)) rfl (by kernel_rfl) (by kernel_rfl) (by kernel_rfl) (fun _ _ _ h => h) (Or.inl ⟨by rfl, fun wx hS => ?_⟩) SX.out ?_
  · go_simp
  try simp only [Act.put, List.getElem_toArray, List.getElem_cons_succ, List.getElem_cons_zero, List.setIfInBounds_toArray, List.set_cons_zero, List.set_cons_succ]
  refine wpAnyH_take (i := 8) (v := .slice (some ⟨g, 0, none⟩) (1 : Nat) cap) rfl (by kernel_rfl) (by kernel_rfl) (by kernel_rfl) (fun _ _ _ h => h) (Or.inl ⟨by rfl, fun wx hS => ?_⟩) SX.out ?_
  · have q1 := hS.2.2.1; go_simp
  try simp only [Act.put, List.getElem_toArray, List.getElem_cons_succ, List.getElem_cons_zero, List.setIfInBounds_toArray, List.set_cons_zero, List.set_cons_succ]
  refine wpAnyH_take (i := 9) (v := .pointer (some ⟨w.heap.size, 2, none⟩)) rfl (by kernel_rfl) (by kernel_rfl) (by kernel_rfl) (fun _ _ _ h => h) (Or.inl ⟨by rfl, fun wx hS => ?_⟩) SX.out ?_
  · go_simp
  try simp only [Act.put, List.getElem_toArray, List.getElem_cons_succ, List.getElem_cons_zero, List.setIfInBounds_toArray, List.set_cons_zero, List.set_cons_succ]
  refine wpAnyH_take (i := 10) (v := .int .i64 0) rfl (by kernel_rfl) (by kernel_rfl) (by kernel_rfl) (fun _ _ _ h => h) (Or.inl ⟨by rfl, fun wx hS => ?_⟩) SX.out ?_
  · obtain ⟨⟨c0, c1, c2, c3, c4, c5⟩, _⟩ := cells6 hS.2.1; go_simp
  try simp only [Act.put, List.getElem_toArray, List.getElem_cons_succ, List.getElem_cons_zero, List.setIfInBounds_toArray, List.set_cons_zero, List.set_cons_succ]
  refine wpAnyH_take (i := 11) (v := .pointer (some ⟨g, 0, none⟩)) rfl (by kernel_rfl) (by kernel_rfl) (by kernel_rfl) (fun _ _ _ h => h) (Or.inl ⟨by rfl, fun wx hS => ?_⟩) SX.out ?_
  · go_simp
  try simp only [Act.put, List.getElem_toArray, List.getElem_cons_succ, List.getElem_cons_zero, List.setIfInBounds_toArray, List.set_cons_zero, List.set_cons_succ]
  refine wpAnyH_take (i := 12) (v := .pointer (some ⟨g, 3, none⟩)) rfl (by kernel_rfl) (by kernel_rfl) (by kernel_rfl) (fun _ _ _ h => h) (Or.inl ⟨by rfl, fun wx hS => ?_⟩) SX.out ?_
  · go_simp
  try simp only [Act.put, List.getElem_toArray, List.getElem_cons_succ, List.getElem_cons_zero, List.setIfInBounds_toArray, List.set_cons_zero, List.set_cons_succ]
  refine wpAnyH_take (i := 13) (v := .bool false) rfl (by kernel_rfl) (by kernel_rfl) (by kernel_rfl) (fun _ _ _ h => h) (Or.inl ⟨by rfl, fun wx hS => ?_⟩) SX.out ?_
  · have q2 := hS.2.2.2; go_simp
  try simp only [Act.put, List.getElem_toArray, List.getElem_cons_succ, List.getElem_cons_zero, List.setIfInBounds_toArray, List.set_cons_zero, List.set_cons_succ]
  refine wpAnyH_take (i := 14) (v := .bool false) rfl (by kernel_rfl) (by kernel_rfl) (by kernel_rfl) (fun _ _ _ h => h) (Or.inl ⟨by rfl, fun wx hS => ?_⟩) SX.out ?_
  · go_simp
  try simp only [Act.put, List.getElem_toArray, List.getElem_cons_succ, List.getElem_cons_zero, List.setIfInBounds_toArray, List.set_cons_zero, List.set_cons_succ]
  refine wpAnyH_take (i := 15) (v := .bool false) rfl (by kernel_rfl) (by kernel_rfl) (by kernel_rfl) (fun _ _ _ h => h) (Or.inl ⟨by rfl, fun wx hS => ?_⟩) SX.out ?_
  · go_simp
  try simp only [Act.put, List.getElem_toArray, List.getElem_cons_succ, List.getElem_cons_zero, List.setIfInBounds_toArray, List.set_cons_zero, List.set_cons_succ]
  refine wpAnyH_done (by kernel_rfl) ?_ _
  (try refine no_panic ?_)
  clear SX
  replace R := Lib.hid R.out.swap
  obtain ⟨⟨c0, c1, c2, c3, c4, c5⟩, f0, f1, f2, f3, f4, f5⟩ := cells6 R.out.at0
  obtain ⟨⟨o0, o1, o2, o3, o4, o5⟩, _⟩ := cells6 R.out.at1
  obtain ⟨⟨p0, p1, p2, p3, p4, p5⟩, _⟩ := cells6 R.out.at2
  go_wp2_with fail
  have hc := R.out.leaf fun out h => qRoom h HG.out
  refine hc.mono ?_
  rintro e wc ⟨rfl, rr⟩
  replace R := Lib.hid rr
  clear hc rr o0 o1 o2 o3 o4 o5 p0 p1 p2 p3 p4 p5 c0 c1 c2 c3 c4 c5 f0 f1 f2 f3 f4 f5
  obtain ⟨⟨c0, c1, c2, c3, c4, c5⟩, f0, f1, f2, f3, f4, f5⟩ := cells6 R.out.at0
  obtain ⟨⟨o0, o1, o2, o3, o4, o5⟩, _⟩ := cells6 R.out.at1
  obtain ⟨⟨p0, p1, p2, p3, p4, p5⟩, _⟩ := cells6 R.out.at2
  go_wp2_with fail
  have hc := R.out.call fun out h => qPut h (m + 1) q B1.out HKM.out
  refine hc.mono ?_
  rintro e wc ⟨rfl, rr⟩
  replace R := Lib.hid rr
  clear hc rr o0 o1 o2 o3 o4 o5 p0 p1 p2 p3 p4 p5 c0 c1 c2 c3 c4 c5 f0 f1 f2 f3 f4 f5
  obtain ⟨⟨c0, c1, c2, c3, c4, c5⟩, f0, f1, f2, f3, f4, f5⟩ := cells6 R.out.at0
  obtain ⟨⟨o0, o1, o2, o3, o4, o5⟩, _⟩ := cells6 R.out.at1
  obtain ⟨⟨p0, p1, p2, p3, p4, p5⟩, _⟩ := cells6 R.out.at2
  go_wp2_with fail
  have hc := R.out.call fun out h => qPut h 0 (Ob.num ((i + 1 : Nat) : Int)) B2.out M2.out
  refine hc.mono ?_
  rintro e wc ⟨rfl, rr⟩
  replace R := Lib.hid rr
  clear hc rr o0 o1 o2 o3 o4 o5 p0 p1 p2 p3 p4 p5 c0 c1 c2 c3 c4 c5 f0 f1 f2 f3 f4 f5
  obtain ⟨⟨c0, c1, c2, c3, c4, c5⟩, f0, f1, f2, f3, f4, f5⟩ := cells6 R.out.at0
  obtain ⟨⟨o0, o1, o2, o3, o4, o5⟩, _⟩ := cells6 R.out.at1
  obtain ⟨⟨p0, p1, p2, p3, p4, p5⟩, _⟩ := cells6 R.out.at2
  go_wp2_with fail
  have hc := R.out.call fun out h => qPut h (m + 2) v B3.out M3.out
  refine hc.mono ?_
  rintro e wc ⟨rfl, rr⟩
  replace R := Lib.hid rr
  clear hc rr o0 o1 o2 o3 o4 o5 p0 p1 p2 p3 p4 p5 c0 c1 c2 c3 c4 c5 f0 f1 f2 f3 f4 f5
  go_wp2
  go_ret
  rw [HX.out] at R
  exact ⟨rfl, R.out.fin⟩
theorem qset12 (h : DP base hb rb P (H1 ps rm) w) (G : Good rm ps) (k v : Ob) :
    Calls Try.prog 29 #[ptr rb, dO0.val, k.val, v.val] w fun e w' => e = .returned (.int .i64 (dsetE (H1 ps rm) ps rm false k v)) ∧ DP base hb rb P (H1 (if dsetE (H1 ps rm) ps rm false k v = 0 then dsetL ps (keyO (H1 ps rm) k) v else ps) rm) w' ∧ Kept base w w' := by
  by_cases hk : keyE (H1 ps rm) k = 0
  · cases hv : mayH (H1 ps rm) v
    · have e : dsetE (H1 ps rm) ps rm false k v = 1 := by simp [dsetE, hk, hv]
      rw [e, if_neg (by decide)]
      exact qset_arg h G k v hk hv
    · cases hix : ixD ps (keyO (H1 ps rm) k) ps.length with
      | some i =>
        have e : dsetE (H1 ps rm) ps rm false k v = 0 := by simp [dsetE, hk, hv, hix]
        rw [e, if_pos rfl]
        exact qset_have h G k v hk hv i hix
      | none =>
        by_cases hf : ps.length = rm
        · have e : dsetE (H1 ps rm) ps rm false k v = 20 := by
            rw [dsetE, if_pos hk, if_pos ⟨hv, rfl⟩, hix]
            simp [hf]
          rw [e, if_neg (by decide)]
          exact qset_full h G k v hk hv hix hf
        · have e : dsetE (H1 ps rm) ps rm false k v = 0 := by simp [dsetE, hk, hv, hix, hf]
          rw [e, if_pos rfl]
          exact qset_new h G k v hk hv hix hf
  · have e : dsetE (H1 ps rm) ps rm false k v = keyE (H1 ps rm) k := by simp [dsetE, hk]
    rw [e, if_neg hk]
    exact qset_err h G k v _ rfl hk
end
end Go.Proofs.Ytlkbnldpecolbaa
