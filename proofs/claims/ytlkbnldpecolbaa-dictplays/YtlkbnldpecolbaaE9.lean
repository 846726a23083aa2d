/- Walks of tympanref12: Drop. -/
import Derived.Test.YtlkbnldpecolbaaE8
namespace Go.Proofs.Ytlkbnldpecolbaa
open Go.RowKit
set_option linter.unusedVariables false
set_option linter.unusedSimpArgs false

-- omega without the facts that speak of wrapped numbers
set_option hygiene false in
local macro "omg" : tactic => `(tactic| ((try clear q1); (try clear q2); (try clear q3); (try clear q4); (try clear q5); (try clear q6); (try clear v1); (try clear v2); (try clear v3); (try clear v4); (try clear v5); (try clear v6); (try clear v7); (try clear v1'); (try clear v2'); (try clear v3'); (try clear v4'); (try clear v5'); (try clear v6'); (try clear v7'); omega))
theorem wrp {x : Int} (y : Int) (h : x = y) (h1 : -9223372036854775808 ≤ y) (h2 : y ≤ 9223372036854775807) : IntKind.i64.wrap x = y ∧ wrap64 x = y := by
  subst h
  have q : IntKind.i64.wrap x = x := IntWalk.i64_in _ ⟨h1, by omega⟩
  exact ⟨q, by rw [← IntWalk.i64_left]; exact q⟩
theorem hl_get {its : List Ob} {i : Nat} {x : Ob} (hi : its[i]? = some x) : getE (HL its) dO0 i = 0 ∧ getO (HL its) dO0 i = x := by
  have hl := (List.getElem?_eq_some_iff.1 hi).1
  have hz : lenO (HL its) dO0 = its.length := by
    rw [lenO, (hl_r its).ok]
    simp [cellOf, dO0, Cel.size]
  have e : getE (HL its) dO0 i = 0 := by
    rw [getE, (hl_r its).ok, hz]
    simp
    omega
  refine ⟨e, ?_⟩
  rw [getO, if_pos e, itemAt]
  simp [cellOf, dO0, List.getD_eq_getElem?_getD, hi]
section
variable {base : Nat → Prop} {out : Nat → Prop} {hb rb rm : Nat} {P : List Cel} {ps : List (Ob × Ob)} {its : List Ob} {w w' : World}
theorem qGet (h : DP out hb rb P (HL its) w) (i : Nat) (x : Ob) (hi : its[i]? = some x) : Calls Try.prog 70 #[ptr rb, dO0.val, .int .i64 i] w fun e w' => e = .returned (.tuple #[x.val, .int .i64 0]) ∧ Below w.heap.size w w' := h.refLeaf fun own u R r e => by
  have := rget_tot r dO0 i
  rw [e, (hl_get hi).1, (hl_get hi).2] at this
  exact this
set_option maxHeartbeats 4000000 in
set_option maxRecDepth 100000 in
theorem qdrop_err (h : DP base hb rb P (H1 ps rm) w) (G : Good rm ps) (k : Ob) (E : Int) (hk : keyE (H1 ps rm) k = E) (hE : E ≠ 0) :
    Calls Try.prog 30 #[ptr rb, dO0.val, k.val] w fun e w' => e = .returned (.int .i64 E) ∧ DP base hb rb P (H1 ps rm) w' ∧ Kept base w w' := by
  have H := Lib.hid h
  have HG := Lib.hid G
  obtain ⟨q, hq⟩ : ∃ q, keyO (H1 ps rm) k = q := ⟨_, rfl⟩
  have HK := Lib.hid hk
  have HQ := Lib.hid hq
  have hE' : (E != 0) = true := by simpa using hE
  have HN : Hid (¬ E = 0) := Lib.hid hE
  clear h G hk hq hE
  simp only [Ob.val, dO0]
  go_enter Try.func30, Try.ntmps30
  go_upto_region 1 with fail
  obtain ⟨wb, eb, r1, zb⟩ := (Dr.begin H.out).two dO0 k
  simp only [dO0] at eb r1
  rw [eb]
  have R := Lib.hid r1
  clear eb r1 zb
  obtain ⟨⟨c0, c1, c2, c3, c4, c5⟩, f0, f1, f2, f3, f4, f5⟩ := cells6 R.out.at0
  obtain ⟨⟨o0, o1, o2, o3, o4, o5⟩, _⟩ := cells6 R.out.at1
  go_wp2_with fail
  have hc := R.out.leaf fun out h => qfind h HG.out k
  rw [HK.out, HQ.out, if_neg HN.out, if_neg HN.out] at hc
  simp only [Ob.val, dO0] at hc
  refine hc.mono ?_
  rintro e wc ⟨rfl, rr⟩
  replace R := Lib.hid rr
  clear hc rr c0 c1 c2 c3 c4 c5 f0 f1 f2 f3 f4 f5 o0 o1 o2 o3 o4 o5
  go_upto_region 2 with fail
  obtain ⟨w3, e3, r3, z3⟩ := R.out.one q
  rw [e3]
  replace R := Lib.hid r3
  obtain ⟨B2, hB2⟩ : ∃ B2, wc.heap.size = B2 := ⟨_, rfl⟩
  rw [hB2] at R ⊢
  clear e3 r3 z3 hB2
  go_wp2
  go_ret
  exact ⟨rfl, R.out.fin⟩
set_option maxHeartbeats 4000000 in
set_option maxRecDepth 100000 in
theorem qdrop_miss (h : DP base hb rb P (H1 ps rm) w) (G : Good rm ps) (k : Ob) (hk : keyE (H1 ps rm) k = 0) (hix : ixD ps (keyO (H1 ps rm) k) ps.length = none) :
    Calls Try.prog 30 #[ptr rb, dO0.val, k.val] w fun e w' => e = .returned (.int .i64 0) ∧ DP base hb rb P (H1 ps rm) w' ∧ Kept base w w' := by
  have H := Lib.hid h
  have HG := Lib.hid G
  obtain ⟨q, hq⟩ : ∃ q, keyO (H1 ps rm) k = q := ⟨_, rfl⟩
  have HK := Lib.hid hk
  have HQ := Lib.hid hq
  rw [hq] at hix
  have HI : Hid (atD ps q = ps.length) := Lib.hid (atD_none hix)
  obtain ⟨n, hn⟩ : ∃ n, ps.length = n := ⟨_, rfl⟩
  have HNN := Lib.hid hn
  clear h G hk hq hix hn
  simp only [Ob.val, dO0]
  go_enter Try.func30, Try.ntmps30
  go_upto_region 1 with fail
  obtain ⟨wb, eb, r1, zb⟩ := (Dr.begin H.out).two dO0 k
  simp only [dO0] at eb r1
  rw [eb]
  have R := Lib.hid r1
  clear eb r1 zb
  obtain ⟨⟨c0, c1, c2, c3, c4, c5⟩, f0, f1, f2, f3, f4, f5⟩ := cells6 R.out.at0
  obtain ⟨⟨o0, o1, o2, o3, o4, o5⟩, _⟩ := cells6 R.out.at1
  go_wp2_with fail
  have hc := R.out.leaf fun out h => qfind h HG.out k
  rw [HK.out, HQ.out, if_pos rfl, if_pos rfl, HI.out, HNN.out] at hc
  simp only [Ob.val, dO0] at hc
  refine hc.mono ?_
  rintro e wc ⟨rfl, rr⟩
  replace R := Lib.hid rr
  clear hc rr c0 c1 c2 c3 c4 c5 f0 f1 f2 f3 f4 f5 o0 o1 o2 o3 o4 o5
  go_upto_region 2 with fail
  obtain ⟨w3, e3, r3, z3⟩ := R.out.one q
  rw [e3]
  replace R := Lib.hid r3
  obtain ⟨B2, hB2⟩ : ∃ B2, wc.heap.size = B2 := ⟨_, rfl⟩
  rw [hB2] at R ⊢
  clear e3 r3 z3 hB2
  go_wp2
  go_ret
  exact ⟨rfl, R.out.fin⟩
set_option maxHeartbeats 4000000 in
set_option maxRecDepth 100000 in
theorem qdrop_have (h : DP base hb rb P (H1 ps rm) w) (G : Good rm ps) (k : Ob) (hk : keyE (H1 ps rm) k = 0) (i : Nat) (hix : ixD ps (keyO (H1 ps rm) k) ps.length = some i) :
    Calls Try.prog 30 #[ptr rb, dO0.val, k.val] w fun e w' => e = .returned (.int .i64 0) ∧ DP base hb rb P (H1 (ps.eraseIdx i) rm) w' ∧ Kept base w w' := by
  have H := Lib.hid h
  have HG := Lib.hid G
  obtain ⟨q, hq⟩ : ∃ q, keyO (H1 ps rm) k = q := ⟨_, rfl⟩
  have HK := Lib.hid hk
  have HQ := Lib.hid hq
  rw [hq] at hix
  have hl := (ixD_some hix).1
  have HI : Hid (atD ps q = i) := Lib.hid (atD_some hix)
  obtain ⟨n, hn⟩ : ∃ n, ps.length = n := ⟨_, rfl⟩
  rw [hn] at hl
  obtain ⟨its, hits⟩ : ∃ its, itemsD ps rm = its := ⟨_, rfl⟩
  have hlen : its.length = 2 * rm + 1 := by rw [← hits]; exact itemsD_length G.le
  have hrm := G.most
  have hle := G.le
  rw [hn] at hle
  obtain ⟨m, hm⟩ : ∃ m, 2 * i = m := ⟨_, rfl⟩
  obtain ⟨a, ha⟩ : ∃ a, m + 1 = a := ⟨_, rfl⟩
  obtain ⟨z, hz⟩ : ∃ z, 2 * n = z := ⟨_, rfl⟩
  obtain ⟨u, hu⟩ : ∃ u, z - 1 = u := ⟨_, rfl⟩
  obtain ⟨cnt, hcnt⟩ : ∃ cnt, u - a = cnt := ⟨_, rfl⟩
  obtain ⟨n1, hn1⟩ : ∃ n1, n - 1 = n1 := ⟨_, rfl⟩
  have HA : Hid (a + cnt = u ∧ u + 1 = z ∧ z + 1 ≤ its.length ∧ its.length ≤ 2001 ∧ n1 + 1 = n ∧ 1 ≤ a ∧ n1 ≤ 1000) := Lib.hid (by omega)
  have W1 := Lib.hid (wrp (x := 2 * (i : Int)) (m : Int) (by omega) (by omega) (by omega))
  have W2 := Lib.hid (wrp (x := (m : Int) + 1) (a : Int) (by omega) (by omega) (by omega))
  have W3 := Lib.hid (wrp (x := 2 * (n : Int)) (z : Int) (by omega) (by omega) (by omega))
  have W4 := Lib.hid (wrp (x := (z : Int) - 1) (u : Int) (by omega) (by omega) (by omega))
  have W5 := Lib.hid (wrp (x := (n : Int) - 1) (n1 : Int) (by omega) (by omega) (by omega))
  have HM : Hid (∀ its', its'.length = its.length → ∀ x ∈ its, mayH (HL its') x = true) := Lib.hid fun its' hl' x hx => by
    rw [hl_may (its' := itemsD ps rm) (by rw [hits]; exact hl')]
    exact G.all x (by rw [hits]; exact hx)
  have HX : Hid (HL ((((sh its a cnt).set u Ob.null).set z Ob.null).set 0 (Ob.num (n1 : Int))) = H1 (ps.eraseIdx i) rm) := Lib.hid (by
    have := items_drop (ps := ps) (room := rm) (i := i) (m := cnt) (a := a) (e := z + 1) G.le (by rw [hn]; exact hl) (by omega) (by omega) (by omega)
    rw [hits, hn, hn1, show z + 1 - 2 = u from by omega, show z + 1 - 1 = z from by omega] at this
    rw [this]
    rfl)
  have HIT : Hid (H1 ps rm = HL its) := Lib.hid (by rw [← hits]; rfl)
  have HNN := Lib.hid hn
  have t1 : ((i : Int) == n) = false := by simp; omega
  have t2 : ¬ (i : Int) = n := by omega
  have t3 : ¬ i = n := by omega
  clear h G hk hq hix hl hits hlen hrm hle hm ha hz hu hcnt hn1 hn
  simp only [Ob.val, dO0]
  go_enter Try.func30, Try.ntmps30
  go_upto_region 1 with fail
  obtain ⟨wb, eb, r1, zb⟩ := (Dr.begin H.out).two dO0 k
  simp only [dO0] at eb r1
  rw [eb]
  have R := Lib.hid r1
  clear eb r1 zb
  obtain ⟨⟨c0, c1, c2, c3, c4, c5⟩, f0, f1, f2, f3, f4, f5⟩ := cells6 R.out.at0
  obtain ⟨⟨o0, o1, o2, o3, o4, o5⟩, _⟩ := cells6 R.out.at1
  go_wp2_with fail
  have hc := R.out.leaf fun out h => qfind h HG.out k
  rw [HK.out, HQ.out, if_pos rfl, if_pos rfl, HI.out, HNN.out] at hc
  simp only [Ob.val, dO0] at hc
  refine hc.mono ?_
  rintro e wc ⟨rfl, rr⟩
  replace R := Lib.hid rr
  clear hc rr c0 c1 c2 c3 c4 c5 f0 f1 f2 f3 f4 f5 o0 o1 o2 o3 o4 o5
  go_upto_region 2 with fail
  obtain ⟨w3, e3, r3, z3⟩ := R.out.one q
  rw [e3]
  replace R := Lib.hid r3
  obtain ⟨B2, hB2⟩ : ∃ B2, wc.heap.size = B2 := ⟨_, rfl⟩
  rw [hB2] at R ⊢
  clear e3 r3 z3 hB2
  rw [HIT.out] at R
  obtain ⟨g, cap, l1, l2⟩ : ∃ g cap, w3.cell? ⟨rb, 0, none⟩ = some (.slice (some ⟨g, 0, none⟩) (1 : Nat) cap) ∧ w3.cell? ⟨g, 3, none⟩ = some (.bool false) := by
    obtain ⟨out, hd, _⟩ := R.out.st
    exact hd.lock
  have SX : Hid (w3.heap[w.heap.size]? = some (obObj 10 false 0 0 0 ⟨#[]⟩) ∧ w3.cell? ⟨rb, 0, none⟩ = some (.slice (some ⟨g, 0, none⟩) (1 : Nat) cap) ∧ w3.cell? ⟨g, 3, none⟩ = some (.bool false)) := Lib.hid ⟨R.out.at2, l1, l2⟩
  clear l1 l2
  go_upto_region 4 with fail
  replace R := Lib.hid (R.out.later (Below.refl _ _).drew)
  (try refine wp_region_noPanic ?_)
  refine wp_region_held_drew (S := fun wx => wx.heap[w.heap.size]? = some (obObj 10 false 0 0 0 ⟨#[]⟩) ∧ wx.cell? ⟨rb, 0, none⟩ = some (.slice (some ⟨g, 0, none⟩) (1 : Nat) cap) ∧ wx.cell? ⟨g, 3, none⟩ = some (.bool false)) (by kernel_rfl) SX.out (fun sx0 => ?_)
  clear SX
  have SX := Lib.hid sx0
  clear sx0
  generalize World.drew _ = wd4 at R SX ⊢
  refine wpAnyH_take (i := 0) (v := ptr rb) rfl (by kernel_rfl) (by kernel_rfl) (by kernel_rfl) (fun _ _ _ h => h) (Or.inl ⟨by rfl, fun wx hS => ?_⟩) SX.out ?_
  · go_simp
  try simp only [Act.put, List.getElem_toArray, List.getElem_cons_succ, List.getElem_cons_zero, List.setIfInBounds_toArray, List.set_cons_zero, List.set_cons_succ]
  refine wpAnyH_take (i := 1) (v := ptr rb) rfl (by kernel_rfl) (by kernel_rfl) (by kernel_rfl) (fun _ _ _ h => h) (Or.inl ⟨by rfl, fun wx hS => ?_⟩) SX.out ?_
  · go_simp
  try simp only [Act.put, List.getElem_toArray, List.getElem_cons_succ, List.getElem_cons_zero, List.setIfInBounds_toArray, List.set_cons_zero, List.set_cons_succ]
  refine wpAnyH_take (i := 2) (v := .pointer (some ⟨rb, 0, none⟩)) rfl (by kernel_rfl) (by kernel_rfl) (by kernel_rfl) (fun _ _ _ h => h) (Or.inl ⟨by rfl, fun wx hS => ?_⟩) SX.out ?_
  · go_simp
  try simp only [Act.put, List.getElem_toArray, List.getElem_cons_succ, List.getElem_cons_zero, List.setIfInBounds_toArray, List.set_cons_zero, List.set_cons_succ]
  refine wpAnyH_take (i := 3) (v := .slice (some ⟨g, 0, none⟩) (1 : Nat) cap) rfl (by kernel_rfl) (by kernel_rfl) (by kernel_rfl) (fun _ _ _ h => h) (Or.inl ⟨by rfl, fun wx hS => ?_⟩) SX.out ?_
  · have q1 := hS.2.1; go_simp
  try simp only [Act.put, List.getElem_toArray, List.getElem_cons_succ, List.getElem_cons_zero, List.setIfInBounds_toArray, List.set_cons_zero, List.set_cons_succ]
  refine wpAnyH_take (i := 4) (v := .pointer (some ⟨w.heap.size, 2, none⟩)) rfl (by kernel_rfl) (by kernel_rfl) (by kernel_rfl) (fun _ _ _ h => h) (Or.inl ⟨by rfl, fun wx hS => ?_⟩) SX.out ?_
  · go_simp
  try simp only [Act.put, List.getElem_toArray, List.getElem_cons_succ, List.getElem_cons_zero, List.setIfInBounds_toArray, List.set_cons_zero, List.set_cons_succ]
  refine wpAnyH_take (i := 5) (v := .int .i64 0) rfl (by kernel_rfl) (by kernel_rfl) (by kernel_rfl) (fun _ _ _ h => h) (Or.inl ⟨by rfl, fun wx hS => ?_⟩) SX.out ?_
  · obtain ⟨⟨c0, c1, c2, c3, c4, c5⟩, _⟩ := cells6 hS.1; go_simp
  try simp only [Act.put, List.getElem_toArray, List.getElem_cons_succ, List.getElem_cons_zero, List.setIfInBounds_toArray, List.set_cons_zero, List.set_cons_succ]
  refine wpAnyH_take (i := 6) (v := .pointer (some ⟨g, 0, none⟩)) rfl (by kernel_rfl) (by kernel_rfl) (by kernel_rfl) (fun _ _ _ h => h) (Or.inl ⟨by rfl, fun wx hS => ?_⟩) SX.out ?_
  · go_simp
  try simp only [Act.put, List.getElem_toArray, List.getElem_cons_succ, List.getElem_cons_zero, List.setIfInBounds_toArray, List.set_cons_zero, List.set_cons_succ]
  refine wpAnyH_take (i := 7) (v := .pointer (some ⟨g, 3, none⟩)) rfl (by kernel_rfl) (by kernel_rfl) (by kernel_rfl) (fun _ _ _ h => h) (Or.inl ⟨by rfl, fun wx hS => ?_⟩) SX.out ?_
  · go_simp
  try simp only [Act.put, List.getElem_toArray, List.getElem_cons_succ, List.getElem_cons_zero, List.setIfInBounds_toArray, List.set_cons_zero, List.set_cons_succ]
  refine wpAnyH_take (i := 8) (v := .bool false) rfl (by kernel_rfl) (by kernel_rfl) (by kernel_rfl) (fun _ _ _ h => h) (Or.inl ⟨by rfl, fun wx hS => ?_⟩) SX.out ?_
  · have q2 := hS.2.2; go_simp
  try simp only [Act.put, List.getElem_toArray, List.getElem_cons_succ, List.getElem_cons_zero, List.setIfInBounds_toArray, List.set_cons_zero, List.set_cons_succ]
  refine wpAnyH_take (i := 9) (v := .bool false) rfl (by kernel_rfl) (by kernel_rfl) (by kernel_rfl) (fun _ _ _ h => h) (Or.inl ⟨by rfl, fun wx hS => ?_⟩) SX.out ?_
  · go_simp
  try simp only [Act.put, List.getElem_toArray, List.getElem_cons_succ, List.getElem_cons_zero, List.setIfInBounds_toArray, List.set_cons_zero, List.set_cons_succ]
  refine wpAnyH_done (by kernel_rfl) ?_ _
  (try refine no_panic ?_)
  clear SX
  have R : Hid (Dr base w hb rb P (HL (sh its a 0)) [(B2, obObj q.k q.x q.n q.a q.l q.s), (w.heap.size + 1, obObj k.k k.x k.n k.a k.l k.s), (w.heap.size, obObj 10 false 0 0 0 ⟨#[]⟩)] wd4) := Lib.hid R.out
  obtain ⟨v1, v1'⟩ := W1.out
  obtain ⟨v2, v2'⟩ := W2.out
  go_wp2
  go_loopw [11] (fun x wr => ∃ t : Nat, t ≤ cnt ∧ x = .int .i64 ((a + t : Nat) : Int) ∧ Dr base w hb rb P (HL (sh its a t)) [(B2, obObj q.k q.x q.n q.a q.l q.s), (w.heap.size + 1, obObj k.k k.x k.n k.a k.l k.s), (w.heap.size, obObj 10 false 0 0 0 ⟨#[]⟩)] wr) (fun x _ => (a + cnt) - (intOf x).toNat)
  case atStart => exact ⟨0, Nat.zero_le _, rfl, R.out⟩
  case round =>
    obtain ⟨t, ht, rfl, hr⟩ := hrel
    clear R v1 v1' v2 v2'
    have R := Lib.hid hr
    clear hr
    have HT := Lib.hid ht
    clear ht
    obtain ⟨J, hJ⟩ : ∃ J, a + t = J := ⟨_, rfl⟩
    rw [hJ]
    have HJ := Lib.hid hJ
    obtain ⟨v3, v3'⟩ := W3.out
    obtain ⟨v4, v4'⟩ := W4.out
    by_cases hlt : t < cnt
    · have t4 : (J : Int) < u := by have := HA.out; omg
      have HB : Hid (J + 2 < its.length ∧ t < cnt) := Lib.hid (by have := HA.out; omg)
      have W6 := Lib.hid (wrp (x := (J : Int) + 2) ((J + 2 : Nat) : Int) (by omg) (by omg) (by have := HB.out; have := HA.out; omg))
      have W7 := Lib.hid (wrp (x := (J : Int) + 1) ((J + 1 : Nat) : Int) (by omg) (by omg) (by have := HB.out; have := HA.out; omg))
      obtain ⟨x, hx⟩ : ∃ x, its[J + 2]? = some x := ⟨_, List.getElem?_eq_getElem HB.out.1⟩
      have HXJ : Hid ((sh its a t)[J + 2]? = some x) := Lib.hid (by rw [← hJ, sh_get its a t _ (by have := HB.out; omg), if_neg (by omg), hJ]; exact hx)
      have HSJ : Hid ((sh its a t).set J x = sh its a (t + 1)) := Lib.hid (by rw [sh, ← hJ, List.getD_eq_getElem?_getD, hJ, hx]; rfl)
      have HLJ : Hid (J < (sh its a t).length) := Lib.hid (by rw [sh_length]; have := HB.out; omg)
      have HMJ : Hid (mayH (HL (sh its a t)) x = true) := Lib.hid (HM.out _ (sh_length ..) x (List.mem_of_getElem? hx))
      clear hJ hlt hx
      obtain ⟨v6, v6'⟩ := W6.out
      obtain ⟨⟨c0, c1, c2, c3, c4, c5⟩, f0, f1, f2, f3, f4, f5⟩ := cells6 R.out.at0
      obtain ⟨⟨o0, o1, o2, o3, o4, o5⟩, _⟩ := cells6 R.out.at1
      obtain ⟨⟨p0, p1, p2, p3, p4, p5⟩, _⟩ := cells6 R.out.at2
      go_wp2_with fail
      have hc := R.out.leaf fun out h => qGet h (J + 2) x HXJ.out
      simp only [Ob.val, dO0] at hc
      refine hc.mono ?_
      rintro e wc ⟨rfl, rr⟩
      replace R := Lib.hid rr
      clear hc rr c0 c1 c2 c3 c4 c5 f0 f1 f2 f3 f4 f5 o0 o1 o2 o3 o4 o5 p0 p1 p2 p3 p4 p5
      go_upto_region 10 with fail
      obtain ⟨wd, ed, r3, z3⟩ := R.out.one x
      rw [ed]
      replace R := Lib.hid r3
      clear ed r3 z3
      obtain ⟨⟨c0, c1, c2, c3, c4, c5⟩, f0, f1, f2, f3, f4, f5⟩ := cells6 R.out.at0
      obtain ⟨⟨o0, o1, o2, o3, o4, o5⟩, _⟩ := cells6 R.out.at1
      obtain ⟨⟨p0, p1, p2, p3, p4, p5⟩, _⟩ := cells6 R.out.at2
      obtain ⟨⟨q0, q1, q2, q3, q4, q5⟩, _⟩ := cells6 R.out.at3
      go_wp2_with fail
      have hc := R.out.call fun out h => qPut h J x HLJ.out HMJ.out
      skip
      refine hc.mono ?_
      rintro e we ⟨rfl, rr⟩
      replace R := Lib.hid rr
      clear hc rr c0 c1 c2 c3 c4 c5 f0 f1 f2 f3 f4 f5 o0 o1 o2 o3 o4 o5 p0 p1 p2 p3 p4 p5 q0 q1 q2 q3 q4 q5
      obtain ⟨v7, v7'⟩ := W7.out
      go_wp2
      go_roundw
      case rel =>
        have R2 := R.out.sub (List.sublist_cons_self _ _)
        rw [HSJ.out] at R2
        exact ⟨t + 1, HB.out.2, by rw [← HJ.out]; rfl, R2⟩
      case measure => simp [intOf]; have := HA.out; have := HJ.out; have := HB.out; omg
    · obtain rfl : t = cnt := by have := HT.out; omg
      have t4 : J = u := by have := HA.out; omg
      subst t4
      have B1 : Hid (J < (sh its a t).length) := Lib.hid (by rw [sh_length]; have := HA.out; omg)
      have B2' : Hid (z < ((sh its a t).set J Ob.null).length) := Lib.hid (by rw [List.length_set, sh_length]; have := HA.out; omg)
      have B3 : Hid (0 < (((sh its a t).set J Ob.null).set z Ob.null).length) := Lib.hid (by rw [List.length_set, List.length_set, sh_length]; have := HA.out; omg)
      have M3 : Hid (mayH (HL (((sh its a t).set J Ob.null).set z Ob.null)) (Ob.num (n1 : Int)) = true) := Lib.hid (may_num _ _ (by have := HA.out; omg))
      clear hJ hlt
      obtain ⟨⟨c0, c1, c2, c3, c4, c5⟩, f0, f1, f2, f3, f4, f5⟩ := cells6 R.out.at0
      obtain ⟨⟨o0, o1, o2, o3, o4, o5⟩, _⟩ := cells6 R.out.at1
      obtain ⟨⟨p0, p1, p2, p3, p4, p5⟩, _⟩ := cells6 R.out.at2
      go_wp2_with fail
      have hc := R.out.call fun out h => qPut h J Ob.null B1.out rfl
      skip
      refine hc.mono ?_
      rintro e wc ⟨rfl, rr⟩
      replace R := Lib.hid rr
      clear hc rr c0 c1 c2 c3 c4 c5 f0 f1 f2 f3 f4 f5 o0 o1 o2 o3 o4 o5 p0 p1 p2 p3 p4 p5
      obtain ⟨⟨c0, c1, c2, c3, c4, c5⟩, f0, f1, f2, f3, f4, f5⟩ := cells6 R.out.at0
      obtain ⟨⟨o0, o1, o2, o3, o4, o5⟩, _⟩ := cells6 R.out.at1
      obtain ⟨⟨p0, p1, p2, p3, p4, p5⟩, _⟩ := cells6 R.out.at2
      go_wp2_with fail
      have hc := R.out.call fun out h => qPut h z Ob.null B2'.out rfl
      skip
      refine hc.mono ?_
      rintro e wc ⟨rfl, rr⟩
      replace R := Lib.hid rr
      clear hc rr c0 c1 c2 c3 c4 c5 f0 f1 f2 f3 f4 f5 o0 o1 o2 o3 o4 o5 p0 p1 p2 p3 p4 p5
      obtain ⟨v5, v5'⟩ := W5.out
      obtain ⟨⟨c0, c1, c2, c3, c4, c5⟩, f0, f1, f2, f3, f4, f5⟩ := cells6 R.out.at0
      obtain ⟨⟨o0, o1, o2, o3, o4, o5⟩, _⟩ := cells6 R.out.at1
      obtain ⟨⟨p0, p1, p2, p3, p4, p5⟩, _⟩ := cells6 R.out.at2
      go_wp2_with fail
      have hc := R.out.call fun out h => qPut h 0 (Ob.num (n1 : Int)) B3.out M3.out
      skip
      refine hc.mono ?_
      rintro e wc ⟨rfl, rr⟩
      replace R := Lib.hid rr
      clear hc rr c0 c1 c2 c3 c4 c5 f0 f1 f2 f3 f4 f5 o0 o1 o2 o3 o4 o5 p0 p1 p2 p3 p4 p5
      go_wp2
      go_ret
      rw [HX.out] at R
      exact ⟨rfl, R.out.fin⟩
theorem qdrop12 (h : DP base hb rb P (H1 ps rm) w) (G : Good rm ps) (k : Ob) :
    Calls Try.prog 30 #[ptr rb, dO0.val, k.val] w fun e w' => e = .returned (.int .i64 (dropE (H1 ps rm) ps false k)) ∧ DP base hb rb P (H1 (if dropE (H1 ps rm) ps false k = 0 then dropL ps (keyO (H1 ps rm) k) else ps) rm) w' ∧ Kept base w w' := by
  by_cases hk : keyE (H1 ps rm) k = 0
  · have e : dropE (H1 ps rm) ps false k = 0 := by simp [dropE, hk]
    rw [e, if_pos rfl, dropL]
    cases hix : ixD ps (keyO (H1 ps rm) k) ps.length with
    | some i => exact qdrop_have h G k hk i hix
    | none => exact qdrop_miss h G k hk hix
  · have e : dropE (H1 ps rm) ps false k = keyE (H1 ps rm) k := by simp [dropE, hk]
    rw [e, if_neg hk]
    exact qdrop_err h G k _ rfl hk
end
end Go.Proofs.Ytlkbnldpecolbaa
