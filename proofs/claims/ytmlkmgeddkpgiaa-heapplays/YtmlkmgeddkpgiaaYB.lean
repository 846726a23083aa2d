/- YB: U10, U11, U12, U13, U14, U15, U16. -/
import Derived.Test.YtmlkmgeddkpgiaaYA
/- Walks of tympanref11: Set of an item. -/
namespace Go.Proofs.Ytmlkmgeddkpgiaa
open Go.RowKit
set_option linter.unusedVariables false
set_option linter.unusedSimpArgs false

/-- A row of objects, copied whole. -/
theorem items_copy {w : World} {I : Nat → Prop} {p : Option Addr} {c : Nat} {its : List Ob} (h : rowC w I (.slice p its.length c) its.length (obCells its)) (hz : its.length ≤ 40000) (ty : TypeId) :
    ∃ v' w', (Builtin.append_ #[33, 33] ty #[.slice none 0 0, .slice p its.length c]).run Try.prog w = .ok v' w' ∧ ItemsOf w its v' w' := by
  obtain ⟨i0, hi, hz0, hz1, hz2⟩ := info_parts info24
  obtain ⟨v', w', hr, h1, h2, _⟩ := app_copy h 33 24 i0 _ 6 56 Try.underlying33 hi hz0 hz1 hz2 rfl (by decide) (obCells_length _) (obCells_one _) (by unfold maxLen; omega) (by omega) ty
  exact ⟨v', w', hr, h1, h2⟩
/-- What make of a written row is left: the heap as it lies when an item has been set. -/
theorem RH.item {own : Nat → Prop} {rb g cap n j g2 cp2 : Nat} {R : List RC} {r : RC} {q : Ob} {w w1 w2 w3 w4 : World} (h : RH own rb (.slice (some ⟨g, 0, none⟩) R.length cap) R w) (ho : ∀ b, own b → b < w.heap.size) (hr : R[n]? = some r) (hg : g ≠ rb) (hj : j < r.c.it.length) (hb : r.c.bs = [])
    (k1 : Below w.heap.size w w1) (hg2 : w.heap.size ≤ g2) (hown : w1.ownsRow w.heap.size 24 6 (.slice (some ⟨g2, 0, none⟩) r.c.it.length cp2) r.c.it.length (obCells r.c.it))
    (on : Only g w1 w2) (cg : w2.cell? ⟨g, n * 4 + 1, none⟩ = some (.slice (some ⟨g2, 0, none⟩) r.c.it.length cp2)) (co : ∀ t, t ≠ n * 4 + 1 → w2.cell? ⟨g, t, none⟩ = w1.cell? ⟨g, t, none⟩) (fo : ∀ t, w2.frozen? ⟨g, t, none⟩ = w1.frozen? ⟨g, t, none⟩)
    (e3 : w2.drew = w3) (e4 : w3.setCells g2 (j * 6) q.cells = w4) :
    RH (Plus own w w4) rb (.slice (some ⟨g, 0, none⟩) R.length cap) (R.set n ⟨⟨r.c.k, r.c.lk, r.c.it.set j q, r.c.bs⟩, .slice (some ⟨g2, 0, none⟩) r.c.it.length cp2, r.bs⟩) w4 := by
  have hgl : g < w.heap.size := own_lt h rfl
  have hg2' := hown.lt g2 rfl
  have hown3 : w3.ownsRow w.heap.size 24 6 (.slice (some ⟨g2, 0, none⟩) r.c.it.length cp2) r.c.it.length (obCells r.c.it) := owns_at hown fun b e => by
    have := own_eq e
    rw [← e3]
    exact on.block b (by omega)
  have E0 := owns_put q.cells (j * 6) w3 _ hown3
  rw [e4] at E0
  have on4 := E0.2
  have hs : w.heap.size ≤ w4.heap.size := by
    rw [on4.size, ← e3]
    show w.heap.size ≤ w2.heap.size
    rw [on.size]
    exact k1.size
  have old : ∀ b, b < w.heap.size → b ≠ g → w4.heap[b]? = w.heap[b]? := fun b hb hbg => by
    rw [on4.block b (by omega), ← e3]
    exact (on.block b hbg).trans (k1.block b hb)
  have hgb : w4.heap[g]? = w2.heap[g]? := by
    rw [on4.block g (by omega), ← e3]
    rfl
  have atg : ∀ t, w4.cell? ⟨g, t, none⟩ = w2.cell? ⟨g, t, none⟩ := fun t => World.cell?_of_block (w := w2) (a := ⟨g, t, none⟩) hgb
  have c1 : ∀ t, w1.cell? ⟨g, t, none⟩ = w.cell? ⟨g, t, none⟩ := fun t => World.cell?_of_block (a := ⟨g, t, none⟩) (k1.block g hgl)
  obtain ⟨_, _, ev, _, _, _, d0, d1, d2, d3⟩ := h.at hr
  injection ev with ev1 ev2 ev3
  injection ev1 with ev1
  injection ev1 with ev1 _ _
  subst ev1 ev3
  have fx : ∀ b, Im own rb (.slice (some ⟨g, 0, none⟩) R.length cap) b → b < w.heap.size → Im (Plus own w w4) rb (.slice (some ⟨g, 0, none⟩) R.length cap) b ∧ w4.heap[b]? = w.heap[b]? := fun b q hb => ⟨⟨.inl q.1, q.2.1, q.2.2⟩, old b hb fun e => q.2.2 (by rw [e]; rfl)⟩
  have hz4 : g2 < w4.heap.size := (E0.1.lt g2 rfl).2
  refine h.put ho hr hg _ hs old (fun t ht => ?_) (fun t ht => by rw [atg, co t (by omega), c1]) (fun t => ?_) ⟨?_, (h.sub n r hr).2.same hs fx⟩ (by simp [Cel.size]) ?_
  · match t, ht with
    | 0, _ => exact (atg _).trans ((co _ (by omega)).trans ((c1 _).trans d0))
    | 1, _ => exact (atg _).trans cg
    | 2, _ => exact (atg _).trans ((co _ (by omega)).trans ((c1 _).trans d2))
    | 3, _ => exact (atg _).trans ((co _ (by omega)).trans ((c1 _).trans d3))
  · rw [World.frozen?_of_block (w := w2) (a := ⟨g, t, none⟩) hgb, fo, World.frozen?_of_block (w := w) (a := ⟨g, t, none⟩) (k1.block g hgl)]
    exact h.free g rfl t
  · have hl : (r.c.it.set j q).length = r.c.it.length := by simp
    show rowC w4 _ _ (r.c.it.set j q).length (obCells (r.c.it.set j q))
    rw [hl, ← obCells_put q r.c.it j hj]
    refine rowC_of_owns E0.1 (fun b e => ?_) (fun e => by omega)
    have := own_eq e
    subst this
    exact ⟨.inr ⟨hg2, hz4⟩, by have := blk_lt h.hdr; omega, fun e => by have := own_eq e; omega⟩
  · rcases h.wf.kind r.c (cell_mem (cels_get hr)) with ⟨_, q2⟩ | ⟨q1, q2⟩
    · rw [q2] at hj
      simp at hj
    · exact .inr ⟨q1, q2⟩
section
variable {own : Nat → Prop} {rb : Nat} {v : Value} {R : List RC} {w : World}
set_option maxHeartbeats 4000000 in
set_option maxRecDepth 100000 in
theorem rset_item (h : RH own rb v R w) (ho : ∀ b, own b → b < w.heap.size) (o : Ob) (i : Nat) (q : Ob) (hok : okO (cels R) o = true) (hk : o.k ≠ 8) (hi : (i : Int) < lenO (cels R) o) (hlk : (cellOf (cels R) o).lk = false) (hq : mayH (cels R) q = true) :
    Calls Try.prog 15 #[ptr rb, o.val, .int .i64 i, q.val] w fun e w' => e = .returned (.int .i64 0) ∧ (∃ R', RH (Plus own w w') rb v R' w' ∧ cels R' = setP (cels R) o i q) ∧ Kept (fun b => b < w.heap.size ∧ b ≠ rb ∧ v.ownBlock ≠ some b) w w' := by
  have hr := Lib.hid (fun wx (kx : Below w.heap.size w wx) => rroom_any (h.below kx) o)
  rw [errO_ok hok] at hr
  obtain ⟨r, n, lo, m, g, cap, O, og, gr, gl⟩ := h.opened o hok
  have hsp : setP (cels R) o i q = (cels R).set n ⟨r.c.k, r.c.lk, r.c.it.set (lo + i) q, r.c.bs⟩ := by
    have e : setE (cels R) o i q = 0 := by
      rw [setE, hok, hlk]
      simp [hk, hi, hq]
    rw [setP, if_pos e, putItem, O.cell, if_neg (by rw [O.kind]; exact hk), O.nat, O.a, show ((lo : Int) + (i : Int)).toNat = lo + i from by omega]
  have hbs := O.itm hk
  have hs : r.c.size = r.c.it.length := by simp [Cel.size, hbs]
  have hfit := O.fits
  have hsz := O.size
  have hmm := O.leno
  rw [hmm] at hi
  rw [O.at_, hmm] at hr
  rw [O.val] at hr ⊢
  rw [O.cell] at hlk
  obtain ⟨p1, c1, e2, _⟩ := (h.sub _ r O.get).1.form
  have d1 := O.d1
  rw [e2] at d1
  have d3' := O.d3
  rw [hlk] at d3'
  have hd := h.hdr
  have hrow := O.row
  subst hrow
  have HSP := Lib.hid hsp
  have H := Lib.hid h
  have HO := Lib.hid ho
  have HR := Lib.hid O.get
  have HX : Hid (lo + i < r.c.it.length) := Lib.hid (by omega)
  have D1 := Lib.hid d1
  have D3 := Lib.hid d3'
  have HD := Lib.hid hd
  have HF := Lib.hid (h.free g rfl)
  have HG := Lib.hid (And.intro gr gl)
  have HZ : Hid (r.c.it.length ≤ 40000) := Lib.hid (by omega)
  have HB := Lib.hid hbs
  have HQ := Lib.hid hq
  have E2 := Lib.hid e2
  have t0 : (0 : Int) ≤ n := by omega
  have t1 : (n : Int) < R.length := by have := O.lt; omega
  have t2 : ¬ ((i : Int) < 0) := by omega
  have t3 : ¬ ((i : Int) ≥ m) := by omega
  have hk8 : (o.k == 8) = false := by simpa using hk
  clear h ho hok hi hlk O hsp hbs hs hfit hsz hmm e2 d1 d3' hd og gr gl hq hk
  rw [show q.val = obV q.k q.x q.n q.a q.l q.s from rfl]
  go_enter Try.func15, Try.ntmps15
  go_upto_region 1 with fail
  obtain ⟨wb, eb, kb, zb, sx⟩ := set_box2 w rb g R.length cap n o.k o.a o.l q.k q.n q.a q.l o.x q.x o.s q.s HD.out
  rw [eb]
  have SX := Lib.hid sx
  have KB := Lib.hid kb
  have ZB := Lib.hid zb
  obtain ⟨c0', c1', c2', c3', c4', c5'⟩ := ob_cells sx.o
  clear eb kb zb sx
  go_wp2_with fail
  refine (hr.out _ KB.out).mono ?_
  rintro e wc ⟨rfl, kc⟩
  have SC := Lib.hid (SX.out.keep fun b _ hb => kc.block b hb)
  have KC := Lib.hid (below_and KB.out kc)
  have ZC : Hid (w.heap.size + 2 ≤ wc.heap.size) := Lib.hid (by have := kc.size; have := ZB.out; omega)
  clear kc c0' c1' c2' c3' c4' c5' SX KB ZB hr
  have h0 : wc.cell? ⟨rb, 0, none⟩ = some (.slice (some ⟨g, 0, none⟩) R.length cap) := cellAt SC.out.hd 0
  have d3 := cell_later KC.out D3.out
  obtain ⟨c0', c1', c2', c3', c4', c5'⟩ := ob_cells SC.out.o
  obtain ⟨q0, q1, q2, q3, q4, q5⟩ := ob_cells SC.out.q
  go_upto_region 6 with fail
  go_quiet (fail)
  go_upto_region 16 with fail
  go_wp2_with fail
  have sq0 : SetX (wc.drewN nq) rb w.heap.size g R.length cap n o.k o.a o.l q.k q.n q.a q.l o.x q.x o.s q.s := SC.out.keep fun _ _ _ => rfl
  have kq0 : Below w.heap.size w (wc.drewN nq) := below_and KC.out (below_drewN _ _)
  have zq0 : w.heap.size + 2 ≤ (wc.drewN nq).heap.size := ZC.out
  generalize wc.drewN nq = wm at sq0 kq0 zq0 ⊢
  clear h0 d3 c0' c1' c2' c3' c4' c5' q0 q1 q2 q3 q4 q5
  have CM := rmayH_any (H.out.below kq0) q
  rw [HQ.out] at CM
  refine (show Calls Try.prog 74 #[ptr rb, obV q.k q.x q.n q.a q.l q.s] wm _ from CM).mono ?_
  rintro e wq ⟨rfl, km⟩
  have sq : SetX wq rb w.heap.size g R.length cap n o.k o.a o.l q.k q.n q.a q.l o.x q.x o.s q.s := sq0.keep fun b _ hb => km.block b hb
  have kq : Below w.heap.size w wq := below_and kq0 km
  have zq : w.heap.size + 2 ≤ wq.heap.size := Nat.le_trans zq0 km.size
  clear CM sq0 kq0 zq0 km
  go_upto_region 18 with fail
  have SQ' : SetX wq.drew rb w.heap.size g R.length cap n o.k o.a o.l q.k q.n q.a q.l o.x q.x o.s q.s := sq.keep fun _ _ _ => rfl
  have kd : Below w.heap.size w wq.drew := kq.drew
  have zd : w.heap.size + 2 ≤ wq.drew.heap.size := zq
  (try refine wp_region_noPanic ?_)
  refine wp_region_held_drew (S := fun wx => SetX wx rb w.heap.size g R.length cap n o.k o.a o.l q.k q.n q.a q.l o.x q.x o.s q.s) (by kernel_rfl) SQ' (fun _ => ?_)
  generalize wq.drew = wd at SQ' kd zd ⊢
  have SQ := Lib.hid SQ'
  have KD := Lib.hid kd
  have ZD := Lib.hid zd
  clear sq kq zq SQ' kd zd
  refine wpAnyH_take (i := 0) (v := ptr rb) rfl (by kernel_rfl) (by kernel_rfl) (by kernel_rfl) (fun _ _ _ h => h) (Or.inl ⟨by rfl, fun wx hS => ?_⟩) SQ.out ?_
  · have hh : wx.cell? ⟨rb, 0, none⟩ = some (.slice (some ⟨g, 0, none⟩) R.length cap) := cellAt hS.hd 0
    have hq : wx.cell? ⟨w.heap.size, 2, none⟩ = some (.int .i64 n) := cellAt hS.o 2
    go_simp
  try simp only [Act.put, List.getElem_toArray, List.getElem_cons_succ, List.getElem_cons_zero, List.setIfInBounds_toArray, List.set_cons_zero, List.set_cons_succ]
  refine wpAnyH_take (i := 1) (v := ptr rb) rfl (by kernel_rfl) (by kernel_rfl) (by kernel_rfl) (fun _ _ _ h => h) (Or.inl ⟨by rfl, fun wx hS => ?_⟩) SQ.out ?_
  · have hh : wx.cell? ⟨rb, 0, none⟩ = some (.slice (some ⟨g, 0, none⟩) R.length cap) := cellAt hS.hd 0
    have hq : wx.cell? ⟨w.heap.size, 2, none⟩ = some (.int .i64 n) := cellAt hS.o 2
    go_simp
  try simp only [Act.put, List.getElem_toArray, List.getElem_cons_succ, List.getElem_cons_zero, List.setIfInBounds_toArray, List.set_cons_zero, List.set_cons_succ]
  refine wpAnyH_take (i := 2) (v := .pointer (some ⟨rb, 0, none⟩)) rfl (by kernel_rfl) (by kernel_rfl) (by kernel_rfl) (fun _ _ _ h => h) (Or.inl ⟨by rfl, fun wx hS => ?_⟩) SQ.out ?_
  · have hh : wx.cell? ⟨rb, 0, none⟩ = some (.slice (some ⟨g, 0, none⟩) R.length cap) := cellAt hS.hd 0
    have hq : wx.cell? ⟨w.heap.size, 2, none⟩ = some (.int .i64 n) := cellAt hS.o 2
    go_simp
  try simp only [Act.put, List.getElem_toArray, List.getElem_cons_succ, List.getElem_cons_zero, List.setIfInBounds_toArray, List.set_cons_zero, List.set_cons_succ]
  refine wpAnyH_take (i := 3) (v := .slice (some ⟨g, 0, none⟩) R.length cap) rfl (by kernel_rfl) (by kernel_rfl) (by kernel_rfl) (fun _ _ _ h => h) (Or.inl ⟨by rfl, fun wx hS => ?_⟩) SQ.out ?_
  · have hh : wx.cell? ⟨rb, 0, none⟩ = some (.slice (some ⟨g, 0, none⟩) R.length cap) := cellAt hS.hd 0
    have hq : wx.cell? ⟨w.heap.size, 2, none⟩ = some (.int .i64 n) := cellAt hS.o 2
    go_simp
  try simp only [Act.put, List.getElem_toArray, List.getElem_cons_succ, List.getElem_cons_zero, List.setIfInBounds_toArray, List.set_cons_zero, List.set_cons_succ]
  refine wpAnyH_take (i := 4) (v := .pointer (some ⟨w.heap.size, 2, none⟩)) rfl (by kernel_rfl) (by kernel_rfl) (by kernel_rfl) (fun _ _ _ h => h) (Or.inl ⟨by rfl, fun wx hS => ?_⟩) SQ.out ?_
  · have hh : wx.cell? ⟨rb, 0, none⟩ = some (.slice (some ⟨g, 0, none⟩) R.length cap) := cellAt hS.hd 0
    have hq : wx.cell? ⟨w.heap.size, 2, none⟩ = some (.int .i64 n) := cellAt hS.o 2
    go_simp
  try simp only [Act.put, List.getElem_toArray, List.getElem_cons_succ, List.getElem_cons_zero, List.setIfInBounds_toArray, List.set_cons_zero, List.set_cons_succ]
  refine wpAnyH_take (i := 5) (v := .int .i64 n) rfl (by kernel_rfl) (by kernel_rfl) (by kernel_rfl) (fun _ _ _ h => h) (Or.inl ⟨by rfl, fun wx hS => ?_⟩) SQ.out ?_
  · have hh : wx.cell? ⟨rb, 0, none⟩ = some (.slice (some ⟨g, 0, none⟩) R.length cap) := cellAt hS.hd 0
    have hq : wx.cell? ⟨w.heap.size, 2, none⟩ = some (.int .i64 n) := cellAt hS.o 2
    go_simp
  try simp only [Act.put, List.getElem_toArray, List.getElem_cons_succ, List.getElem_cons_zero, List.setIfInBounds_toArray, List.set_cons_zero, List.set_cons_succ]
  refine wpAnyH_take (i := 6) (v := ptr rb) rfl (by kernel_rfl) (by kernel_rfl) (by kernel_rfl) (fun _ _ _ h => h) (Or.inl ⟨by rfl, fun wx hS => ?_⟩) SQ.out ?_
  · have hh : wx.cell? ⟨rb, 0, none⟩ = some (.slice (some ⟨g, 0, none⟩) R.length cap) := cellAt hS.hd 0
    have hq : wx.cell? ⟨w.heap.size, 2, none⟩ = some (.int .i64 n) := cellAt hS.o 2
    go_simp
  try simp only [Act.put, List.getElem_toArray, List.getElem_cons_succ, List.getElem_cons_zero, List.setIfInBounds_toArray, List.set_cons_zero, List.set_cons_succ]
  refine wpAnyH_take (i := 7) (v := ptr rb) rfl (by kernel_rfl) (by kernel_rfl) (by kernel_rfl) (fun _ _ _ h => h) (Or.inl ⟨by rfl, fun wx hS => ?_⟩) SQ.out ?_
  · have hh : wx.cell? ⟨rb, 0, none⟩ = some (.slice (some ⟨g, 0, none⟩) R.length cap) := cellAt hS.hd 0
    have hq : wx.cell? ⟨w.heap.size, 2, none⟩ = some (.int .i64 n) := cellAt hS.o 2
    go_simp
  try simp only [Act.put, List.getElem_toArray, List.getElem_cons_succ, List.getElem_cons_zero, List.setIfInBounds_toArray, List.set_cons_zero, List.set_cons_succ]
  refine wpAnyH_take (i := 8) (v := .pointer (some ⟨rb, 0, none⟩)) rfl (by kernel_rfl) (by kernel_rfl) (by kernel_rfl) (fun _ _ _ h => h) (Or.inl ⟨by rfl, fun wx hS => ?_⟩) SQ.out ?_
  · have hh : wx.cell? ⟨rb, 0, none⟩ = some (.slice (some ⟨g, 0, none⟩) R.length cap) := cellAt hS.hd 0
    have hq : wx.cell? ⟨w.heap.size, 2, none⟩ = some (.int .i64 n) := cellAt hS.o 2
    go_simp
  try simp only [Act.put, List.getElem_toArray, List.getElem_cons_succ, List.getElem_cons_zero, List.setIfInBounds_toArray, List.set_cons_zero, List.set_cons_succ]
  refine wpAnyH_take (i := 9) (v := .slice (some ⟨g, 0, none⟩) R.length cap) rfl (by kernel_rfl) (by kernel_rfl) (by kernel_rfl) (fun _ _ _ h => h) (Or.inl ⟨by rfl, fun wx hS => ?_⟩) SQ.out ?_
  · have hh : wx.cell? ⟨rb, 0, none⟩ = some (.slice (some ⟨g, 0, none⟩) R.length cap) := cellAt hS.hd 0
    have hq : wx.cell? ⟨w.heap.size, 2, none⟩ = some (.int .i64 n) := cellAt hS.o 2
    go_simp
  try simp only [Act.put, List.getElem_toArray, List.getElem_cons_succ, List.getElem_cons_zero, List.setIfInBounds_toArray, List.set_cons_zero, List.set_cons_succ]
  refine wpAnyH_take (i := 10) (v := .pointer (some ⟨w.heap.size, 2, none⟩)) rfl (by kernel_rfl) (by kernel_rfl) (by kernel_rfl) (fun _ _ _ h => h) (Or.inl ⟨by rfl, fun wx hS => ?_⟩) SQ.out ?_
  · have hh : wx.cell? ⟨rb, 0, none⟩ = some (.slice (some ⟨g, 0, none⟩) R.length cap) := cellAt hS.hd 0
    have hq : wx.cell? ⟨w.heap.size, 2, none⟩ = some (.int .i64 n) := cellAt hS.o 2
    go_simp
  try simp only [Act.put, List.getElem_toArray, List.getElem_cons_succ, List.getElem_cons_zero, List.setIfInBounds_toArray, List.set_cons_zero, List.set_cons_succ]
  refine wpAnyH_take (i := 11) (v := .int .i64 n) rfl (by kernel_rfl) (by kernel_rfl) (by kernel_rfl) (fun _ _ _ h => h) (Or.inl ⟨by rfl, fun wx hS => ?_⟩) SQ.out ?_
  · have hh : wx.cell? ⟨rb, 0, none⟩ = some (.slice (some ⟨g, 0, none⟩) R.length cap) := cellAt hS.hd 0
    have hq : wx.cell? ⟨w.heap.size, 2, none⟩ = some (.int .i64 n) := cellAt hS.o 2
    go_simp
  try simp only [Act.put, List.getElem_toArray, List.getElem_cons_succ, List.getElem_cons_zero, List.setIfInBounds_toArray, List.set_cons_zero, List.set_cons_succ]
  refine wpAnyH_take (i := 12) (v := .pointer (some ⟨g, n * 4, none⟩)) rfl (by kernel_rfl) (by kernel_rfl) (by kernel_rfl) (fun _ _ _ h => h) (Or.inl ⟨by rfl, fun wx hS => ?_⟩) SQ.out ?_
  · have hh : wx.cell? ⟨rb, 0, none⟩ = some (.slice (some ⟨g, 0, none⟩) R.length cap) := cellAt hS.hd 0
    have hq : wx.cell? ⟨w.heap.size, 2, none⟩ = some (.int .i64 n) := cellAt hS.o 2
    go_simp
  try simp only [Act.put, List.getElem_toArray, List.getElem_cons_succ, List.getElem_cons_zero, List.setIfInBounds_toArray, List.set_cons_zero, List.set_cons_succ]
  refine wpAnyH_take (i := 13) (v := .pointer (some ⟨g, n * 4 + 1, none⟩)) rfl (by kernel_rfl) (by kernel_rfl) (by kernel_rfl) (fun _ _ _ h => h) (Or.inl ⟨by rfl, fun wx hS => ?_⟩) SQ.out ?_
  · have hh : wx.cell? ⟨rb, 0, none⟩ = some (.slice (some ⟨g, 0, none⟩) R.length cap) := cellAt hS.hd 0
    have hq : wx.cell? ⟨w.heap.size, 2, none⟩ = some (.int .i64 n) := cellAt hS.o 2
    go_simp
  try simp only [Act.put, List.getElem_toArray, List.getElem_cons_succ, List.getElem_cons_zero, List.setIfInBounds_toArray, List.set_cons_zero, List.set_cons_succ]
  have d1 := cell_later KD.out D1.out
  refine wpAnyH_ready (rs := [14]) (by kernel_rfl) (by simp) ?_
  refine AllReadyH.cons rfl (fun K hK => ?_) AllReadyH.nil
  go_simp
  refine hK.out _ _ SQ.out (fun _ => ?_)
  clear hK
  try simp only [Act.put, List.getElem_toArray, List.getElem_cons_succ, List.getElem_cons_zero, List.setIfInBounds_toArray, List.set_cons_zero, List.set_cons_succ]
  refine wpAnyH_ready (rs := [15]) (by kernel_rfl) (by simp) ?_
  refine AllReadyH.cons rfl (fun K hK => ?_) AllReadyH.nil
  refine step_append_ex rfl _ _ 33 rfl (.slice none 0 0) (.slice p1 r.c.it.length c1) rfl rfl _ (items_copy (by have := ((H.out.below KD.out).sub _ r HR.out).1; rw [E2.out] at this; exact this) HZ.out _) ?_
  rintro v1 w1 hcp
  obtain ⟨g2, cp2, rfl, hg2, hg2'⟩ := hcp.own.form (by have := HX.out; omega)
  have CP := Lib.hid hcp
  have HG2 := Lib.hid (And.intro hg2 hg2')
  clear hcp hg2 hg2' d1
  have S1 := Lib.hid (SQ.out.keep fun b _ hb => CP.out.below.block b hb)
  refine hK.out _ _ S1.out (fun _ => ?_)
  clear hK
  try simp only [Act.put, List.getElem_toArray, List.getElem_cons_succ, List.getElem_cons_zero, List.setIfInBounds_toArray, List.set_cons_zero, List.set_cons_succ]
  refine wpAnyH_take (i := 16) (v := .pointer (some ⟨g, n * 4, none⟩)) rfl (by kernel_rfl) (by kernel_rfl) (by kernel_rfl) (fun _ _ _ h => h) (Or.inl ⟨by rfl, fun wx hS => ?_⟩) S1.out ?_
  · have hh : wx.cell? ⟨rb, 0, none⟩ = some (.slice (some ⟨g, 0, none⟩) R.length cap) := cellAt hS.hd 0
    have hq : wx.cell? ⟨w.heap.size, 2, none⟩ = some (.int .i64 n) := cellAt hS.o 2
    go_simp
  try simp only [Act.put, List.getElem_toArray, List.getElem_cons_succ, List.getElem_cons_zero, List.setIfInBounds_toArray, List.set_cons_zero, List.set_cons_succ]
  refine wpAnyH_take (i := 17) (v := .pointer (some ⟨g, n * 4 + 1, none⟩)) rfl (by kernel_rfl) (by kernel_rfl) (by kernel_rfl) (fun _ _ _ h => h) (Or.inl ⟨by rfl, fun wx hS => ?_⟩) S1.out ?_
  · have hh : wx.cell? ⟨rb, 0, none⟩ = some (.slice (some ⟨g, 0, none⟩) R.length cap) := cellAt hS.hd 0
    have hq : wx.cell? ⟨w.heap.size, 2, none⟩ = some (.int .i64 n) := cellAt hS.o 2
    go_simp
  try simp only [Act.put, List.getElem_toArray, List.getElem_cons_succ, List.getElem_cons_zero, List.setIfInBounds_toArray, List.set_cons_zero, List.set_cons_succ]
  have K1 : Hid (Below w.heap.size w w1) := Lib.hid (below_and KD.out CP.out.below)
  have c2 := cell_later K1.out D1.out
  have f2 : w1.frozen? ⟨g, n * 4 + 1, none⟩ = false := by rw [World.frozen?_of_block (w := w) (a := ⟨g, n * 4 + 1, none⟩) (K1.out.block _ HG.out.2)]; exact HF.out _
  refine wpAnyH_ready (rs := [18]) (by kernel_rfl) (by simp) ?_
  refine AllReadyH.cons rfl (fun K hK => ?_) AllReadyH.nil
  go_simp
  have onG : Only g w1 (w1.setCell ⟨g, n * 4 + 1, none⟩ (.slice (some ⟨g2, 0, none⟩) r.c.it.length cp2)) := (Only.refl _ _).set _ _
  have cG : (w1.setCell ⟨g, n * 4 + 1, none⟩ (.slice (some ⟨g2, 0, none⟩) r.c.it.length cp2)).cell? ⟨g, n * 4 + 1, none⟩ = some (.slice (some ⟨g2, 0, none⟩) r.c.it.length cp2) := World.cell?_setCell_same _ _ _ c2
  have cO : ∀ j, j ≠ n * 4 + 1 → (w1.setCell ⟨g, n * 4 + 1, none⟩ (.slice (some ⟨g2, 0, none⟩) r.c.it.length cp2)).cell? ⟨g, j, none⟩ = w1.cell? ⟨g, j, none⟩ := fun j hj => World.cell?_setCell_other _ _ _ _ (by simp <;> omega)
  have fO : ∀ j, (w1.setCell ⟨g, n * 4 + 1, none⟩ (.slice (some ⟨g2, 0, none⟩) r.c.it.length cp2)).frozen? ⟨g, j, none⟩ = w1.frozen? ⟨g, j, none⟩ := fun j => by simp
  generalize w1.setCell ⟨g, n * 4 + 1, none⟩ (.slice (some ⟨g2, 0, none⟩) r.c.it.length cp2) = w2 at onG cG cO fO ⊢
  have S2 := Lib.hid (S1.out.keep (w' := w2) fun b hb _ => onG.block b (by have := HG.out; rcases hb with q | q | q <;> omega))
  refine hK.out _ _ S2.out (fun _ => ?_)
  clear hK
  refine wpAnyH_done (by kernel_rfl) ?_ _
  (try refine no_panic ?_)
  have ON := Lib.hid onG
  have CG := Lib.hid cG
  have CO := Lib.hid cO
  have FO := Lib.hid fO
  clear onG cG cO fO c2 f2
  go_upto_region 19 with fail
  have hh : w2.cell? ⟨rb, 0, none⟩ = some (.slice (some ⟨g, 0, none⟩) R.length cap) := cellAt S2.out.hd 0
  have hq : w2.cell? ⟨w.heap.size, 2, none⟩ = some (.int .i64 n) := cellAt S2.out.o 2
  obtain ⟨q0, q1, q2, q3, q4, q5⟩ := ob_cells S2.out.q
  have hv := CG.out
  obtain ⟨j, hj⟩ : ∃ j, lo + i = j := ⟨_, rfl⟩
  have e5 : IntKind.i64.wrap ((lo : Int) + (i : Int)) = j := by rw [IntWalk.i64_in _ (by have := HX.out; have := HZ.out; omega)]; omega
  have HJ : Hid (j < r.c.it.length) := Lib.hid (by have := HX.out; omega)
  have j0 : (0 : Int) ≤ j := by omega
  have j1 : (j : Int) < r.c.it.length := by have := HJ.out; omega
  go_still_tail 14, (by kernel_rfl)
  have hne : g2 ≠ g := by have := HG.out; have := HG2.out; have := ZD.out; omega
  have rg := owns_at CP.out.own (w' := w2.drew) fun b e => ON.out.block b (by have := own_eq e; omega)
  have ht : w2.drew.there g2 (j * 6) 6 := fun t h6 => ⟨by
    obtain ⟨u, hu⟩ : ∃ u, (obCells r.c.it)[j * 6 + t]? = some u := ⟨_, List.getElem?_eq_getElem (by rw [obCells_length]; have := HJ.out; omega)⟩
    have := rg.cells rfl (j * 6 + t) u hu
    rw [Addr.add_mid, Nat.zero_add] at this
    rw [this]
    rfl, rg.frozenAt _⟩
  refine wpList_store_mid rfl 24 _ _ rfl g2 (j * 6) #[.int .i64 q.k, .bool q.x, .int .i64 q.n, .int .i64 q.a, .int .i64 q.l, .string q.s] rfl rfl ht (by kernel_rfl) (all_oneCell_toArray (ob_one q)) ?_
  obtain ⟨w3, ew3⟩ : ∃ w3, w2.drew = w3 := ⟨_, rfl⟩
  obtain ⟨w4, ew4⟩ : ∃ w4, w3.setCells g2 (j * 6) q.cells = w4 := ⟨_, rfl⟩
  have EW3 := Lib.hid ew3
  have EW4 := Lib.hid ew4
  change wpList _ _ _ _ _ (w2.drew.setCells g2 (j * 6) q.cells)
  rw [ew3, ew4]
  clear ew3 ew4 rg ht hh hq q0 q1 q2 q3 q4 q5 hv
  go_wp2
  go_ret
  have K1' : Below w.heap.size w w1 := below_and KD.out CP.out.below
  have hgd : w.heap.size ≤ g2 := by have := HG2.out; have := ZD.out; omega
  have on4 : Only g2 w3 w4 := by
    have := (owns_put q.cells (j * 6) w3 _ (owns_at CP.out.own (w' := w3) fun b e => by
      have := own_eq e
      rw [← EW3.out]
      exact ON.out.block b (by omega))).2
    rwa [EW4.out] at this
  refine ⟨rfl, ⟨_, RH.item H.out HO.out HR.out HG.out.1 HJ.out HB.out K1' hgd (CP.out.own.mono (by have := ZD.out; omega)) ON.out CG.out CO.out FO.out EW3.out EW4.out, ?_⟩, ?_⟩
  · rw [HSP.out, hj, cels_set]
  · refine ((kept_of K1' fun b q => q.1).trans (kept_only ON.out fun q => q.2.2 rfl)).trans (Kept.trans (w1 := w3) (by rw [← EW3.out]; exact ⟨rfl, rfl, rfl, Nat.le_refl _, fun _ _ => rfl⟩) (kept_only on4 fun q => by have := q.1; omega))
end
end Go.Proofs.Ytmlkmgeddkpgiaa

/- Walks of tympanref11: Set of a byte, whatever else the Int holds. -/
namespace Go.Proofs.Ytmlkmgeddkpgiaa
open Go.RowKit
set_option linter.unusedVariables false
set_option linter.unusedSimpArgs false
set_option maxHeartbeats 1000000
set_option maxRecDepth 100000

section
variable {own : Nat → Prop} {rb : Nat} {v : Value} {R : List RC} {w : World}

theorem rset_byteX (h : RH own rb v R w) (ho : ∀ b, own b → b < w.heap.size) (o : Ob) (i : Nat) (c a' l' : Int) (x' : Bool) (s' : ByteArray) (hok : okO (cels R) o = true) (hk : o.k = 8) (hi : (i : Int) < lenO (cels R) o) (hlk : (cellOf (cels R) o).lk = false) (c0 : 0 ≤ c) (c1 : c ≤ 255) :
    Calls Try.prog 15 #[ptr rb, o.val, .int .i64 i, obV 3 x' c a' l' s'] w fun e w' => e = .returned (.int .i64 0) ∧ (∃ R', RH (Plus own w w') rb v R' w' ∧ cels R' = setP (cels R) o i ⟨3, x', c, a', l', s'⟩) ∧ Kept (fun b => b < w.heap.size ∧ b ≠ rb ∧ v.ownBlock ≠ some b) w w' := by
  obtain ⟨b0, b1, b2, b3, b4, b5, b6, b7, b8⟩ := ok_bd hok
  obtain ⟨n0, n1⟩ := len_in hok
  rw [cels_length] at b1
  obtain ⟨r, hr⟩ : ∃ r, R[o.n.toNat]? = some r := ⟨_, List.getElem?_eq_getElem (by omega)⟩
  have hco := h.cellOf (o := o) hr
  rw [hco] at b6 b7 n1 hlk
  rw [hk] at b6
  have hit : r.c.it = [] := by
    rcases h.wf.kind r.c (cell_mem (cels_get hr)) with ⟨_, q⟩ | ⟨q, _⟩
    · exact q
    · omega
  have hs : r.c.size = r.c.bs.length := by simp [Cel.size, hit]
  have hz := h.wf.size (cels_get hr)
  obtain ⟨g, cap, ev, hgo, hgr, hgl, d0, d1, d2, d3⟩ := h.at hr
  rw [hlk] at d3
  have hd := h.hdr
  rw [ev] at hd
  have hfree := h.free g (by rw [ev]; rfl)
  obtain ⟨n, hn⟩ : ∃ n, o.n.toNat = n := ⟨_, rfl⟩
  obtain ⟨lo, hlo⟩ : ∃ lo, o.a.toNat = lo := ⟨_, rfl⟩
  obtain ⟨m, hm⟩ : ∃ m, (lenO (cels R) o).toNat = m := ⟨_, rfl⟩
  have en : o.n = (n : Int) := by omega
  have hroom : Hid (∀ wx, Below w.heap.size w wx → Calls Try.prog 73 #[ptr rb, obV 8 o.x n o.a o.l o.s] wx fun e w' => e = .returned (.tuple #[.int .i64 lo, .int .i64 m, .int .i64 0]) ∧ Below wx.heap.size wx w') := Lib.hid fun wx kx => by
    have := rroom_any (h.below kx) o
    rw [errO_ok hok, show atO (cels R) o = (lo : Int) from by simp [atO, hok]; omega, show lenO (cels R) o = (m : Int) from by omega] at this
    rw [show o.val = obV 8 o.x n o.a o.l o.s from by rw [← hk, ← en]; rfl] at this
    exact this
  have hsp : setP (cels R) o i ⟨3, x', c, a', l', s'⟩ = (cels R).set o.n.toNat ⟨r.c.k, r.c.lk, r.c.it, r.c.bs.set (lo + i) (UInt8.ofNat c.toNat)⟩ := by
    have e : setE (cels R) o i ⟨3, x', c, a', l', s'⟩ = 0 := by
      rw [setE, hok, hco, hlk]
      simp [hk, hi]
      try omega
    rw [setP, if_pos e, putItem, hco, if_pos b6, show (o.a + (i : Int)).toNat = lo + i from by omega]
  rw [hn] at hr d0 d1 d2 d3 hsp
  have HSP := Lib.hid hsp
  clear hsp
  have hnz : n < R.length := by omega
  have hidx : lo + i < r.c.bs.length := by omega
  have him : (i : Int) < m := by omega
  obtain ⟨p2, c2, e2, _⟩ := (h.sub _ r hr).2.form
  rw [e2] at d2
  rw [show o.val = obV 8 o.x n o.a o.l o.s from by rw [← hk, ← en]; rfl]
  have H := Lib.hid h
  have HO := Lib.hid ho
  have HR := Lib.hid hr
  have HX := Lib.hid hidx
  have HC := Lib.hid (And.intro c0 c1)
  have D2 := Lib.hid d2
  have D3 := Lib.hid d3
  have HD := Lib.hid hd
  have HF := Lib.hid hfree
  have HG := Lib.hid (And.intro hgr hgl)
  have HZ : Hid (r.c.bs.length ≤ 40000) := Lib.hid (by omega)
  have t0 : (0 : Int) ≤ n := by omega
  have t1 : (n : Int) < R.length := by omega
  have t2 : ¬ ((i : Int) < 0) := by omega
  have t3 : ¬ ((i : Int) ≥ m) := by omega
  have t4 : ¬ (c < 0) := by omega
  have t5 : ¬ (c > 255) := by omega
  clear h ho hok hi hlk b0 b1 b2 b3 b4 b5 b6 b7 b8 n0 n1 hco hit hs hz d0 d1 d2 d3 hd hfree hgo hgr hgl hnz hidx him hr
  go_enter Try.func15, Try.ntmps15
  go_upto_region 1 with fail
  obtain ⟨wb, eb, kb, zb, sx⟩ := set_box2 w rb g R.length cap n 8 o.a o.l 3 c a' l' o.x x' o.s s' HD.out
  rw [eb]
  have SX := Lib.hid sx
  have KB := Lib.hid kb
  have ZB := Lib.hid zb
  obtain ⟨c0', c1', c2', c3', c4', c5'⟩ := ob_cells sx.o
  clear eb kb zb sx
  go_wp2_with fail
  refine (hroom.out _ KB.out).mono ?_
  rintro e wc ⟨rfl, kc⟩
  have SC := Lib.hid (SX.out.keep fun b _ hb => kc.block b hb)
  have KC := Lib.hid (below_and KB.out kc)
  have ZC : Hid (w.heap.size + 2 ≤ wc.heap.size) := Lib.hid (by have := kc.size; have := ZB.out; omega)
  clear kc c0' c1' c2' c3' c4' c5' SX KB ZB
  have h0 : wc.cell? ⟨rb, 0, none⟩ = some (.slice (some ⟨g, 0, none⟩) R.length cap) := cellAt SC.out.hd 0
  have d3 := cell_later KC.out D3.out
  obtain ⟨c0', c1', c2', c3', c4', c5'⟩ := ob_cells SC.out.o
  obtain ⟨q0, q1, q2, q3, q4, q5⟩ := ob_cells SC.out.q
  go_upto_region 6 with fail
  go_quiet (fail)
  go_upto_region 13 with fail
  have sq : SetX (wc.drewN nq) rb w.heap.size g R.length cap n 8 o.a o.l 3 c a' l' o.x x' o.s s' := SC.out.keep fun _ _ _ => rfl
  have kq : Below w.heap.size w (wc.drewN nq) := below_and KC.out (below_drewN _ _)
  have zq : w.heap.size + 2 ≤ (wc.drewN nq).heap.size := ZC.out
  generalize wc.drewN nq = wq at sq kq zq ⊢
  clear h0 d3 c0' c1' c2' c3' c4' c5' q0 q1 q2 q3 q4 q5
  have SQ' : SetX wq.drew rb w.heap.size g R.length cap n 8 o.a o.l 3 c a' l' o.x x' o.s s' := sq.keep fun _ _ _ => rfl
  have kd : Below w.heap.size w wq.drew := kq.drew
  have zd : w.heap.size + 2 ≤ wq.drew.heap.size := zq
  (try refine wp_region_noPanic ?_)
  refine wp_region_held_drew (S := fun wx => SetX wx rb w.heap.size g R.length cap n 8 o.a o.l 3 c a' l' o.x x' o.s s') (by kernel_rfl) SQ' (fun _ => ?_)
  generalize wq.drew = wd at SQ' kd zd ⊢
  have SQ := Lib.hid SQ'
  have KD := Lib.hid kd
  have ZD := Lib.hid zd
  clear sq kq zq SQ' kd zd
  refine wpAnyH_take (i := 0) (v := ptr rb) rfl (by kernel_rfl) (by kernel_rfl) (by kernel_rfl) (fun _ _ _ h => h) (Or.inl ⟨by rfl, fun wx hS => ?_⟩) SQ.out ?_
  · have hh : wx.cell? ⟨rb, 0, none⟩ = some (.slice (some ⟨g, 0, none⟩) R.length cap) := cellAt hS.hd 0
    have hq : wx.cell? ⟨w.heap.size, 2, none⟩ = some (.int .i64 n) := cellAt hS.o 2
    go_simp
  try simp only [Act.put, List.getElem_toArray, List.getElem_cons_succ, List.getElem_cons_zero, List.setIfInBounds_toArray, List.set_cons_zero, List.set_cons_succ]
  refine wpAnyH_take (i := 1) (v := ptr rb) rfl (by kernel_rfl) (by kernel_rfl) (by kernel_rfl) (fun _ _ _ h => h) (Or.inl ⟨by rfl, fun wx hS => ?_⟩) SQ.out ?_
  · have hh : wx.cell? ⟨rb, 0, none⟩ = some (.slice (some ⟨g, 0, none⟩) R.length cap) := cellAt hS.hd 0
    have hq : wx.cell? ⟨w.heap.size, 2, none⟩ = some (.int .i64 n) := cellAt hS.o 2
    go_simp
  try simp only [Act.put, List.getElem_toArray, List.getElem_cons_succ, List.getElem_cons_zero, List.setIfInBounds_toArray, List.set_cons_zero, List.set_cons_succ]
  refine wpAnyH_take (i := 2) (v := .pointer (some ⟨rb, 0, none⟩)) rfl (by kernel_rfl) (by kernel_rfl) (by kernel_rfl) (fun _ _ _ h => h) (Or.inl ⟨by rfl, fun wx hS => ?_⟩) SQ.out ?_
  · have hh : wx.cell? ⟨rb, 0, none⟩ = some (.slice (some ⟨g, 0, none⟩) R.length cap) := cellAt hS.hd 0
    have hq : wx.cell? ⟨w.heap.size, 2, none⟩ = some (.int .i64 n) := cellAt hS.o 2
    go_simp
  try simp only [Act.put, List.getElem_toArray, List.getElem_cons_succ, List.getElem_cons_zero, List.setIfInBounds_toArray, List.set_cons_zero, List.set_cons_succ]
  refine wpAnyH_take (i := 3) (v := .slice (some ⟨g, 0, none⟩) R.length cap) rfl (by kernel_rfl) (by kernel_rfl) (by kernel_rfl) (fun _ _ _ h => h) (Or.inl ⟨by rfl, fun wx hS => ?_⟩) SQ.out ?_
  · have hh : wx.cell? ⟨rb, 0, none⟩ = some (.slice (some ⟨g, 0, none⟩) R.length cap) := cellAt hS.hd 0
    have hq : wx.cell? ⟨w.heap.size, 2, none⟩ = some (.int .i64 n) := cellAt hS.o 2
    go_simp
  try simp only [Act.put, List.getElem_toArray, List.getElem_cons_succ, List.getElem_cons_zero, List.setIfInBounds_toArray, List.set_cons_zero, List.set_cons_succ]
  refine wpAnyH_take (i := 4) (v := .pointer (some ⟨w.heap.size, 2, none⟩)) rfl (by kernel_rfl) (by kernel_rfl) (by kernel_rfl) (fun _ _ _ h => h) (Or.inl ⟨by rfl, fun wx hS => ?_⟩) SQ.out ?_
  · have hh : wx.cell? ⟨rb, 0, none⟩ = some (.slice (some ⟨g, 0, none⟩) R.length cap) := cellAt hS.hd 0
    have hq : wx.cell? ⟨w.heap.size, 2, none⟩ = some (.int .i64 n) := cellAt hS.o 2
    go_simp
  try simp only [Act.put, List.getElem_toArray, List.getElem_cons_succ, List.getElem_cons_zero, List.setIfInBounds_toArray, List.set_cons_zero, List.set_cons_succ]
  refine wpAnyH_take (i := 5) (v := .int .i64 n) rfl (by kernel_rfl) (by kernel_rfl) (by kernel_rfl) (fun _ _ _ h => h) (Or.inl ⟨by rfl, fun wx hS => ?_⟩) SQ.out ?_
  · have hh : wx.cell? ⟨rb, 0, none⟩ = some (.slice (some ⟨g, 0, none⟩) R.length cap) := cellAt hS.hd 0
    have hq : wx.cell? ⟨w.heap.size, 2, none⟩ = some (.int .i64 n) := cellAt hS.o 2
    go_simp
  try simp only [Act.put, List.getElem_toArray, List.getElem_cons_succ, List.getElem_cons_zero, List.setIfInBounds_toArray, List.set_cons_zero, List.set_cons_succ]
  refine wpAnyH_take (i := 6) (v := ptr rb) rfl (by kernel_rfl) (by kernel_rfl) (by kernel_rfl) (fun _ _ _ h => h) (Or.inl ⟨by rfl, fun wx hS => ?_⟩) SQ.out ?_
  · have hh : wx.cell? ⟨rb, 0, none⟩ = some (.slice (some ⟨g, 0, none⟩) R.length cap) := cellAt hS.hd 0
    have hq : wx.cell? ⟨w.heap.size, 2, none⟩ = some (.int .i64 n) := cellAt hS.o 2
    go_simp
  try simp only [Act.put, List.getElem_toArray, List.getElem_cons_succ, List.getElem_cons_zero, List.setIfInBounds_toArray, List.set_cons_zero, List.set_cons_succ]
  refine wpAnyH_take (i := 7) (v := ptr rb) rfl (by kernel_rfl) (by kernel_rfl) (by kernel_rfl) (fun _ _ _ h => h) (Or.inl ⟨by rfl, fun wx hS => ?_⟩) SQ.out ?_
  · have hh : wx.cell? ⟨rb, 0, none⟩ = some (.slice (some ⟨g, 0, none⟩) R.length cap) := cellAt hS.hd 0
    have hq : wx.cell? ⟨w.heap.size, 2, none⟩ = some (.int .i64 n) := cellAt hS.o 2
    go_simp
  try simp only [Act.put, List.getElem_toArray, List.getElem_cons_succ, List.getElem_cons_zero, List.setIfInBounds_toArray, List.set_cons_zero, List.set_cons_succ]
  refine wpAnyH_take (i := 8) (v := .pointer (some ⟨rb, 0, none⟩)) rfl (by kernel_rfl) (by kernel_rfl) (by kernel_rfl) (fun _ _ _ h => h) (Or.inl ⟨by rfl, fun wx hS => ?_⟩) SQ.out ?_
  · have hh : wx.cell? ⟨rb, 0, none⟩ = some (.slice (some ⟨g, 0, none⟩) R.length cap) := cellAt hS.hd 0
    have hq : wx.cell? ⟨w.heap.size, 2, none⟩ = some (.int .i64 n) := cellAt hS.o 2
    go_simp
  try simp only [Act.put, List.getElem_toArray, List.getElem_cons_succ, List.getElem_cons_zero, List.setIfInBounds_toArray, List.set_cons_zero, List.set_cons_succ]
  refine wpAnyH_take (i := 9) (v := .slice (some ⟨g, 0, none⟩) R.length cap) rfl (by kernel_rfl) (by kernel_rfl) (by kernel_rfl) (fun _ _ _ h => h) (Or.inl ⟨by rfl, fun wx hS => ?_⟩) SQ.out ?_
  · have hh : wx.cell? ⟨rb, 0, none⟩ = some (.slice (some ⟨g, 0, none⟩) R.length cap) := cellAt hS.hd 0
    have hq : wx.cell? ⟨w.heap.size, 2, none⟩ = some (.int .i64 n) := cellAt hS.o 2
    go_simp
  try simp only [Act.put, List.getElem_toArray, List.getElem_cons_succ, List.getElem_cons_zero, List.setIfInBounds_toArray, List.set_cons_zero, List.set_cons_succ]
  refine wpAnyH_take (i := 10) (v := .pointer (some ⟨w.heap.size, 2, none⟩)) rfl (by kernel_rfl) (by kernel_rfl) (by kernel_rfl) (fun _ _ _ h => h) (Or.inl ⟨by rfl, fun wx hS => ?_⟩) SQ.out ?_
  · have hh : wx.cell? ⟨rb, 0, none⟩ = some (.slice (some ⟨g, 0, none⟩) R.length cap) := cellAt hS.hd 0
    have hq : wx.cell? ⟨w.heap.size, 2, none⟩ = some (.int .i64 n) := cellAt hS.o 2
    go_simp
  try simp only [Act.put, List.getElem_toArray, List.getElem_cons_succ, List.getElem_cons_zero, List.setIfInBounds_toArray, List.set_cons_zero, List.set_cons_succ]
  refine wpAnyH_take (i := 11) (v := .int .i64 n) rfl (by kernel_rfl) (by kernel_rfl) (by kernel_rfl) (fun _ _ _ h => h) (Or.inl ⟨by rfl, fun wx hS => ?_⟩) SQ.out ?_
  · have hh : wx.cell? ⟨rb, 0, none⟩ = some (.slice (some ⟨g, 0, none⟩) R.length cap) := cellAt hS.hd 0
    have hq : wx.cell? ⟨w.heap.size, 2, none⟩ = some (.int .i64 n) := cellAt hS.o 2
    go_simp
  try simp only [Act.put, List.getElem_toArray, List.getElem_cons_succ, List.getElem_cons_zero, List.setIfInBounds_toArray, List.set_cons_zero, List.set_cons_succ]
  refine wpAnyH_take (i := 12) (v := .pointer (some ⟨g, n * 4, none⟩)) rfl (by kernel_rfl) (by kernel_rfl) (by kernel_rfl) (fun _ _ _ h => h) (Or.inl ⟨by rfl, fun wx hS => ?_⟩) SQ.out ?_
  · have hh : wx.cell? ⟨rb, 0, none⟩ = some (.slice (some ⟨g, 0, none⟩) R.length cap) := cellAt hS.hd 0
    have hq : wx.cell? ⟨w.heap.size, 2, none⟩ = some (.int .i64 n) := cellAt hS.o 2
    go_simp
  try simp only [Act.put, List.getElem_toArray, List.getElem_cons_succ, List.getElem_cons_zero, List.setIfInBounds_toArray, List.set_cons_zero, List.set_cons_succ]
  refine wpAnyH_take (i := 13) (v := .pointer (some ⟨g, n * 4 + 2, none⟩)) rfl (by kernel_rfl) (by kernel_rfl) (by kernel_rfl) (fun _ _ _ h => h) (Or.inl ⟨by rfl, fun wx hS => ?_⟩) SQ.out ?_
  · have hh : wx.cell? ⟨rb, 0, none⟩ = some (.slice (some ⟨g, 0, none⟩) R.length cap) := cellAt hS.hd 0
    have hq : wx.cell? ⟨w.heap.size, 2, none⟩ = some (.int .i64 n) := cellAt hS.o 2
    go_simp
  try simp only [Act.put, List.getElem_toArray, List.getElem_cons_succ, List.getElem_cons_zero, List.setIfInBounds_toArray, List.set_cons_zero, List.set_cons_succ]
  have d2 := cell_later KD.out D2.out
  refine wpAnyH_ready (rs := [14]) (by kernel_rfl) (by simp) ?_
  refine AllReadyH.cons rfl (fun K hK => ?_) AllReadyH.nil
  go_simp
  refine hK.out _ _ SQ.out (fun _ => ?_)
  clear hK
  try simp only [Act.put, List.getElem_toArray, List.getElem_cons_succ, List.getElem_cons_zero, List.setIfInBounds_toArray, List.set_cons_zero, List.set_cons_succ]
  refine wpAnyH_ready (rs := [15]) (by kernel_rfl) (by simp) ?_
  refine AllReadyH.cons rfl (fun K hK => ?_) AllReadyH.nil
  refine step_append_ex rfl _ _ 108 rfl (.slice none 0 0) (.slice p2 r.c.bs.length c2) rfl rfl _ (bytes_copy (H.out.below KD.out) HR.out e2 HZ.out _) ?_
  rintro v1 w1 hcp
  obtain ⟨g2, cp2, rfl, hg2, hg2'⟩ := hcp.own.form (by have := HX.out; omega)
  have CP := Lib.hid hcp
  have HG2 := Lib.hid (And.intro hg2 hg2')
  clear hcp hg2 hg2' d2
  have S1 := Lib.hid (SQ.out.keep fun b _ hb => CP.out.below.block b hb)
  refine hK.out _ _ S1.out (fun _ => ?_)
  clear hK
  try simp only [Act.put, List.getElem_toArray, List.getElem_cons_succ, List.getElem_cons_zero, List.setIfInBounds_toArray, List.set_cons_zero, List.set_cons_succ]
  refine wpAnyH_take (i := 16) (v := .pointer (some ⟨g, n * 4, none⟩)) rfl (by kernel_rfl) (by kernel_rfl) (by kernel_rfl) (fun _ _ _ h => h) (Or.inl ⟨by rfl, fun wx hS => ?_⟩) S1.out ?_
  · have hh : wx.cell? ⟨rb, 0, none⟩ = some (.slice (some ⟨g, 0, none⟩) R.length cap) := cellAt hS.hd 0
    have hq : wx.cell? ⟨w.heap.size, 2, none⟩ = some (.int .i64 n) := cellAt hS.o 2
    go_simp
  try simp only [Act.put, List.getElem_toArray, List.getElem_cons_succ, List.getElem_cons_zero, List.setIfInBounds_toArray, List.set_cons_zero, List.set_cons_succ]
  refine wpAnyH_take (i := 17) (v := .pointer (some ⟨g, n * 4 + 2, none⟩)) rfl (by kernel_rfl) (by kernel_rfl) (by kernel_rfl) (fun _ _ _ h => h) (Or.inl ⟨by rfl, fun wx hS => ?_⟩) S1.out ?_
  · have hh : wx.cell? ⟨rb, 0, none⟩ = some (.slice (some ⟨g, 0, none⟩) R.length cap) := cellAt hS.hd 0
    have hq : wx.cell? ⟨w.heap.size, 2, none⟩ = some (.int .i64 n) := cellAt hS.o 2
    go_simp
  try simp only [Act.put, List.getElem_toArray, List.getElem_cons_succ, List.getElem_cons_zero, List.setIfInBounds_toArray, List.set_cons_zero, List.set_cons_succ]
  have K1 : Hid (Below w.heap.size w w1) := Lib.hid (below_and KD.out CP.out.below)
  have c2 := cell_later K1.out D2.out
  have f2 : w1.frozen? ⟨g, n * 4 + 2, none⟩ = false := by rw [World.frozen?_of_block (w := w) (a := ⟨g, n * 4 + 2, none⟩) (K1.out.block _ HG.out.2)]; exact HF.out _
  refine wpAnyH_ready (rs := [18]) (by kernel_rfl) (by simp) ?_
  refine AllReadyH.cons rfl (fun K hK => ?_) AllReadyH.nil
  go_simp
  have onG : Only g w1 (w1.setCell ⟨g, n * 4 + 2, none⟩ (.slice (some ⟨g2, 0, none⟩) r.c.bs.length cp2)) := (Only.refl _ _).set _ _
  have cG : (w1.setCell ⟨g, n * 4 + 2, none⟩ (.slice (some ⟨g2, 0, none⟩) r.c.bs.length cp2)).cell? ⟨g, n * 4 + 2, none⟩ = some (.slice (some ⟨g2, 0, none⟩) r.c.bs.length cp2) := World.cell?_setCell_same _ _ _ c2
  have cO : ∀ j, j ≠ n * 4 + 2 → (w1.setCell ⟨g, n * 4 + 2, none⟩ (.slice (some ⟨g2, 0, none⟩) r.c.bs.length cp2)).cell? ⟨g, j, none⟩ = w1.cell? ⟨g, j, none⟩ := fun j hj => World.cell?_setCell_other _ _ _ _ (by simp <;> omega)
  have fO : ∀ j, (w1.setCell ⟨g, n * 4 + 2, none⟩ (.slice (some ⟨g2, 0, none⟩) r.c.bs.length cp2)).frozen? ⟨g, j, none⟩ = w1.frozen? ⟨g, j, none⟩ := fun j => by simp
  generalize w1.setCell ⟨g, n * 4 + 2, none⟩ (.slice (some ⟨g2, 0, none⟩) r.c.bs.length cp2) = w2 at onG cG cO fO ⊢
  have S2 := Lib.hid (S1.out.keep (w' := w2) fun b hb _ => onG.block b (by have := HG.out; rcases hb with q | q | q <;> omega))
  refine hK.out _ _ S2.out (fun _ => ?_)
  clear hK
  refine wpAnyH_done (by kernel_rfl) ?_ _
  (try refine no_panic ?_)
  have ON := Lib.hid onG
  have CG := Lib.hid cG
  have CO := Lib.hid cO
  have FO := Lib.hid fO
  clear onG cG cO fO c2 f2
  go_upto_region 14 with fail
  have hh : w2.cell? ⟨rb, 0, none⟩ = some (.slice (some ⟨g, 0, none⟩) R.length cap) := cellAt S2.out.hd 0
  have hq : w2.cell? ⟨w.heap.size, 2, none⟩ = some (.int .i64 n) := cellAt S2.out.o 2
  have hx : w2.cell? ⟨w.heap.size + 1, 2, none⟩ = some (.int .i64 c) := cellAt S2.out.q 2
  have hv := CG.out
  obtain ⟨j, hj⟩ : ∃ j, lo + i = j := ⟨_, rfl⟩
  have e5 : IntKind.i64.wrap ((lo : Int) + (i : Int)) = j := by rw [IntWalk.i64_in _ (by have := HX.out; have := HZ.out; omega)]; omega
  have HJ : Hid (j < r.c.bs.length) := Lib.hid (by have := HX.out; omega)
  have j0 : (0 : Int) ≤ j := by omega
  have j1 : (j : Int) < r.c.bs.length := by have := HJ.out; omega
  have ec : IntKind.u8.wrap c = c := by have := HC.out; exact u8_in c this.1 this.2
  go_still_tail 16, (by kernel_rfl)
  change wpList _ _ _ _ _ w2.drew
  have hne : g2 ≠ g := by have := HG.out; have := HG2.out; have := ZD.out; omega
  have rg := owns_at CP.out.own (w' := w2.drew) fun b e => ON.out.block b (by have := own_eq e; omega)
  obtain ⟨b0, hb0⟩ : ∃ b0, r.c.bs[j]? = some b0 := ⟨_, List.getElem?_eq_getElem HJ.out⟩
  have cj : w2.drew.cell? ⟨g2, j, none⟩ = some (.int .u8 b0.toNat) := by
    have := rg.cells rfl j (.int .u8 b0.toNat) (by rw [byCells_get, hb0]; rfl)
    rwa [Addr.add_mid, Nat.zero_add] at this
  have fj : w2.drew.frozen? ⟨g2, j, none⟩ = false := rg.frozenAt j
  obtain ⟨wx, ewx⟩ : ∃ wx, w2.drew = wx := ⟨_, rfl⟩
  have EWX := Lib.hid ewx
  rw [ewx] at cj fj ⊢
  clear ewx rg hb0 hh hq hx hv
  go_wp2
  go_ret
  obtain ⟨w4, ew4⟩ : ∃ w4, wx.setCell ⟨g2, j, none⟩ (.int .u8 c) = w4 := ⟨_, rfl⟩
  rw [ew4]
  have K1 : Below w.heap.size w w1 := below_and KD.out CP.out.below
  have on4 : Only g2 wx w4 := by rw [← ew4]; exact (Only.refl _ _).set _ _
  have hgd : w.heap.size ≤ g2 := by have := HG2.out; have := ZD.out; omega
  refine ⟨rfl, ⟨_, by rw [ev]; exact RH.byte (by rw [← ev]; exact H.out) HO.out HR.out HG.out.1 e2 HJ.out HC.out.1 HC.out.2 K1 hgd (CP.out.own.mono (by have := ZD.out; omega)) ON.out CG.out CO.out FO.out (by rw [EWX.out]; exact ew4), ?_⟩, ?_⟩
  · rw [HSP.out, hj, cels_set]
  · refine ((kept_of K1 fun b q => q.1).trans (kept_only ON.out fun q => q.2.2 (by rw [ev]; rfl))).trans (Kept.trans (w1 := wx) (by rw [← EWX.out]; exact ⟨rfl, rfl, rfl, Nat.le_refl _, fun _ _ => rfl⟩) (kept_only on4 fun q => by have := q.1; omega))
end
end Go.Proofs.Ytmlkmgeddkpgiaa

/- Walks of tympanref11: what Set refuses; Set, whatever is asked. -/
namespace Go.Proofs.Ytmlkmgeddkpgiaa
open Go.RowKit
set_option linter.unusedVariables false
set_option linter.unusedSimpArgs false

set_option maxHeartbeats 2000000 in
set_option maxRecDepth 100000 in
theorem rset_locked (rb g cap n lo m i z : Nat) (lk : Bool) (o q : Ob) (w : World) (hn : n < z) (hi : i < m) (hd : w.heap[rb]? = some (.cells #[.slice (some ⟨g, 0, none⟩) z cap] 31 (0, 0))) (d3' : w.cell? ⟨g, n * 4 + 3, none⟩ = some (.bool lk)) (hl : lk = true)
    (hr : Hid (∀ wx, Below w.heap.size w wx → Calls Try.prog 73 #[ptr rb, obV o.k o.x n o.a o.l o.s] wx fun e w' => e = .returned (.tuple #[.int .i64 lo, .int .i64 m, .int .i64 0]) ∧ Below wx.heap.size wx w')) :
    Calls Try.prog 15 #[ptr rb, obV o.k o.x n o.a o.l o.s, .int .i64 i, obV q.k q.x q.n q.a q.l q.s] w fun e w' => e = .returned (.int .i64 1) ∧ Below w.heap.size w w' := by
  subst hl
  have HD := Lib.hid hd
  have D3 := Lib.hid d3'
  have t0 : (0 : Int) ≤ n := by omega
  have t1 : (n : Int) < z := by omega
  have t2 : ¬ ((i : Int) < 0) := by omega
  have t3 : ¬ ((i : Int) ≥ m) := by omega
  clear hd d3' hn hi
  go_enter Try.func15, Try.ntmps15
  go_upto_region 1 with fail
  obtain ⟨wb, eb, kb, zb, sx⟩ := set_box2 w rb g z cap n o.k o.a o.l q.k q.n q.a q.l o.x q.x o.s q.s HD.out
  rw [eb]
  have SX := Lib.hid sx
  have KB := Lib.hid kb
  have ZB := Lib.hid zb
  obtain ⟨c0', c1', c2', c3', c4', c5'⟩ := ob_cells sx.o
  clear eb kb zb sx
  go_wp2_with fail
  refine (hr.out _ KB.out).mono ?_
  rintro e wc ⟨rfl, kc⟩
  have SC := Lib.hid (SX.out.keep fun b _ hb => kc.block b hb)
  have KC := Lib.hid (below_and KB.out kc)
  have ZC : Hid (w.heap.size + 2 ≤ wc.heap.size) := Lib.hid (by have := kc.size; have := ZB.out; omega)
  clear kc c0' c1' c2' c3' c4' c5' SX KB ZB
  have h0 : wc.cell? ⟨rb, 0, none⟩ = some (.slice (some ⟨g, 0, none⟩) z cap) := cellAt SC.out.hd 0
  have d3 := cell_later KC.out D3.out
  obtain ⟨c0', c1', c2', c3', c4', c5'⟩ := ob_cells SC.out.o
  obtain ⟨q0, q1, q2, q3, q4, q5⟩ := ob_cells SC.out.q
  go_upto_region 6 with fail
  go_quiet (fail)
  go_wp2
  go_ret
  exact ⟨rfl, below_and KC.out (below_drewN _ _)⟩
set_option maxHeartbeats 2000000 in
set_option maxRecDepth 100000 in
theorem rset_type (rb g cap n lo m i z : Nat) (lk : Bool) (o q : Ob) (w : World) (hn : n < z) (hi : i < m) (hd : w.heap[rb]? = some (.cells #[.slice (some ⟨g, 0, none⟩) z cap] 31 (0, 0))) (d3' : w.cell? ⟨g, n * 4 + 3, none⟩ = some (.bool lk)) (hl : lk = false) (hk8 : (o.k == 8) = true) (hq3 : (q.k != 3) = true)
    (hr : Hid (∀ wx, Below w.heap.size w wx → Calls Try.prog 73 #[ptr rb, obV o.k o.x n o.a o.l o.s] wx fun e w' => e = .returned (.tuple #[.int .i64 lo, .int .i64 m, .int .i64 0]) ∧ Below wx.heap.size wx w')) :
    Calls Try.prog 15 #[ptr rb, obV o.k o.x n o.a o.l o.s, .int .i64 i, obV q.k q.x q.n q.a q.l q.s] w fun e w' => e = .returned (.int .i64 6) ∧ Below w.heap.size w w' := by
  subst hl
  have HD := Lib.hid hd
  have D3 := Lib.hid d3'
  have t0 : (0 : Int) ≤ n := by omega
  have t1 : (n : Int) < z := by omega
  have t2 : ¬ ((i : Int) < 0) := by omega
  have t3 : ¬ ((i : Int) ≥ m) := by omega
  clear hd d3' hn hi
  go_enter Try.func15, Try.ntmps15
  go_upto_region 1 with fail
  obtain ⟨wb, eb, kb, zb, sx⟩ := set_box2 w rb g z cap n o.k o.a o.l q.k q.n q.a q.l o.x q.x o.s q.s HD.out
  rw [eb]
  have SX := Lib.hid sx
  have KB := Lib.hid kb
  have ZB := Lib.hid zb
  obtain ⟨c0', c1', c2', c3', c4', c5'⟩ := ob_cells sx.o
  clear eb kb zb sx
  go_wp2_with fail
  refine (hr.out _ KB.out).mono ?_
  rintro e wc ⟨rfl, kc⟩
  have SC := Lib.hid (SX.out.keep fun b _ hb => kc.block b hb)
  have KC := Lib.hid (below_and KB.out kc)
  have ZC : Hid (w.heap.size + 2 ≤ wc.heap.size) := Lib.hid (by have := kc.size; have := ZB.out; omega)
  clear kc c0' c1' c2' c3' c4' c5' SX KB ZB
  have h0 : wc.cell? ⟨rb, 0, none⟩ = some (.slice (some ⟨g, 0, none⟩) z cap) := cellAt SC.out.hd 0
  have d3 := cell_later KC.out D3.out
  obtain ⟨c0', c1', c2', c3', c4', c5'⟩ := ob_cells SC.out.o
  obtain ⟨q0, q1, q2, q3, q4, q5⟩ := ob_cells SC.out.q
  go_upto_region 6 with fail
  go_quiet (fail)
  go_wp2
  go_ret
  exact ⟨rfl, below_and KC.out (below_drewN _ _)⟩
set_option maxHeartbeats 2000000 in
set_option maxRecDepth 100000 in
theorem rset_range1 (rb g cap n lo m i z : Nat) (lk : Bool) (o q : Ob) (w : World) (hn : n < z) (hi : i < m) (hd : w.heap[rb]? = some (.cells #[.slice (some ⟨g, 0, none⟩) z cap] 31 (0, 0))) (d3' : w.cell? ⟨g, n * 4 + 3, none⟩ = some (.bool lk)) (hl : lk = false) (hk8 : (o.k == 8) = true) (hq3 : (q.k != 3) = false) (hq0 : decide (q.n < 0) = true)
    (hr : Hid (∀ wx, Below w.heap.size w wx → Calls Try.prog 73 #[ptr rb, obV o.k o.x n o.a o.l o.s] wx fun e w' => e = .returned (.tuple #[.int .i64 lo, .int .i64 m, .int .i64 0]) ∧ Below wx.heap.size wx w')) :
    Calls Try.prog 15 #[ptr rb, obV o.k o.x n o.a o.l o.s, .int .i64 i, obV q.k q.x q.n q.a q.l q.s] w fun e w' => e = .returned (.int .i64 2) ∧ Below w.heap.size w w' := by
  subst hl
  have HD := Lib.hid hd
  have D3 := Lib.hid d3'
  have t0 : (0 : Int) ≤ n := by omega
  have t1 : (n : Int) < z := by omega
  have t2 : ¬ ((i : Int) < 0) := by omega
  have t3 : ¬ ((i : Int) ≥ m) := by omega
  clear hd d3' hn hi
  go_enter Try.func15, Try.ntmps15
  go_upto_region 1 with fail
  obtain ⟨wb, eb, kb, zb, sx⟩ := set_box2 w rb g z cap n o.k o.a o.l q.k q.n q.a q.l o.x q.x o.s q.s HD.out
  rw [eb]
  have SX := Lib.hid sx
  have KB := Lib.hid kb
  have ZB := Lib.hid zb
  obtain ⟨c0', c1', c2', c3', c4', c5'⟩ := ob_cells sx.o
  clear eb kb zb sx
  go_wp2_with fail
  refine (hr.out _ KB.out).mono ?_
  rintro e wc ⟨rfl, kc⟩
  have SC := Lib.hid (SX.out.keep fun b _ hb => kc.block b hb)
  have KC := Lib.hid (below_and KB.out kc)
  have ZC : Hid (w.heap.size + 2 ≤ wc.heap.size) := Lib.hid (by have := kc.size; have := ZB.out; omega)
  clear kc c0' c1' c2' c3' c4' c5' SX KB ZB
  have h0 : wc.cell? ⟨rb, 0, none⟩ = some (.slice (some ⟨g, 0, none⟩) z cap) := cellAt SC.out.hd 0
  have d3 := cell_later KC.out D3.out
  obtain ⟨c0', c1', c2', c3', c4', c5'⟩ := ob_cells SC.out.o
  obtain ⟨q0, q1, q2, q3, q4, q5⟩ := ob_cells SC.out.q
  go_upto_region 6 with fail
  go_quiet (fail)
  go_wp2
  go_ret
  exact ⟨rfl, below_and KC.out (below_drewN _ _)⟩
set_option maxHeartbeats 2000000 in
set_option maxRecDepth 100000 in
theorem rset_range2 (rb g cap n lo m i z : Nat) (lk : Bool) (o q : Ob) (w : World) (hn : n < z) (hi : i < m) (hd : w.heap[rb]? = some (.cells #[.slice (some ⟨g, 0, none⟩) z cap] 31 (0, 0))) (d3' : w.cell? ⟨g, n * 4 + 3, none⟩ = some (.bool lk)) (hl : lk = false) (hk8 : (o.k == 8) = true) (hq3 : (q.k != 3) = false) (hq0 : decide (q.n < 0) = false) (hq1 : decide (q.n > 255) = true)
    (hr : Hid (∀ wx, Below w.heap.size w wx → Calls Try.prog 73 #[ptr rb, obV o.k o.x n o.a o.l o.s] wx fun e w' => e = .returned (.tuple #[.int .i64 lo, .int .i64 m, .int .i64 0]) ∧ Below wx.heap.size wx w')) :
    Calls Try.prog 15 #[ptr rb, obV o.k o.x n o.a o.l o.s, .int .i64 i, obV q.k q.x q.n q.a q.l q.s] w fun e w' => e = .returned (.int .i64 2) ∧ Below w.heap.size w w' := by
  subst hl
  have HD := Lib.hid hd
  have D3 := Lib.hid d3'
  have t0 : (0 : Int) ≤ n := by omega
  have t1 : (n : Int) < z := by omega
  have t2 : ¬ ((i : Int) < 0) := by omega
  have t3 : ¬ ((i : Int) ≥ m) := by omega
  clear hd d3' hn hi
  go_enter Try.func15, Try.ntmps15
  go_upto_region 1 with fail
  obtain ⟨wb, eb, kb, zb, sx⟩ := set_box2 w rb g z cap n o.k o.a o.l q.k q.n q.a q.l o.x q.x o.s q.s HD.out
  rw [eb]
  have SX := Lib.hid sx
  have KB := Lib.hid kb
  have ZB := Lib.hid zb
  obtain ⟨c0', c1', c2', c3', c4', c5'⟩ := ob_cells sx.o
  clear eb kb zb sx
  go_wp2_with fail
  refine (hr.out _ KB.out).mono ?_
  rintro e wc ⟨rfl, kc⟩
  have SC := Lib.hid (SX.out.keep fun b _ hb => kc.block b hb)
  have KC := Lib.hid (below_and KB.out kc)
  have ZC : Hid (w.heap.size + 2 ≤ wc.heap.size) := Lib.hid (by have := kc.size; have := ZB.out; omega)
  clear kc c0' c1' c2' c3' c4' c5' SX KB ZB
  have h0 : wc.cell? ⟨rb, 0, none⟩ = some (.slice (some ⟨g, 0, none⟩) z cap) := cellAt SC.out.hd 0
  have d3 := cell_later KC.out D3.out
  obtain ⟨c0', c1', c2', c3', c4', c5'⟩ := ob_cells SC.out.o
  obtain ⟨q0, q1, q2, q3, q4, q5⟩ := ob_cells SC.out.q
  go_upto_region 6 with fail
  go_quiet (fail)
  go_wp2
  go_ret
  exact ⟨rfl, below_and KC.out (below_drewN _ _)⟩
set_option maxHeartbeats 2000000 in
set_option maxRecDepth 100000 in
theorem rset_nomay (rb g cap n lo m i z : Nat) (lk : Bool) (o q : Ob) (w : World) (hn : n < z) (hi : i < m) (hd : w.heap[rb]? = some (.cells #[.slice (some ⟨g, 0, none⟩) z cap] 31 (0, 0))) (d3' : w.cell? ⟨g, n * 4 + 3, none⟩ = some (.bool lk)) (hl : lk = false) (hk8 : (o.k == 8) = false) (hm : Hid (∀ wx, Below w.heap.size w wx → Calls Try.prog 74 #[ptr rb, obV q.k q.x q.n q.a q.l q.s] wx fun e w' => e = .returned (.bool false) ∧ Below wx.heap.size wx w'))
    (hr : Hid (∀ wx, Below w.heap.size w wx → Calls Try.prog 73 #[ptr rb, obV o.k o.x n o.a o.l o.s] wx fun e w' => e = .returned (.tuple #[.int .i64 lo, .int .i64 m, .int .i64 0]) ∧ Below wx.heap.size wx w')) :
    Calls Try.prog 15 #[ptr rb, obV o.k o.x n o.a o.l o.s, .int .i64 i, obV q.k q.x q.n q.a q.l q.s] w fun e w' => e = .returned (.int .i64 1) ∧ Below w.heap.size w w' := by
  subst hl
  have HD := Lib.hid hd
  have D3 := Lib.hid d3'
  have t0 : (0 : Int) ≤ n := by omega
  have t1 : (n : Int) < z := by omega
  have t2 : ¬ ((i : Int) < 0) := by omega
  have t3 : ¬ ((i : Int) ≥ m) := by omega
  clear hd d3' hn hi
  go_enter Try.func15, Try.ntmps15
  go_upto_region 1 with fail
  obtain ⟨wb, eb, kb, zb, sx⟩ := set_box2 w rb g z cap n o.k o.a o.l q.k q.n q.a q.l o.x q.x o.s q.s HD.out
  rw [eb]
  have SX := Lib.hid sx
  have KB := Lib.hid kb
  have ZB := Lib.hid zb
  obtain ⟨c0', c1', c2', c3', c4', c5'⟩ := ob_cells sx.o
  clear eb kb zb sx
  go_wp2_with fail
  refine (hr.out _ KB.out).mono ?_
  rintro e wc ⟨rfl, kc⟩
  have SC := Lib.hid (SX.out.keep fun b _ hb => kc.block b hb)
  have KC := Lib.hid (below_and KB.out kc)
  have ZC : Hid (w.heap.size + 2 ≤ wc.heap.size) := Lib.hid (by have := kc.size; have := ZB.out; omega)
  clear kc c0' c1' c2' c3' c4' c5' SX KB ZB
  have h0 : wc.cell? ⟨rb, 0, none⟩ = some (.slice (some ⟨g, 0, none⟩) z cap) := cellAt SC.out.hd 0
  have d3 := cell_later KC.out D3.out
  obtain ⟨c0', c1', c2', c3', c4', c5'⟩ := ob_cells SC.out.o
  obtain ⟨q0, q1, q2, q3, q4, q5⟩ := ob_cells SC.out.q
  go_upto_region 6 with fail
  go_quiet (fail)
  go_upto_region 16 with fail
  go_wp2_with fail
  refine (hm.out _ (below_and KC.out (below_drewN _ _))).mono ?_
  rintro e wq ⟨rfl, km⟩
  have KQ := Lib.hid (below_and (below_and KC.out (below_drewN _ _)) km)
  clear km
  go_wp2
  go_ret
  exact ⟨rfl, KQ.out⟩
section
variable {own : Nat → Prop} {rb : Nat} {v : Value} {R : List RC} {w : World}
theorem rset_tot (h : RH own rb v R w) (ho : ∀ b, own b → b < w.heap.size) (o : Ob) (i : Int) (q : Ob) : Calls Try.prog 15 #[ptr rb, o.val, .int .i64 i, q.val] w fun e w' => e = .returned (.int .i64 (setE (cels R) o i q)) ∧ (∃ R', RH (Plus own w w') rb v R' w' ∧ cels R' = setP (cels R) o i q) ∧ Kept (fun b => b < w.heap.size ∧ b ≠ rb ∧ v.ownBlock ≠ some b) w w' := by
  have still : ∀ {E : Int}, setE (cels R) o i q = E → E ≠ 0 → Calls Try.prog 15 #[ptr rb, o.val, .int .i64 i, q.val] w (fun e w' => e = .returned (.int .i64 E) ∧ Below w.heap.size w w') → Calls Try.prog 15 #[ptr rb, o.val, .int .i64 i, q.val] w fun e w' => e = .returned (.int .i64 (setE (cels R) o i q)) ∧ (∃ R', RH (Plus own w w') rb v R' w' ∧ cels R' = setP (cels R) o i q) ∧ Kept (fun b => b < w.heap.size ∧ b ≠ rb ∧ v.ownBlock ≠ some b) w w' := by
    intro E e1 e0 hc
    refine hc.mono ?_
    rintro e w' ⟨rfl, k⟩
    exact ⟨by rw [e1], ⟨R, h.plus k, by rw [setP, e1, if_neg e0]⟩, ⟨k.os, k.tape, k.output, k.size, fun b q => k.block b q.1⟩⟩
  have hr := Lib.hid (fun wx (kx : Below w.heap.size w wx) => rroom_any (h.below kx) o)
  cases hq : okO (cels R) o
  · have hE := errO_no hq
    exact still (by rw [setE, hq]; rfl) hE (rset_err rb o.k o.n o.a o.l q.k q.n q.a q.l i _ _ _ o.x q.x o.s q.s w (by simpa using hE) hr)
  rw [errO_ok hq] at hr
  by_cases hi : 0 ≤ i ∧ i < lenO (cels R) o
  case neg =>
    refine still (E := 12) (by rw [setE, hq]; simp [hi]) (by decide) (rset_index rb o.k o.n o.a o.l q.k q.n q.a q.l i _ _ o.x q.x o.s q.s w ?_ hr)
    by_cases a : i < 0
    · exact .inl (decide_eq_true a)
    · exact .inr ⟨decide_eq_false a, decide_eq_true (by omega)⟩
  obtain ⟨m', rfl⟩ := Int.eq_ofNat_of_zero_le hi.1
  obtain ⟨r, n, lo, m, g, cap, O, og, gr, gl⟩ := h.opened o hq
  have hi2 := hi.2
  have hlen := O.leno
  rw [O.at_, O.leno] at hr
  have hv := O.val
  have hr2 := hr
  rw [hv] at hr2
  have hd := h.hdr
  rw [O.row] at hd
  have hlt := O.lt
  have hmi : m' < m := by rw [hlen] at hi2; omega
  have hcell := O.cell
  cases hlk : r.c.lk
  case true =>
    refine still (E := 1) (by rw [setE, hq, O.cell, hlk]; simp [hi]) (by decide) ?_
    rw [hv]
    exact rset_locked rb g cap n lo m m' R.length r.c.lk o q w hlt hmi hd O.d3 hlk hr2
  case false =>
    have hlk' : (cellOf (cels R) o).lk = false := by rw [hcell]; exact hlk
    by_cases hk : o.k = 8
    · by_cases hq3 : q.k = 3
      · by_cases hn0 : q.n < 0
        · refine still (E := 2) (by rw [setE, hq, hlk']; simp [hi, hk, hq3, hn0]) (by decide) ?_
          rw [hv]
          exact rset_range1 rb g cap n lo m m' R.length r.c.lk o q w hlt hmi hd O.d3 hlk (by simpa using hk) (by simp [hq3]) (decide_eq_true hn0) hr2
        · by_cases hn1 : 255 < q.n
          · refine still (E := 2) (by rw [setE, hq, hlk']; simp [hi, hk, hq3, hn1]) (by decide) ?_
            rw [hv]
            exact rset_range2 rb g cap n lo m m' R.length r.c.lk o q w hlt hmi hd O.d3 hlk (by simpa using hk) (by simp [hq3]) (decide_eq_false hn0) (decide_eq_true hn1) hr2
          · have e0 : setE (cels R) o (m' : Int) q = 0 := by rw [setE, hq, hlk']; simp [hi, hk, hq3]; omega
            have hqv : q = ⟨3, q.x, q.n, q.a, q.l, q.s⟩ := by rw [← hq3]
            have := rset_byteX h ho o m' q.n q.a q.l q.x q.s hq hk hi2 hlk' (by omega) (by omega)
            rw [← hqv] at this
            rw [e0]
            rw [show q.val = obV 3 q.x q.n q.a q.l q.s from by rw [← hq3]; rfl]
            exact this
      · refine still (E := 6) (by rw [setE, hq, hlk']; simp [hi, hk, hq3]) (by decide) ?_
        rw [hv]
        exact rset_type rb g cap n lo m m' R.length r.c.lk o q w hlt hmi hd O.d3 hlk (by simpa using hk) (by simpa using hq3) hr2
    · cases hm : mayH (cels R) q
      · refine still (E := 1) (by rw [setE, hq, hlk']; simp [hi, hk, hm]) (by decide) ?_
        rw [hv]
        exact rset_nomay rb g cap n lo m m' R.length r.c.lk o q w hlt hmi hd O.d3 hlk (by simpa using hk) (Lib.hid fun wx kx => by have := rmayH_any (h.below kx) q; rw [hm] at this; exact this) hr2
      · have e0 : setE (cels R) o (m' : Int) q = 0 := by rw [setE, hq, hlk']; simp [hi, hk, hm]
        rw [e0]
        exact rset_item h ho o m' q hq hk hi2 hlk' hm
end
end Go.Proofs.Ytmlkmgeddkpgiaa

/- Walks of tympanref11: Part. -/
namespace Go.Proofs.Ytmlkmgeddkpgiaa
open Go.RowKit
set_option linter.unusedVariables false

set_option maxHeartbeats 2000000 in
set_option maxRecDepth 100000 in
theorem rpart_err (rb : Nat) (k n a l i m u z E : Int) (x : Bool) (s : ByteArray) (w : World) (hE : (E != 0) = true)
    (h2 : Hid (∀ wx, Below w.heap.size w wx → Calls Try.prog 73 #[ptr rb, obV k x n a l s] wx fun e w' => e = .returned (.tuple #[.int .i64 u, .int .i64 z, .int .i64 E]) ∧ Below wx.heap.size wx w')) :
    Calls Try.prog 70 #[ptr rb, obV k x n a l s, .int .i64 i, .int .i64 m] w fun e w' => e = .returned (.tuple #[zeroOb, .int .i64 E]) ∧ Below w.heap.size w w' := by
  go_enter Try.func70, Try.ntmps70
  go_upto_region 1 with fail
  obtain ⟨wb, eb, kb, ob, pb⟩ := get_box w k n a l x s
  rw [eb]
  obtain ⟨c0, c1, c2, c3, c4, c5⟩ := ob
  go_wp2_with fail
  refine (h2.out _ kb).mono ?_
  rintro e wc ⟨rfl, kc⟩
  have KC := Lib.hid (below_and kb kc)
  have PC : Hid (wc.heap[w.heap.size + 1]? = some emptyOb) := Lib.hid ((kc.block _ (blk_lt pb)).trans pb)
  clear eb kb pb kc c0 c1 c2 c3 c4 c5
  obtain ⟨⟨c0, c1, c2, c3, c4, c5⟩, f0, f1, f2, f3, f4, f5⟩ := cells6 PC.out
  go_wp2
  (try simp only [Exit.inBlock, Exit.then])
  exact bodyPost_ret (ret_cell rfl _ _ _ _ _ _ _ _ rfl rfl (set6 PC.out _ _ _ _ _ _) Try.underlying24 rfl (by kernel_rfl)) rfl ⟨rfl, set6_below KC.out (by omega) _ _ _ _ _ _⟩
set_option maxHeartbeats 2000000 in
set_option maxRecDepth 100000 in
theorem rpart_no (rb : Nat) (k n a l i m u z d E : Int) (x : Bool) (s : ByteArray) (w : World)
    (hE : ((k == 10) = true ∧ E = 6) ∨ ((k == 10) = false ∧ E = 12 ∧ (decide (i < 0) = true ∨ (decide (i < 0) = false ∧ decide (m < 0) = true) ∨ (decide (i < 0) = false ∧ decide (m < 0) = false ∧ decide (i > z) = true) ∨ (decide (i < 0) = false ∧ decide (m < 0) = false ∧ decide (i > z) = false ∧ IntKind.i64.wrap (z - i) = d ∧ decide (m > d) = true))))
    (h2 : Hid (∀ wx, Below w.heap.size w wx → Calls Try.prog 73 #[ptr rb, obV k x n a l s] wx fun e w' => e = .returned (.tuple #[.int .i64 u, .int .i64 z, .int .i64 0]) ∧ Below wx.heap.size wx w')) :
    Calls Try.prog 70 #[ptr rb, obV k x n a l s, .int .i64 i, .int .i64 m] w fun e w' => e = .returned (.tuple #[zeroOb, .int .i64 E]) ∧ Below w.heap.size w w' := by
  rcases hE with ⟨hk, rfl⟩ | ⟨hk, rfl, h1 | ⟨h1, h3⟩ | ⟨h1, h3, h4⟩ | ⟨h1, h3, h4, e5, h5⟩⟩
  all_goals
    go_enter Try.func70, Try.ntmps70
    go_upto_region 1 with fail
    obtain ⟨wb, eb, kb, ob, pb⟩ := get_box w k n a l x s
    rw [eb]
    have OB := Lib.hid ob
    obtain ⟨c0, c1, c2, c3, c4, c5⟩ := ob
    go_wp2_with fail
    refine (h2.out _ kb).mono ?_
    rintro e wc ⟨rfl, kc⟩
    have KC := Lib.hid (below_and kb kc)
    have PC : Hid (wc.heap[w.heap.size + 1]? = some emptyOb) := Lib.hid ((kc.block _ (blk_lt pb)).trans pb)
    have OC := OB.out.later kc
    clear eb kb pb kc c0 c1 c2 c3 c4 c5
    obtain ⟨o0, o1, o2, o3, o4, o5⟩ := OC
    obtain ⟨⟨c0, c1, c2, c3, c4, c5⟩, f0, f1, f2, f3, f4, f5⟩ := cells6 PC.out
    go_wp2
    (try simp only [Exit.inBlock, Exit.then])
    exact bodyPost_ret (ret_cell rfl _ _ _ _ _ _ _ _ rfl rfl (set6 PC.out _ _ _ _ _ _) Try.underlying24 rfl (by kernel_rfl)) rfl ⟨rfl, set6_below KC.out (by omega) _ _ _ _ _ _⟩
theorem part_box (w : World) (k n a l : Int) (x : Bool) (s : ByteArray) :
    ∃ wb, (w.alloc (.cells #[.int .i64 k, .bool x, .int .i64 n, .int .i64 a, .int .i64 l, .string s] 24)).alloc (.cells #[.int .i64 0, .bool false, .int .i64 0, .int .i64 0, .int .i64 0, .string ⟨#[]⟩] 24) = wb ∧ Below w.heap.size w wb ∧ wb.heap[w.heap.size]? = some (obObj k x n a l s) ∧ wb.heap[w.heap.size + 1]? = some emptyOb := by
  refine ⟨_, rfl, below_and (box_below _ _) (box_below _ _), ?_, ?_⟩
  · rw [Below.heap_alloc _ _ _ (by simp)]
    exact heap_alloc_new _ _
  · have := heap_alloc_new (w.alloc (.cells #[.int .i64 k, .bool x, .int .i64 n, .int .i64 a, .int .i64 l, .string s] 24)) emptyOb
    simpa using this
set_option maxHeartbeats 2000000 in
set_option maxRecDepth 100000 in
theorem rpart_walk (rb : Nat) (k n a l i m u z d j : Int) (x : Bool) (s : ByteArray) (w : World) (hk : (k == 10) = false) (h1 : decide (i < 0) = false) (h3 : decide (m < 0) = false) (h4 : decide (i > z) = false) (e5 : IntKind.i64.wrap (z - i) = d) (h5 : decide (m > d) = false) (e6 : IntKind.i64.wrap (a + i) = j)
    (h2 : Hid (∀ wx, Below w.heap.size w wx → Calls Try.prog 73 #[ptr rb, obV k x n a l s] wx fun e w' => e = .returned (.tuple #[.int .i64 u, .int .i64 z, .int .i64 0]) ∧ Below wx.heap.size wx w')) :
    Calls Try.prog 70 #[ptr rb, obV k x n a l s, .int .i64 i, .int .i64 m] w fun e w' => e = .returned (.tuple #[obV k x n j m s, .int .i64 0]) ∧ Below w.heap.size w w' := by
  go_enter Try.func70, Try.ntmps70
  go_upto_region 1 with fail
  obtain ⟨wb, eb, kb, ob, pb⟩ := part_box w k n a l x s
  rw [eb]
  obtain ⟨c0, c1, c2, c3, c4, c5⟩ := ob_cells ob
  go_wp2_with fail
  refine (h2.out _ kb).mono ?_
  rintro e wc ⟨rfl, kc⟩
  have KC := Lib.hid (below_and kb kc)
  have PC : Hid (wc.heap[w.heap.size + 1]? = some emptyOb) := Lib.hid ((kc.block _ (blk_lt pb)).trans pb)
  have OC := Lib.hid ((kc.block _ (blk_lt ob)).trans ob)
  clear eb kb pb kc ob c0 c1 c2 c3 c4 c5
  obtain ⟨⟨o0, o1, o2, o3, o4, o5⟩, f0, f1, f2, f3, f4, f5⟩ := cells6 OC.out
  go_upto_region 9 with fail
  obtain ⟨wg, eg, hg6, hgo⟩ := set34_box OC.out (.int .i64 j) (.int .i64 m)
  rw [eg]
  have KG := Lib.hid (hgo.below KC.out (Nat.le_refl _))
  have PG := Lib.hid ((hgo.block _ (by omega)).trans PC.out)
  clear eg hgo o0 o1 o2 o3 o4 o5 f0 f1 f2 f3 f4 f5
  obtain ⟨o0, o1, o2, o3, o4, o5⟩ := (cells6 hg6).1
  obtain ⟨⟨c0, c1, c2, c3, c4, c5⟩, f0, f1, f2, f3, f4, f5⟩ := cells6 PG.out
  clear hg6
  go_wp2
  (try simp only [Exit.inBlock, Exit.then])
  exact bodyPost_ret (ret_cell rfl _ _ _ _ _ _ _ _ rfl rfl (set6 PG.out _ _ _ _ _ _) Try.underlying24 rfl (by kernel_rfl)) rfl ⟨rfl, set6_below KG.out (by omega) _ _ _ _ _ _⟩
section
variable {own : Nat → Prop} {rb : Nat} {v : Value} {R : List RC} {w : World}
theorem rpart_tot (h : RH own rb v R w) (o : Ob) (i m : Int) (hm : m ≤ 9223372036854775807) (hi : i ≤ 9223372036854775807) : Calls Try.prog 70 #[ptr rb, o.val, .int .i64 i, .int .i64 m] w fun e w' => e = .returned (.tuple #[(partO (cels R) o i m).val, .int .i64 (partE (cels R) o i m)]) ∧ Below w.heap.size w w' := by
  have hr := Lib.hid (fun wx (kx : Below w.heap.size w wx) => rroom_any (h.below kx) o)
  obtain ⟨z0, z1⟩ := lenO_bd h.wf o
  cases ho : okO (cels R) o
  · have hE := errO_no ho
    have e1 : partE (cels R) o i m = errO (cels R) o := by simp [partE, ho]
    have e2 : partO (cels R) o i m = Ob.zero := by simp [partO, e1, hE]
    rw [e1, e2]
    exact rpart_err rb o.k o.n o.a o.l i m _ _ (errO (cels R) o) o.x o.s w (by simpa using hE) hr
  · rw [errO_ok ho] at hr
    by_cases hk : o.k = 10
    · have e1 : partE (cels R) o i m = 6 := by simp [partE, ho, hk]
      have e2 : partO (cels R) o i m = Ob.zero := by simp [partO, e1]
      rw [e1, e2]
      exact rpart_no rb o.k o.n o.a o.l i m _ _ 0 6 o.x o.s w (.inl ⟨by simpa using hk, rfl⟩) hr
    · have hk' : (o.k == 10) = false := by simpa using hk
      by_cases hfit : 0 ≤ i ∧ 0 ≤ m ∧ i + m ≤ lenO (cels R) o
      · have e1 : partE (cels R) o i m = 0 := by simp [partE, ho, hk, hfit]
        have e2 : partO (cels R) o i m = ⟨o.k, o.x, o.n, o.a + i, m, o.s⟩ := by simp [partO, e1]
        obtain ⟨b0, b1, b2, b3, _⟩ := ok_bd ho
        rw [e1, e2]
        exact rpart_walk rb o.k o.n o.a o.l i m _ _ (lenO (cels R) o - i) (o.a + i) o.x o.s w hk' (decide_eq_false (by omega)) (decide_eq_false (by omega)) (decide_eq_false (by omega)) (wrapi_in _ (by omega) (by omega)) (decide_eq_false (by omega)) (wrapi_in _ (by omega) (by omega)) hr
      · have e1 : partE (cels R) o i m = 12 := by simp only [partE, ho, hk, if_true, if_false, hfit]
        have e2 : partO (cels R) o i m = Ob.zero := by simp [partO, e1]
        rw [e1, e2]
        refine rpart_no rb o.k o.n o.a o.l i m _ _ (lenO (cels R) o - i) 12 o.x o.s w (.inr ⟨hk', rfl, ?_⟩) hr
        by_cases a1 : i < 0
        · exact .inl (decide_eq_true a1)
        · by_cases a2 : m < 0
          · exact .inr (.inl ⟨decide_eq_false a1, decide_eq_true a2⟩)
          · by_cases a3 : i > lenO (cels R) o
            · exact .inr (.inr (.inl ⟨decide_eq_false a1, decide_eq_false a2, decide_eq_true a3⟩))
            · exact .inr (.inr (.inr ⟨decide_eq_false a1, decide_eq_false a2, decide_eq_false a3, wrapi_in _ (by omega) (by omega), decide_eq_true (by omega)⟩))
end
end Go.Proofs.Ytmlkmgeddkpgiaa

/- heap: Array, String, Dict, Items, Lock, whatever is asked. -/
namespace Go.Proofs.Ytmlkmgeddkpgiaa
open Go.RowKit
set_option linter.unusedVariables false

/-- String. -/
def strE (P : List Cel) (s : ByteArray) : Int := mkE P s.size
def strO (P : List Cel) (s : ByteArray) : Ob := mkO P 8 s.size
def strQ (P : List Cel) (s : ByteArray) : List Cel := mkP P ⟨8, false, [], s.data.toList⟩
theorem str_size (s : ByteArray) : (⟨8, false, [], s.data.toList⟩ : Cel).size = s.size := by
  show 0 + s.data.toList.length = s.size
  rw [Array.length_toList, Nat.zero_add]
  rfl
section
variable {role : Nat → Nat × Nat} {c hb : Nat} {vc : Value} {ivs : List Value} {pb : Nat → Nat} {rv : Nat → Value} {P : List Cel} {w w' : World}
theorem PH.heap (h : PH role c hb vc ivs pb rv P w) : PHeap role c hb P w := ⟨_, _, _, _, h⟩
theorem PH.kept (h : PH role c hb vc ivs pb rv P w) (k : Below w.heap.size w w') : ∃ role', PHeap role' c hb P w' ∧ Keep role c w role' w' := ⟨role, ⟨_, _, _, _, h.below k⟩, Keep.of_below c k⟩
theorem mk_room (P : List Cel) (n : Nat) : (mkE P n = 0 ↔ P.length < 2000 ∧ n + usedP P ≤ 40000) ∧ (mkE P n ≠ 0 → mkE P n = 5) := by
  unfold mkE
  by_cases q : P.length < 2000 ∧ usedP P + n ≤ 40000
  · rw [if_pos q]
    exact ⟨⟨fun _ => ⟨q.1, by omega⟩, fun _ => rfl⟩, fun h => absurd rfl h⟩
  · rw [if_neg q]
    exact ⟨⟨fun h => absurd h (by decide), fun h => absurd ⟨h.1, by omega⟩ q⟩, fun _ => rfl⟩
theorem array_tot (h : PH role c hb vc ivs pb rv P w) (n : Int) : Calls Try.prog 65 #[ptr hb, .int .i64 n] w fun e w' => e = .returned (.tuple #[(arrO P n).val, .int .i64 (arrE P n)]) ∧ ∃ role', PHeap role' c hb (arrP P n) w' ∧ Keep role c w role' w' := by
  by_cases h0 : n < 0
  · rw [show arrE P n = 2 from by rw [arrE, if_pos h0], show arrO P n = Ob.zero from by rw [arrO, arrE, if_pos h0]; rfl, show arrP P n = P from by rw [arrP, if_pos h0]]
    refine (array_range h n h0).mono ?_
    rintro e w' ⟨rfl, k⟩
    exact ⟨rfl, h.kept k⟩
  · obtain ⟨m, rfl⟩ := Int.eq_ofNat_of_zero_le (by omega : 0 ≤ n)
    obtain ⟨q1, q2⟩ := mk_room P m
    have e1 : arrE P (m : Int) = mkE P m := by rw [arrE, if_neg h0]; rfl
    have e3 : arrP P (m : Int) = mkP P ⟨9, false, List.replicate m Ob.null, []⟩ := by rw [arrP, if_neg h0]; rfl
    have e2 : arrO P (m : Int) = mkO P 9 m := by
      rw [arrO, e1]
      by_cases q : mkE P m = 0
      · rw [if_pos q]; rfl
      · rw [if_neg q, mkO, if_neg q]
    have hsz : (⟨9, false, List.replicate m Ob.null, []⟩ : Cel).size = m := by simp [Cel.size]
    rw [e1, e2, e3, mkO, mkP, hsz]
    by_cases q : mkE P m = 0
    · rw [q, if_pos rfl, if_pos rfl]
      have hq := q1.1 q
      exact array_ok h m hq.1 hq.2
    · rw [if_neg q, if_neg q, q2 q]
      refine (array_limit h (m : Int) (by omega) (fun hh => q (q1.2 ⟨hh.1, by omega⟩))).mono ?_
      rintro e w' ⟨rfl, k⟩
      exact ⟨rfl, h.kept k⟩
theorem string_tot (h : PH role c hb vc ivs pb rv P w) (s : ByteArray) : Calls Try.prog 49 #[ptr hb, .string s] w fun e w' => e = .returned (.tuple #[(strO P s).val, .int .i64 (strE P s)]) ∧ ∃ role', PHeap role' c hb (strQ P s) w' ∧ Keep role c w role' w' := by
  obtain ⟨q1, q2⟩ := mk_room P s.size
  rw [strO, strE, strQ, mkO, mkP, str_size]
  by_cases q : mkE P s.size = 0
  · rw [q, if_pos rfl, if_pos rfl]
    have hq := q1.1 q
    exact string_ok h s hq.1 hq.2
  · rw [if_neg q, if_neg q, q2 q]
    refine (string_limit h s (fun hh => q (q1.2 ⟨hh.1, by omega⟩))).mono ?_
    rintro e w' ⟨rfl, k⟩
    exact ⟨rfl, h.kept k⟩
theorem dict_tot (h : PH role c hb vc ivs pb rv P w) (n : Int) : Calls Try.prog 69 #[ptr hb, .int .i64 n] w fun e w' => e = .returned (.tuple #[(dicO P n).val, .int .i64 (dicE P n)]) ∧ ∃ role', PHeap role' c hb (dicP P n) w' ∧ Keep role c w role' w' := by
  by_cases h0 : n < 0 ∨ 1000 < n
  · rw [show dicE P n = 2 from by rw [dicE, if_pos h0], show dicO P n = Ob.zero from by rw [dicO, dicE, if_pos h0]; rfl, show dicP P n = P from by rw [dicP, if_pos h0]]
    refine (dict_range h n h0).mono ?_
    rintro e w' ⟨rfl, k⟩
    exact ⟨rfl, h.kept k⟩
  · obtain ⟨m, rfl⟩ := Int.eq_ofNat_of_zero_le (by omega : 0 ≤ n)
    obtain ⟨q1, q2⟩ := mk_room P (2 * m + 1)
    have e1 : dicE P (m : Int) = mkE P (2 * m + 1) := by rw [dicE, if_neg h0]; rfl
    have e3 : dicP P (m : Int) = mkP P ⟨10, false, emptyD m, []⟩ := by rw [dicP, if_neg h0]; rfl
    have e2 : dicO P (m : Int) = mkO P 10 (2 * m + 1) := by
      rw [dicO, e1]
      by_cases q : mkE P (2 * m + 1) = 0
      · rw [if_pos q]; rfl
      · rw [if_neg q, mkO, if_neg q]
    have hsz : (⟨10, false, emptyD m, []⟩ : Cel).size = 2 * m + 1 := by simp [Cel.size, emptyD_length]
    rw [e1, e2, e3, mkO, mkP, hsz]
    by_cases q : mkE P (2 * m + 1) = 0
    · rw [q, if_pos rfl, if_pos rfl]
      have hq := q1.1 q
      exact dict_ok h m (2 * m) rfl (by omega) hq.1 (by omega)
    · rw [if_neg q, if_neg q, q2 q]
      refine (dict_limit h (m : Int) (by omega) (by omega) (fun hh => q (q1.2 ⟨hh.1, by omega⟩))).mono ?_
      rintro e w' ⟨rfl, k⟩
      exact ⟨rfl, h.kept k⟩
theorem items_tot (h : PH role c hb vc ivs pb rv P w) (o : Ob) : Calls Try.prog 78 #[ptr hb, o.val] w fun e w' => ∃ v, e = .returned (.tuple #[v, .int .i64 (itsE P o)]) ∧ ItemsOf w (itsL P o) v w' := by
  cases ho : okO P o
  · have hE := errO_no ho
    rw [show itsE P o = errO P o from by simp [itsE, ho], show itsL P o = [] from by simp [itsL, itsE, ho, hE]]
    refine (items_err hb o.k o.n o.a o.l (errO P o) o.x o.s w (by simpa using hE) (Lib.hid fun wx kx => find_no (h.below kx) o ho)).mono ?_
    rintro e w' ⟨rfl, k⟩
    exact ⟨_, rfl, .nil k⟩
  · by_cases hk : o.k = 8
    · rw [show itsE P o = 6 from by simp [itsE, ho, hk], show itsL P o = [] from by simp [itsL, itsE, ho, hk]]
      have hf := fun wx kx => find_ok (h.below (w' := wx) kx) o ho
      obtain ⟨b0, b1, b2, b3, _, _, b6, _⟩ := ok_bd ho
      have eT : celT (cellOf P o) = 141 := by unfold celT; rw [b6, if_pos hk]
      rw [eT] at hf
      refine (items_type hb (pb o.n.toNat) o.k o.n o.a o.l _ _ o.x o.s w (Lib.hid hf)).mono ?_
      rintro e w' ⟨rfl, k⟩
      exact ⟨_, rfl, .nil k⟩
    · rw [show itsE P o = 0 from by simp [itsE, ho, hk], show itsL P o = itemsL P o from by simp [itsL, itsE, ho, hk]]
      refine (items_is h o ho hk).mono ?_
      rintro e w' ⟨v, rfl, k1, k2⟩
      exact ⟨v, rfl, k1, k2⟩
theorem lock_tot (h : PH role c hb vc ivs pb rv P w) (o : Ob) : Calls Try.prog 18 #[ptr hb, o.val] w fun e w' => e = .returned (.int .i64 (errO P o)) ∧ ∃ role', PHeap role' c hb (lokP P o) w' ∧ Keep role c w role' w' := by
  cases ho : okO P o
  · have hE := errO_no ho
    rw [lokP, if_neg hE]
    refine (lock_err hb o.k o.n o.a o.l (errO P o) o.x o.s w (by simpa using hE) (Lib.hid fun wx kx => find_no (h.below kx) o ho)).mono ?_
    rintro e w' ⟨rfl, k⟩
    exact ⟨rfl, h.kept k⟩
  · have hE := errO_ok ho
    rw [lokP, if_pos hE, hE]
    refine (lock_is h o ho).mono ?_
    rintro e w' ⟨rfl, k1, k2⟩
    exact ⟨rfl, role, ⟨_, _, _, _, k1⟩, k2⟩
end
end Go.Proofs.Ytmlkmgeddkpgiaa

/- Walks of tympanref11: String, whatever is asked. -/
namespace Go.Proofs.Ytmlkmgeddkpgiaa
open Go.RowKit
set_option linter.unusedVariables false
set_option maxHeartbeats 2000000
set_option maxRecDepth 100000

section
variable {own : Nat → Prop} {rb : Nat} {v : Value} {R : List RC} {w : World}
theorem rstring_in (h : RH own rb v R w) (ho : ∀ b, own b → b < w.heap.size) (s : ByteArray) (hn : s.size ≤ 40000) (k' n' a' l' E : Int) (x' : Bool) (s' : ByteArray) (hO : mkO (cels R) 8 s.size = ⟨k', x', n', a', l', s'⟩) (hE : mkE (cels R) s.size = E) :
    Calls Try.prog 50 #[ptr rb, .string s] w fun e w' => e = .returned (.tuple #[obV k' x' n' a' l' s', .int .i64 E]) ∧ (∃ v' R', RH (Plus own w w') rb v' R' w' ∧ cels R' = mkP (cels R) ⟨8, false, [], s.data.toList⟩ ∧ (v' = v ∨ ∀ g, v'.ownBlock = some g → w.heap.size ≤ g)) ∧ Kept (fun b => b < w.heap.size ∧ b ≠ rb) w w' := by
  have hcv := fun w => Lib.run_convert_string_bytes (P := Try.prog) w 9 108 5 s Try.underlying9 Try.underlying108 Try.underlying5
  have H := Lib.hid h
  have HO := Lib.hid ho
  have QO := Lib.hid hO
  have QE := Lib.hid hE
  have HN := Lib.hid hn
  have t0 : ¬ ((s.size : Int) > 40000) := by omega
  clear h ho hO hE hn
  go_enter Try.func50, Try.ntmps50
  go_upto_region 1 with fail
  obtain ⟨wa, ea, ka, za, oa⟩ := zero_box w
  rw [ea]
  have KA := Lib.hid ka
  have ZA := Lib.hid za
  have OA := Lib.hid oa
  clear ea ka za oa
  go_wp2_with fail
  obtain ⟨w1, cap, e1, e2, k1, l1, hc, hcell⟩ := bytes_world wa s
  rw [e1, e2]
  have S : Hid (Below w.heap.size w w1 ∧ wa.heap.size < w1.heap.size ∧ s.size ≤ cap) := Lib.hid ⟨below_and KA.out k1, l1, hc⟩
  have RO : Hid (w1.heap[w.heap.size]? = some emptyOb) := Lib.hid ((k1.block _ (blk_lt OA.out)).trans OA.out)
  have nv : ∀ g, v.ownBlock = some g → g < w.heap.size := fun g e => by
    rcases H.out.row with ⟨rfl, _⟩ | ⟨g', cap', rfl, _, q, hg, _⟩
    · cases e
    · have : g' = g := by simpa [Value.ownBlock] using e
      omega
  have H1 := Lib.hid (H.out.kept (own' := fun b => own b ∨ b = wa.heap.size) (fun b q => .inl q) S.out.1.size fun b q hb => S.out.1.block b hb)
  have hrb := blk_lt H.out.hdr
  have HR1 : Hid (rowC w1 (Im (fun b => own b ∨ b = wa.heap.size) rb v) (strC s (.slice (some ⟨wa.heap.size, 0, none⟩) s.size cap)).it 0 (obCells []) ∧ rowC w1 (Im (fun b => own b ∨ b = wa.heap.size) rb v) (.slice (some ⟨wa.heap.size, 0, none⟩) s.size cap) s.data.toList.length (byCells s.data.toList)) := Lib.hid
    ⟨.inl ⟨rfl, rfl, rfl⟩, .inr ⟨wa.heap.size, cap, rfl, hc, ⟨.inr rfl, by have := ZA.out; omega, fun e => by have := nv _ e; have := ZA.out; omega⟩, l1, hcell⟩⟩
  clear e1 e2 k1 l1 hc hcell hcv nv hrb
  have C := rmake_tot H1.out (fun b q => by rcases q with q | q; exact Nat.lt_of_lt_of_le (HO.out b q) S.out.1.size; have := S.out.2.1; omega) (strC s (.slice (some ⟨wa.heap.size, 0, none⟩) s.size cap)) HR1.out (.inl ⟨rfl, rfl⟩) (by show (⟨8, false, [], s.data.toList⟩ : Cel).size ≤ 40001; rw [str_size]; have := HN.out; omega)
  rw [show (strC s (.slice (some ⟨wa.heap.size, 0, none⟩) s.size cap)).c.size = s.size from str_size s, show (strC s (.slice (some ⟨wa.heap.size, 0, none⟩) s.size cap)).c.k = 8 from rfl, QO.out, QE.out] at C
  simp only [Ob.val] at C
  refine C.mono ?_
  clear C
  rintro e w2 ⟨rfl, ⟨v', R', rh, hc, nv⟩, kp⟩
  have HC := Lib.hid hc
  clear hc
  have NV := Lib.hid nv
  clear nv
  have RO2 := Lib.hid ((kp.block _ ⟨blk_lt RO.out, by have := blk_lt H.out.hdr; omega⟩).trans RO.out)
  have RH2 := Lib.hid rh
  have KP := Lib.hid kp
  clear rh kp
  obtain ⟨⟨o0, o1, o2, o3, o4, o5⟩, g0, g1, g2, g3, g4, g5⟩ := cells6 RO2.out
  go_wp2
  (try simp only [Exit.inBlock, Exit.then])
  have on6 := only6 w.heap.size w2 (.int .i64 k') (.bool x') (.int .i64 n') (.int .i64 a') (.int .i64 l') (.string s')
  have hs1 := S.out.1.size
  have hs2 := KP.out.size
  refine bodyPost_ret (ret_cell rfl _ _ _ _ _ _ _ _ rfl rfl (set6 RO2.out _ _ _ _ _ _) Try.underlying24 rfl (by kernel_rfl)) rfl ⟨rfl, ⟨v', R', RH2.out.kept (fun b q => ?_) (by rw [on6.size]; exact Nat.le_refl _) (fun b q hb => on6.block b ?_), HC.out, NV.out.elim .inl fun q => .inr fun g e => Nat.le_trans hs1 (q g e)⟩, ?_⟩
  · rcases q with (q | q) | q
    · exact .inl q
    · exact .inr ⟨by have := ZA.out; omega, by rw [on6.size]; have := S.out.2.1; omega⟩
    · exact .inr ⟨by omega, by rw [on6.size]; exact q.2⟩
  · rcases q with (q | q) | q
    · have := HO.out b q
      omega
    · have := ZA.out
      omega
    · have := S.out.2.1
      have := ZA.out
      omega
  · refine (Kept.trans (w1 := w1) (kept_of S.out.1 fun b q => q.1) (KP.out.sub fun b q => ⟨Nat.lt_of_lt_of_le q.1 hs1, q.2⟩)).trans (kept_only on6 fun q => Nat.lt_irrefl _ q.1)
theorem rstring_far (rb : Nat) (s : ByteArray) (hn : 40000 < s.size) (w : World) : Calls Try.prog 50 #[ptr rb, .string s] w fun e w' => e = .returned (.tuple #[zeroOb, .int .i64 5]) ∧ Below w.heap.size w w' := by
  have t0 : (s.size : Int) > 40000 := by omega
  clear hn
  go_enter Try.func50, Try.ntmps50
  go_upto_region 1 with fail
  obtain ⟨wa, ea, ka, za, oa⟩ := zero_box w
  rw [ea]
  have KA := Lib.hid ka
  have OA := Lib.hid oa
  obtain ⟨⟨o0, o1, o2, o3, o4, o5⟩, g0, g1, g2, g3, g4, g5⟩ := cells6 oa
  clear ea ka za oa
  go_wp2
  (try simp only [Exit.inBlock, Exit.then])
  exact bodyPost_ret (ret_cell rfl _ _ _ _ _ _ _ _ rfl rfl (set6 OA.out _ _ _ _ _ _) Try.underlying24 rfl (by kernel_rfl)) rfl ⟨rfl, set6_below KA.out (Nat.le_refl _) _ _ _ _ _ _⟩
theorem rstring_tot (h : RH own rb v R w) (ho : ∀ b, own b → b < w.heap.size) (s : ByteArray) :
    Calls Try.prog 50 #[ptr rb, .string s] w fun e w' => e = .returned (.tuple #[(strO (cels R) s).val, .int .i64 (strE (cels R) s)]) ∧ (∃ v' R', RH (Plus own w w') rb v' R' w' ∧ cels R' = strQ (cels R) s ∧ (v' = v ∨ ∀ g, v'.ownBlock = some g → w.heap.size ≤ g)) ∧ Kept (fun b => b < w.heap.size ∧ b ≠ rb) w w' := by
  rw [strO, strE, strQ]
  by_cases h4 : s.size ≤ 40000
  · rcases hO : mkO (cels R) 8 s.size with ⟨k', x', n', a', l', s'⟩
    exact rstring_in h ho s h4 k' n' a' l' _ x' s' hO rfl
  · have e4 := mkE_far (P := cels R) (n := s.size) (by omega)
    have e2 : mkO (cels R) 8 s.size = Ob.zero := by rw [mkO, e4]; rfl
    have e5 : mkP (cels R) ⟨8, false, [], s.data.toList⟩ = cels R := by rw [mkP, str_size, e4]; rfl
    rw [e4, e2, e5]
    refine (rstring_far rb s (by omega) w).mono ?_
    rintro e w' ⟨rfl, k⟩
    exact ⟨rfl, ⟨_, R, h.plus k, rfl, .inl rfl⟩, below_rb rb k⟩
end
end Go.Proofs.Ytmlkmgeddkpgiaa

/- Plain: what Put does; rows written in a stretch. -/
namespace Go.Proofs.Ytmlkmgeddkpgiaa
open Go.RowKit
set_option linter.unusedVariables false

def putI : List Ob → Nat → List Ob → List Ob
  | l, _, [] => l
  | l, o, c :: cs => putI (l.set o c) (o + 1) cs
theorem putI_length : ∀ (xs : List Ob) (l : List Ob) (o : Nat), (putI l o xs).length = l.length
  | [], _, _ => rfl
  | c :: cs, l, o => by
    rw [putI, putI_length cs]
    simp
theorem putAt_join : ∀ (xs ys zs : List Value) (o : Nat), putAt zs o (xs ++ ys) = putAt (putAt zs o xs) (o + xs.length) ys
  | [], ys, zs, o => by simp [putAt]
  | x :: xs, ys, zs, o => by
    simp only [List.cons_append, putAt, List.length_cons]
    rw [putAt_join xs ys _ (o + 1), show o + 1 + xs.length = o + (xs.length + 1) from by omega]
theorem obCells_putI : ∀ (xs : List Ob) (l : List Ob) (j : Nat), j + xs.length ≤ l.length → putAt (obCells l) (j * 6) (obCells xs) = obCells (putI l j xs)
  | [], l, j, _ => rfl
  | x :: xs, l, j, h => by
    simp at h
    rw [show obCells (x :: xs) = x.cells ++ obCells xs from rfl, putAt_join, obCells_put x l j (by omega), show x.cells.length = 6 from rfl, show j * 6 + 6 = (j + 1) * 6 from by omega, obCells_putI xs _ (j + 1) (by simp; omega), putI]
theorem byCells_set (l : List UInt8) (j : Nat) (c : UInt8) : (byCells l).set j (.int .u8 c.toNat) = byCells (l.set j c) := by
  simp [byCells, List.map_set]
theorem byCells_putB : ∀ (xs : List UInt8) (l : List UInt8) (j : Nat), putAt (byCells l) j (byCells xs) = byCells (putB l j xs)
  | [], l, j => rfl
  | x :: xs, l, j => by
    show putAt ((byCells l).set j (.int .u8 x.toNat)) (j + 1) (byCells xs) = _
    rw [byCells_set, byCells_putB xs, putB]
/-- Put: the error, and the cells then. -/
def putE (P : List Cel) (o : Ob) (i : Int) (q : Ob) : Int :=
  if errO P o = 0 then (if errO P q = 0 then (if o.k = 10 ∨ o.k ≠ q.k then 6 else if 0 ≤ i ∧ i + lenO P q ≤ lenO P o then (if (cellOf P o).lk then 1 else 0) else 12) else errO P q) else errO P o
def putC (P : List Cel) (o : Ob) (i : Int) (q : Ob) : Cel :=
  if o.k = 8 then { cellOf P o with bs := putB (cellOf P o).bs (o.a + i).toNat (bytesL P q) } else { cellOf P o with it := putI (cellOf P o).it (o.a + i).toNat (itemsL P q) }
def putQ (P : List Cel) (o : Ob) (i : Int) (q : Ob) : List Cel := if putE P o i q = 0 then P.set o.n.toNat (putC P o i q) else P
/-- copy of nothing. -/
theorem copy0O (p q : Option Addr) (dn dc sc : Nat) (ty : TypeId) (w : World) (hp : dn = 0 ∨ ∃ a, p = some a) : (Builtin.copy_ #[33, 33] ty #[.slice p dn dc, .slice q 0 sc]).run Try.prog w = .ok (goInt 0) w := by
  have hu := Try.underlying33
  have hq : (sizeOf 24).run Try.prog w = .ok 6 w := by kernel_rfl
  cases p <;> cases q <;> simp [Builtin.copy_, run_underlying hu, Builtin.lenOf, Builtin.firstCells, hq, loadCells, loadCellsFrom, storeCells]
theorem copy0B (p q : Option Addr) (dn dc sc : Nat) (ty : TypeId) (w : World) (hp : dn = 0 ∨ ∃ a, p = some a) : (Builtin.copy_ #[108, 108] ty #[.slice p dn dc, .slice q 0 sc]).run Try.prog w = .ok (goInt 0) w := by
  have hu := Try.underlying108
  have hq : (sizeOf 5).run Try.prog w = .ok 1 w := by kernel_rfl
  cases p <;> cases q <;> simp [Builtin.copy_, run_underlying hu, Builtin.lenOf, Builtin.firstCells, hq, loadCells, loadCellsFrom, storeCells]
/-- Objects copied into a row. -/
theorem run_copyO (w : World) (ty : TypeId) (g o dLen dCap : Nat) (a : Addr) (sLen sCap : Nat) (L : List Ob) (hn : L.length = sLen) (hd : sLen ≤ dLen)
    (hsrc : ∀ j v, (obCells L)[j]? = some v → w.cell? (a.add j) = some v) (ht : w.there g o (sLen * 6)) :
    (Builtin.copy_ #[33, 33] ty #[.slice (some ⟨g, o, none⟩) dLen dCap, .slice (some a) sLen sCap]).run Try.prog w = .ok (goInt sLen) (w.setCells g o (obCells L)) := by
  have hl := run_loadCells_list (P := Try.prog) w a (obCells L) hsrc
  have hlen : (obCells L).length = sLen * 6 := by rw [obCells_length, hn]
  have hst : (storeCells ⟨g, o, none⟩ (obCells L)).run Try.prog w = .ok () (w.setCells g o (obCells L)) := by
    have := run_storeCells_cells (P := Try.prog) g o (obCells L) 0 w (fun j hj => by simpa using (ht j (by omega)).1) (fun j hj => by simpa using (ht j (by omega)).2) (obCells_one L)
    simpa using this
  have hu := Try.underlying33
  have hq : (sizeOf 24).run Try.prog w = .ok 6 w := by kernel_rfl
  have hm : Nat.min sLen dLen = sLen := Nat.min_eq_left hd
  rw [hlen] at hl
  simp [Builtin.copy_, run_underlying hu, Builtin.lenOf, Builtin.firstCells, hq, hm, hl, hst]
end Go.Proofs.Ytmlkmgeddkpgiaa
