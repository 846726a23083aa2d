/- Y19: U8, U9, U10, U11. -/
import Derived.Test.YtlkbnldpecolbaaY18
/- tympanref11: Items, whatever is asked. -/
namespace Go.Proofs.Ytlkbnldpecolbaa
open Go.RowKit
set_option linter.unusedVariables false

/-- Items: the error, and what is told. -/
def itsE (P : List Cel) (o : Ob) : Int := if okO P o then (if o.k = 8 then 6 else 0) else errO P o
def itsL (P : List Cel) (o : Ob) : List Ob := if itsE P o = 0 then itemsL P o else []
/-- A slice of objects that is the call's own, or none. -/
theorem ItemsOf.nil {w w' : World} (k : Below w.heap.size w w') : ItemsOf w [] (.slice none 0 0) w' := ⟨World.ownsRow_nil _ _ _ _, k⟩
section
variable {own : Nat → Prop} {rb : Nat} {v : Value} {R : List RC} {w : World}
theorem ritems_tot (h : RH own rb v R w) (o : Ob) : Calls Try.prog 73 #[ptr rb, o.val] w fun e w' => ∃ v, e = .returned (.tuple #[v, .int .i64 (itsE (cels R) o)]) ∧ ItemsOf w (itsL (cels R) o) v w' := by
  have hr := Lib.hid (fun wx (kx : Below w.heap.size w wx) => rroom_any (h.below kx) o)
  cases ho : okO (cels R) o
  · have hE := errO_no ho
    have e1 : itsE (cels R) o = errO (cels R) o := by simp [itsE, ho]
    have e2 : itsL (cels R) o = [] := by simp [itsL, e1, hE]
    rw [e1, e2]
    refine (ritems_err rb o.k o.n o.a o.l _ _ (errO (cels R) o) o.x o.s w (by simpa using hE) hr).mono ?_
    rintro e w' ⟨rfl, k⟩
    exact ⟨_, rfl, .nil k⟩
  · have hE := errO_ok ho
    rw [hE] at hr
    by_cases hk : o.k = 8
    · have e1 : itsE (cels R) o = 6 := by simp [itsE, ho, hk]
      have e2 : itsL (cels R) o = [] := by simp [itsL, e1]
      rw [e1, e2]
      have hv : o.val = obV 8 o.x o.n o.a o.l o.s := by rw [← hk]; rfl
      rw [hv] at hr ⊢
      refine (ritems_type rb o.n o.a o.l _ _ o.x o.s w hr).mono ?_
      rintro e w' ⟨rfl, k⟩
      exact ⟨_, rfl, .nil k⟩
    · have e1 : itsE (cels R) o = 0 := by simp [itsE, ho, hk]
      have e2 : itsL (cels R) o = itemsL (cels R) o := by simp [itsL, e1]
      obtain ⟨r, n, lo, len, g, cap, O, _⟩ := h.opened o ho
      have hit := O.itm hk
      have hs : r.c.size = r.c.it.length := by simp [Cel.size, hit]
      have hfit := O.fits
      have hsz := O.size
      have e3 : itemsL (cels R) o = (r.c.it.drop lo).take len := by
        unfold itemsL
        rw [O.cell, O.leno, O.a]
        rfl
      rw [e1, e2, e3]
      rw [O.at_, O.leno] at hr
      rw [O.val] at hr ⊢
      obtain ⟨p1, c1, ei, hcap⟩ := (h.sub _ r O.get).1.form
      have hd := O.d1
      rw [ei] at hd
      have hsl := slice33 p1 r.c.it.length c1 lo (lo + len) (by omega) (by omega)
      rw [show lo + len - lo = len from by omega] at hsl
      refine ritems_walk rb g R.length cap n lo len (lo + len) _ _ o.k o.a o.l o.x o.s _ w O.lt (by simpa using hk) O.h0 hd (by rw [wrapi_in _ (by omega) (by omega)]; omega) hsl (Lib.hid fun wx ty kx => ?_) hr
      have hrow := ((h.below kx).sub _ r O.get).1
      rw [ei] at hrow
      exact app_items hrow lo len (by omega) (by omega) rfl ty
end
end Go.Proofs.Ytlkbnldpecolbaa

/- tympanref11: a cell put in another's place; Lock. -/
namespace Go.Proofs.Ytlkbnldpecolbaa
open Go.RowKit
set_option linter.unusedVariables false

/-- The cells of all rows, where one row is another: they differ within that row alone. -/
theorem rcCells_put {R : List RC} {n : Nat} {r : RC} (h : R[n]? = some r) (r' : RC) : ∀ t, (rcCells (R.set n r'))[t]? = if n * 4 ≤ t ∧ t < n * 4 + 4 then (rcL r')[t - n * 4]? else (rcCells R)[t]? := by
  induction R generalizing n with
  | nil => simp at h
  | cons p R ih =>
    intro t
    cases n with
    | zero =>
      show (rcL r' ++ rcCells R)[t]? = if _ then _ else (rcL p ++ rcCells R)[t]?
      by_cases q : t < 4
      · rw [if_pos (by omega), List.getElem?_append_left (by rw [show (rcL r').length = 4 from rfl]; exact q)]
        simp
      · rw [if_neg (by omega), List.getElem?_append_right (by rw [show (rcL r').length = 4 from rfl]; omega), List.getElem?_append_right (by rw [show (rcL p).length = 4 from rfl]; omega)]
        rfl
    | succ n =>
      have h' : R[n]? = some r := by simpa using h
      show (rcL p ++ rcCells (R.set n r'))[t]? = if _ then _ else (rcL p ++ rcCells R)[t]?
      by_cases q : t < 4
      · rw [if_neg (by omega), List.getElem?_append_left (by rw [show (rcL p).length = 4 from rfl]; exact q), List.getElem?_append_left (by rw [show (rcL p).length = 4 from rfl]; exact q)]
      · rw [List.getElem?_append_right (by rw [show (rcL p).length = 4 from rfl]; omega), List.getElem?_append_right (by rw [show (rcL p).length = 4 from rfl]; omega), show (rcL p).length = 4 from rfl, ih h']
        by_cases q2 : (n + 1) * 4 ≤ t ∧ t < (n + 1) * 4 + 4
        · rw [if_pos (by omega), if_pos q2, show t - 4 - n * 4 = t - (n + 1) * 4 from by omega]
        · rw [if_neg (by omega), if_neg q2]
/-- The heap as it lies when the n-th row has become r'. -/
theorem RH.put {own : Nat → Prop} {rb g cap n : Nat} {R : List RC} {r : RC} {w w4 : World} (h : RH own rb (.slice (some ⟨g, 0, none⟩) R.length cap) R w) (ho : ∀ b, own b → b < w.heap.size) (hr : R[n]? = some r) (hg : g ≠ rb) (r' : RC)
    (hs : w.heap.size ≤ w4.heap.size) (old : ∀ b, b < w.heap.size → b ≠ g → w4.heap[b]? = w.heap[b]?)
    (c0 : ∀ t, t < 4 → w4.cell? ⟨g, n * 4 + t, none⟩ = (rcL r')[t]?) (co : ∀ t, ¬ (n * 4 ≤ t ∧ t < n * 4 + 4) → w4.cell? ⟨g, t, none⟩ = w.cell? ⟨g, t, none⟩) (fo : ∀ t, w4.frozen? ⟨g, t, none⟩ = false)
    (rows : rowC w4 (Im (Plus own w w4) rb (.slice (some ⟨g, 0, none⟩) R.length cap)) r'.it r'.c.it.length (obCells r'.c.it) ∧ rowC w4 (Im (Plus own w w4) rb (.slice (some ⟨g, 0, none⟩) R.length cap)) r'.bs r'.c.bs.length (byCells r'.c.bs))
    (hsz : r'.c.size = r.c.size) (hk : (r'.c.k = 8 ∧ r'.c.it = []) ∨ ((r'.c.k = 9 ∨ r'.c.k = 10) ∧ r'.c.bs = [])) :
    RH (Plus own w w4) rb (.slice (some ⟨g, 0, none⟩) R.length cap) (R.set n r') w4 := by
  have hrb := blk_lt h.hdr
  have hgl : g < w.heap.size := own_lt h rfl
  have fx : ∀ b, Im own rb (.slice (some ⟨g, 0, none⟩) R.length cap) b → b < w.heap.size → Im (Plus own w w4) rb (.slice (some ⟨g, 0, none⟩) R.length cap) b ∧ w4.heap[b]? = w.heap[b]? := fun b q hb => ⟨⟨.inl q.1, q.2.1, q.2.2⟩, old b hb fun e => q.2.2 (by rw [e]; rfl)⟩
  refine ⟨(old rb hrb (Ne.symm hg)).trans h.hdr, .inl h.mine, ?_, fun i x hx => ?_, ⟨?_, ?_, fun d hd => ?_⟩, fun b e t => ?_⟩
  · rcases h.row with ⟨q, _, _⟩ | ⟨g', cap', q, q2, q3, q4, q5⟩
    · cases q
    · injection q with w1' w2' w3'
      injection w1' with w1'
      injection w1' with w1' _ _
      subst w1' w3'
      refine .inr ⟨g, cap, by rw [List.length_set], by rw [List.length_set]; exact q2, ⟨.inl q3.1, q3.2⟩, Nat.lt_of_lt_of_le q4 hs, fun t u ht => ?_⟩
      rw [rcCells_put hr] at ht
      by_cases e : n * 4 ≤ t ∧ t < n * 4 + 4
      · rw [if_pos e] at ht
        have := c0 (t - n * 4) (by omega)
        rw [show n * 4 + (t - n * 4) = t from by omega] at this
        exact this.trans ht
      · rw [if_neg e] at ht
        rw [co t e]
        exact q5 t u ht
  · by_cases e : i = n
    · subst e
      rw [List.getElem?_set_self (List.getElem?_eq_some_iff.1 hr).1] at hx
      obtain rfl := Option.some.inj hx
      exact rows
    · rw [List.getElem?_set_ne (Ne.symm e)] at hx
      exact ⟨(h.sub i x hx).1.same hs fx, (h.sub i x hx).2.same hs fx⟩
  · rw [cels_set]
    simpa using h.wf.len
  · rw [cels_set, used_set (cels_get hr) hsz]
    exact h.wf.used
  · rw [cels_set] at hd
    rcases List.mem_or_eq_of_mem_set hd with hd | rfl
    · exact h.wf.kind d hd
    · exact hk
  · obtain rfl := own_eq e
    exact fo t
section
variable {own : Nat → Prop} {rb : Nat} {v : Value} {R : List RC} {w : World}
/-- Lock. -/
def lokP (P : List Cel) (o : Ob) : List Cel := if errO P o = 0 then lockP P o else P
end
end Go.Proofs.Ytlkbnldpecolbaa

/- Walks of tympanref11: Set of an item. -/
namespace Go.Proofs.Ytlkbnldpecolbaa
open Go.RowKit
set_option linter.unusedVariables false
set_option linter.unusedSimpArgs false

/-- A row of objects, copied whole. -/
theorem items_copy {w : World} {I : Nat → Prop} {p : Option Addr} {c : Nat} {its : List Ob} (h : rowC w I (.slice p its.length c) its.length (obCells its)) (hz : its.length ≤ 40000) (ty : TypeId) :
    ∃ v' w', (Builtin.append_ #[46, 46] ty #[.slice none 0 0, .slice p its.length c]).run Try.prog w = .ok v' w' ∧ ItemsOf w its v' w' := by
  obtain ⟨i0, hi, hz0, hz1, hz2⟩ := info_parts info24
  obtain ⟨v', w', hr, h1, h2, _⟩ := app_copy h 46 30 i0 _ 6 56 Try.underlying46 hi hz0 hz1 hz2 rfl (by decide) (obCells_length _) (obCells_one _) (by unfold maxLen; omega) (by omega) ty
  exact ⟨v', w', hr, h1, h2⟩
/-- What make of a written row is left: the heap as it lies when an item has been set. -/
theorem RH.item {own : Nat → Prop} {rb g cap n j g2 cp2 : Nat} {R : List RC} {r : RC} {q : Ob} {w w1 w2 w3 w4 : World} (h : RH own rb (.slice (some ⟨g, 0, none⟩) R.length cap) R w) (ho : ∀ b, own b → b < w.heap.size) (hr : R[n]? = some r) (hg : g ≠ rb) (hj : j < r.c.it.length) (hb : r.c.bs = [])
    (k1 : Below w.heap.size w w1) (hg2 : w.heap.size ≤ g2) (hown : w1.ownsRow w.heap.size 30 6 (.slice (some ⟨g2, 0, none⟩) r.c.it.length cp2) r.c.it.length (obCells r.c.it))
    (on : Only g w1 w2) (cg : w2.cell? ⟨g, n * 4 + 1, none⟩ = some (.slice (some ⟨g2, 0, none⟩) r.c.it.length cp2)) (co : ∀ t, t ≠ n * 4 + 1 → w2.cell? ⟨g, t, none⟩ = w1.cell? ⟨g, t, none⟩) (fo : ∀ t, w2.frozen? ⟨g, t, none⟩ = w1.frozen? ⟨g, t, none⟩)
    (e3 : w2.drew = w3) (e4 : w3.setCells g2 (j * 6) q.cells = w4) :
    RH (Plus own w w4) rb (.slice (some ⟨g, 0, none⟩) R.length cap) (R.set n ⟨⟨r.c.k, r.c.lk, r.c.it.set j q, r.c.bs⟩, .slice (some ⟨g2, 0, none⟩) r.c.it.length cp2, r.bs⟩) w4 := by
  have hgl : g < w.heap.size := own_lt h rfl
  have hg2' := hown.lt g2 rfl
  have hown3 : w3.ownsRow w.heap.size 30 6 (.slice (some ⟨g2, 0, none⟩) r.c.it.length cp2) r.c.it.length (obCells r.c.it) := owns_at hown fun b e => by
    have := own_eq e
    rw [← e3]
    exact on.block b (by omega)
  have E0 := owns_put q.cells (j * 6) w3 _ hown3
  rw [e4] at E0
  have on4 := E0.2
  have hs : w.heap.size ≤ w4.heap.size := by
    rw [on4.size, ← e3]
    show w.heap.size ≤ w2.heap.size
    rw [on.size]
    exact k1.size
  have old : ∀ b, b < w.heap.size → b ≠ g → w4.heap[b]? = w.heap[b]? := fun b hb hbg => by
    rw [on4.block b (by omega), ← e3]
    exact (on.block b hbg).trans (k1.block b hb)
  have hgb : w4.heap[g]? = w2.heap[g]? := by
    rw [on4.block g (by omega), ← e3]
    rfl
  have atg : ∀ t, w4.cell? ⟨g, t, none⟩ = w2.cell? ⟨g, t, none⟩ := fun t => World.cell?_of_block (w := w2) (a := ⟨g, t, none⟩) hgb
  have c1 : ∀ t, w1.cell? ⟨g, t, none⟩ = w.cell? ⟨g, t, none⟩ := fun t => World.cell?_of_block (a := ⟨g, t, none⟩) (k1.block g hgl)
  obtain ⟨_, _, ev, _, _, _, d0, d1, d2, d3⟩ := h.at hr
  injection ev with ev1 ev2 ev3
  injection ev1 with ev1
  injection ev1 with ev1 _ _
  subst ev1 ev3
  have fx : ∀ b, Im own rb (.slice (some ⟨g, 0, none⟩) R.length cap) b → b < w.heap.size → Im (Plus own w w4) rb (.slice (some ⟨g, 0, none⟩) R.length cap) b ∧ w4.heap[b]? = w.heap[b]? := fun b q hb => ⟨⟨.inl q.1, q.2.1, q.2.2⟩, old b hb fun e => q.2.2 (by rw [e]; rfl)⟩
  have hz4 : g2 < w4.heap.size := (E0.1.lt g2 rfl).2
  refine h.put ho hr hg _ hs old (fun t ht => ?_) (fun t ht => by rw [atg, co t (by omega), c1]) (fun t => ?_) ⟨?_, (h.sub n r hr).2.same hs fx⟩ (by simp [Cel.size]) ?_
  · match t, ht with
    | 0, _ => exact (atg _).trans ((co _ (by omega)).trans ((c1 _).trans d0))
    | 1, _ => exact (atg _).trans cg
    | 2, _ => exact (atg _).trans ((co _ (by omega)).trans ((c1 _).trans d2))
    | 3, _ => exact (atg _).trans ((co _ (by omega)).trans ((c1 _).trans d3))
  · rw [World.frozen?_of_block (w := w2) (a := ⟨g, t, none⟩) hgb, fo, World.frozen?_of_block (w := w) (a := ⟨g, t, none⟩) (k1.block g hgl)]
    exact h.free g rfl t
  · have hl : (r.c.it.set j q).length = r.c.it.length := by simp
    show rowC w4 _ _ (r.c.it.set j q).length (obCells (r.c.it.set j q))
    rw [hl, ← obCells_put q r.c.it j hj]
    refine rowC_of_owns E0.1 (fun b e => ?_) (fun e => by omega)
    have := own_eq e
    subst this
    exact ⟨.inr ⟨hg2, hz4⟩, by have := blk_lt h.hdr; omega, fun e => by have := own_eq e; omega⟩
  · rcases h.wf.kind r.c (cell_mem (cels_get hr)) with ⟨_, q2⟩ | ⟨q1, q2⟩
    · rw [q2] at hj
      simp at hj
    · exact .inr ⟨q1, q2⟩
section
variable {own : Nat → Prop} {rb : Nat} {v : Value} {R : List RC} {w : World}
set_option maxHeartbeats 4000000 in
set_option maxRecDepth 100000 in
theorem rset_item (h : RH own rb v R w) (ho : ∀ b, own b → b < w.heap.size) (o : Ob) (i : Nat) (q : Ob) (hok : okO (cels R) o = true) (hk : o.k ≠ 8) (hi : (i : Int) < lenO (cels R) o) (hlk : (cellOf (cels R) o).lk = false) (hq : mayH (cels R) q = true) :
    Calls Try.prog 69 #[ptr rb, o.val, .int .i64 i, q.val] w fun e w' => e = .returned (.int .i64 0) ∧ (∃ R', RH (Plus own w w') rb v R' w' ∧ cels R' = setP (cels R) o i q) ∧ Kept (fun b => b < w.heap.size ∧ b ≠ rb ∧ v.ownBlock ≠ some b) w w' := by
  have hr := Lib.hid (fun wx (kx : Below w.heap.size w wx) => rroom_any (h.below kx) o)
  rw [errO_ok hok] at hr
  obtain ⟨r, n, lo, m, g, cap, O, og, gr, gl⟩ := h.opened o hok
  have hsp : setP (cels R) o i q = (cels R).set n ⟨r.c.k, r.c.lk, r.c.it.set (lo + i) q, r.c.bs⟩ := by
    have e : setE (cels R) o i q = 0 := by
      rw [setE, hok, hlk]
      simp [hk, hi, hq]
    rw [setP, if_pos e, putItem, O.cell, if_neg (by rw [O.kind]; exact hk), O.nat, O.a, show ((lo : Int) + (i : Int)).toNat = lo + i from by omega]
  have hbs := O.itm hk
  have hs : r.c.size = r.c.it.length := by simp [Cel.size, hbs]
  have hfit := O.fits
  have hsz := O.size
  have hmm := O.leno
  rw [hmm] at hi
  rw [O.at_, hmm] at hr
  rw [O.val] at hr ⊢
  rw [O.cell] at hlk
  obtain ⟨p1, c1, e2, _⟩ := (h.sub _ r O.get).1.form
  have d1 := O.d1
  rw [e2] at d1
  have d3' := O.d3
  rw [hlk] at d3'
  have hd := h.hdr
  have hrow := O.row
  subst hrow
  have HSP := Lib.hid hsp
  have H := Lib.hid h
  have HO := Lib.hid ho
  have HR := Lib.hid O.get
  have HX : Hid (lo + i < r.c.it.length) := Lib.hid (by omega)
  have D1 := Lib.hid d1
  have D3 := Lib.hid d3'
  have HD := Lib.hid hd
  have HF := Lib.hid (h.free g rfl)
  have HG := Lib.hid (And.intro gr gl)
  have HZ : Hid (r.c.it.length ≤ 40000) := Lib.hid (by omega)
  have HB := Lib.hid hbs
  have HQ := Lib.hid hq
  have E2 := Lib.hid e2
  have t0 : (0 : Int) ≤ n := by omega
  have t1 : (n : Int) < R.length := by have := O.lt; omega
  have t2 : ¬ ((i : Int) < 0) := by omega
  have t3 : ¬ ((i : Int) ≥ m) := by omega
  have hk8 : (o.k == 8) = false := by simpa using hk
  clear h ho hok hi hlk O hsp hbs hs hfit hsz hmm e2 d1 d3' hd og gr gl hq hk
  rw [show q.val = obV q.k q.x q.n q.a q.l q.s from rfl]
  go_enter Try.func69, Try.ntmps69
  go_upto_region 1 with fail
  obtain ⟨wb, eb, kb, zb, sx⟩ := set_box2 w rb g R.length cap n o.k o.a o.l q.k q.n q.a q.l o.x q.x o.s q.s HD.out
  rw [eb]
  have SX := Lib.hid sx
  have KB := Lib.hid kb
  have ZB := Lib.hid zb
  obtain ⟨c0', c1', c2', c3', c4', c5'⟩ := ob_cells sx.o
  clear eb kb zb sx
  go_wp2_with fail
  refine (hr.out _ KB.out).mono ?_
  rintro e wc ⟨rfl, kc⟩
  have SC := Lib.hid (SX.out.keep fun b _ hb => kc.block b hb)
  have KC := Lib.hid (below_and KB.out kc)
  have ZC : Hid (w.heap.size + 2 ≤ wc.heap.size) := Lib.hid (by have := kc.size; have := ZB.out; omega)
  clear kc c0' c1' c2' c3' c4' c5' SX KB ZB hr
  have h0 : wc.cell? ⟨rb, 0, none⟩ = some (.slice (some ⟨g, 0, none⟩) R.length cap) := cellAt SC.out.hd 0
  have d3 := cell_later KC.out D3.out
  obtain ⟨c0', c1', c2', c3', c4', c5'⟩ := ob_cells SC.out.o
  obtain ⟨q0, q1, q2, q3, q4, q5⟩ := ob_cells SC.out.q
  go_upto_region 6 with fail
  go_quiet (fail)
  go_upto_region 16 with fail
  go_wp2_with fail
  have sq0 : SetX (wc.drewN nq) rb w.heap.size g R.length cap n o.k o.a o.l q.k q.n q.a q.l o.x q.x o.s q.s := SC.out.keep fun _ _ _ => rfl
  have kq0 : Below w.heap.size w (wc.drewN nq) := below_and KC.out (below_drewN _ _)
  have zq0 : w.heap.size + 2 ≤ (wc.drewN nq).heap.size := ZC.out
  generalize wc.drewN nq = wm at sq0 kq0 zq0 ⊢
  clear h0 d3 c0' c1' c2' c3' c4' c5' q0 q1 q2 q3 q4 q5
  have CM := rmayH_any (H.out.below kq0) q
  rw [HQ.out] at CM
  refine (show Calls Try.prog 65 #[ptr rb, obV q.k q.x q.n q.a q.l q.s] wm _ from CM).mono ?_
  rintro e wq ⟨rfl, km⟩
  have sq : SetX wq rb w.heap.size g R.length cap n o.k o.a o.l q.k q.n q.a q.l o.x q.x o.s q.s := sq0.keep fun b _ hb => km.block b hb
  have kq : Below w.heap.size w wq := below_and kq0 km
  have zq : w.heap.size + 2 ≤ wq.heap.size := Nat.le_trans zq0 km.size
  clear CM sq0 kq0 zq0 km
  go_upto_region 18 with fail
  have SQ' : SetX wq.drew rb w.heap.size g R.length cap n o.k o.a o.l q.k q.n q.a q.l o.x q.x o.s q.s := sq.keep fun _ _ _ => rfl
  have kd : Below w.heap.size w wq.drew := kq.drew
  have zd : w.heap.size + 2 ≤ wq.drew.heap.size := zq
  (try refine wp_region_noPanic ?_)
  refine wp_region_held_drew (S := fun wx => SetX wx rb w.heap.size g R.length cap n o.k o.a o.l q.k q.n q.a q.l o.x q.x o.s q.s) (by kernel_rfl) SQ' (fun _ => ?_)
  generalize wq.drew = wd at SQ' kd zd ⊢
  have SQ := Lib.hid SQ'
  have KD := Lib.hid kd
  have ZD := Lib.hid zd
  clear sq kq zq SQ' kd zd
  refine wpAnyH_take (i := 0) (v := ptr rb) rfl (by kernel_rfl) (by kernel_rfl) (by kernel_rfl) (fun _ _ _ h => h) (Or.inl ⟨by rfl, fun wx hS => ?_⟩) SQ.out ?_
  · have hh : wx.cell? ⟨rb, 0, none⟩ = some (.slice (some ⟨g, 0, none⟩) R.length cap) := cellAt hS.hd 0
    have hq : wx.cell? ⟨w.heap.size, 2, none⟩ = some (.int .i64 n) := cellAt hS.o 2
    go_simp
  try simp only [Act.put, List.getElem_toArray, List.getElem_cons_succ, List.getElem_cons_zero, List.setIfInBounds_toArray, List.set_cons_zero, List.set_cons_succ]
  refine wpAnyH_take (i := 1) (v := ptr rb) rfl (by kernel_rfl) (by kernel_rfl) (by kernel_rfl) (fun _ _ _ h => h) (Or.inl ⟨by rfl, fun wx hS => ?_⟩) SQ.out ?_
  · have hh : wx.cell? ⟨rb, 0, none⟩ = some (.slice (some ⟨g, 0, none⟩) R.length cap) := cellAt hS.hd 0
    have hq : wx.cell? ⟨w.heap.size, 2, none⟩ = some (.int .i64 n) := cellAt hS.o 2
    go_simp
  try simp only [Act.put, List.getElem_toArray, List.getElem_cons_succ, List.getElem_cons_zero, List.setIfInBounds_toArray, List.set_cons_zero, List.set_cons_succ]
  refine wpAnyH_take (i := 2) (v := .pointer (some ⟨rb, 0, none⟩)) rfl (by kernel_rfl) (by kernel_rfl) (by kernel_rfl) (fun _ _ _ h => h) (Or.inl ⟨by rfl, fun wx hS => ?_⟩) SQ.out ?_
  · have hh : wx.cell? ⟨rb, 0, none⟩ = some (.slice (some ⟨g, 0, none⟩) R.length cap) := cellAt hS.hd 0
    have hq : wx.cell? ⟨w.heap.size, 2, none⟩ = some (.int .i64 n) := cellAt hS.o 2
    go_simp
  try simp only [Act.put, List.getElem_toArray, List.getElem_cons_succ, List.getElem_cons_zero, List.setIfInBounds_toArray, List.set_cons_zero, List.set_cons_succ]
  refine wpAnyH_take (i := 3) (v := .slice (some ⟨g, 0, none⟩) R.length cap) rfl (by kernel_rfl) (by kernel_rfl) (by kernel_rfl) (fun _ _ _ h => h) (Or.inl ⟨by rfl, fun wx hS => ?_⟩) SQ.out ?_
  · have hh : wx.cell? ⟨rb, 0, none⟩ = some (.slice (some ⟨g, 0, none⟩) R.length cap) := cellAt hS.hd 0
    have hq : wx.cell? ⟨w.heap.size, 2, none⟩ = some (.int .i64 n) := cellAt hS.o 2
    go_simp
  try simp only [Act.put, List.getElem_toArray, List.getElem_cons_succ, List.getElem_cons_zero, List.setIfInBounds_toArray, List.set_cons_zero, List.set_cons_succ]
  refine wpAnyH_take (i := 4) (v := .pointer (some ⟨w.heap.size, 2, none⟩)) rfl (by kernel_rfl) (by kernel_rfl) (by kernel_rfl) (fun _ _ _ h => h) (Or.inl ⟨by rfl, fun wx hS => ?_⟩) SQ.out ?_
  · have hh : wx.cell? ⟨rb, 0, none⟩ = some (.slice (some ⟨g, 0, none⟩) R.length cap) := cellAt hS.hd 0
    have hq : wx.cell? ⟨w.heap.size, 2, none⟩ = some (.int .i64 n) := cellAt hS.o 2
    go_simp
  try simp only [Act.put, List.getElem_toArray, List.getElem_cons_succ, List.getElem_cons_zero, List.setIfInBounds_toArray, List.set_cons_zero, List.set_cons_succ]
  refine wpAnyH_take (i := 5) (v := .int .i64 n) rfl (by kernel_rfl) (by kernel_rfl) (by kernel_rfl) (fun _ _ _ h => h) (Or.inl ⟨by rfl, fun wx hS => ?_⟩) SQ.out ?_
  · have hh : wx.cell? ⟨rb, 0, none⟩ = some (.slice (some ⟨g, 0, none⟩) R.length cap) := cellAt hS.hd 0
    have hq : wx.cell? ⟨w.heap.size, 2, none⟩ = some (.int .i64 n) := cellAt hS.o 2
    go_simp
  try simp only [Act.put, List.getElem_toArray, List.getElem_cons_succ, List.getElem_cons_zero, List.setIfInBounds_toArray, List.set_cons_zero, List.set_cons_succ]
  refine wpAnyH_take (i := 6) (v := ptr rb) rfl (by kernel_rfl) (by kernel_rfl) (by kernel_rfl) (fun _ _ _ h => h) (Or.inl ⟨by rfl, fun wx hS => ?_⟩) SQ.out ?_
  · have hh : wx.cell? ⟨rb, 0, none⟩ = some (.slice (some ⟨g, 0, none⟩) R.length cap) := cellAt hS.hd 0
    have hq : wx.cell? ⟨w.heap.size, 2, none⟩ = some (.int .i64 n) := cellAt hS.o 2
    go_simp
  try simp only [Act.put, List.getElem_toArray, List.getElem_cons_succ, List.getElem_cons_zero, List.setIfInBounds_toArray, List.set_cons_zero, List.set_cons_succ]
  refine wpAnyH_take (i := 7) (v := ptr rb) rfl (by kernel_rfl) (by kernel_rfl) (by kernel_rfl) (fun _ _ _ h => h) (Or.inl ⟨by rfl, fun wx hS => ?_⟩) SQ.out ?_
  · have hh : wx.cell? ⟨rb, 0, none⟩ = some (.slice (some ⟨g, 0, none⟩) R.length cap) := cellAt hS.hd 0
    have hq : wx.cell? ⟨w.heap.size, 2, none⟩ = some (.int .i64 n) := cellAt hS.o 2
    go_simp
  try simp only [Act.put, List.getElem_toArray, List.getElem_cons_succ, List.getElem_cons_zero, List.setIfInBounds_toArray, List.set_cons_zero, List.set_cons_succ]
  refine wpAnyH_take (i := 8) (v := .pointer (some ⟨rb, 0, none⟩)) rfl (by kernel_rfl) (by kernel_rfl) (by kernel_rfl) (fun _ _ _ h => h) (Or.inl ⟨by rfl, fun wx hS => ?_⟩) SQ.out ?_
  · have hh : wx.cell? ⟨rb, 0, none⟩ = some (.slice (some ⟨g, 0, none⟩) R.length cap) := cellAt hS.hd 0
    have hq : wx.cell? ⟨w.heap.size, 2, none⟩ = some (.int .i64 n) := cellAt hS.o 2
    go_simp
  try simp only [Act.put, List.getElem_toArray, List.getElem_cons_succ, List.getElem_cons_zero, List.setIfInBounds_toArray, List.set_cons_zero, List.set_cons_succ]
  refine wpAnyH_take (i := 9) (v := .slice (some ⟨g, 0, none⟩) R.length cap) rfl (by kernel_rfl) (by kernel_rfl) (by kernel_rfl) (fun _ _ _ h => h) (Or.inl ⟨by rfl, fun wx hS => ?_⟩) SQ.out ?_
  · have hh : wx.cell? ⟨rb, 0, none⟩ = some (.slice (some ⟨g, 0, none⟩) R.length cap) := cellAt hS.hd 0
    have hq : wx.cell? ⟨w.heap.size, 2, none⟩ = some (.int .i64 n) := cellAt hS.o 2
    go_simp
  try simp only [Act.put, List.getElem_toArray, List.getElem_cons_succ, List.getElem_cons_zero, List.setIfInBounds_toArray, List.set_cons_zero, List.set_cons_succ]
  refine wpAnyH_take (i := 10) (v := .pointer (some ⟨w.heap.size, 2, none⟩)) rfl (by kernel_rfl) (by kernel_rfl) (by kernel_rfl) (fun _ _ _ h => h) (Or.inl ⟨by rfl, fun wx hS => ?_⟩) SQ.out ?_
  · have hh : wx.cell? ⟨rb, 0, none⟩ = some (.slice (some ⟨g, 0, none⟩) R.length cap) := cellAt hS.hd 0
    have hq : wx.cell? ⟨w.heap.size, 2, none⟩ = some (.int .i64 n) := cellAt hS.o 2
    go_simp
  try simp only [Act.put, List.getElem_toArray, List.getElem_cons_succ, List.getElem_cons_zero, List.setIfInBounds_toArray, List.set_cons_zero, List.set_cons_succ]
  refine wpAnyH_take (i := 11) (v := .int .i64 n) rfl (by kernel_rfl) (by kernel_rfl) (by kernel_rfl) (fun _ _ _ h => h) (Or.inl ⟨by rfl, fun wx hS => ?_⟩) SQ.out ?_
  · have hh : wx.cell? ⟨rb, 0, none⟩ = some (.slice (some ⟨g, 0, none⟩) R.length cap) := cellAt hS.hd 0
    have hq : wx.cell? ⟨w.heap.size, 2, none⟩ = some (.int .i64 n) := cellAt hS.o 2
    go_simp
  try simp only [Act.put, List.getElem_toArray, List.getElem_cons_succ, List.getElem_cons_zero, List.setIfInBounds_toArray, List.set_cons_zero, List.set_cons_succ]
  refine wpAnyH_take (i := 12) (v := .pointer (some ⟨g, n * 4, none⟩)) rfl (by kernel_rfl) (by kernel_rfl) (by kernel_rfl) (fun _ _ _ h => h) (Or.inl ⟨by rfl, fun wx hS => ?_⟩) SQ.out ?_
  · have hh : wx.cell? ⟨rb, 0, none⟩ = some (.slice (some ⟨g, 0, none⟩) R.length cap) := cellAt hS.hd 0
    have hq : wx.cell? ⟨w.heap.size, 2, none⟩ = some (.int .i64 n) := cellAt hS.o 2
    go_simp
  try simp only [Act.put, List.getElem_toArray, List.getElem_cons_succ, List.getElem_cons_zero, List.setIfInBounds_toArray, List.set_cons_zero, List.set_cons_succ]
  refine wpAnyH_take (i := 13) (v := .pointer (some ⟨g, n * 4 + 1, none⟩)) rfl (by kernel_rfl) (by kernel_rfl) (by kernel_rfl) (fun _ _ _ h => h) (Or.inl ⟨by rfl, fun wx hS => ?_⟩) SQ.out ?_
  · have hh : wx.cell? ⟨rb, 0, none⟩ = some (.slice (some ⟨g, 0, none⟩) R.length cap) := cellAt hS.hd 0
    have hq : wx.cell? ⟨w.heap.size, 2, none⟩ = some (.int .i64 n) := cellAt hS.o 2
    go_simp
  try simp only [Act.put, List.getElem_toArray, List.getElem_cons_succ, List.getElem_cons_zero, List.setIfInBounds_toArray, List.set_cons_zero, List.set_cons_succ]
  have d1 := cell_later KD.out D1.out
  refine wpAnyH_ready (rs := [14]) (by kernel_rfl) (by simp) ?_
  refine AllReadyH.cons rfl (fun K hK => ?_) AllReadyH.nil
  go_simp
  refine hK.out _ _ SQ.out (fun _ => ?_)
  clear hK
  try simp only [Act.put, List.getElem_toArray, List.getElem_cons_succ, List.getElem_cons_zero, List.setIfInBounds_toArray, List.set_cons_zero, List.set_cons_succ]
  refine wpAnyH_ready (rs := [15]) (by kernel_rfl) (by simp) ?_
  refine AllReadyH.cons rfl (fun K hK => ?_) AllReadyH.nil
  refine step_append_ex rfl _ _ 46 rfl (.slice none 0 0) (.slice p1 r.c.it.length c1) rfl rfl _ (items_copy (by have := ((H.out.below KD.out).sub _ r HR.out).1; rw [E2.out] at this; exact this) HZ.out _) ?_
  rintro v1 w1 hcp
  obtain ⟨g2, cp2, rfl, hg2, hg2'⟩ := hcp.own.form (by have := HX.out; omega)
  have CP := Lib.hid hcp
  have HG2 := Lib.hid (And.intro hg2 hg2')
  clear hcp hg2 hg2' d1
  have S1 := Lib.hid (SQ.out.keep fun b _ hb => CP.out.below.block b hb)
  refine hK.out _ _ S1.out (fun _ => ?_)
  clear hK
  try simp only [Act.put, List.getElem_toArray, List.getElem_cons_succ, List.getElem_cons_zero, List.setIfInBounds_toArray, List.set_cons_zero, List.set_cons_succ]
  refine wpAnyH_take (i := 16) (v := .pointer (some ⟨g, n * 4, none⟩)) rfl (by kernel_rfl) (by kernel_rfl) (by kernel_rfl) (fun _ _ _ h => h) (Or.inl ⟨by rfl, fun wx hS => ?_⟩) S1.out ?_
  · have hh : wx.cell? ⟨rb, 0, none⟩ = some (.slice (some ⟨g, 0, none⟩) R.length cap) := cellAt hS.hd 0
    have hq : wx.cell? ⟨w.heap.size, 2, none⟩ = some (.int .i64 n) := cellAt hS.o 2
    go_simp
  try simp only [Act.put, List.getElem_toArray, List.getElem_cons_succ, List.getElem_cons_zero, List.setIfInBounds_toArray, List.set_cons_zero, List.set_cons_succ]
  refine wpAnyH_take (i := 17) (v := .pointer (some ⟨g, n * 4 + 1, none⟩)) rfl (by kernel_rfl) (by kernel_rfl) (by kernel_rfl) (fun _ _ _ h => h) (Or.inl ⟨by rfl, fun wx hS => ?_⟩) S1.out ?_
  · have hh : wx.cell? ⟨rb, 0, none⟩ = some (.slice (some ⟨g, 0, none⟩) R.length cap) := cellAt hS.hd 0
    have hq : wx.cell? ⟨w.heap.size, 2, none⟩ = some (.int .i64 n) := cellAt hS.o 2
    go_simp
  try simp only [Act.put, List.getElem_toArray, List.getElem_cons_succ, List.getElem_cons_zero, List.setIfInBounds_toArray, List.set_cons_zero, List.set_cons_succ]
  have K1 : Hid (Below w.heap.size w w1) := Lib.hid (below_and KD.out CP.out.below)
  have c2 := cell_later K1.out D1.out
  have f2 : w1.frozen? ⟨g, n * 4 + 1, none⟩ = false := by rw [World.frozen?_of_block (w := w) (a := ⟨g, n * 4 + 1, none⟩) (K1.out.block _ HG.out.2)]; exact HF.out _
  refine wpAnyH_ready (rs := [18]) (by kernel_rfl) (by simp) ?_
  refine AllReadyH.cons rfl (fun K hK => ?_) AllReadyH.nil
  go_simp
  have onG : Only g w1 (w1.setCell ⟨g, n * 4 + 1, none⟩ (.slice (some ⟨g2, 0, none⟩) r.c.it.length cp2)) := (Only.refl _ _).set _ _
  have cG : (w1.setCell ⟨g, n * 4 + 1, none⟩ (.slice (some ⟨g2, 0, none⟩) r.c.it.length cp2)).cell? ⟨g, n * 4 + 1, none⟩ = some (.slice (some ⟨g2, 0, none⟩) r.c.it.length cp2) := World.cell?_setCell_same _ _ _ c2
  have cO : ∀ j, j ≠ n * 4 + 1 → (w1.setCell ⟨g, n * 4 + 1, none⟩ (.slice (some ⟨g2, 0, none⟩) r.c.it.length cp2)).cell? ⟨g, j, none⟩ = w1.cell? ⟨g, j, none⟩ := fun j hj => World.cell?_setCell_other _ _ _ _ (by simp <;> omega)
  have fO : ∀ j, (w1.setCell ⟨g, n * 4 + 1, none⟩ (.slice (some ⟨g2, 0, none⟩) r.c.it.length cp2)).frozen? ⟨g, j, none⟩ = w1.frozen? ⟨g, j, none⟩ := fun j => by simp
  generalize w1.setCell ⟨g, n * 4 + 1, none⟩ (.slice (some ⟨g2, 0, none⟩) r.c.it.length cp2) = w2 at onG cG cO fO ⊢
  have S2 := Lib.hid (S1.out.keep (w' := w2) fun b hb _ => onG.block b (by have := HG.out; rcases hb with q | q | q <;> omega))
  refine hK.out _ _ S2.out (fun _ => ?_)
  clear hK
  refine wpAnyH_done (by kernel_rfl) ?_ _
  (try refine no_panic ?_)
  have ON := Lib.hid onG
  have CG := Lib.hid cG
  have CO := Lib.hid cO
  have FO := Lib.hid fO
  clear onG cG cO fO c2 f2
  go_upto_region 19 with fail
  have hh : w2.cell? ⟨rb, 0, none⟩ = some (.slice (some ⟨g, 0, none⟩) R.length cap) := cellAt S2.out.hd 0
  have hq : w2.cell? ⟨w.heap.size, 2, none⟩ = some (.int .i64 n) := cellAt S2.out.o 2
  obtain ⟨q0, q1, q2, q3, q4, q5⟩ := ob_cells S2.out.q
  have hv := CG.out
  obtain ⟨j, hj⟩ : ∃ j, lo + i = j := ⟨_, rfl⟩
  have e5 : IntKind.i64.wrap ((lo : Int) + (i : Int)) = j := by rw [IntWalk.i64_in _ (by have := HX.out; have := HZ.out; omega)]; omega
  have HJ : Hid (j < r.c.it.length) := Lib.hid (by have := HX.out; omega)
  have j0 : (0 : Int) ≤ j := by omega
  have j1 : (j : Int) < r.c.it.length := by have := HJ.out; omega
  go_still_tail 14, (by kernel_rfl)
  have hne : g2 ≠ g := by have := HG.out; have := HG2.out; have := ZD.out; omega
  have rg := owns_at CP.out.own (w' := w2.drew) fun b e => ON.out.block b (by have := own_eq e; omega)
  have ht : w2.drew.there g2 (j * 6) 6 := fun t h6 => ⟨by
    obtain ⟨u, hu⟩ : ∃ u, (obCells r.c.it)[j * 6 + t]? = some u := ⟨_, List.getElem?_eq_getElem (by rw [obCells_length]; have := HJ.out; omega)⟩
    have := rg.cells rfl (j * 6 + t) u hu
    rw [Addr.add_mid, Nat.zero_add] at this
    rw [this]
    rfl, rg.frozenAt _⟩
  refine wpList_store_mid rfl 30 _ _ rfl g2 (j * 6) #[.int .i64 q.k, .bool q.x, .int .i64 q.n, .int .i64 q.a, .int .i64 q.l, .string q.s] rfl rfl ht (by kernel_rfl) (all_oneCell_toArray (ob_one q)) ?_
  obtain ⟨w3, ew3⟩ : ∃ w3, w2.drew = w3 := ⟨_, rfl⟩
  obtain ⟨w4, ew4⟩ : ∃ w4, w3.setCells g2 (j * 6) q.cells = w4 := ⟨_, rfl⟩
  have EW3 := Lib.hid ew3
  have EW4 := Lib.hid ew4
  change wpList _ _ _ _ _ (w2.drew.setCells g2 (j * 6) q.cells)
  rw [ew3, ew4]
  clear ew3 ew4 rg ht hh hq q0 q1 q2 q3 q4 q5 hv
  go_wp2
  go_ret
  have K1' : Below w.heap.size w w1 := below_and KD.out CP.out.below
  have hgd : w.heap.size ≤ g2 := by have := HG2.out; have := ZD.out; omega
  have on4 : Only g2 w3 w4 := by
    have := (owns_put q.cells (j * 6) w3 _ (owns_at CP.out.own (w' := w3) fun b e => by
      have := own_eq e
      rw [← EW3.out]
      exact ON.out.block b (by omega))).2
    rwa [EW4.out] at this
  refine ⟨rfl, ⟨_, RH.item H.out HO.out HR.out HG.out.1 HJ.out HB.out K1' hgd (CP.out.own.mono (by have := ZD.out; omega)) ON.out CG.out CO.out FO.out EW3.out EW4.out, ?_⟩, ?_⟩
  · rw [HSP.out, hj, cels_set]
  · refine ((kept_of K1' fun b q => q.1).trans (kept_only ON.out fun q => q.2.2 rfl)).trans (Kept.trans (w1 := w3) (by rw [← EW3.out]; exact ⟨rfl, rfl, rfl, Nat.le_refl _, fun _ _ => rfl⟩) (kept_only on4 fun q => by have := q.1; omega))
end
end Go.Proofs.Ytlkbnldpecolbaa

/- Walks of tympanref11: Set of a byte, whatever else the Int holds. -/
namespace Go.Proofs.Ytlkbnldpecolbaa
open Go.RowKit
set_option linter.unusedVariables false
set_option linter.unusedSimpArgs false
set_option maxHeartbeats 1000000
set_option maxRecDepth 100000

section
variable {own : Nat → Prop} {rb : Nat} {v : Value} {R : List RC} {w : World}

theorem rset_byteX (h : RH own rb v R w) (ho : ∀ b, own b → b < w.heap.size) (o : Ob) (i : Nat) (c a' l' : Int) (x' : Bool) (s' : ByteArray) (hok : okO (cels R) o = true) (hk : o.k = 8) (hi : (i : Int) < lenO (cels R) o) (hlk : (cellOf (cels R) o).lk = false) (c0 : 0 ≤ c) (c1 : c ≤ 255) :
    Calls Try.prog 69 #[ptr rb, o.val, .int .i64 i, obV 3 x' c a' l' s'] w fun e w' => e = .returned (.int .i64 0) ∧ (∃ R', RH (Plus own w w') rb v R' w' ∧ cels R' = setP (cels R) o i ⟨3, x', c, a', l', s'⟩) ∧ Kept (fun b => b < w.heap.size ∧ b ≠ rb ∧ v.ownBlock ≠ some b) w w' := by
  obtain ⟨b0, b1, b2, b3, b4, b5, b6, b7, b8⟩ := ok_bd hok
  obtain ⟨n0, n1⟩ := len_in hok
  rw [cels_length] at b1
  obtain ⟨r, hr⟩ : ∃ r, R[o.n.toNat]? = some r := ⟨_, List.getElem?_eq_getElem (by omega)⟩
  have hco := h.cellOf (o := o) hr
  rw [hco] at b6 b7 n1 hlk
  rw [hk] at b6
  have hit : r.c.it = [] := by
    rcases h.wf.kind r.c (cell_mem (cels_get hr)) with ⟨_, q⟩ | ⟨q, _⟩
    · exact q
    · omega
  have hs : r.c.size = r.c.bs.length := by simp [Cel.size, hit]
  have hz := h.wf.size (cels_get hr)
  obtain ⟨g, cap, ev, hgo, hgr, hgl, d0, d1, d2, d3⟩ := h.at hr
  rw [hlk] at d3
  have hd := h.hdr
  rw [ev] at hd
  have hfree := h.free g (by rw [ev]; rfl)
  obtain ⟨n, hn⟩ : ∃ n, o.n.toNat = n := ⟨_, rfl⟩
  obtain ⟨lo, hlo⟩ : ∃ lo, o.a.toNat = lo := ⟨_, rfl⟩
  obtain ⟨m, hm⟩ : ∃ m, (lenO (cels R) o).toNat = m := ⟨_, rfl⟩
  have en : o.n = (n : Int) := by omega
  have hroom : Hid (∀ wx, Below w.heap.size w wx → Calls Try.prog 94 #[ptr rb, obV 8 o.x n o.a o.l o.s] wx fun e w' => e = .returned (.tuple #[.int .i64 lo, .int .i64 m, .int .i64 0]) ∧ Below wx.heap.size wx w') := Lib.hid fun wx kx => by
    have := rroom_any (h.below kx) o
    rw [errO_ok hok, show atO (cels R) o = (lo : Int) from by simp [atO, hok]; omega, show lenO (cels R) o = (m : Int) from by omega] at this
    rw [show o.val = obV 8 o.x n o.a o.l o.s from by rw [← hk, ← en]; rfl] at this
    exact this
  have hsp : setP (cels R) o i ⟨3, x', c, a', l', s'⟩ = (cels R).set o.n.toNat ⟨r.c.k, r.c.lk, r.c.it, r.c.bs.set (lo + i) (UInt8.ofNat c.toNat)⟩ := by
    have e : setE (cels R) o i ⟨3, x', c, a', l', s'⟩ = 0 := by
      rw [setE, hok, hco, hlk]
      simp [hk, hi]
      try omega
    rw [setP, if_pos e, putItem, hco, if_pos b6, show (o.a + (i : Int)).toNat = lo + i from by omega]
  rw [hn] at hr d0 d1 d2 d3 hsp
  have HSP := Lib.hid hsp
  clear hsp
  have hnz : n < R.length := by omega
  have hidx : lo + i < r.c.bs.length := by omega
  have him : (i : Int) < m := by omega
  obtain ⟨p2, c2, e2, _⟩ := (h.sub _ r hr).2.form
  rw [e2] at d2
  rw [show o.val = obV 8 o.x n o.a o.l o.s from by rw [← hk, ← en]; rfl]
  have H := Lib.hid h
  have HO := Lib.hid ho
  have HR := Lib.hid hr
  have HX := Lib.hid hidx
  have HC := Lib.hid (And.intro c0 c1)
  have D2 := Lib.hid d2
  have D3 := Lib.hid d3
  have HD := Lib.hid hd
  have HF := Lib.hid hfree
  have HG := Lib.hid (And.intro hgr hgl)
  have HZ : Hid (r.c.bs.length ≤ 40000) := Lib.hid (by omega)
  have t0 : (0 : Int) ≤ n := by omega
  have t1 : (n : Int) < R.length := by omega
  have t2 : ¬ ((i : Int) < 0) := by omega
  have t3 : ¬ ((i : Int) ≥ m) := by omega
  have t4 : ¬ (c < 0) := by omega
  have t5 : ¬ (c > 255) := by omega
  clear h ho hok hi hlk b0 b1 b2 b3 b4 b5 b6 b7 b8 n0 n1 hco hit hs hz d0 d1 d2 d3 hd hfree hgo hgr hgl hnz hidx him hr
  go_enter Try.func69, Try.ntmps69
  go_upto_region 1 with fail
  obtain ⟨wb, eb, kb, zb, sx⟩ := set_box2 w rb g R.length cap n 8 o.a o.l 3 c a' l' o.x x' o.s s' HD.out
  rw [eb]
  have SX := Lib.hid sx
  have KB := Lib.hid kb
  have ZB := Lib.hid zb
  obtain ⟨c0', c1', c2', c3', c4', c5'⟩ := ob_cells sx.o
  clear eb kb zb sx
  go_wp2_with fail
  refine (hroom.out _ KB.out).mono ?_
  rintro e wc ⟨rfl, kc⟩
  have SC := Lib.hid (SX.out.keep fun b _ hb => kc.block b hb)
  have KC := Lib.hid (below_and KB.out kc)
  have ZC : Hid (w.heap.size + 2 ≤ wc.heap.size) := Lib.hid (by have := kc.size; have := ZB.out; omega)
  clear kc c0' c1' c2' c3' c4' c5' SX KB ZB
  have h0 : wc.cell? ⟨rb, 0, none⟩ = some (.slice (some ⟨g, 0, none⟩) R.length cap) := cellAt SC.out.hd 0
  have d3 := cell_later KC.out D3.out
  obtain ⟨c0', c1', c2', c3', c4', c5'⟩ := ob_cells SC.out.o
  obtain ⟨q0, q1, q2, q3, q4, q5⟩ := ob_cells SC.out.q
  go_upto_region 6 with fail
  go_quiet (fail)
  go_upto_region 13 with fail
  have sq : SetX (wc.drewN nq) rb w.heap.size g R.length cap n 8 o.a o.l 3 c a' l' o.x x' o.s s' := SC.out.keep fun _ _ _ => rfl
  have kq : Below w.heap.size w (wc.drewN nq) := below_and KC.out (below_drewN _ _)
  have zq : w.heap.size + 2 ≤ (wc.drewN nq).heap.size := ZC.out
  generalize wc.drewN nq = wq at sq kq zq ⊢
  clear h0 d3 c0' c1' c2' c3' c4' c5' q0 q1 q2 q3 q4 q5
  have SQ' : SetX wq.drew rb w.heap.size g R.length cap n 8 o.a o.l 3 c a' l' o.x x' o.s s' := sq.keep fun _ _ _ => rfl
  have kd : Below w.heap.size w wq.drew := kq.drew
  have zd : w.heap.size + 2 ≤ wq.drew.heap.size := zq
  (try refine wp_region_noPanic ?_)
  refine wp_region_held_drew (S := fun wx => SetX wx rb w.heap.size g R.length cap n 8 o.a o.l 3 c a' l' o.x x' o.s s') (by kernel_rfl) SQ' (fun _ => ?_)
  generalize wq.drew = wd at SQ' kd zd ⊢
  have SQ := Lib.hid SQ'
  have KD := Lib.hid kd
  have ZD := Lib.hid zd
  clear sq kq zq SQ' kd zd
  refine wpAnyH_take (i := 0) (v := ptr rb) rfl (by kernel_rfl) (by kernel_rfl) (by kernel_rfl) (fun _ _ _ h => h) (Or.inl ⟨by rfl, fun wx hS => ?_⟩) SQ.out ?_
  · have hh : wx.cell? ⟨rb, 0, none⟩ = some (.slice (some ⟨g, 0, none⟩) R.length cap) := cellAt hS.hd 0
    have hq : wx.cell? ⟨w.heap.size, 2, none⟩ = some (.int .i64 n) := cellAt hS.o 2
    go_simp
  try simp only [Act.put, List.getElem_toArray, List.getElem_cons_succ, List.getElem_cons_zero, List.setIfInBounds_toArray, List.set_cons_zero, List.set_cons_succ]
  refine wpAnyH_take (i := 1) (v := ptr rb) rfl (by kernel_rfl) (by kernel_rfl) (by kernel_rfl) (fun _ _ _ h => h) (Or.inl ⟨by rfl, fun wx hS => ?_⟩) SQ.out ?_
  · have hh : wx.cell? ⟨rb, 0, none⟩ = some (.slice (some ⟨g, 0, none⟩) R.length cap) := cellAt hS.hd 0
    have hq : wx.cell? ⟨w.heap.size, 2, none⟩ = some (.int .i64 n) := cellAt hS.o 2
    go_simp
  try simp only [Act.put, List.getElem_toArray, List.getElem_cons_succ, List.getElem_cons_zero, List.setIfInBounds_toArray, List.set_cons_zero, List.set_cons_succ]
  refine wpAnyH_take (i := 2) (v := .pointer (some ⟨rb, 0, none⟩)) rfl (by kernel_rfl) (by kernel_rfl) (by kernel_rfl) (fun _ _ _ h => h) (Or.inl ⟨by rfl, fun wx hS => ?_⟩) SQ.out ?_
  · have hh : wx.cell? ⟨rb, 0, none⟩ = some (.slice (some ⟨g, 0, none⟩) R.length cap) := cellAt hS.hd 0
    have hq : wx.cell? ⟨w.heap.size, 2, none⟩ = some (.int .i64 n) := cellAt hS.o 2
    go_simp
  try simp only [Act.put, List.getElem_toArray, List.getElem_cons_succ, List.getElem_cons_zero, List.setIfInBounds_toArray, List.set_cons_zero, List.set_cons_succ]
  refine wpAnyH_take (i := 3) (v := .slice (some ⟨g, 0, none⟩) R.length cap) rfl (by kernel_rfl) (by kernel_rfl) (by kernel_rfl) (fun _ _ _ h => h) (Or.inl ⟨by rfl, fun wx hS => ?_⟩) SQ.out ?_
  · have hh : wx.cell? ⟨rb, 0, none⟩ = some (.slice (some ⟨g, 0, none⟩) R.length cap) := cellAt hS.hd 0
    have hq : wx.cell? ⟨w.heap.size, 2, none⟩ = some (.int .i64 n) := cellAt hS.o 2
    go_simp
  try simp only [Act.put, List.getElem_toArray, List.getElem_cons_succ, List.getElem_cons_zero, List.setIfInBounds_toArray, List.set_cons_zero, List.set_cons_succ]
  refine wpAnyH_take (i := 4) (v := .pointer (some ⟨w.heap.size, 2, none⟩)) rfl (by kernel_rfl) (by kernel_rfl) (by kernel_rfl) (fun _ _ _ h => h) (Or.inl ⟨by rfl, fun wx hS => ?_⟩) SQ.out ?_
  · have hh : wx.cell? ⟨rb, 0, none⟩ = some (.slice (some ⟨g, 0, none⟩) R.length cap) := cellAt hS.hd 0
    have hq : wx.cell? ⟨w.heap.size, 2, none⟩ = some (.int .i64 n) := cellAt hS.o 2
    go_simp
  try simp only [Act.put, List.getElem_toArray, List.getElem_cons_succ, List.getElem_cons_zero, List.setIfInBounds_toArray, List.set_cons_zero, List.set_cons_succ]
  refine wpAnyH_take (i := 5) (v := .int .i64 n) rfl (by kernel_rfl) (by kernel_rfl) (by kernel_rfl) (fun _ _ _ h => h) (Or.inl ⟨by rfl, fun wx hS => ?_⟩) SQ.out ?_
  · have hh : wx.cell? ⟨rb, 0, none⟩ = some (.slice (some ⟨g, 0, none⟩) R.length cap) := cellAt hS.hd 0
    have hq : wx.cell? ⟨w.heap.size, 2, none⟩ = some (.int .i64 n) := cellAt hS.o 2
    go_simp
  try simp only [Act.put, List.getElem_toArray, List.getElem_cons_succ, List.getElem_cons_zero, List.setIfInBounds_toArray, List.set_cons_zero, List.set_cons_succ]
  refine wpAnyH_take (i := 6) (v := ptr rb) rfl (by kernel_rfl) (by kernel_rfl) (by kernel_rfl) (fun _ _ _ h => h) (Or.inl ⟨by rfl, fun wx hS => ?_⟩) SQ.out ?_
  · have hh : wx.cell? ⟨rb, 0, none⟩ = some (.slice (some ⟨g, 0, none⟩) R.length cap) := cellAt hS.hd 0
    have hq : wx.cell? ⟨w.heap.size, 2, none⟩ = some (.int .i64 n) := cellAt hS.o 2
    go_simp
  try simp only [Act.put, List.getElem_toArray, List.getElem_cons_succ, List.getElem_cons_zero, List.setIfInBounds_toArray, List.set_cons_zero, List.set_cons_succ]
  refine wpAnyH_take (i := 7) (v := ptr rb) rfl (by kernel_rfl) (by kernel_rfl) (by kernel_rfl) (fun _ _ _ h => h) (Or.inl ⟨by rfl, fun wx hS => ?_⟩) SQ.out ?_
  · have hh : wx.cell? ⟨rb, 0, none⟩ = some (.slice (some ⟨g, 0, none⟩) R.length cap) := cellAt hS.hd 0
    have hq : wx.cell? ⟨w.heap.size, 2, none⟩ = some (.int .i64 n) := cellAt hS.o 2
    go_simp
  try simp only [Act.put, List.getElem_toArray, List.getElem_cons_succ, List.getElem_cons_zero, List.setIfInBounds_toArray, List.set_cons_zero, List.set_cons_succ]
  refine wpAnyH_take (i := 8) (v := .pointer (some ⟨rb, 0, none⟩)) rfl (by kernel_rfl) (by kernel_rfl) (by kernel_rfl) (fun _ _ _ h => h) (Or.inl ⟨by rfl, fun wx hS => ?_⟩) SQ.out ?_
  · have hh : wx.cell? ⟨rb, 0, none⟩ = some (.slice (some ⟨g, 0, none⟩) R.length cap) := cellAt hS.hd 0
    have hq : wx.cell? ⟨w.heap.size, 2, none⟩ = some (.int .i64 n) := cellAt hS.o 2
    go_simp
  try simp only [Act.put, List.getElem_toArray, List.getElem_cons_succ, List.getElem_cons_zero, List.setIfInBounds_toArray, List.set_cons_zero, List.set_cons_succ]
  refine wpAnyH_take (i := 9) (v := .slice (some ⟨g, 0, none⟩) R.length cap) rfl (by kernel_rfl) (by kernel_rfl) (by kernel_rfl) (fun _ _ _ h => h) (Or.inl ⟨by rfl, fun wx hS => ?_⟩) SQ.out ?_
  · have hh : wx.cell? ⟨rb, 0, none⟩ = some (.slice (some ⟨g, 0, none⟩) R.length cap) := cellAt hS.hd 0
    have hq : wx.cell? ⟨w.heap.size, 2, none⟩ = some (.int .i64 n) := cellAt hS.o 2
    go_simp
  try simp only [Act.put, List.getElem_toArray, List.getElem_cons_succ, List.getElem_cons_zero, List.setIfInBounds_toArray, List.set_cons_zero, List.set_cons_succ]
  refine wpAnyH_take (i := 10) (v := .pointer (some ⟨w.heap.size, 2, none⟩)) rfl (by kernel_rfl) (by kernel_rfl) (by kernel_rfl) (fun _ _ _ h => h) (Or.inl ⟨by rfl, fun wx hS => ?_⟩) SQ.out ?_
  · have hh : wx.cell? ⟨rb, 0, none⟩ = some (.slice (some ⟨g, 0, none⟩) R.length cap) := cellAt hS.hd 0
    have hq : wx.cell? ⟨w.heap.size, 2, none⟩ = some (.int .i64 n) := cellAt hS.o 2
    go_simp
  try simp only [Act.put, List.getElem_toArray, List.getElem_cons_succ, List.getElem_cons_zero, List.setIfInBounds_toArray, List.set_cons_zero, List.set_cons_succ]
  refine wpAnyH_take (i := 11) (v := .int .i64 n) rfl (by kernel_rfl) (by kernel_rfl) (by kernel_rfl) (fun _ _ _ h => h) (Or.inl ⟨by rfl, fun wx hS => ?_⟩) SQ.out ?_
  · have hh : wx.cell? ⟨rb, 0, none⟩ = some (.slice (some ⟨g, 0, none⟩) R.length cap) := cellAt hS.hd 0
    have hq : wx.cell? ⟨w.heap.size, 2, none⟩ = some (.int .i64 n) := cellAt hS.o 2
    go_simp
  try simp only [Act.put, List.getElem_toArray, List.getElem_cons_succ, List.getElem_cons_zero, List.setIfInBounds_toArray, List.set_cons_zero, List.set_cons_succ]
  refine wpAnyH_take (i := 12) (v := .pointer (some ⟨g, n * 4, none⟩)) rfl (by kernel_rfl) (by kernel_rfl) (by kernel_rfl) (fun _ _ _ h => h) (Or.inl ⟨by rfl, fun wx hS => ?_⟩) SQ.out ?_
  · have hh : wx.cell? ⟨rb, 0, none⟩ = some (.slice (some ⟨g, 0, none⟩) R.length cap) := cellAt hS.hd 0
    have hq : wx.cell? ⟨w.heap.size, 2, none⟩ = some (.int .i64 n) := cellAt hS.o 2
    go_simp
  try simp only [Act.put, List.getElem_toArray, List.getElem_cons_succ, List.getElem_cons_zero, List.setIfInBounds_toArray, List.set_cons_zero, List.set_cons_succ]
  refine wpAnyH_take (i := 13) (v := .pointer (some ⟨g, n * 4 + 2, none⟩)) rfl (by kernel_rfl) (by kernel_rfl) (by kernel_rfl) (fun _ _ _ h => h) (Or.inl ⟨by rfl, fun wx hS => ?_⟩) SQ.out ?_
  · have hh : wx.cell? ⟨rb, 0, none⟩ = some (.slice (some ⟨g, 0, none⟩) R.length cap) := cellAt hS.hd 0
    have hq : wx.cell? ⟨w.heap.size, 2, none⟩ = some (.int .i64 n) := cellAt hS.o 2
    go_simp
  try simp only [Act.put, List.getElem_toArray, List.getElem_cons_succ, List.getElem_cons_zero, List.setIfInBounds_toArray, List.set_cons_zero, List.set_cons_succ]
  have d2 := cell_later KD.out D2.out
  refine wpAnyH_ready (rs := [14]) (by kernel_rfl) (by simp) ?_
  refine AllReadyH.cons rfl (fun K hK => ?_) AllReadyH.nil
  go_simp
  refine hK.out _ _ SQ.out (fun _ => ?_)
  clear hK
  try simp only [Act.put, List.getElem_toArray, List.getElem_cons_succ, List.getElem_cons_zero, List.setIfInBounds_toArray, List.set_cons_zero, List.set_cons_succ]
  refine wpAnyH_ready (rs := [15]) (by kernel_rfl) (by simp) ?_
  refine AllReadyH.cons rfl (fun K hK => ?_) AllReadyH.nil
  refine step_append_ex rfl _ _ 100 rfl (.slice none 0 0) (.slice p2 r.c.bs.length c2) rfl rfl _ (bytes_copy (H.out.below KD.out) HR.out e2 HZ.out _) ?_
  rintro v1 w1 hcp
  obtain ⟨g2, cp2, rfl, hg2, hg2'⟩ := hcp.own.form (by have := HX.out; omega)
  have CP := Lib.hid hcp
  have HG2 := Lib.hid (And.intro hg2 hg2')
  clear hcp hg2 hg2' d2
  have S1 := Lib.hid (SQ.out.keep fun b _ hb => CP.out.below.block b hb)
  refine hK.out _ _ S1.out (fun _ => ?_)
  clear hK
  try simp only [Act.put, List.getElem_toArray, List.getElem_cons_succ, List.getElem_cons_zero, List.setIfInBounds_toArray, List.set_cons_zero, List.set_cons_succ]
  refine wpAnyH_take (i := 16) (v := .pointer (some ⟨g, n * 4, none⟩)) rfl (by kernel_rfl) (by kernel_rfl) (by kernel_rfl) (fun _ _ _ h => h) (Or.inl ⟨by rfl, fun wx hS => ?_⟩) S1.out ?_
  · have hh : wx.cell? ⟨rb, 0, none⟩ = some (.slice (some ⟨g, 0, none⟩) R.length cap) := cellAt hS.hd 0
    have hq : wx.cell? ⟨w.heap.size, 2, none⟩ = some (.int .i64 n) := cellAt hS.o 2
    go_simp
  try simp only [Act.put, List.getElem_toArray, List.getElem_cons_succ, List.getElem_cons_zero, List.setIfInBounds_toArray, List.set_cons_zero, List.set_cons_succ]
  refine wpAnyH_take (i := 17) (v := .pointer (some ⟨g, n * 4 + 2, none⟩)) rfl (by kernel_rfl) (by kernel_rfl) (by kernel_rfl) (fun _ _ _ h => h) (Or.inl ⟨by rfl, fun wx hS => ?_⟩) S1.out ?_
  · have hh : wx.cell? ⟨rb, 0, none⟩ = some (.slice (some ⟨g, 0, none⟩) R.length cap) := cellAt hS.hd 0
    have hq : wx.cell? ⟨w.heap.size, 2, none⟩ = some (.int .i64 n) := cellAt hS.o 2
    go_simp
  try simp only [Act.put, List.getElem_toArray, List.getElem_cons_succ, List.getElem_cons_zero, List.setIfInBounds_toArray, List.set_cons_zero, List.set_cons_succ]
  have K1 : Hid (Below w.heap.size w w1) := Lib.hid (below_and KD.out CP.out.below)
  have c2 := cell_later K1.out D2.out
  have f2 : w1.frozen? ⟨g, n * 4 + 2, none⟩ = false := by rw [World.frozen?_of_block (w := w) (a := ⟨g, n * 4 + 2, none⟩) (K1.out.block _ HG.out.2)]; exact HF.out _
  refine wpAnyH_ready (rs := [18]) (by kernel_rfl) (by simp) ?_
  refine AllReadyH.cons rfl (fun K hK => ?_) AllReadyH.nil
  go_simp
  have onG : Only g w1 (w1.setCell ⟨g, n * 4 + 2, none⟩ (.slice (some ⟨g2, 0, none⟩) r.c.bs.length cp2)) := (Only.refl _ _).set _ _
  have cG : (w1.setCell ⟨g, n * 4 + 2, none⟩ (.slice (some ⟨g2, 0, none⟩) r.c.bs.length cp2)).cell? ⟨g, n * 4 + 2, none⟩ = some (.slice (some ⟨g2, 0, none⟩) r.c.bs.length cp2) := World.cell?_setCell_same _ _ _ c2
  have cO : ∀ j, j ≠ n * 4 + 2 → (w1.setCell ⟨g, n * 4 + 2, none⟩ (.slice (some ⟨g2, 0, none⟩) r.c.bs.length cp2)).cell? ⟨g, j, none⟩ = w1.cell? ⟨g, j, none⟩ := fun j hj => World.cell?_setCell_other _ _ _ _ (by simp <;> omega)
  have fO : ∀ j, (w1.setCell ⟨g, n * 4 + 2, none⟩ (.slice (some ⟨g2, 0, none⟩) r.c.bs.length cp2)).frozen? ⟨g, j, none⟩ = w1.frozen? ⟨g, j, none⟩ := fun j => by simp
  generalize w1.setCell ⟨g, n * 4 + 2, none⟩ (.slice (some ⟨g2, 0, none⟩) r.c.bs.length cp2) = w2 at onG cG cO fO ⊢
  have S2 := Lib.hid (S1.out.keep (w' := w2) fun b hb _ => onG.block b (by have := HG.out; rcases hb with q | q | q <;> omega))
  refine hK.out _ _ S2.out (fun _ => ?_)
  clear hK
  refine wpAnyH_done (by kernel_rfl) ?_ _
  (try refine no_panic ?_)
  have ON := Lib.hid onG
  have CG := Lib.hid cG
  have CO := Lib.hid cO
  have FO := Lib.hid fO
  clear onG cG cO fO c2 f2
  go_upto_region 14 with fail
  have hh : w2.cell? ⟨rb, 0, none⟩ = some (.slice (some ⟨g, 0, none⟩) R.length cap) := cellAt S2.out.hd 0
  have hq : w2.cell? ⟨w.heap.size, 2, none⟩ = some (.int .i64 n) := cellAt S2.out.o 2
  have hx : w2.cell? ⟨w.heap.size + 1, 2, none⟩ = some (.int .i64 c) := cellAt S2.out.q 2
  have hv := CG.out
  obtain ⟨j, hj⟩ : ∃ j, lo + i = j := ⟨_, rfl⟩
  have e5 : IntKind.i64.wrap ((lo : Int) + (i : Int)) = j := by rw [IntWalk.i64_in _ (by have := HX.out; have := HZ.out; omega)]; omega
  have HJ : Hid (j < r.c.bs.length) := Lib.hid (by have := HX.out; omega)
  have j0 : (0 : Int) ≤ j := by omega
  have j1 : (j : Int) < r.c.bs.length := by have := HJ.out; omega
  have ec : IntKind.u8.wrap c = c := by have := HC.out; exact u8_in c this.1 this.2
  go_still_tail 16, (by kernel_rfl)
  change wpList _ _ _ _ _ w2.drew
  have hne : g2 ≠ g := by have := HG.out; have := HG2.out; have := ZD.out; omega
  have rg := owns_at CP.out.own (w' := w2.drew) fun b e => ON.out.block b (by have := own_eq e; omega)
  obtain ⟨b0, hb0⟩ : ∃ b0, r.c.bs[j]? = some b0 := ⟨_, List.getElem?_eq_getElem HJ.out⟩
  have cj : w2.drew.cell? ⟨g2, j, none⟩ = some (.int .u8 b0.toNat) := by
    have := rg.cells rfl j (.int .u8 b0.toNat) (by rw [byCells_get, hb0]; rfl)
    rwa [Addr.add_mid, Nat.zero_add] at this
  have fj : w2.drew.frozen? ⟨g2, j, none⟩ = false := rg.frozenAt j
  obtain ⟨wx, ewx⟩ : ∃ wx, w2.drew = wx := ⟨_, rfl⟩
  have EWX := Lib.hid ewx
  rw [ewx] at cj fj ⊢
  clear ewx rg hb0 hh hq hx hv
  go_wp2
  go_ret
  obtain ⟨w4, ew4⟩ : ∃ w4, wx.setCell ⟨g2, j, none⟩ (.int .u8 c) = w4 := ⟨_, rfl⟩
  rw [ew4]
  have K1 : Below w.heap.size w w1 := below_and KD.out CP.out.below
  have on4 : Only g2 wx w4 := by rw [← ew4]; exact (Only.refl _ _).set _ _
  have hgd : w.heap.size ≤ g2 := by have := HG2.out; have := ZD.out; omega
  refine ⟨rfl, ⟨_, by rw [ev]; exact RH.byte (by rw [← ev]; exact H.out) HO.out HR.out HG.out.1 e2 HJ.out HC.out.1 HC.out.2 K1 hgd (CP.out.own.mono (by have := ZD.out; omega)) ON.out CG.out CO.out FO.out (by rw [EWX.out]; exact ew4), ?_⟩, ?_⟩
  · rw [HSP.out, hj, cels_set]
  · refine ((kept_of K1 fun b q => q.1).trans (kept_only ON.out fun q => q.2.2 (by rw [ev]; rfl))).trans (Kept.trans (w1 := wx) (by rw [← EWX.out]; exact ⟨rfl, rfl, rfl, Nat.le_refl _, fun _ _ => rfl⟩) (kept_only on4 fun q => by have := q.1; omega))
end
end Go.Proofs.Ytlkbnldpecolbaa
