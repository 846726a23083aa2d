/- XD: Q15, Q16, Q17, Z4, Z5, Z6, Z7, ZA, ZC. -/
import Derived.Test.YtmlkmgeddkpgiaaXC
import Derived.Deep.Slices
import Derived.WideShapes
import Derived.ChangeSame
import Derived.OpenShut
/- tympanref13: Newer of any objects, Back. -/
namespace Go.Proofs.Ytmlkmgeddkpgiaa
open Go.RowKit
set_option linter.unusedVariables false
set_option maxHeartbeats 1000000
set_option maxRecDepth 100000

theorem rnew_none (vb : Nat) (k n a l k' n' a' l' : Int) (x x' : Bool) (s s' : ByteArray) (w : World)
    (hat : Hid (∀ wx, Below w.heap.size w wx → Calls Try.prog 97 #[ptr vb, obV k x n a l s] wx fun e w' => e = .returned (.int .i64 (-1)) ∧ Below wx.heap.size wx w')) :
    Calls Try.prog 54 #[ptr vb, obV k x n a l s, obV k' x' n' a' l' s'] w fun e w' => e = .returned (.bool false) ∧ Below w.heap.size w w' := by
  go_enter Try.func54, Try.ntmps54
  go_upto_region 1 with fail
  obtain ⟨wb, eb, kb, ⟨c0, c1, c2, c3, c4, c5⟩, o2⟩ := two_box w k n a l k' n' a' l' x x' s s'
  rw [eb]
  go_wp2_with fail
  refine (hat.out _ kb).mono ?_
  rintro e wc ⟨rfl, kc⟩
  have KC := Lib.hid (below_and kb kc)
  clear eb kb kc c0 c1 c2 c3 c4 c5 o2
  go_wp2
  go_ret
  exact ⟨rfl, KC.out⟩
/-- The reference's saves and the program's tell of the same. -/
structure Pair (M : List FS) (L : List Sv) : Prop where
  num : M.map FS.n = L.map Sv.n
  cel : ∀ (i : Nat) (s : FS) (t : Sv), M[i]? = some s → L[i]? = some t → cels s.F = t.q
theorem Pair.len {M : List FS} {L : List Sv} (h : Pair M L) : M.length = L.length := by
  have := congrArg List.length h.num
  simpa using this
section
variable {own : Nat → Prop} {rb vb last : Nat} {v vs : Value} {M : List FS} {L : List Sv} {w : World}
theorem rnewer_any (h : RSv own rb v vb vs M last w) (hl : ∀ b, own b → b < w.heap.size) (hp : Pair M L) (o x : Ob) : Calls Try.prog 54 #[ptr vb, o.val, x.val] w fun e w' => e = .returned (.bool (newS L o x)) ∧ Below w.heap.size w w' := by
  have hat : Hid (∀ wx, Below w.heap.size w wx → Calls Try.prog 97 #[ptr vb, obV o.k o.x o.n o.a o.l o.s] wx fun e w' => e = .returned (.int .i64 (atI13 (atM M o))) ∧ Below wx.heap.size wx w') := Lib.hid fun wx kx => rat_any (h.below kx hl) (fun b q => Nat.lt_of_lt_of_le (hl b q) kx.size) o.k o.x o.n o.a o.l o.s
  rw [atM_atS hp.num] at hat
  cases ha : atS L o with
  | none =>
    rw [ha] at hat
    rw [show newS L o x = false from by simp [newS, ha]]
    exact rnew_none vb o.k o.n o.a o.l x.k x.n x.a x.l o.x x.x o.s x.s w hat
  | some i =>
    rw [ha] at hat
    have hi := atS_lt ha
    have hm := hp.len
    obtain ⟨t, ht⟩ : ∃ t, L[i]? = some t := ⟨_, List.getElem?_eq_getElem hi⟩
    obtain ⟨s, hs⟩ : ∃ s, M[i]? = some s := ⟨_, List.getElem?_eq_getElem (by omega)⟩
    obtain ⟨g, cap, ev, d0, d1⟩ := h.at hs
    have hd := h.hdr
    rw [ev] at hd
    obtain ⟨vF, hF⟩ := h.frz i s hs
    obtain ⟨pF, cF, eF, _⟩ := hF.row.form
    have hh := hF.hdr
    rw [eF] at hh
    have hlen : s.F.length = t.q.length := by rw [← hp.cel i s t hs ht, cels_length]
    have hcm : Hid (∀ wx, Calls Try.prog 101 #[obV x.k x.x x.n x.a x.l x.s] wx fun e w' => e = .returned (.bool (compP x.k)) ∧ Below wx.heap.size wx w') := Lib.hid fun wx => rcomp_any x.k x.n x.a x.l x.x x.s wx
    have hz : i < M.length := by omega
    by_cases hc : x.k = 9 ∨ x.k = 8 ∨ x.k = 10
    · rw [show compP x.k = true from decide_eq_true hc] at hcm
      have e0 : newS L o x = decide ((s.F.length : Int) ≤ x.n) := by
        simp only [newS, ha, ht, Option.map_some, Option.getD_some]
        rw [if_pos hc, hlen]
      rw [e0]
      by_cases e1 : (s.F.length : Int) ≤ x.n
      · rw [decide_eq_true e1]
        exact rnew_a vb g M.length cap i s.fb s.F.length cF last pF o.k o.n o.a o.l x.k x.n x.a x.l o.x x.x true o.s x.s w hz hd d1 hh (decide_eq_true e1) hat hcm
      · rw [decide_eq_false e1]
        exact rnew_b vb g M.length cap i s.fb s.F.length cF last pF o.k o.n o.a o.l x.k x.n x.a x.l o.x x.x true o.s x.s w hz hd d1 hh (decide_eq_false e1) (by simp; omega) hat hcm
    · rw [show compP x.k = false from decide_eq_false hc] at hcm
      have e0 : newS L o x = decide (x.k = 11 ∧ o.n ≤ x.n) := by
        simp only [newS, ha]
        rw [if_neg hc]
      rw [e0]
      by_cases h11 : x.k = 11
      · rw [show decide (x.k = 11 ∧ o.n ≤ x.n) = decide (o.n ≤ x.n) from by simp [h11]]
        exact rnew_c vb g M.length cap i s.fb s.F.length cF last pF o.k o.n o.a o.l x.k x.n x.a x.l o.x x.x _ o.s x.s w hz hd d1 hh (by simp [h11]) rfl hat hcm
      · rw [show decide (x.k = 11 ∧ o.n ≤ x.n) = false from by simp [h11]]
        exact rnew_d vb g M.length cap i s.fb s.F.length cF last pF o.k o.n o.a o.l x.k x.n x.a x.l o.x x.x true o.s x.s w hz hd d1 hh (by simp [h11]) hat hcm
end
end Go.Proofs.Ytmlkmgeddkpgiaa

/- tympanref13: Back. -/
namespace Go.Proofs.Ytmlkmgeddkpgiaa
open Go.RowKit
set_option linter.unusedVariables false
set_option maxHeartbeats 1000000
set_option maxRecDepth 100000

theorem rback_none (vb rb : Nat) (k n a l : Int) (x : Bool) (s : ByteArray) (w : World)
    (hat : Hid (∀ wx, Below w.heap.size w wx → Calls Try.prog 97 #[ptr vb, obV k x n a l s] wx fun e w' => e = .returned (.int .i64 (-1)) ∧ Below wx.heap.size wx w')) :
    Calls Try.prog 48 #[ptr vb, ptr rb, obV k x n a l s] w fun e w' => e = .returned (.int .i64 17) ∧ Below w.heap.size w w' := by
  go_enter Try.func48, Try.ntmps48
  go_upto_region 1 with fail
  obtain ⟨wb, eb, kb, zb, c0, c1, c2, c3, c4, c5⟩ := ob_box w k n a l x s
  rw [eb]
  go_wp2_with fail
  refine (hat.out _ kb).mono ?_
  rintro e wc ⟨rfl, kc⟩
  have KC := Lib.hid (below_and kb kc)
  clear eb kb kc c0 c1 c2 c3 c4 c5
  go_wp2
  go_ret
  exact ⟨rfl, KC.out⟩
theorem oneCells_take {M : List FS} {i t : Nat} {u : Value} (h : (oneCells (M.take i))[t]? = some u) : (oneCells M)[t]? = some u := by
  have e : oneCells M = oneCells (M.take i) ++ oneCells (M.drop i) := by
    rw [oneCells, oneCells, oneCells, ← List.flatMap_append, List.take_append_drop]
  rw [e, List.getElem?_append_left (List.getElem?_eq_some_iff.1 h).1]
  exact h
section
variable {own : Nat → Prop} {rb vb last : Nat} {v vs : Value} {M : List FS} {R : List RC} {w : World}
theorem rback_some (h : RSv own rb v vb vs M last w) (hr : RH own rb v R w) (hl : ∀ b, own b → b < w.heap.size) (o : Ob) {i : Nat} {s : FS} (ha : atM M o = some i) (hs : M[i]? = some s) :
    Calls Try.prog 48 #[ptr vb, ptr rb, o.val] w fun e w' => e = .returned (.int .i64 0) ∧ (∃ v' vs', RH (Plus own w w') rb v' s.F w' ∧ RSv (Plus own w w') rb v' vb vs' (M.take i) last w') ∧ Kept (fun b => b < w.heap.size ∧ b ≠ rb ∧ b ≠ vb) w w' := by
  have hat : Hid (∀ wx, Below w.heap.size w wx → Calls Try.prog 97 #[ptr vb, obV o.k o.x o.n o.a o.l o.s] wx fun e w' => e = .returned (.int .i64 i) ∧ Below wx.heap.size wx w') := Lib.hid fun wx kx => by
    have := rat_any (h.below kx hl) (fun b q => Nat.lt_of_lt_of_le (hl b q) kx.size) o.k o.x o.n o.a o.l o.s
    rw [ha] at this
    exact this
  have hi := (List.getElem?_eq_some_iff.1 hs).1
  obtain ⟨g, cap, ev, d0, d1⟩ := h.at hs
  have hcap : M.length ≤ cap := by
    rcases h.row with ⟨q, _⟩ | ⟨_, _, q, q2, _⟩
    · rw [ev] at q
      cases q
    · rw [ev] at q
      injection q with _ _ q3
      omega
  have HH := Lib.hid h
  have HR := Lib.hid hr
  have HL := Lib.hid hl
  have HS := Lib.hid hs
  have HI := Lib.hid hi
  have t0 : (0 : Int) ≤ i := by omega
  have t1 : (i : Int) < M.length := by omega
  rw [show o.val = obV o.k o.x o.n o.a o.l o.s from rfl]
  subst ev
  clear h hr hl hs hi ha d0 d1
  go_enter Try.func48, Try.ntmps48
  go_upto_region 1 with fail
  obtain ⟨wb, eb, kb, zb, c0, c1, c2, c3, c4, c5⟩ := ob_box w o.k o.n o.a o.l o.x o.s
  rw [eb]
  go_wp2_with fail
  refine (hat.out _ kb).mono ?_
  rintro e wc ⟨rfl, kc⟩
  have kk := below_and kb kc
  have KC := Lib.hid kk
  have RC := Lib.hid (HH.out.below kk HL.out)
  have HC := Lib.hid (HR.out.below kk)
  have LC : Hid (∀ b, own b → b < wc.heap.size) := Lib.hid fun b q => Nat.lt_of_lt_of_le (HL.out b q) kk.size
  have h0 : wc.cell? ⟨vb, 0, none⟩ = some (.slice (some ⟨g, 0, none⟩) M.length cap) := cellAt RC.out.hdr 0
  obtain ⟨g', cap', ev', d0, d1⟩ := RC.out.at HS.out
  obtain ⟨rfl, rfl⟩ : g = g' ∧ cap = cap' := by simpa using ev'
  obtain ⟨vF, hF⟩ := RC.out.frz i s HS.out
  have HF := Lib.hid hF
  have f0 := hF.hcell
  clear eb kb kc c0 c1 c2 c3 c4 c5 kk ev' d0 hF
  go_wp2_with fail
  refine (rbecome_any HC.out HF.out LC.out).mono ?_
  rintro e wd ⟨rfl, ⟨v', rh, nv⟩, kp⟩
  have rs := RC.out.keep (own' := Plus own wc wd) (v' := v') (fun b q => .inl q) (fun q => q.elim RC.out.mine fun q => by have := blk_lt RC.out.hdr; omega) (kp.sub fun b q => by
    rcases q with rfl | q
    · exact ⟨blk_lt RC.out.hdr, fun e => RC.out.mine (e ▸ HC.out.mine)⟩
    · exact ⟨LC.out b q.1, q.2.1⟩) (.inr nv) LC.out
  have RD := Lib.hid rs
  have HD := Lib.hid rh
  have KP := Lib.hid kp
  clear rh nv kp h0 d1 f0 rs
  have h0 : wd.cell? ⟨vb, 0, none⟩ = some (.slice (some ⟨g, 0, none⟩) M.length cap) := cellAt RD.out.hdr 0
  have fr : wd.frozen? ⟨vb, 0, none⟩ = false := freeAt RD.out.hdr 0
  have hu2 : (i : Int) ≤ cap := by have := HI.out; omega
  go_wp2
  go_ret
  obtain ⟨w4, ew4⟩ : ∃ w4, wd.setCell ⟨vb, 0, none⟩ (.slice (some ⟨g, 0, none⟩) i cap) = w4 := ⟨_, rfl⟩
  rw [ew4]
  have on : Only vb wd w4 := by rw [← ew4]; exact (Only.refl _ _).set 0 _
  have hs1 := KC.out.size
  have pl : ∀ b, Plus own wc wd b → Plus own w w4 b := fun b q => q.imp id fun q => ⟨by omega, by rw [on.size]; exact q.2⟩
  have nvb : ∀ b, Plus own wc wd b → b ≠ vb := fun b q e => RD.out.mine (e ▸ q)
  have hvb := blk_lt RC.out.hdr
  have sz : wd.heap.size ≤ w4.heap.size := by rw [on.size]; exact Nat.le_refl _
  have im : ∀ b, Im (Plus own wc wd) rb v' b → Im (Plus own w w4) rb v' b := fun b q => ⟨pl b q.1, q.2.1, q.2.2⟩
  have hvw := blk_lt HH.out.hdr
  refine ⟨rfl, ⟨v', .slice (some ⟨g, 0, none⟩) i cap, HD.out.kept pl sz (fun b q _ => on.block b (nvb b q)), ⟨?_, fun q => ?_, ?_, fun t x hx => ?_, ?_⟩⟩, ?_⟩
  · rw [← ew4, heap_setCell_same _ _ _ _ 75 _ RD.out.hdr]
    rfl
  · rcases q with q | q
    · exact RC.out.mine q
    · omega
  · have hln : (M.take i).length = i := by rw [List.length_take]; have := HI.out; omega
    rcases RD.out.row with ⟨q, _⟩ | ⟨g', cap', q, q2, q3, q4, q5⟩
    · cases q
    · injection q with a1 a2 a3
      injection a1 with a1
      injection a1 with a1 _ _
      subst a1 a3
      refine .inr ⟨g, cap, by rw [hln], by have := HI.out; omega, im g q3, Nat.lt_of_lt_of_le q4 sz, fun t u ht => ?_⟩
      rw [World.cell?_of_block (w := wd) (a := ⟨g, t, none⟩) (on.block g (nvb g q3.1))]
      exact q5 t u (oneCells_take ht)
  · have hx' : M[t]? = some x := by
      rw [List.getElem?_take] at hx
      split at hx
      · exact hx
      · cases hx
    obtain ⟨vF, hF⟩ := RD.out.frz t x hx'
    exact ⟨vF, hF.kept im sz fun b q _ => on.block b (nvb b q.1)⟩
  · have := RD.out.len
    rw [List.length_take]
    omega
  · exact (kept_of KC.out fun b q => q.1).trans ((KP.out.sub fun b q => ⟨by omega, q.2.1⟩).trans (kept_only on fun q => q.2.2 rfl))
end
end Go.Proofs.Ytmlkmgeddkpgiaa

/- tympanref13: Save. -/
namespace Go.Proofs.Ytmlkmgeddkpgiaa
open Go.RowKit
set_option linter.unusedVariables false
set_option linter.unusedSimpArgs false
set_option maxHeartbeats 1000000
set_option maxRecDepth 100000

theorem info123 : (Try.prog.info? 137).map (fun i => (i.zero, i.size, i.bytes)) = some (some (.agg #[.int .i64 0, .pointer none]), 2, 16) := by kernel_rfl
/-- A slice of saves, copied. -/
structure CopyS (M : List FS) (w : World) (v' : Value) (w' : World) : Prop where
  own : w'.ownsRow w.heap.size 137 2 v' M.length (oneCells M)
  below : Below w.heap.size w w'
theorem oneCells_one (M : List FS) : ∀ u ∈ oneCells M, u.oneCell' = true := by
  intro u hu
  obtain ⟨s, _, hu⟩ := List.mem_flatMap.1 hu
  simp only [oneL, List.mem_cons, List.not_mem_nil, or_false] at hu
  rcases hu with rfl | rfl <;> rfl
section
variable {own : Nat → Prop} {rb vb last : Nat} {v vs : Value} {M : List FS} {R : List RC} {w : World}
theorem RSv.head {w' : World} {last' : Nat} (h : RSv own rb v vb vs M last w) (on : Only vb w w') (hh : w'.heap[vb]? = some (.cells #[vs, .int .i64 last'] 75 (0, 0))) : RSv own rb v vb vs M last' w' := by
  have nv : ∀ b, Im own rb v b → b ≠ vb := fun b q e => h.mine (e ▸ q.1)
  refine ⟨hh, h.mine, h.row.same (by rw [on.size]; exact Nat.le_refl _) fun g q _ => ⟨q, on.block g (nv g q)⟩, fun i s hs => ?_, h.len⟩
  obtain ⟨vF, hF⟩ := h.frz i s hs
  exact ⟨vF, hF.kept (fun b q => q) (by rw [on.size]; exact Nat.le_refl _) fun b q _ => on.block b (nv b q)⟩
theorem saves_copy (h : RSv own rb v vb vs M last w) (hl : ∀ b, own b → b < w.heap.size) (wx : World) (k : Below w.heap.size w wx) (ty : TypeId) : ∃ v' w', (Builtin.append_ #[73, 73] ty #[.slice none 0 0, vs]).run Try.prog wx = .ok v' w' ∧ CopyS M wx v' w' := by
  obtain ⟨i0, hi, hz0, hz1, hz2⟩ := info_parts info123
  have := h.len
  obtain ⟨v', w', h1, h2, h3, _⟩ := app_copy (h.below k hl).row 73 137 i0 _ 2 16 Try.underlying73 hi hz0 hz1 hz2 rfl (by decide) (oneCells_length M) (oneCells_one M) (by unfold maxLen; omega) (by omega) ty
  exact ⟨v', w', h1, h2, h3⟩
theorem rsave_full (h : RSv own rb v vb vs M last w) (hM : M.length = 10) : Calls Try.prog 46 #[ptr vb, ptr rb] w fun e w' => e = .returned (.tuple #[zeroOb, .int .i64 5]) ∧ Below w.heap.size w w' := by
  have H := Lib.hid h
  obtain ⟨p, cap, rfl, _⟩ := h.row.form
  have h0 : w.cell? ⟨vb, 0, none⟩ = some (.slice p 10 cap) := by rw [← hM]; exact cellAt h.hdr 0
  have t0 : (10 : Int) ≥ 10 := by decide
  clear h
  go_enter Try.func46, Try.ntmps46
  go_upto_region 1 with fail
  obtain ⟨wa, ea, ka, za, oa⟩ := zero_box w
  rw [ea]
  have h1 := cell_later ka h0
  have KA := Lib.hid ka
  have OA := Lib.hid oa
  obtain ⟨⟨o0, o1, o2, o3, o4, o5⟩, g0, g1, g2, g3, g4, g5⟩ := cells6 oa
  clear ea ka za oa h0
  go_wp2
  (try simp only [Exit.inBlock, Exit.then])
  exact bodyPost_ret (ret_cell rfl _ _ _ _ _ _ _ _ rfl rfl (set6 OA.out _ _ _ _ _ _) Try.underlying24 rfl (by kernel_rfl)) rfl ⟨rfl, set6_below KA.out (Nat.le_refl _) _ _ _ _ _ _⟩
theorem rsave_ok (h : RSv own rb v vb vs M last w) (hr : RH own rb v R w) (hl : ∀ b, own b → b < w.heap.size) (hM : M.length < 10) (hL : last < 4611686018427387904) (N1 : Nat) (hN : last + 1 = N1) :
    Calls Try.prog 46 #[ptr vb, ptr rb] w fun e w' => e = .returned (.tuple #[obV 11 false N1 0 0 ⟨#[]⟩, .int .i64 0]) ∧ (RH (Plus own w w') rb v R w' ∧ ∃ fb vs', RSv (Plus own w w') rb v vb vs' (M ++ [⟨N1, fb, R⟩]) N1 w') ∧ Kept (fun b => b < w.heap.size ∧ b ≠ vb) w w' := by
  have H := Lib.hid h
  have HR := Lib.hid hr
  have HL := Lib.hid hl
  have HM := Lib.hid hM
  have HN := Lib.hid hN
  obtain ⟨p, cap, rfl, _⟩ := h.row.form
  have t0 : ¬ ((M.length : Int) ≥ 10) := by omega
  have e1 : IntKind.i64.wrap ((last : Int) + 1) = (N1 : Int) := by rw [IntWalk.i64_in _ (by omega)]; omega
  clear h hr hl hM hL hN
  go_enter Try.func46, Try.ntmps46
  go_upto_region 1 with fail
  obtain ⟨wa, ea, ka, za, oa⟩ := zero_box w
  rw [ea]
  have KA := Lib.hid ka
  have OA := Lib.hid oa
  have ZA := Lib.hid za
  have SA := Lib.hid (H.out.below ka HL.out)
  have h0 : wa.cell? ⟨vb, 0, none⟩ = some (.slice p M.length cap) := cellAt SA.out.hdr 0
  have h1 : wa.cell? ⟨vb, 1, none⟩ = some (.int .i64 last) := cellAt SA.out.hdr 1
  have f1 : wa.frozen? ⟨vb, 1, none⟩ = false := freeAt SA.out.hdr 1
  clear ea ka za oa
  go_upto_region 4 with fail
  have on1 : Only vb wa (wa.setCell ⟨vb, 1, none⟩ (.int .i64 N1)) := (Only.refl _ _).set 1 _
  have hh1 : (wa.setCell ⟨vb, 1, none⟩ (.int .i64 N1)).heap[vb]? = some (.cells #[.slice p M.length cap, .int .i64 N1] 75 (0, 0)) := by
    rw [heap_setCell_same _ _ _ _ 75 _ SA.out.hdr]
    rfl
  obtain ⟨w1, ew1⟩ : ∃ w1, wa.setCell ⟨vb, 1, none⟩ (.int .i64 N1) = w1 := ⟨_, rfl⟩
  rw [ew1] at on1 hh1 ⊢
  have S1 := Lib.hid (SA.out.head on1 hh1)
  have RA := HR.out.below KA.out
  have R1 := Lib.hid (RA.kept (own' := own) (fun b q => q) (by rw [on1.size]; exact Nat.le_refl _) fun b q _ => on1.block b fun e => SA.out.mine (e ▸ q))
  have L1 : Hid (∀ b, own b → b < w1.heap.size) := Lib.hid fun b q => by have := HL.out b q; have := KA.out.size; rw [on1.size]; omega
  have hvb := blk_lt H.out.hdr
  have K1 : Hid (Kept (fun b => b < w.heap.size ∧ b ≠ vb) w w1) := Lib.hid ((kept_of KA.out fun b q => q.1).trans (kept_only on1 fun q => q.2 rfl))
  have O1 := Lib.hid ((on1.block w.heap.size (by omega)).trans OA.out)
  have Z1 : Hid (w.heap.size + 1 = w1.heap.size) := Lib.hid (by have := ZA.out; rw [on1.size]; omega)
  clear h0 h1 f1 on1 hh1 ew1 RA
  have sx0 : w1.drew.cell? ⟨vb, 1, none⟩ = some (.int .i64 N1) := cellAt S1.out.hdr 1
  have k0 : Below w1.heap.size w1 w1.drew := (Below.refl _ _).drew
  (try refine wp_region_noPanic ?_)
  refine wp_region_held_drew (S := fun wx => wx.cell? ⟨vb, 1, none⟩ = some (.int .i64 N1)) (by kernel_rfl) sx0 (fun _ => ?_)
  generalize w1.drew = wd at sx0 k0 ⊢
  have SX := Lib.hid sx0
  have gb := Lib.hid k0
  have h0 : wd.cell? ⟨vb, 0, none⟩ = some (.slice p M.length cap) := cellAt (S1.out.below gb.out L1.out).hdr 0
  clear sx0 k0
  refine wpAnyH_take (i := 0) (v := ptr vb) rfl (by kernel_rfl) (by kernel_rfl) (by kernel_rfl) (fun _ _ _ h => h) (Or.inl ⟨by rfl, fun wx hS => ?_⟩) SX.out ?_
  · go_simp
  try simp only [Act.put, List.getElem_toArray, List.getElem_cons_succ, List.getElem_cons_zero, List.setIfInBounds_toArray, List.set_cons_zero, List.set_cons_succ]
  refine wpAnyH_take (i := 1) (v := ptr vb) rfl (by kernel_rfl) (by kernel_rfl) (by kernel_rfl) (fun _ _ _ h => h) (Or.inl ⟨by rfl, fun wx hS => ?_⟩) SX.out ?_
  · go_simp
  try simp only [Act.put, List.getElem_toArray, List.getElem_cons_succ, List.getElem_cons_zero, List.setIfInBounds_toArray, List.set_cons_zero, List.set_cons_succ]
  refine wpAnyH_take (i := 2) (v := ptr vb) rfl (by kernel_rfl) (by kernel_rfl) (by kernel_rfl) (fun _ _ _ h => h) (Or.inl ⟨by rfl, fun wx hS => ?_⟩) SX.out ?_
  · go_simp
  try simp only [Act.put, List.getElem_toArray, List.getElem_cons_succ, List.getElem_cons_zero, List.setIfInBounds_toArray, List.set_cons_zero, List.set_cons_succ]
  refine wpAnyH_take (i := 3) (v := .pointer (some ⟨vb, 0, none⟩)) rfl (by kernel_rfl) (by kernel_rfl) (by kernel_rfl) (fun _ _ _ h => h) (Or.inl ⟨by rfl, fun wx hS => ?_⟩) SX.out ?_
  · go_simp
  try simp only [Act.put, List.getElem_toArray, List.getElem_cons_succ, List.getElem_cons_zero, List.setIfInBounds_toArray, List.set_cons_zero, List.set_cons_succ]
  refine wpAnyH_take (i := 6) (v := ptr vb) rfl (by kernel_rfl) (by kernel_rfl) (by kernel_rfl) (fun _ _ _ h => h) (Or.inl ⟨by rfl, fun wx hS => ?_⟩) SX.out ?_
  · go_simp
  try simp only [Act.put, List.getElem_toArray, List.getElem_cons_succ, List.getElem_cons_zero, List.setIfInBounds_toArray, List.set_cons_zero, List.set_cons_succ]
  refine wpAnyH_take (i := 7) (v := ptr vb) rfl (by kernel_rfl) (by kernel_rfl) (by kernel_rfl) (fun _ _ _ h => h) (Or.inl ⟨by rfl, fun wx hS => ?_⟩) SX.out ?_
  · go_simp
  try simp only [Act.put, List.getElem_toArray, List.getElem_cons_succ, List.getElem_cons_zero, List.setIfInBounds_toArray, List.set_cons_zero, List.set_cons_succ]
  refine wpAnyH_take (i := 8) (v := .pointer (some ⟨vb, 1, none⟩)) rfl (by kernel_rfl) (by kernel_rfl) (by kernel_rfl) (fun _ _ _ h => h) (Or.inl ⟨by rfl, fun wx hS => ?_⟩) SX.out ?_
  · go_simp
  try simp only [Act.put, List.getElem_toArray, List.getElem_cons_succ, List.getElem_cons_zero, List.setIfInBounds_toArray, List.set_cons_zero, List.set_cons_succ]
  refine wpAnyH_take (i := 9) (v := .int .i64 N1) rfl (by kernel_rfl) (by kernel_rfl) (by kernel_rfl) (fun _ _ _ h => h) (Or.inl ⟨by rfl, fun wx hS => ?_⟩) SX.out ?_
  · go_simp
  try simp only [Act.put, List.getElem_toArray, List.getElem_cons_succ, List.getElem_cons_zero, List.setIfInBounds_toArray, List.set_cons_zero, List.set_cons_succ]
  refine wpAnyH_take (i := 10) (v := ptr rb) rfl (by kernel_rfl) (by kernel_rfl) (by kernel_rfl) (fun _ _ _ h => h) (Or.inl ⟨by rfl, fun wx hS => ?_⟩) SX.out ?_
  · go_simp
  try simp only [Act.put, List.getElem_toArray, List.getElem_cons_succ, List.getElem_cons_zero, List.setIfInBounds_toArray, List.set_cons_zero, List.set_cons_succ]
  refine wpAnyH_ready (rs := [4]) (by kernel_rfl) (by simp) ?_
  refine AllReadyH.cons rfl (fun K hK => ?_) AllReadyH.nil
  go_simp
  refine hK.out _ _ SX.out (fun _ => ?_)
  clear hK
  try simp only [Act.put, List.getElem_toArray, List.getElem_cons_succ, List.getElem_cons_zero, List.setIfInBounds_toArray, List.set_cons_zero, List.set_cons_succ]
  refine wpAnyH_ready (rs := [5]) (by kernel_rfl) (by simp) ?_
  refine AllReadyH.cons rfl (fun K hK => ?_) AllReadyH.nil
  refine step_append_ex rfl _ _ 73 rfl (.slice none 0 0) (.slice p M.length cap) rfl rfl _ (saves_copy S1.out L1.out wd gb.out _) ?_
  rintro v1 w2 hcp
  have hown := hcp.own
  obtain ⟨p1, c1, rfl⟩ := owns_form (hown.mono (Nat.zero_le _))
  have HB1 : Hid (w2.ownsRow w1.heap.size 137 2 (.slice p1 M.length c1) M.length (oneCells M)) := Lib.hid (hown.mono gb.out.size)
  have NG : Hid (∀ g, (Value.slice p1 M.length c1).ownBlock = some g → w1.heap.size ≤ g ∧ g < w2.heap.size) := Lib.hid fun g e => HB1.out.lt g e
  replace gb : Hid (Below w1.heap.size w1 w2) := Lib.hid (below_and gb.out hcp.below)
  have sx1 := cell_later hcp.below SX.out
  replace SX := Lib.hid sx1
  clear hown hcp h0 sx1
  refine hK.out _ _ SX.out (fun _ => ?_)
  clear hK
  try simp only [Act.put, List.getElem_toArray, List.getElem_cons_succ, List.getElem_cons_zero, List.setIfInBounds_toArray, List.set_cons_zero, List.set_cons_succ]
  refine wpAnyH_ready (rs := [11]) (by kernel_rfl) (by simp) ?_
  refine AllReadyH.cons rfl (fun K hK => ?_) AllReadyH.nil
  go_simp
  refine (rcopy_any (R1.out.below gb.out) (fun b q => Nat.lt_of_lt_of_le (L1.out b q) gb.out.size)).mono ?_
  rintro e w3 ⟨fb, rfl, ⟨vF, hF⟩, hR, k3⟩
  have FF := Lib.hid hF
  have RR := Lib.hid hR
  replace HB1 := Lib.hid (owns_at HB1.out fun g e => k3.block g (HB1.out.lt g e).2)
  have Z3 : Hid (w1.heap.size ≤ w2.heap.size ∧ w2.heap.size ≤ w3.heap.size) := Lib.hid ⟨gb.out.size, k3.size⟩
  replace gb : Hid (Below w1.heap.size w1 w3) := Lib.hid (below_and gb.out k3)
  have sx1 := cell_later k3 SX.out
  replace SX := Lib.hid sx1
  clear hF hR k3 sx1
  refine hK.out _ _ SX.out (fun _ => ?_)
  clear hK
  try simp only [Act.put, List.getElem_toArray, List.getElem_cons_succ, List.getElem_cons_zero, List.setIfInBounds_toArray, List.set_cons_zero, List.set_cons_succ]
  refine wpAnyH_take (i := 12) (v := .agg #[.int .i64 N1, ptr fb]) rfl (by kernel_rfl) (by kernel_rfl) (by kernel_rfl) (fun _ _ _ h => h) (Or.inl ⟨by rfl, fun wx hS => ?_⟩) SX.out ?_
  · go_simp
  try simp only [Act.put, List.getElem_toArray, List.getElem_cons_succ, List.getElem_cons_zero, List.setIfInBounds_toArray, List.set_cons_zero, List.set_cons_succ]
  refine wpAnyH_ready (rs := [13]) (by kernel_rfl) (by simp) ?_
  refine AllReadyH.cons rfl (fun K hK => ?_) AllReadyH.nil
  go_simp
  obtain ⟨w4, e4, k4, c4⟩ : ∃ w4, w3.alloc (.cells #[.int .i64 N1, ptr fb] 137) = w4 ∧ Below w3.heap.size w3 w4 ∧ ∀ j u, (oneL ⟨N1, fb, R⟩)[j]? = some u → w4.cell? (Addr.add ⟨w3.heap.size, 0, none⟩ j) = some u := ⟨_, rfl, box_below _ _, fun j u h => by rw [Addr.add_mid, Nat.zero_add, cellAt (heap_alloc_new _ _)]; simpa using h⟩
  rw [e4]
  replace HB1 := Lib.hid (owns_at HB1.out fun g e => k4.block g (HB1.out.lt g e).2)
  have K34 := Lib.hid k4
  have C4 := Lib.hid c4
  replace gb : Hid (Below w1.heap.size w1 w4) := Lib.hid (below_and gb.out k4)
  have sx1 := cell_later k4 SX.out
  replace SX := Lib.hid sx1
  clear e4 k4 c4 sx1
  refine hK.out _ _ SX.out (fun _ => ?_)
  clear hK
  try simp only [Act.put, List.getElem_toArray, List.getElem_cons_succ, List.getElem_cons_zero, List.setIfInBounds_toArray, List.set_cons_zero, List.set_cons_succ]
  refine wpAnyH_ready (rs := [14]) (by kernel_rfl) (by simp) ?_
  refine AllReadyH.cons rfl (fun K hK => ?_) AllReadyH.nil
  obtain ⟨i0, hi, hz0, hz1, hz2⟩ := info_parts info123
  refine step_append_lies w4 rfl _ _ 73 rfl w1.heap.size 137 i0 _ 2 16 Try.underlying73 hi hz0 hz1 hz2 rfl (by decide) (.slice p1 M.length c1) M.length (oneCells M) rfl HB1.out ⟨w3.heap.size, 0, none⟩ 1 1 (oneL ⟨N1, fb, R⟩) rfl rfl C4.out (fun u hu => oneCells_one [⟨N1, fb, R⟩] u (by simpa [oneCells] using hu)) (by decide) (by have := HM.out; unfold maxLen; omega) (by have := HM.out; omega) gb.out.size _ rfl ?_
  intro g cp w5 hown hgrow hg hlt
  have HO5 := Lib.hid hown
  have GR := Lib.hid hgrow
  have kg : Below w1.heap.size w1 w5 := gb.out.grown hgrow gb.out.size fun k e => (HB1.out.lt k e).1
  have GB := Lib.hid kg
  have sx1 : w5.cell? ⟨vb, 1, none⟩ = some (.int .i64 N1) := cellAt ((kg.block _ (blk_lt S1.out.hdr)).trans S1.out.hdr) 1
  have c0 : w5.cell? ⟨vb, 0, none⟩ = some (.slice p M.length cap) := cellAt ((kg.block _ (blk_lt S1.out.hdr)).trans S1.out.hdr) 0
  have f0 : w5.frozen? ⟨vb, 0, none⟩ = false := freeAt ((kg.block _ (blk_lt S1.out.hdr)).trans S1.out.hdr) 0
  replace SX := Lib.hid sx1
  clear hown hgrow hg hlt kg sx1
  refine hK.out _ _ SX.out (fun _ => ?_)
  clear hK
  try simp only [Act.put, List.getElem_toArray, List.getElem_cons_succ, List.getElem_cons_zero, List.setIfInBounds_toArray, List.set_cons_zero, List.set_cons_succ]
  refine wpAnyH_take (i := 15) (v := ptr vb) rfl (by kernel_rfl) (by kernel_rfl) (by kernel_rfl) (fun _ _ _ h => h) (Or.inl ⟨by rfl, fun wx hS => ?_⟩) SX.out ?_
  · go_simp
  try simp only [Act.put, List.getElem_toArray, List.getElem_cons_succ, List.getElem_cons_zero, List.setIfInBounds_toArray, List.set_cons_zero, List.set_cons_succ]
  refine wpAnyH_take (i := 16) (v := .pointer (some ⟨vb, 0, none⟩)) rfl (by kernel_rfl) (by kernel_rfl) (by kernel_rfl) (fun _ _ _ h => h) (Or.inl ⟨by rfl, fun wx hS => ?_⟩) SX.out ?_
  · go_simp
  try simp only [Act.put, List.getElem_toArray, List.getElem_cons_succ, List.getElem_cons_zero, List.setIfInBounds_toArray, List.set_cons_zero, List.set_cons_succ]
  refine wpAnyH_ready (rs := [17]) (by kernel_rfl) (by simp) ?_
  refine AllReadyH.cons rfl (fun K hK => ?_) AllReadyH.nil
  go_simp
  have on6 : Only vb w5 (w5.setCell ⟨vb, 0, none⟩ (.slice (some ⟨g, 0, none⟩) (M.length + 1) cp)) := (Only.refl _ _).set 0 _
  have hh6 : (w5.setCell ⟨vb, 0, none⟩ (.slice (some ⟨g, 0, none⟩) (M.length + 1) cp)).heap[vb]? = some (.cells #[.slice (some ⟨g, 0, none⟩) (M.length + 1) cp, .int .i64 N1] 75 (0, 0)) := by
    rw [heap_setCell_same _ _ _ _ 75 _ ((GB.out.block _ (blk_lt S1.out.hdr)).trans S1.out.hdr)]
    rfl
  generalize w5.setCell ⟨vb, 0, none⟩ (.slice (some ⟨g, 0, none⟩) (M.length + 1) cp) = w6 at on6 hh6 ⊢
  have sx6 : w6.cell? ⟨vb, 1, none⟩ = some (.int .i64 N1) := cellAt hh6 1
  refine hK.out _ _ sx6 (fun _ => ?_)
  clear hK
  refine wpAnyH_done (by kernel_rfl) ?_ _
  (try refine no_panic ?_)
  have o6 : w6.heap[w.heap.size]? = some emptyOb := (on6.block _ (by omega)).trans ((GB.out.block _ (by have := Z1.out; omega)).trans O1.out)
  have ON := Lib.hid on6
  have HH := Lib.hid hh6
  have O6 := Lib.hid o6
  clear on6 hh6 c0 f0
  obtain ⟨⟨o0, o1, o2, o3, o4, o5⟩, g0, g1, g2, g3, g4, g5⟩ := cells6 O6.out
  go_wp2
  (try simp only [Exit.inBlock, Exit.then])
  have on7 := only6 w.heap.size w6 (.int .i64 11) (.bool false) (.int .i64 N1) (.int .i64 0) (.int .i64 0) (.string ⟨#[]⟩)
  refine bodyPost_ret (ret_cell rfl _ _ _ _ _ _ _ _ rfl rfl (set6 O6.out _ _ _ _ _ _) Try.underlying24 rfl (by kernel_rfl)) rfl ⟨rfl, ?_, ?_⟩
  · generalize ((((((w6.setCell ⟨w.heap.size, 0, none⟩ (.int .i64 11)).setCell ⟨w.heap.size, 1, none⟩ (.bool false)).setCell ⟨w.heap.size, 2, none⟩ (.int .i64 N1)).setCell ⟨w.heap.size, 3, none⟩ (.int .i64 0)).setCell ⟨w.heap.size, 4, none⟩ (.int .i64 0)).setCell ⟨w.heap.size, 5, none⟩ (.string ⟨#[]⟩)) = w7 at on7
    have z1 := Z1.out
    have z3 := Z3.out
    have z4 := K34.out.size
    have z5 := GR.out.size
    have s6 : w6.heap.size = w5.heap.size := ON.out.size
    have s7 : w7.heap.size = w6.heap.size := on7.size
    have hrb := blk_lt HR.out.hdr
    have nvb : ¬ own vb := H.out.mine
    -- what the copy speaks of, in the last world
    have b3 : ∀ b, Plus own w2 w3 b → w7.heap[b]? = w3.heap[b]? := fun b q => by
      have hb : b < w3.heap.size := by
        rcases q with q | q
        · have := HL.out b q
          omega
        · exact q.2
      have h1 : b ≠ w.heap.size := fun e => by
        rcases q with q | q
        · have := HL.out b q
          omega
        · omega
      have h2 : b ≠ vb := fun e => by
        rcases q with q | q
        · exact nvb (e ▸ q)
        · omega
      refine (on7.block b h1).trans ((ON.out.block b h2).trans ((GR.out.block b (by omega) fun e => ?_).trans (K34.out.block b hb)))
      have := NG.out b e.symm
      rcases q with q | q
      · have := HL.out b q
        omega
      · omega
    have b1 : ∀ b, own b → w7.heap[b]? = w1.heap[b]? := fun b q => by
      have := HL.out b q
      exact (on7.block b (by omega)).trans ((ON.out.block b fun e => nvb (e ▸ q)).trans (GB.out.block b (by omega)))
    have pl : ∀ b, Plus own w2 w3 b → Plus own w w7 b := fun b q => q.imp id fun q => ⟨by omega, by omega⟩
    have im : ∀ b, Im (Plus own w2 w3) rb v b → Im (Plus own w w7) rb v b := fun b q => ⟨pl b q.1, q.2.1, q.2.2⟩
    have hgg := HO5.out.lt g rfl
    refine ⟨RR.out.kept pl (by omega) fun b q _ => b3 b q, fb, .slice (some ⟨g, 0, none⟩) (M.length + 1) cp, ⟨(on7.block vb (by omega)).trans HH.out, fun q => ?_, ?_, fun t x hx => ?_, ?_⟩⟩
    · rcases q with q | q
      · exact nvb q
      · omega
    · have q := rowC_of_owns (I := fun b => Im (Plus own w w7) rb v b ∧ b ≠ vb ∧ b ≠ w.heap.size) HO5.out (fun b e => by
        obtain rfl := own_eq e
        exact ⟨⟨.inr ⟨by omega, by omega⟩, by omega, fun e => by have := own_lt HR.out e; omega⟩, by omega, by omega⟩) (fun e => by omega)
      rw [List.length_append, show oneCells (M ++ [⟨N1, fb, R⟩]) = oneCells M ++ oneL ⟨N1, fb, R⟩ from by simp [oneCells]]
      exact q.same (by omega) fun b q _ => ⟨q.1, (on7.block b q.2.2).trans (ON.out.block b q.2.1)⟩
    · rw [List.getElem?_append] at hx
      split at hx
      · obtain ⟨vX, hX⟩ := S1.out.frz t x hx
        exact ⟨vX, hX.kept (fun b q => ⟨.inl q.1, q.2.1, q.2.2⟩) (by omega) fun b q _ => b1 b q.1⟩
      · next hi =>
        have hi' : t - M.length = 0 := by
          have := (List.getElem?_eq_some_iff.1 hx).1
          simp at this
          omega
        rw [hi'] at hx
        obtain rfl : (⟨N1, fb, R⟩ : FS) = x := by simpa using hx
        exact ⟨vF, FF.out.kept im (by omega) fun b q _ => b3 b q.1⟩
    · have := HM.out
      simp
      omega
  · exact (K1.out.trans ((kept_of GB.out fun b q => by have := Z1.out; omega).trans (kept_only ON.out fun q => q.2 rfl))).trans (kept_only on7 fun q => Nat.lt_irrefl _ q.1)
end
end Go.Proofs.Ytmlkmgeddkpgiaa

/- SavePlays: the program's heap and saves beside the reference's. -/
namespace Go.Proofs.Ytmlkmgeddkpgiaa
open Go.RowKit
set_option linter.unusedVariables false

/-- Our blocks may have changed, and there are new ones. -/
theorem SH.mut {own : Nat → Prop} {hb sb last : Nat} {P : List Cel} {L : List Sv} {w w' : World} (h : SH own hb P sb L last w) (k : Kept (fun b => b < w.heap.size ∧ ¬ own b) w w') : SH (Plus own w w') hb P sb L last w' := by
  obtain ⟨role, h1, h2, h3⟩ := h.many
  have ne : ∀ b, b < w.heap.size → (role b).1 ≠ 0 → w'.heap[b]? = w.heap[b]? := fun b hb hc => k.block b ⟨hb, fun e => hc (h3 b (.inl e)).2⟩
  have hs : sb < w.heap.size := h.sat.lt
  refine ⟨⟨paint role w.heap.size fun _ => (0, 0), h1.same fun b hb hc => ⟨ne b hb (by omega), paint_old hb⟩, fun i g hg => (h2 i g hg).same fun b hb hc => ⟨ne b hb (by omega), paint_old hb⟩, fun b hb => ?_⟩, h.sat.same (k.block _ ⟨hs, h.nown⟩) k.size, fun e => ?_⟩
  · by_cases hl : b < w.heap.size
    · have hown : own b ∨ b = sb := by
        rcases hb with (hb | hb) | hb
        · exact .inl hb
        · omega
        · exact .inr hb
      refine ⟨Nat.lt_of_lt_of_le hl k.size, ?_⟩
      rw [paint_old hl]
      exact (h3 b hown).2
    · have : b < w'.heap.size := by
        rcases hb with (hb | hb) | hb
        · exact absurd (h3 b (.inl hb)).1 hl
        · exact hb.2
        · omega
      exact ⟨this, by rw [paint_new (by omega)]⟩
  · rcases e with e | e
    · exact h.nown e
    · omega
/-- Both sides: the program's heap hb with its saves sb, the reference's heap rb with its saves vb; 'own' are the reference's blocks, 'all' those and more of ours. -/
structure Both (all own : Nat → Prop) (hb sb rb vb : Nat) (P : List Cel) (L : List Sv) (last : Nat) (v vs : Value) (R : List RC) (M : List FS) (lr : Nat) (w : World) : Prop where
  sh : SH all hb P sb L last w
  rh : RH own rb v R w
  rs : RSv own rb v vb vs M lr w
  sub : ∀ b, own b → all b
  vba : all vb
section
variable {all own : Nat → Prop} {hb sb rb vb last lr : Nat} {P P' : List Cel} {L L' : List Sv} {v v' vs vs' : Value} {R R' : List RC} {M M' : List FS} {w w' : World}
theorem Both.lt (h : Both all own hb sb rb vb P L last v vs R M lr w) {b : Nat} (q : own b) : b < w.heap.size := h.sh.lt (h.sub b q)
theorem Both.later (h : Both all own hb sb rb vb P L last v vs R M lr w) (k : Below w.heap.size w w') : Both all own hb sb rb vb P L last v vs R M lr w' :=
  ⟨(h.sh.below k).1, h.rh.below k, h.rs.below k fun b q => h.lt q, h.sub, h.vba⟩
theorem Both.box (h : Both all own hb sb rb vb P L last v vs R M lr w) (o : Obj) : Both (fun b => all b ∨ b = w.heap.size) own hb sb rb vb P L last v vs R M lr (w.alloc o) :=
  ⟨h.sh.box o, h.rh.below (box_below _ _), h.rs.below (box_below _ _) fun b q => h.lt q, fun b q => .inl (h.sub b q), .inl h.vba⟩
theorem Both.weak {all' : Nat → Prop} (h : Both all own hb sb rb vb P L last v vs R M lr w) (k : ∀ b, all' b → all b) (hs : ∀ b, own b → all' b) (hv : all' vb) : Both all' own hb sb rb vb P L last v vs R M lr w :=
  ⟨h.sh.sub k, h.rh, h.rs, hs, hv⟩
/-- The program has done something. -/
theorem Both.prog {last' : Nat} (h : Both all own hb sb rb vb P L last v vs R M lr w) (s : SH all hb P' sb L' last' w') (k : Kept all w w') : Both all own hb sb rb vb P' L' last' v vs R M lr w' :=
  ⟨s, h.rh.kept (fun b q => q) k.size fun b q _ => k.block b (h.sub b q), h.rs.keep (fun b q => q) h.rs.mine (k.sub fun b q => by
    rcases q with rfl | q
    · exact h.vba
    · exact h.sub b q.1) (.inl rfl) fun b q => h.lt q, h.sub, h.vba⟩
theorem Both.far (h : Both all own hb sb rb vb P L last v vs R M lr w) {b : Nat} (q : ¬ own b) (hb' : b ≠ vb) : b ≠ rb ∧ b ≠ vb ∧ v.ownBlock ≠ some b :=
  ⟨fun e => q (e ▸ h.rh.mine), hb', fun e => q (by
    rcases h.rh.row with ⟨rfl, _⟩ | ⟨g, cap, rfl, _, q2, _⟩
    · cases e
    · obtain rfl := own_eq e
      exact q2.1)⟩
/-- The reference has done something. -/
theorem Both.ref {lr' : Nat} (h : Both all own hb sb rb vb P L last v vs R M lr w) (k : Kept (fun b => b < w.heap.size ∧ b ≠ rb ∧ b ≠ vb ∧ v.ownBlock ≠ some b) w w') (r : RH (Plus own w w') rb v' R' w') (t : RSv (Plus own w w') rb v' vb vs' M' lr' w') :
    Both (Plus all w w') (Plus own w w') hb sb rb vb P L last v' vs' R' M' lr' w' :=
  ⟨h.sh.mut (k.sub fun b q => ⟨q.1, h.far (fun e => q.2 (h.sub b e)) fun e => q.2 (e ▸ h.vba)⟩), r, t, fun b q => q.imp (h.sub b) id, .inl h.vba⟩
/-- The reference's heap alone has done something. -/
theorem Both.refHeap (h : Both all own hb sb rb vb P L last v vs R M lr w) (k : Kept (fun b => b < w.heap.size ∧ b ≠ rb ∧ v.ownBlock ≠ some b) w w') (r : RH (Plus own w w') rb v' R' w') (hv : v' = v ∨ ∀ g, v'.ownBlock = some g → w.heap.size ≤ g) :
    Both (Plus all w w') (Plus own w w') hb sb rb vb P L last v' vs R' M lr w' := by
  have hvb := blk_lt h.rs.hdr
  refine h.ref (k.sub fun b q => ⟨q.1, q.2.1, q.2.2.2⟩) r (h.rs.keep (fun b q => .inl q) (fun q => q.elim h.rs.mine fun q => by omega) (k.sub fun b q => ?_) hv fun b q => h.lt q)
  rcases q with rfl | q
  · exact ⟨hvb, fun e => h.rs.mine (e ▸ h.rh.mine), fun e => h.rs.mine (by
      rcases h.rh.row with ⟨rfl, _⟩ | ⟨g, cap, rfl, _, q2, _⟩
      · cases e
      · obtain rfl := own_eq e
        exact q2.1)⟩
  · exact ⟨h.lt q.1, q.2⟩
end
end Go.Proofs.Ytmlkmgeddkpgiaa

/- SavePlays: the empty heaps and saves. -/
namespace Go.Proofs.Ytmlkmgeddkpgiaa
open Go.RowKit
set_option linter.unusedVariables false

/-- A new heap of the reference. -/
theorem RH.new (w : World) : RH (fun b => b = w.heap.size) w.heap.size (.slice none 0 0) [] (w.alloc (.cells #[.slice none 0 0] 31)) :=
  ⟨heap_alloc_new _ _, rfl, .inl ⟨rfl, rfl, rfl⟩, fun i r h => (by simp at h), ⟨Nat.zero_le _, by decide, fun c h => by simp [cels] at h⟩, fun g h => (by simp [Value.ownBlock] at h)⟩
/-- New saves of the reference. -/
theorem RSv.new {own : Nat → Prop} {rb : Nat} {v : Value} (w : World) (hl : ∀ b, own b → b < w.heap.size) : RSv own rb v w.heap.size (.slice none 0 0) [] 0 (w.alloc (.cells #[.slice none 0 0, .int .i64 0] 75)) :=
  ⟨heap_alloc_new _ _, fun q => Nat.lt_irrefl _ (hl _ q), .inl ⟨rfl, rfl, rfl⟩, fun i r h => (by simp at h), by decide⟩
/-- All four, in the order of the law: w the world behind the program's heap, wb behind its saves. -/
theorem Both.new {all : Nat → Prop} {hb sb rb : Nat} {w : World} (s : SH all hb [] sb [] 0 w) (r : RH (fun b => b = rb) rb (.slice none 0 0) [] w) (q : all rb) :
    Both (fun b => all b ∨ b = w.heap.size) (fun b => b = rb) hb sb rb w.heap.size [] [] 0 (.slice none 0 0) (.slice none 0 0) [] [] 0 (w.alloc (.cells #[.slice none 0 0, .int .i64 0] 75)) :=
  ⟨s.box _, r.below (box_below _ _), RSv.new w fun b e => s.lt (e ▸ q), fun b e => .inl (e ▸ q), .inr rfl⟩
end Go.Proofs.Ytmlkmgeddkpgiaa

/- SavePlays: what is kept from round to round. -/
namespace Go.Proofs.Ytmlkmgeddkpgiaa
open Go.RowKit
set_option linter.unusedVariables false

theorem Pair.push {M : List FS} {L : List Sv} (h : Pair M L) (n g fb : Nat) {P : List Cel} {R : List RC} (hc : cels R = P) : Pair (M ++ [⟨n, fb, R⟩]) (L ++ [⟨n, g, P⟩]) := by
  refine ⟨by simp [h.num], fun i s t hs ht => ?_⟩
  have hl := h.len
  rw [List.getElem?_append] at hs ht
  by_cases hi : i < M.length
  · rw [if_pos hi] at hs
    rw [if_pos (by omega)] at ht
    exact h.cel i s t hs ht
  · rw [if_neg hi] at hs
    rw [if_neg (by omega)] at ht
    rw [← hl] at ht
    cases hk : i - M.length with
    | zero =>
      rw [hk] at hs ht
      simp at hs ht
      subst hs ht
      exact hc
    | succ k =>
      rw [hk] at hs
      simp at hs
theorem Pair.take {M : List FS} {L : List Sv} (h : Pair M L) (i : Nat) : Pair (M.take i) (L.take i) := by
  refine ⟨by rw [List.map_take, List.map_take, h.num], fun j s t hs ht => ?_⟩
  rw [List.getElem?_take] at hs ht
  by_cases hj : j < i
  · rw [if_pos hj] at hs ht
    exact h.cel j s t hs ht
  · rw [if_neg hj] at hs
    cases hs
theorem Pair.nil : Pair [] [] := ⟨rfl, fun i s t h => by simp at h⟩
theorem setP_len (P : List Cel) (o : Ob) (i : Int) (x : Ob) : (setP P o i x).length = P.length := by
  unfold setP
  split <;> simp
theorem putItem_size (c : Cel) (j : Nat) (x : Ob) : (putItem c j x).size = c.size := by
  unfold putItem Cel.size
  split <;> simp
theorem setP_used (P : List Cel) (o : Ob) (i : Int) (x : Ob) : usedP (setP P o i x) = usedP P := by
  unfold setP
  split
  · by_cases hl : o.n.toNat < P.length
    · have hc : P[o.n.toNat]? = some (cellOf P o) := by
        unfold cellOf
        rw [List.getD_eq_getElem?_getD, List.getElem?_eq_getElem hl]
        rfl
      exact used_set hc (putItem_size _ _ _)
    · rw [List.set_eq_of_length_le (by omega)]
  · rfl
/-- Small: at most j cells, of 100 bytes each, all strings that nobody has locked. -/
structure Few (P : List Cel) (j : Nat) : Prop where
  strs : Strs P
  len : P.length ≤ j
  used : usedP P ≤ 100 * j
theorem Few.mono {P : List Cel} {j k : Nat} (h : Few P j) (hk : j ≤ k) : Few P k := ⟨h.strs, by have := h.len; omega, by have := h.used; omega⟩
theorem Few.set {P : List Cel} {j : Nat} (h : Few P j) (o : Ob) (i : Int) (x : Ob) : Few (setP P o i x) j := ⟨h.strs.set o i x, by rw [setP_len]; exact h.len, by rw [setP_used]; exact h.used⟩
theorem Few.push {P : List Cel} {j : Nat} (h : Few P j) (s : ByteArray) (hs : s.size ≤ 100) : Few (P ++ [⟨8, false, [], s.data.toList⟩]) (j + 1) := by
  refine ⟨fun c hc => ?_, by have := h.len; simp; omega, ?_⟩
  · rcases List.mem_append.1 hc with q | q
    · exact h.strs c q
    · obtain rfl := List.mem_singleton.1 q
      exact ⟨rfl, rfl⟩
  · rw [used_append]
    have := h.used
    have e : (⟨8, false, [], s.data.toList⟩ : Cel).size = s.size := by simp [Cel.size]
    rw [e]
    omega
/-- What holds of the plain sides behind j rounds. -/
structure PlayOk (j : Nat) (P : List Cel) (L : List Sv) (last : Nat) (R : List RC) (M : List FS) : Prop where
  cel : cels R = P
  pair : Pair M L
  few : Few P j
  last : last ≤ j
  sv : ∀ t ∈ L, Few t.q j
section
variable {j last : Nat} {P : List Cel} {L : List Sv} {R R' : List RC} {M : List FS}
theorem PlayOk.start : PlayOk 0 [] [] 0 [] [] := ⟨rfl, Pair.nil, ⟨fun c h => by simp at h, Nat.zero_le _, by decide⟩, Nat.le_refl _, fun t h => by simp at h⟩
theorem PlayOk.next (h : PlayOk j P L last R M) : PlayOk (j + 1) P L last R M := ⟨h.cel, h.pair, h.few.mono (by omega), by have := h.last; omega, fun t q => (h.sv t q).mono (by omega)⟩
theorem PlayOk.save (h : PlayOk j P L last R M) (g fb : Nat) : PlayOk (j + 1) P (L ++ [⟨last + 1, g, P⟩]) (last + 1) R (M ++ [⟨last + 1, fb, R⟩]) :=
  ⟨h.cel, h.pair.push _ _ _ h.cel, h.few.mono (by omega), by have := h.last; omega, fun t q => by
    rcases List.mem_append.1 q with q | q
    · exact (h.sv t q).mono (by omega)
    · obtain rfl := List.mem_singleton.1 q
      exact h.few.mono (by omega)⟩
theorem PlayOk.back (h : PlayOk j P L last R M) {i : Nat} {s : FS} {t : Sv} (hs : M[i]? = some s) (ht : L[i]? = some t) : PlayOk (j + 1) t.q (L.take i) last s.F (M.take i) :=
  ⟨h.pair.cel i s t hs ht, h.pair.take i, (h.sv t (List.mem_of_getElem? ht)).mono (by omega), by have := h.last; omega, fun t q => (h.sv t (List.mem_of_mem_take q)).mono (by omega)⟩
theorem PlayOk.string (h : PlayOk j P L last R M) (s : ByteArray) (hs : s.size ≤ 100) (hc : cels R' = cels R ++ [⟨8, false, [], s.data.toList⟩]) : PlayOk (j + 1) (P ++ [⟨8, false, [], s.data.toList⟩]) L last R' M :=
  ⟨by rw [hc, h.cel], h.pair, h.few.push s hs, by have := h.last; omega, fun t q => (h.sv t q).mono (by omega)⟩
theorem PlayOk.set (h : PlayOk j P L last R M) (o : Ob) (c : Int) (hc : cels R' = setP (cels R) o 0 (Ob.num c)) : PlayOk (j + 1) (setP P o 0 (Ob.num c)) L last R' M :=
  ⟨by rw [hc, h.cel], h.pair, (h.few.set o 0 _).mono (by omega), by have := h.last; omega, fun t q => (h.sv t q).mono (by omega)⟩
end
section
variable {all own : Nat → Prop} {hb sb rb vb last lr : Nat} {P : List Cel} {L : List Sv} {v vs : Value} {R : List RC} {M : List FS} {w w' : World}
/-- A slice of ours that is not the reference's has grown. -/
theorem Both.grow {q : Option Nat} (h : Both all own hb sb rb vb P L last v vs R M lr w) (k : w.grownBy w' q) (hq : ∀ g, q = some g → all g ∧ ¬ own g ∧ g ≠ vb) : Both (Plus all w w') own hb sb rb vb P L last v vs R M lr w' := by
  have ne : ∀ b, own b → w'.heap[b]? = w.heap[b]? := fun b o => k.block b (h.lt o) fun e => (hq b e.symm).2.1 o
  refine ⟨h.sh.grow k fun g e => (hq g e).1, h.rh.kept (fun b q => q) k.size fun b o _ => ne b o, h.rs.keep (fun b q => q) h.rs.mine ⟨k.os, k.tape, k.output, k.size, fun b o => ?_⟩ (.inl rfl) fun b q => h.lt q, fun b q => .inl (h.sub b q), .inl h.vba⟩
  rcases o with rfl | o
  · exact k.block _ (blk_lt h.rs.hdr) fun e => (hq _ e.symm).2.2 rfl
  · exact ne b o.1
end
end Go.Proofs.Ytmlkmgeddkpgiaa

/- SavePlays: the walk. -/
namespace Go.Proofs.Ytmlkmgeddkpgiaa
open Go.RowKit
set_option linter.unusedVariables false

/-- Behind j rounds: X, Y the objects of the two lists. -/
structure PlaySt (n0 : Nat) (w0 : World) (hb sb rb vb j : Nat) (v7 v8 : Value) (w : World) : Prop where
  st : ∃ (own : Nat → Prop) (P : List Cel) (L : List Sv) (last : Nat) (v vs : Value) (R : List RC) (M : List FS), Both (fun b => b < n0 ∨ own b ∨ b = vb ∨ v7.ownBlock = some b ∨ v8.ownBlock = some b) own hb sb rb vb P L last v vs R M last w ∧ PlayOk j P L last R M ∧ (∀ b, own b → n0 ≤ b) ∧ (∀ g, v7.ownBlock = some g → ¬ own g ∧ g ≠ vb ∧ v8.ownBlock ≠ some g) ∧ ∀ g, v8.ownBlock = some g → ¬ own g ∧ g ≠ vb
  r7 : ∃ X : List Ob, X.length ≤ j ∧ w.ownsRow n0 24 6 v7 X.length (obCells X)
  r8 : ∃ X : List Ob, X.length ≤ j ∧ w.ownsRow n0 24 6 v8 X.length (obCells X)
  vb0 : n0 ≤ vb
  below : Below n0 w0 w
/-- A thing to do: its cells in the row. -/
structure ActV where
  what : Int
  n : Int
  v : Int
  s : ByteArray
  o : Ob
abbrev actL (A : ActV) : List Value := [.int .i64 A.what, .int .i64 A.n, .int .u8 A.v, .string A.s, .int .i64 A.o.k, .bool A.o.x, .int .i64 A.o.n, .int .i64 A.o.a, .int .i64 A.o.l, .string A.o.s]
structure ActAt (w : World) (p : Option Addr) (i : Nat) (A : ActV) : Prop where
  at_ : ∃ ad, p = some ad ∧ ad.block < w.heap.size ∧ ∀ j u, (actL A)[j]? = some u → w.cell? ((ad.add (i * 10)).add j) = some u
  v0 : 0 ≤ A.v
  v1 : A.v ≤ 255
theorem add_block (a : Addr) (k : Nat) : (a.add k).block = a.block := by
  unfold Addr.add
  split <;> rfl
theorem PlaySt.later {n0 hb sb rb vb j : Nat} {w0 w w' : World} {v7 v8 : Value} (h : PlaySt n0 w0 hb sb rb vb j v7 v8 w) (k : Below w.heap.size w w') : PlaySt n0 w0 hb sb rb vb j v7 v8 w' := by
  obtain ⟨own, P, L, last, v, vs, R, M, h1, h2, h3, h4, h5⟩ := h.st
  obtain ⟨X, x1, x2⟩ := h.r7
  obtain ⟨Y, y1, y2⟩ := h.r8
  exact ⟨⟨own, P, L, last, v, vs, R, M, h1.later k, h2, h3, h4, h5⟩, ⟨X, x1, owns_at x2 fun g e => k.block g (x2.lt g e).2⟩, ⟨Y, y1, owns_at y2 fun g e => k.block g (y2.lt g e).2⟩, h.vb0, h.below.trans (k.mono (Nat.le_trans h.vb0 (Nat.le_of_lt (h1.sh.lt h1.vba))))⟩
/-- The blocks that a round speaks of. -/
def RAll (n0 vb ba bo bt : Nat) (v7 v8 : Value) (own : Nat → Prop) (b : Nat) : Prop := b < n0 ∨ own b ∨ b = vb ∨ v7.ownBlock = some b ∨ v8.ownBlock = some b ∨ b = ba ∨ b = bo ∨ b = bt
/-- In a round: what is done in the box ba, the object asked in bo, the string in bt. -/
structure RoundSt (n0 : Nat) (w0 : World) (hb sb rb vb ba bo bt j : Nat) (v7 v8 : Value) (A : ActV) (o t : Ob) (own : Nat → Prop) (P : List Cel) (L : List Sv) (last : Nat) (v vs : Value) (R : List RC) (M : List FS) (lr : Nat) (w : World) : Prop where
  both : Both (RAll n0 vb ba bo bt v7 v8 own) own hb sb rb vb P L last v vs R M lr w
  r7 : ∃ X : List Ob, X.length ≤ j ∧ w.ownsRow n0 24 6 v7 X.length (obCells X)
  r8 : ∃ X : List Ob, X.length ≤ j ∧ w.ownsRow n0 24 6 v8 X.length (obCells X)
  ab : ∀ b, own b → n0 ≤ b
  far : ∀ b, (v7.ownBlock = some b ∨ v8.ownBlock = some b ∨ b = ba ∨ b = bo ∨ b = bt) → ¬ own b ∧ b ≠ vb
  a7 : ∀ b, v7.ownBlock = some b → v8.ownBlock ≠ some b ∧ b ≠ ba ∧ b ≠ bo ∧ b ≠ bt
  a8 : ∀ b, v8.ownBlock = some b → b ≠ ba ∧ b ≠ bo ∧ b ≠ bt
  act : w.heap[ba]? = some (.cells (actL A).toArray 77 (0, 0))
  ob : w.heap[bo]? = some (obObj o.k o.x o.n o.a o.l o.s)
  st : w.heap[bt]? = some (obObj t.k t.x t.n t.a t.l t.s)
  vb0 : n0 ≤ vb
  below : Below n0 w0 w
  ne : ba ≠ bo ∧ ba ≠ bt ∧ bo ≠ bt
  low : n0 ≤ bo ∧ n0 ≤ bt
section
variable {n0 hb sb rb vb ba bo bt j last lr : Nat} {w0 w w' : World} {v7 v8 v vs v' vs' : Value} {A : ActV} {o t : Ob} {own : Nat → Prop} {P P' : List Cel} {L L' : List Sv} {R R' : List RC} {M M' : List FS}
theorem RoundSt.prog {last' : Nat} (h : RoundSt n0 w0 hb sb rb vb ba bo bt j v7 v8 A o t own P L last v vs R M lr w) (s : SH (RAll n0 vb ba bo bt v7 v8 own) hb P' sb L' last' w') (k : Kept (RAll n0 vb ba bo bt v7 v8 own) w w') : RoundSt n0 w0 hb sb rb vb ba bo bt j v7 v8 A o t own P' L' last' v vs R M lr w' := by
  obtain ⟨X, x1, x2⟩ := h.r7
  obtain ⟨Y, y1, y2⟩ := h.r8
  exact ⟨h.both.prog s k, ⟨X, x1, owns_at x2 fun g e => k.block g (.inr (.inr (.inr (.inl e))))⟩, ⟨Y, y1, owns_at y2 fun g e => k.block g (.inr (.inr (.inr (.inr (.inl e)))))⟩, h.ab, h.far, h.a7, h.a8, (k.block _ (.inr (.inr (.inr (.inr (.inr (.inl rfl))))))).trans h.act, (k.block _ (.inr (.inr (.inr (.inr (.inr (.inr (.inl rfl)))))))).trans h.ob, (k.block _ (.inr (.inr (.inr (.inr (.inr (.inr (.inr rfl)))))))).trans h.st, h.vb0, h.below.trans (k.below fun _ q => .inl q), h.ne, h.low⟩
theorem RoundSt.later (h : RoundSt n0 w0 hb sb rb vb ba bo bt j v7 v8 A o t own P L last v vs R M lr w) (k : Below w.heap.size w w') : RoundSt n0 w0 hb sb rb vb ba bo bt j v7 v8 A o t own P L last v vs R M lr w' :=
  h.prog (h.both.sh.below k).1 (h.both.sh.below k).2
theorem RoundSt.lt (h : RoundSt n0 w0 hb sb rb vb ba bo bt j v7 v8 A o t own P L last v vs R M lr w) {b : Nat} (q : RAll n0 vb ba bo bt v7 v8 own b) : b < w.heap.size := h.both.sh.lt q
/-- The reference has done something. -/
theorem RoundSt.ref {lr' : Nat} (h : RoundSt n0 w0 hb sb rb vb ba bo bt j v7 v8 A o t own P L last v vs R M lr w) (k : Kept (fun b => b < w.heap.size ∧ b ≠ rb ∧ b ≠ vb ∧ v.ownBlock ≠ some b) w w')
    (B : Both (Plus (RAll n0 vb ba bo bt v7 v8 own) w w') (Plus own w w') hb sb rb vb P L last v' vs' R' M' lr' w') : RoundSt n0 w0 hb sb rb vb ba bo bt j v7 v8 A o t (Plus own w w') P L last v' vs' R' M' lr' w' := by
  obtain ⟨X, x1, x2⟩ := h.r7
  obtain ⟨Y, y1, y2⟩ := h.r8
  have lt7 : ∀ b, (v7.ownBlock = some b ∨ v8.ownBlock = some b ∨ b = ba ∨ b = bo ∨ b = bt) → b < w.heap.size := fun b q => h.lt (.inr (.inr (.inr q)))
  have kb : ∀ b, (v7.ownBlock = some b ∨ v8.ownBlock = some b ∨ b = ba ∨ b = bo ∨ b = bt) → w'.heap[b]? = w.heap[b]? := fun b q => k.block b ⟨lt7 b q, h.both.far (h.far b q).1 (h.far b q).2⟩
  refine ⟨B.weak (fun b q => ?_) (fun b q => .inr (.inl q)) (.inr (.inr (.inl rfl))), ⟨X, x1, owns_at x2 fun g e => kb g (.inl e)⟩, ⟨Y, y1, owns_at y2 fun g e => kb g (.inr (.inl e))⟩, fun b q => ?_, fun b q => ⟨fun e => ?_, (h.far b q).2⟩, h.a7, h.a8, (kb _ (.inr (.inr (.inl rfl)))).trans h.act, (kb _ (.inr (.inr (.inr (.inl rfl))))).trans h.ob, (kb _ (.inr (.inr (.inr (.inr rfl))))).trans h.st, h.vb0, h.below.trans (k.below fun b q => ⟨?_, h.both.far (fun e => ?_) fun e => ?_⟩), h.ne, h.low⟩
  · rcases q with q | (q | q) | q
    · exact .inl (.inl q)
    · exact .inl (.inr (.inl q))
    · exact .inr q
    · exact .inl (.inr (.inr q))
  · rcases q with q | q
    · exact h.ab b q
    · have := h.below.size
      have := h.lt (b := vb) (.inr (.inr (.inl rfl)))
      have := h.vb0
      omega
  · rcases e with e | e
    · exact (h.far b q).1 e
    · have := lt7 b q
      omega
  · exact h.lt (.inl q)
  · have := h.ab _ e
    omega
  · have := h.vb0
    omega
/-- A round's end. -/
theorem RoundSt.done (h : RoundSt n0 w0 hb sb rb vb ba bo bt j v7 v8 A o t own P L last v vs R M last w) (q : PlayOk j P L last R M) : PlaySt n0 w0 hb sb rb vb j v7 v8 w :=
  ⟨⟨own, P, L, last, v, vs, R, M, h.both.weak (fun b q => by
    rcases q with q | q | q | q | q
    · exact .inl q
    · exact .inr (.inl q)
    · exact .inr (.inr (.inl q))
    · exact .inr (.inr (.inr (.inl q)))
    · exact .inr (.inr (.inr (.inr (.inl q))))) (fun b q => .inr (.inl q)) (.inr (.inr (.inl rfl))), q, h.ab, fun g e => ⟨(h.far g (.inl e)).1, (h.far g (.inl e)).2, (h.a7 g e).1⟩, fun g e => h.far g (.inr (.inl e))⟩, h.r7, h.r8, h.vb0, h.below⟩
/-- A round's beginning: the three boxes are made, the last two in either order. -/
theorem PlaySt.enter {wr : World} (h : PlaySt n0 w0 hb sb rb vb j v7 v8 wr) (A : ActV) (hbt : (bo = wr.heap.size + 1 ∧ bt = wr.heap.size + 1 + 1) ∨ (bo = wr.heap.size + 1 + 1 ∧ bt = wr.heap.size + 1)) (w5 : World) (e5 : wr.alloc (.cells (actL A).toArray 77) = w5)
    (k : Below (wr.heap.size + 3) ((w5.alloc (obObj A.o.k A.o.x A.o.n A.o.a A.o.l A.o.s)).alloc (obObj A.o.k A.o.x A.o.n A.o.a A.o.l A.o.s)) w') :
    ∃ own P L last v vs R M, RoundSt n0 w0 hb sb rb vb wr.heap.size bo bt j v7 v8 A A.o A.o own P L last v vs R M last w' ∧ PlayOk j P L last R M := by
  subst e5
  obtain ⟨own, P, L, last, v, vs, R, M, h1, h2, h3, h4, h5⟩ := h.st
  obtain ⟨X, x1, x2⟩ := h.r7
  obtain ⟨Y, y1, y2⟩ := h.r8
  have hlt : ∀ b, (b < n0 ∨ own b ∨ b = vb ∨ v7.ownBlock = some b ∨ v8.ownBlock = some b) → b < wr.heap.size := fun b q => h1.sh.lt q
  have l7 : ∀ b, v7.ownBlock = some b → b < wr.heap.size := fun b q => hlt b (.inr (.inr (.inr (.inl q))))
  have l8 : ∀ b, v8.ownBlock = some b → b < wr.heap.size := fun b q => hlt b (.inr (.inr (.inr (.inr q))))
  have lo : ∀ b, own b → b < wr.heap.size := fun b q => hlt b (.inr (.inl q))
  have lv : vb < wr.heap.size := hlt vb (.inr (.inr (.inl rfl)))
  have B := (((h1.box (.cells (actL A).toArray 77)).box (obObj A.o.k A.o.x A.o.n A.o.a A.o.l A.o.s)).box (obObj A.o.k A.o.x A.o.n A.o.a A.o.l A.o.s)).later (w' := w') (by simpa using k)
  have kw : Below wr.heap.size wr w' := ((((Below.refl _ wr).alloc (Nat.le_refl _) _).alloc (by simp) _).alloc (by simp; omega) _).trans (k.mono (by omega))
  have b0 : w'.heap[wr.heap.size]? = some (.cells (actL A).toArray 77 (0, 0)) := by
    rw [k.block _ (by omega), heap_alloc_old _ _ (by simp <;> omega), heap_alloc_old _ _ (by simp <;> omega)]
    exact heap_alloc_new _ _
  have b1 : w'.heap[wr.heap.size + 1]? = some (obObj A.o.k A.o.x A.o.n A.o.a A.o.l A.o.s) := by
    rw [k.block _ (by omega), heap_alloc_old _ _ (by simp <;> omega)]
    simpa using heap_alloc_new (wr.alloc (.cells (actL A).toArray 77)) (obObj A.o.k A.o.x A.o.n A.o.a A.o.l A.o.s)
  have b2 : w'.heap[wr.heap.size + 1 + 1]? = some (obObj A.o.k A.o.x A.o.n A.o.a A.o.l A.o.s) := by
    rw [k.block _ (by omega)]
    simpa using heap_alloc_new ((wr.alloc (.cells (actL A).toArray 77)).alloc (obObj A.o.k A.o.x A.o.n A.o.a A.o.l A.o.s)) (obObj A.o.k A.o.x A.o.n A.o.a A.o.l A.o.s)
  refine ⟨own, P, L, last, v, vs, R, M, ⟨B.weak (fun b q => ?_) (fun b q => .inr (.inl q)) (.inr (.inr (.inl rfl))), ⟨X, x1, owns_at x2 fun g e => kw.block g (l7 g e)⟩, ⟨Y, y1, owns_at y2 fun g e => kw.block g (l8 g e)⟩, h3, fun b q => ?_, fun b q => ⟨(h4 b q).2.2, ?_⟩, fun b q => ?_, b0, ?_, ?_, h.vb0, h.below.trans (kw.mono (Nat.le_trans h.vb0 (Nat.le_of_lt lv))), by omega, by have := h.vb0; omega⟩, h2⟩
  · simp only [World.size_alloc]
    rcases q with q | q | q | q | q | q | q | q
    · exact .inl (.inl (.inl (.inl q)))
    · exact .inl (.inl (.inl (.inr (.inl q))))
    · exact .inl (.inl (.inl (.inr (.inr (.inl q)))))
    · exact .inl (.inl (.inl (.inr (.inr (.inr (.inl q))))))
    · exact .inl (.inl (.inl (.inr (.inr (.inr (.inr q))))))
    · exact .inl (.inl (.inr q))
    · rcases hbt with ⟨rfl, rfl⟩ | ⟨rfl, rfl⟩
      · exact .inl (.inr q)
      · exact .inr q
    · rcases hbt with ⟨rfl, rfl⟩ | ⟨rfl, rfl⟩
      · exact .inr q
      · exact .inl (.inr q)
  · rcases q with q | q | q
    · exact ⟨(h4 b q).1, (h4 b q).2.1⟩
    · exact h5 b q
    · refine ⟨fun e => ?_, fun e => ?_⟩
      · have := lo b e
        omega
      · omega
  · have := l7 b q
    omega
  · have := l8 b q
    omega
  · rcases hbt with ⟨rfl, rfl⟩ | ⟨rfl, rfl⟩
    · exact b1
    · exact b2
  · rcases hbt with ⟨rfl, rfl⟩ | ⟨rfl, rfl⟩
    · exact b2
    · exact b1
/-- Other blocks of ours than the reference's have changed. -/
theorem Both.wrote {all own : Nat → Prop} (h : Both all own hb sb rb vb P L last v vs R M lr w) {c : Nat} (hc : all c ∧ ¬ own c ∧ c ≠ vb) (k : Kept (fun b => b < w.heap.size ∧ b ≠ c) w w') : Both (Plus all w w') own hb sb rb vb P L last v vs R M lr w' := by
  have ne : ∀ b, own b → w'.heap[b]? = w.heap[b]? := fun b o => k.block b ⟨h.lt o, fun e => hc.2.1 (e ▸ o)⟩
  refine ⟨h.sh.mut (k.sub fun b q => ⟨q.1, fun e => q.2 (e ▸ hc.1)⟩), h.rh.kept (fun b q => q) k.size fun b o _ => ne b o, h.rs.keep (fun b q => q) h.rs.mine (k.sub fun b q => ?_) (.inl rfl) fun b q => h.lt q, fun b q => .inl (h.sub b q), .inl h.vba⟩
  rcases q with rfl | q
  · exact ⟨blk_lt h.rs.hdr, fun e => hc.2.2 e.symm⟩
  · exact ⟨h.lt q.1, fun e => hc.2.1 (e ▸ q.1)⟩
/-- The object asked is another. -/
theorem RoundSt.setO (h : RoundSt n0 w0 hb sb rb vb ba bo bt j v7 v8 A o t own P L last v vs R M lr w) (o' : Ob) (k : Kept (fun b => b < w.heap.size ∧ b ≠ bo) w w') (q : w'.heap[bo]? = some (obObj o'.k o'.x o'.n o'.a o'.l o'.s)) : RoundSt n0 w0 hb sb rb vb ba bo bt j v7 v8 A o' t own P L last v vs R M lr w' := by
  obtain ⟨X, x1, x2⟩ := h.r7
  obtain ⟨Y, y1, y2⟩ := h.r8
  have l : ∀ b, RAll n0 vb ba bo bt v7 v8 own b → b < w.heap.size := fun b q => h.lt q
  exact ⟨(h.both.wrote (c := bo) ⟨.inr (.inr (.inr (.inr (.inr (.inr (.inl rfl)))))), (h.far bo (.inr (.inr (.inr (.inl rfl))))).1, (h.far bo (.inr (.inr (.inr (.inl rfl))))).2⟩ k).weak (fun b q => .inl q) (fun b q => .inr (.inl q)) (.inr (.inr (.inl rfl))), ⟨X, x1, owns_at x2 fun g e => k.block g ⟨l g (.inr (.inr (.inr (.inl e)))), (h.a7 g e).2.2.1⟩⟩, ⟨Y, y1, owns_at y2 fun g e => k.block g ⟨l g (.inr (.inr (.inr (.inr (.inl e))))), (h.a8 g e).2.1⟩⟩, h.ab, h.far, h.a7, h.a8, (k.block _ ⟨l ba (.inr (.inr (.inr (.inr (.inr (.inl rfl)))))), h.ne.1⟩).trans h.act, q, (k.block _ ⟨l bt (.inr (.inr (.inr (.inr (.inr (.inr (.inr rfl))))))), fun e => h.ne.2.2 e.symm⟩).trans h.st, h.vb0, h.below.trans (k.below fun b q => ⟨l b (.inl q), fun e => by have := h.low.1; omega⟩), h.ne, h.low⟩
/-- The string is another. -/
theorem RoundSt.setT (h : RoundSt n0 w0 hb sb rb vb ba bo bt j v7 v8 A o t own P L last v vs R M lr w) (t' : Ob) (k : Kept (fun b => b < w.heap.size ∧ b ≠ bt) w w') (q : w'.heap[bt]? = some (obObj t'.k t'.x t'.n t'.a t'.l t'.s)) : RoundSt n0 w0 hb sb rb vb ba bo bt j v7 v8 A o t' own P L last v vs R M lr w' := by
  obtain ⟨X, x1, x2⟩ := h.r7
  obtain ⟨Y, y1, y2⟩ := h.r8
  have l : ∀ b, RAll n0 vb ba bo bt v7 v8 own b → b < w.heap.size := fun b q => h.lt q
  exact ⟨(h.both.wrote (c := bt) ⟨.inr (.inr (.inr (.inr (.inr (.inr (.inr rfl)))))), (h.far bt (.inr (.inr (.inr (.inr rfl))))).1, (h.far bt (.inr (.inr (.inr (.inr rfl))))).2⟩ k).weak (fun b q => .inl q) (fun b q => .inr (.inl q)) (.inr (.inr (.inl rfl))), ⟨X, x1, owns_at x2 fun g e => k.block g ⟨l g (.inr (.inr (.inr (.inl e)))), (h.a7 g e).2.2.2⟩⟩, ⟨Y, y1, owns_at y2 fun g e => k.block g ⟨l g (.inr (.inr (.inr (.inr (.inl e))))), (h.a8 g e).2.2⟩⟩, h.ab, h.far, h.a7, h.a8, (k.block _ ⟨l ba (.inr (.inr (.inr (.inr (.inr (.inl rfl)))))), h.ne.2.1⟩).trans h.act, (k.block _ ⟨l bo (.inr (.inr (.inr (.inr (.inr (.inr (.inl rfl))))))), h.ne.2.2⟩).trans h.ob, q, h.vb0, h.below.trans (k.below fun b q => ⟨l b (.inl q), fun e => by have := h.low.2; omega⟩), h.ne, h.low⟩
end
end Go.Proofs.Ytmlkmgeddkpgiaa

/- SavePlays: what each call does to a round's state. -/
namespace Go.Proofs.Ytmlkmgeddkpgiaa
open Go.RowKit
set_option linter.unusedVariables false

theorem cells6_new (w : World) (o : Ob) (t : TypeId) : ∀ j u, o.cells[j]? = some u → (w.alloc (.cells o.cells.toArray t)).cell? (Addr.add ⟨w.heap.size, 0, none⟩ j) = some u := fun j u h => by
  rw [Addr.add_mid, Nat.zero_add, cellAt (heap_alloc_new _ _)]
  simpa using h

section
variable {n0 hb sb rb vb ba bo bt j last lr : Nat} {w0 w w' : World} {v7 v8 v vs : Value} {A : ActV} {o t : Ob} {own : Nat → Prop} {P : List Cel} {L : List Sv} {R : List RC} {M : List FS}
theorem RoundSt.up (h : RoundSt n0 w0 hb sb rb vb ba bo bt j v7 v8 A o t own P L last v vs R M lr w) : RoundSt n0 w0 hb sb rb vb ba bo bt (j + 1) v7 v8 A o t own P L last v vs R M lr w := by
  obtain ⟨X, x1, x2⟩ := h.r7
  obtain ⟨Y, y1, y2⟩ := h.r8
  exact ⟨h.both, ⟨X, by omega, x2⟩, ⟨Y, by omega, y2⟩, h.ab, h.far, h.a7, h.a8, h.act, h.ob, h.st, h.vb0, h.below, h.ne, h.low⟩
theorem RoundSt.ownlt (h : RoundSt n0 w0 hb sb rb vb ba bo bt j v7 v8 A o t own P L last v vs R M lr w) : ∀ b, own b → b < w.heap.size := fun b q => h.both.lt q
/-- What is neither ours nor the saves' header has not changed. -/
def Far (own : Nat → Prop) (vb : Nat) (w w' : World) : Prop := ∀ b, b < w.heap.size → ¬ own b → b ≠ vb → w'.heap[b]? = w.heap[b]?
theorem RoundSt.fars (h : RoundSt n0 w0 hb sb rb vb ba bo bt j v7 v8 A o t own P L last v vs R M lr w) (k : Kept (fun b => b < w.heap.size ∧ b ≠ rb ∧ b ≠ vb ∧ v.ownBlock ≠ some b) w w') : Far own vb w w' :=
  fun b q o e => k.block b ⟨q, h.both.far o e⟩
/-- A box more. -/
theorem RoundSt.boxed (h : RoundSt n0 w0 hb sb rb vb ba bo bt j v7 v8 A o t own P L last v vs R M lr w) (k : Int) (x : Bool) (n a l : Int) (s : ByteArray) :
    ∃ wb, w.alloc (.cells #[.int .i64 k, .bool x, .int .i64 n, .int .i64 a, .int .i64 l, .string s] 24) = wb ∧ RoundSt n0 w0 hb sb rb vb ba bo bt j v7 v8 A o t own P L last v vs R M lr wb ∧ wb.heap[w.heap.size]? = some (obObj k x n a l s) ∧ w.heap.size < wb.heap.size ∧ (¬ own w.heap.size ∧ w.heap.size ≠ vb) ∧ SH (fun b => RAll n0 vb ba bo bt v7 v8 own b ∨ b = w.heap.size) hb P sb L last wb ∧ Below w.heap.size w wb := by
  refine ⟨_, rfl, h.later (box_below _ _), heap_alloc_new _ _, by simp, ⟨fun q => ?_, fun q => ?_⟩, h.both.sh.box _, box_below _ _⟩
  · exact Nat.lt_irrefl _ (h.ownlt _ q)
  · have := h.lt (b := vb) (.inr (.inr (.inl rfl)))
    omega
theorem RoundSt.saveP (h : RoundSt n0 w0 hb sb rb vb ba bo bt j v7 v8 A o t own P L last v vs R M lr w) (hl : L.length < 10) (hL : last < 4611686018427387904) :
    Calls Try.prog 45 #[ptr sb, ptr hb] w fun e w' => e = .returned (.tuple #[obV 11 false ((last + 1 : Nat) : Int) 0 0 ⟨#[]⟩, .int .i64 0]) ∧ ∃ g, RoundSt n0 w0 hb sb rb vb ba bo bt j v7 v8 A o t own P (L ++ [⟨last + 1, g, P⟩]) (last + 1) v vs R M lr w' := by
  refine (svSave_ok h.both.sh hl hL).mono ?_
  rintro e w' ⟨rfl, ⟨g, s⟩, k⟩
  exact ⟨rfl, g, h.prog s k⟩
theorem RoundSt.fullP (h : RoundSt n0 w0 hb sb rb vb ba bo bt j v7 v8 A o t own P L last v vs R M lr w) (hl : L.length = 10) :
    Calls Try.prog 45 #[ptr sb, ptr hb] w fun e w' => e = .returned (.tuple #[zeroOb, .int .i64 5]) ∧ RoundSt n0 w0 hb sb rb vb ba bo bt j v7 v8 A o t own P L last v vs R M lr w' := by
  refine (svSave_full h.both.sh hl).mono ?_
  rintro e w' ⟨rfl, s, k⟩
  exact ⟨rfl, h.prog s k⟩
theorem RoundSt.saveR (h : RoundSt n0 w0 hb sb rb vb ba bo bt j v7 v8 A o t own P L last v vs R M lr w) (hM : M.length < 10) (hL : lr < 4611686018427387904) :
    Calls Try.prog 46 #[ptr vb, ptr rb] w fun e w' => e = .returned (.tuple #[obV 11 false ((lr + 1 : Nat) : Int) 0 0 ⟨#[]⟩, .int .i64 0]) ∧ ∃ own' fb vs', RoundSt n0 w0 hb sb rb vb ba bo bt j v7 v8 A o t own' P L last v vs' R (M ++ [⟨lr + 1, fb, R⟩]) (lr + 1) w' ∧ Far own vb w w' := by
  refine (rsave_ok h.both.rs h.both.rh h.ownlt hM hL (lr + 1) rfl).mono ?_
  rintro e w' ⟨rfl, ⟨r, fb, vs', s⟩, k⟩
  have k' : Kept (fun b => b < w.heap.size ∧ b ≠ rb ∧ b ≠ vb ∧ v.ownBlock ≠ some b) w w' := k.sub fun b q => ⟨q.1, q.2.2.1⟩
  exact ⟨rfl, _, fb, vs', h.ref k' (h.both.ref k' r s), h.fars k'⟩
theorem RoundSt.fullR (h : RoundSt n0 w0 hb sb rb vb ba bo bt j v7 v8 A o t own P L last v vs R M lr w) (hM : M.length = 10) :
    Calls Try.prog 46 #[ptr vb, ptr rb] w fun e w' => e = .returned (.tuple #[zeroOb, .int .i64 5]) ∧ RoundSt n0 w0 hb sb rb vb ba bo bt j v7 v8 A o t own P L last v vs R M lr w' ∧ Far own vb w w' := by
  refine (rsave_full h.both.rs hM).mono ?_
  rintro e w' ⟨rfl, k⟩
  exact ⟨rfl, h.later k, fun b q _ _ => k.block b q⟩
theorem RoundSt.stringP (h : RoundSt n0 w0 hb sb rb vb ba bo bt j v7 v8 A o t own P L last v vs R M lr w) (s : ByteArray) (hl : P.length < 2000) (hu : s.size + usedP P ≤ 40000) :
    Calls Try.prog 49 #[ptr hb, .string s] w fun e w' => e = .returned (.tuple #[obV 8 false P.length 0 s.size ⟨#[]⟩, .int .i64 0]) ∧ RoundSt n0 w0 hb sb rb vb ba bo bt j v7 v8 A o t own (P ++ [⟨8, false, [], s.data.toList⟩]) L last v vs R M lr w' := by
  refine (shString h.both.sh s hl hu).mono ?_
  rintro e w' ⟨rfl, q, k⟩
  exact ⟨rfl, h.prog q k⟩
theorem RoundSt.stringR (h : RoundSt n0 w0 hb sb rb vb ba bo bt j v7 v8 A o t own P L last v vs R M lr w) (s : ByteArray) (hl : R.length < 2000) (hu : usedP (cels R) + s.size ≤ 40000) :
    Calls Try.prog 50 #[ptr rb, .string s] w fun e w' => e = .returned (.tuple #[obV 8 false R.length 0 s.size ⟨#[]⟩, .int .i64 0]) ∧ ∃ own' v' R', cels R' = cels R ++ [⟨8, false, [], s.data.toList⟩] ∧ RoundSt n0 w0 hb sb rb vb ba bo bt j v7 v8 A o t own' P L last v' vs R' M lr w' ∧ Far own vb w w' := by
  refine (rstring_ok h.both.rh h.ownlt s hl hu).mono ?_
  rintro e w' ⟨rfl, ⟨v', R', r, hc, hn⟩, k⟩
  have k1 : Kept (fun b => b < w.heap.size ∧ b ≠ rb ∧ v.ownBlock ≠ some b) w w' := k.sub fun b q => ⟨q.1, q.2.1⟩
  exact ⟨rfl, _, v', R', hc, h.ref (k1.sub fun b q => ⟨q.1, q.2.1, q.2.2.2⟩) (h.both.refHeap k1 r (.inr hn)), h.fars (k1.sub fun b q => ⟨q.1, q.2.1, q.2.2.2⟩)⟩
theorem RoundSt.setP (h : RoundSt n0 w0 hb sb rb vb ba bo bt j v7 v8 A o t own P L last v vs R M lr w) (d : Nat) (hd : SH (fun b => RAll n0 vb ba bo bt v7 v8 own b ∨ b = d) hb P sb L last w) (x : Ob) (c : Int) :
    Calls Try.prog 14 #[ptr hb, x.val, .int .i64 0, (Ob.num c).val] w fun e w' => e = .returned (.int .i64 (setE P x 0 (Ob.num c))) ∧ RoundSt n0 w0 hb sb rb vb ba bo bt j v7 v8 A o t own (Go.Proofs.Ytmlkmgeddkpgiaa.setP P x 0 (Ob.num c)) L last v vs R M lr w' ∧ w'.heap[d]? = w.heap[d]? := by
  refine (shSet hd x 0 (Ob.num c) _ _ rfl rfl).mono ?_
  rintro e w' ⟨rfl, q, k⟩
  exact ⟨rfl, h.prog (q.sub fun b => .inl) (k.sub fun b => .inl), k.block d (.inr rfl)⟩
theorem RoundSt.setR (h : RoundSt n0 w0 hb sb rb vb ba bo bt j v7 v8 A o t own P L last v vs R M lr w) (hs : Strs (cels R)) (x : Ob) (c : Int) (c0 : 0 ≤ c) (c1 : c ≤ 255) :
    Calls Try.prog 15 #[ptr rb, x.val, .int .i64 0, (Ob.num c).val] w fun e w' => e = .returned (.int .i64 (setE (cels R) x 0 (Ob.num c))) ∧ ∃ own' R', cels R' = Go.Proofs.Ytmlkmgeddkpgiaa.setP (cels R) x 0 (Ob.num c) ∧ RoundSt n0 w0 hb sb rb vb ba bo bt j v7 v8 A o t own' P L last v vs R' M lr w' ∧ Far own vb w w' := by
  refine (rset_str h.both.rh h.ownlt hs x c c0 c1).mono ?_
  rintro e w' ⟨rfl, ⟨R', r, hc⟩, k⟩
  exact ⟨rfl, _, R', hc, h.ref (k.sub fun b q => ⟨q.1, q.2.1, q.2.2.2⟩) (h.both.refHeap k r (.inl rfl)), h.fars (k.sub fun b q => ⟨q.1, q.2.1, q.2.2.2⟩)⟩
theorem RoundSt.backP_no (h : RoundSt n0 w0 hb sb rb vb ba bo bt j v7 v8 A o t own P L last v vs R M lr w) (x : Ob) (ha : atS L x = none) :
    Calls Try.prog 47 #[ptr sb, ptr hb, x.val] w fun e w' => e = .returned (.int .i64 17) ∧ RoundSt n0 w0 hb sb rb vb ba bo bt j v7 v8 A o t own P L last v vs R M lr w' := by
  refine (svBack_no h.both.sh x ha).mono ?_
  rintro e w' ⟨rfl, q, k⟩
  exact ⟨rfl, h.prog q k⟩
theorem RoundSt.backP_ok (h : RoundSt n0 w0 hb sb rb vb ba bo bt j v7 v8 A o t own P L last v vs R M lr w) (x : Ob) {i : Nat} {s : Sv} (ha : atS L x = some i) (hs : L[i]? = some s) :
    Calls Try.prog 47 #[ptr sb, ptr hb, x.val] w fun e w' => e = .returned (.int .i64 0) ∧ RoundSt n0 w0 hb sb rb vb ba bo bt j v7 v8 A o t own s.q (L.take i) last v vs R M lr w' := by
  refine (svBack_ok h.both.sh x ha hs).mono ?_
  rintro e w' ⟨rfl, q, k⟩
  exact ⟨rfl, h.prog q k⟩
theorem RoundSt.backR_no (h : RoundSt n0 w0 hb sb rb vb ba bo bt j v7 v8 A o t own P L last v vs R M lr w) (x : Ob) (ha : atM M x = none) :
    Calls Try.prog 48 #[ptr vb, ptr rb, x.val] w fun e w' => e = .returned (.int .i64 17) ∧ RoundSt n0 w0 hb sb rb vb ba bo bt j v7 v8 A o t own P L last v vs R M lr w' := by
  refine (rback_none vb rb x.k x.n x.a x.l x.x x.s w (Lib.hid fun wx kx => ?_)).mono ?_
  · have := rat_any (h.both.rs.below kx h.ownlt) (fun b q => Nat.lt_of_lt_of_le (h.ownlt b q) kx.size) x.k x.x x.n x.a x.l x.s
    rw [show (⟨x.k, x.x, x.n, x.a, x.l, x.s⟩ : Ob) = x from rfl, ha] at this
    exact this
  · rintro e w' ⟨rfl, k⟩
    exact ⟨rfl, h.later k⟩
theorem RoundSt.backR_ok (h : RoundSt n0 w0 hb sb rb vb ba bo bt j v7 v8 A o t own P L last v vs R M lr w) (x : Ob) {i : Nat} {s : FS} (ha : atM M x = some i) (hs : M[i]? = some s) :
    Calls Try.prog 48 #[ptr vb, ptr rb, x.val] w fun e w' => e = .returned (.int .i64 0) ∧ ∃ own' v' vs', RoundSt n0 w0 hb sb rb vb ba bo bt j v7 v8 A o t own' P L last v' vs' s.F (M.take i) lr w' := by
  refine (rback_some h.both.rs h.both.rh h.ownlt x ha hs).mono ?_
  rintro e w' ⟨rfl, ⟨v', vs', r, q⟩, k⟩
  have k' : Kept (fun b => b < w.heap.size ∧ b ≠ rb ∧ b ≠ vb ∧ v.ownBlock ≠ some b) w w' := k.sub fun b q => ⟨q.1, q.2.1, q.2.2.1⟩
  exact ⟨rfl, _, v', vs', h.ref k' (h.both.ref k' r q)⟩
theorem RoundSt.bytesP (h : RoundSt n0 w0 hb sb rb vb ba bo bt j v7 v8 A o t own P L last v vs R M lr w) (x : Ob) :
    Calls Try.prog 51 #[ptr hb, x.val] w fun e w' => e = .returned (.tuple #[.string (bytV P x), .int .i64 (bytE P x)]) ∧ RoundSt n0 w0 hb sb rb vb ba bo bt j v7 v8 A o t own P L last v vs R M lr w' := by
  obtain ⟨own', s, ho, hc⟩ := h.both.sh.lift
  refine (sBytes_tot s x _ _ rfl rfl).mono ?_
  rintro e w' ⟨rfl, q, k⟩
  exact ⟨rfl, h.prog (hc _ _ q k) (k.sub ho)⟩
theorem RoundSt.bytesR (h : RoundSt n0 w0 hb sb rb vb ba bo bt j v7 v8 A o t own P L last v vs R M lr w) (x : Ob) :
    Calls Try.prog 52 #[ptr rb, x.val] w fun e w' => e = .returned (.tuple #[.string (bytV (cels R) x), .int .i64 (bytE (cels R) x)]) ∧ RoundSt n0 w0 hb sb rb vb ba bo bt j v7 v8 A o t own P L last v vs R M lr w' := by
  refine (rbytes_tot h.both.rh x).mono ?_
  rintro e w' ⟨rfl, k⟩
  exact ⟨rfl, h.later k⟩
theorem RoundSt.newP (h : RoundSt n0 w0 hb sb rb vb ba bo bt j v7 v8 A o t own P L last v vs R M lr w) (x y : Ob) :
    Calls Try.prog 53 #[ptr sb, x.val, y.val] w fun e w' => e = .returned (.bool (newS L x y)) ∧ RoundSt n0 w0 hb sb rb vb ba bo bt j v7 v8 A o t own P L last v vs R M lr w' := by
  refine (svNewer h.both.sh x y).mono ?_
  rintro e w' ⟨rfl, q, k⟩
  exact ⟨rfl, h.prog q k⟩
theorem RoundSt.newR (h : RoundSt n0 w0 hb sb rb vb ba bo bt j v7 v8 A o t own P L last v vs R M lr w) (hp : Pair M L) (x y : Ob) :
    Calls Try.prog 54 #[ptr vb, x.val, y.val] w fun e w' => e = .returned (.bool (newS L x y)) ∧ RoundSt n0 w0 hb sb rb vb ba bo bt j v7 v8 A o t own P L last v vs R M lr w' := by
  refine (rnewer_any h.both.rs h.ownlt hp x y).mono ?_
  rintro e w' ⟨rfl, k⟩
  exact ⟨rfl, h.later k⟩
/-- A list of ours has grown by an object that was boxed for it. -/
theorem RoundSt.push7 {g cap : Nat} {wb w9 : World} {X : List Ob} {p : Option Addr} {c7 : Nat} {x : Ob} (h : RoundSt n0 w0 hb sb rb vb ba bo bt j (.slice p X.length c7) v8 A o t own P L last v vs R M lr wb) (hX : X.length ≤ j)
    (hown : w9.ownsRow n0 24 6 (.slice (some ⟨g, 0, none⟩) (X.length + 1) cap) (X.length + 1) (obCells X ++ x.cells)) (hg : wb.grownBy w9 (Value.slice p X.length c7).ownBlock) (hw : (Value.slice p X.length c7).ownBlock = some g ∨ g = wb.heap.size) (hlt : g < w9.heap.size) :
    RoundSt n0 w0 hb sb rb vb ba bo bt (j + 1) (.slice (some ⟨g, 0, none⟩) (X.length + 1) cap) v8 A o t own P L last v vs R M lr w9 := by
  obtain ⟨Y, y1, y2⟩ := h.r8
  have hn0 : n0 ≤ wb.heap.size := Nat.le_trans h.vb0 (Nat.le_of_lt (h.lt (b := vb) (.inr (.inr (.inl rfl)))))
  have ne : ∀ b, b < wb.heap.size → (Value.slice p X.length c7).ownBlock ≠ some b → w9.heap[b]? = wb.heap[b]? := fun b hb q => hg.block b hb fun e => q e.symm
  have l : ∀ b, RAll n0 vb ba bo bt (.slice p X.length c7) v8 own b → b < wb.heap.size := fun b q => h.lt q
  have og : ∀ b, (Value.slice (some ⟨g, 0, none⟩) (X.length + 1) cap).ownBlock = some b → (Value.slice p X.length c7).ownBlock = some b ∨ b = wb.heap.size := fun b e => by
    obtain rfl := own_eq e
    exact hw
  have B := h.both.grow hg fun g e => ⟨.inr (.inr (.inr (.inl e))), (h.far g (.inl e)).1, (h.far g (.inl e)).2⟩
  refine ⟨B.weak (fun b q => ?_) (fun b q => .inr (.inl q)) (.inr (.inr (.inl rfl))), ⟨X ++ [x], by simp; omega, ?_⟩, ⟨Y, by omega, owns_at y2 fun g e => ne g (l g (.inr (.inr (.inr (.inr (.inl e)))))) fun q => (h.a7 g q).1 e⟩, h.ab, fun b q => ?_, fun b q => ?_, h.a8, (ne _ (l ba (.inr (.inr (.inr (.inr (.inr (.inl rfl))))))) fun q => (h.a7 _ q).2.1 rfl).trans h.act, (ne _ (l bo (.inr (.inr (.inr (.inr (.inr (.inr (.inl rfl)))))))) fun q => (h.a7 _ q).2.2.1 rfl).trans h.ob, (ne _ (l bt (.inr (.inr (.inr (.inr (.inr (.inr (.inr rfl)))))))) fun q => (h.a7 _ q).2.2.2 rfl).trans h.st, h.vb0, h.below.trans ((Below.refl n0 wb).grown hg hn0 fun k e => ?_), h.ne, h.low⟩
  · rcases q with q | q | q | q | q
    · exact .inl (.inl q)
    · exact .inl (.inr (.inl q))
    · exact .inl (.inr (.inr (.inl q)))
    · obtain rfl := own_eq q
      rcases hw with r | r
      · exact .inl (.inr (.inr (.inr (.inl r))))
      · exact .inr ⟨by omega, hlt⟩
    · exact .inl (.inr (.inr (.inr (.inr q))))
  · have e : (X ++ [x]).length = X.length + 1 := by simp
    rw [e, obCells_append]
    simpa [obCells] using hown
  · rcases q with q | q
    · rcases og b q with r | r
      · exact h.far b (.inl r)
      · subst r
        refine ⟨fun e => ?_, fun e => ?_⟩
        · have := h.ownlt _ e
          omega
        · have := l vb (.inr (.inr (.inl rfl)))
          omega
    · exact h.far b (.inr q)
  · rcases og b q with r | r
    · exact h.a7 b r
    · subst r
      refine ⟨fun e => ?_, fun e => ?_, fun e => ?_, fun e => ?_⟩
      · have := l _ (.inr (.inr (.inr (.inr (.inl e)))))
        omega
      · have := l ba (.inr (.inr (.inr (.inr (.inr (.inl rfl))))))
        omega
      · have := l bo (.inr (.inr (.inr (.inr (.inr (.inr (.inl rfl)))))))
        omega
      · have := l bt (.inr (.inr (.inr (.inr (.inr (.inr (.inr rfl)))))))
        omega
  · obtain ⟨Z, _, z2⟩ := h.r7
    exact (z2.lt k e).1
theorem RoundSt.push8 {g cap : Nat} {wb w9 : World} {X : List Ob} {p : Option Addr} {c7 : Nat} {x : Ob} (h : RoundSt n0 w0 hb sb rb vb ba bo bt j v7 (.slice p X.length c7) A o t own P L last v vs R M lr wb) (hX : X.length ≤ j)
    (hown : w9.ownsRow n0 24 6 (.slice (some ⟨g, 0, none⟩) (X.length + 1) cap) (X.length + 1) (obCells X ++ x.cells)) (hg : wb.grownBy w9 (Value.slice p X.length c7).ownBlock) (hw : (Value.slice p X.length c7).ownBlock = some g ∨ g = wb.heap.size) (hlt : g < w9.heap.size) :
    RoundSt n0 w0 hb sb rb vb ba bo bt (j + 1) v7 (.slice (some ⟨g, 0, none⟩) (X.length + 1) cap) A o t own P L last v vs R M lr w9 := by
  obtain ⟨Y, y1, y2⟩ := h.r7
  have hn0 : n0 ≤ wb.heap.size := Nat.le_trans h.vb0 (Nat.le_of_lt (h.lt (b := vb) (.inr (.inr (.inl rfl)))))
  have ne : ∀ b, b < wb.heap.size → (Value.slice p X.length c7).ownBlock ≠ some b → w9.heap[b]? = wb.heap[b]? := fun b hb q => hg.block b hb fun e => q e.symm
  have l : ∀ b, RAll n0 vb ba bo bt v7 (.slice p X.length c7) own b → b < wb.heap.size := fun b q => h.lt q
  have og : ∀ b, (Value.slice (some ⟨g, 0, none⟩) (X.length + 1) cap).ownBlock = some b → (Value.slice p X.length c7).ownBlock = some b ∨ b = wb.heap.size := fun b e => by
    obtain rfl := own_eq e
    exact hw
  have B := h.both.grow hg fun g e => ⟨.inr (.inr (.inr (.inr (.inl e)))), (h.far g (.inr (.inl e))).1, (h.far g (.inr (.inl e))).2⟩
  refine ⟨B.weak (fun b q => ?_) (fun b q => .inr (.inl q)) (.inr (.inr (.inl rfl))), ⟨Y, by omega, owns_at y2 fun g e => ne g (l g (.inr (.inr (.inr (.inl e))))) fun q => (h.a7 g e).1 q⟩, ⟨X ++ [x], by simp; omega, ?_⟩, h.ab, fun b q => ?_, fun b q => ?_, fun b q => ?_, (ne _ (l ba (.inr (.inr (.inr (.inr (.inr (.inl rfl))))))) fun q => (h.a8 _ q).1 rfl).trans h.act, (ne _ (l bo (.inr (.inr (.inr (.inr (.inr (.inr (.inl rfl)))))))) fun q => (h.a8 _ q).2.1 rfl).trans h.ob, (ne _ (l bt (.inr (.inr (.inr (.inr (.inr (.inr (.inr rfl)))))))) fun q => (h.a8 _ q).2.2 rfl).trans h.st, h.vb0, h.below.trans ((Below.refl n0 wb).grown hg hn0 fun k e => ?_), h.ne, h.low⟩
  · rcases q with q | q | q | q | q | q
    · exact .inl (.inl q)
    · exact .inl (.inr (.inl q))
    · exact .inl (.inr (.inr (.inl q)))
    · exact .inl (.inr (.inr (.inr (.inl q))))
    · obtain rfl := own_eq q
      rcases hw with r | r
      · exact .inl (.inr (.inr (.inr (.inr (.inl r)))))
      · exact .inr ⟨by omega, hlt⟩
    · exact .inl (.inr (.inr (.inr (.inr (.inr q)))))
  · have e : (X ++ [x]).length = X.length + 1 := by simp
    rw [e, obCells_append]
    simpa [obCells] using hown
  · rcases q with q | q | q
    · exact h.far b (.inl q)
    · rcases og b q with r | r
      · exact h.far b (.inr (.inl r))
      · subst r
        refine ⟨fun e => ?_, fun e => ?_⟩
        · have := h.ownlt _ e
          omega
        · have := l vb (.inr (.inr (.inl rfl)))
          omega
    · exact h.far b (.inr (.inr q))
  · refine ⟨fun e => ?_, (h.a7 b q).2⟩
    rcases og b e with r | r
    · exact (h.a7 b q).1 r
    · have := l b (.inr (.inr (.inr (.inl q))))
      omega
  · rcases og b q with r | r
    · exact h.a8 b r
    · subst r
      refine ⟨fun e => ?_, fun e => ?_, fun e => ?_⟩
      · have := l ba (.inr (.inr (.inr (.inr (.inr (.inl rfl))))))
        omega
      · have := l bo (.inr (.inr (.inr (.inr (.inr (.inr (.inl rfl)))))))
        omega
      · have := l bt (.inr (.inr (.inr (.inr (.inr (.inr (.inr rfl)))))))
        omega
  · obtain ⟨Z, _, z2⟩ := h.r8
    exact (z2.lt k e).1
end
end Go.Proofs.Ytmlkmgeddkpgiaa

/- SavePlays: a list of acts, as it came in. -/
namespace Go.Proofs.Ytmlkmgeddkpgiaa
open Go.RowKit Go.ChangeShapes Go.WideShapes Go.Deep
set_option linter.unusedVariables false
set_option linter.unusedSimpArgs false
set_option maxRecDepth 100000

section
variable {H : Type} {enc : TypeId × Value → H} {w : World} {base : Nat} {held : Bool} {fuel : Nat} {cs : List Value} {x : DataW H × List MemPlace}
/-- An object's cells. -/
theorem cellsOb (h : DataW.trod enc Try.prog w base (fun _ => true) held fuel 24 cs = some x) : ∃ o : Ob, cs = o.cells := by
  have hC : Try.prog.cellsOf 24 = 6 := by kernel_rfl
  have z3 : Try.prog.cellsOf 3 = 1 := by kernel_rfl
  have z4 : Try.prog.cellsOf 4 = 1 := by kernel_rfl
  have z9 : Try.prog.cellsOf 9 = 1 := by kernel_rfl
  obtain ⟨xs, m, _, hx, hcl, hlen, hg⟩ := DataW.trod_struct Try.underlying24 h
  rw [hC] at hcl
  obtain ⟨c0, c1, c2, c3, c4, c5, rfl⟩ : ∃ c0 c1 c2 c3 c4 c5, cs = [c0, c1, c2, c3, c4, c5] := by
    match cs, hcl with
    | [c0, c1, c2, c3, c4, c5], _ => exact ⟨c0, c1, c2, c3, c4, c5, rfl⟩
  obtain ⟨y0, y1, y2, y3, y4, y5, rfl⟩ : ∃ y0 y1 y2 y3 y4 y5, xs = [y0, y1, y2, y3, y4, y5] := by
    match xs, hlen with
    | [y0, y1, y2, y3, y4, y5], _ => exact ⟨y0, y1, y2, y3, y4, y5, rfl⟩
  have g0 := hg 0 _ rfl
  have g1 := hg 1 _ rfl
  have g2 := hg 2 _ rfl
  have g3 := hg 3 _ rfl
  have g4 := hg 4 _ rfl
  have g5 := hg 5 _ rfl
  simp [z3, z4, z9] at g0 g1 g2 g3 g4 g5
  obtain ⟨k, e0, f0, w0⟩ := DataW.trod_int Try.underlying3 g0
  obtain ⟨b, e1, f1⟩ := DataW.trod_bool Try.underlying4 g1
  obtain ⟨n, e2, f2, w2⟩ := DataW.trod_int Try.underlying3 g2
  obtain ⟨a, e3, f3, w3⟩ := DataW.trod_int Try.underlying3 g3
  obtain ⟨l, e4, f4, w4⟩ := DataW.trod_int Try.underlying3 g4
  obtain ⟨s, e5, f5, w5⟩ := DataW.trod_string Try.underlying9 g5
  simp only [List.cons.injEq, and_true] at e0 e1 e2 e3 e4 e5
  subst e0 e1 e2 e3 e4 e5
  exact ⟨⟨k, b, n, a, l, s⟩, rfl⟩
/-- An act. -/
theorem cells_act (h : DataW.trod enc Try.prog w base (fun _ => true) held fuel 77 cs = some x) : ∃ A : ActV, cs = actL A ∧ 0 ≤ A.v ∧ A.v ≤ 255 := by
  have hC : Try.prog.cellsOf 77 = 10 := by kernel_rfl
  have z3 : Try.prog.cellsOf 3 = 1 := by kernel_rfl
  have z5 : Try.prog.cellsOf 5 = 1 := by kernel_rfl
  have z9 : Try.prog.cellsOf 9 = 1 := by kernel_rfl
  have z24 : Try.prog.cellsOf 24 = 6 := by kernel_rfl
  obtain ⟨xs, m, _, hx, hcl, hlen, hg⟩ := DataW.trod_struct Try.underlying77 h
  rw [hC] at hcl
  obtain ⟨c0, c1, c2, c3, c4, c5, c6, c7, c8, c9, rfl⟩ : ∃ c0 c1 c2 c3 c4 c5 c6 c7 c8 c9, cs = [c0, c1, c2, c3, c4, c5, c6, c7, c8, c9] := by
    match cs, hcl with
    | [c0, c1, c2, c3, c4, c5, c6, c7, c8, c9], _ => exact ⟨c0, c1, c2, c3, c4, c5, c6, c7, c8, c9, rfl⟩
  obtain ⟨y0, y1, y2, y3, y4, rfl⟩ : ∃ y0 y1 y2 y3 y4, xs = [y0, y1, y2, y3, y4] := by
    match xs, hlen with
    | [y0, y1, y2, y3, y4], _ => exact ⟨y0, y1, y2, y3, y4, rfl⟩
  have g0 := hg 0 _ rfl
  have g1 := hg 1 _ rfl
  have g2 := hg 2 _ rfl
  have g3 := hg 3 _ rfl
  have g4 := hg 4 _ rfl
  simp [z3, z5, z9, z24] at g0 g1 g2 g3 g4
  obtain ⟨k, e0, f0, w0⟩ := DataW.trod_int Try.underlying3 g0
  obtain ⟨n, e1, f1, w1⟩ := DataW.trod_int Try.underlying3 g1
  obtain ⟨v, e2, f2, w2⟩ := DataW.trod_int Try.underlying5 g2
  obtain ⟨s, e3, f3⟩ := DataW.trod_string Try.underlying9 g3
  obtain ⟨o, e4⟩ := cellsOb g4
  simp only [List.cons.injEq, and_true] at e0 e1 e2 e3
  simp only [Ob.cells, List.cons.injEq, and_true] at e4
  obtain ⟨r0, r1, r2, r3, r4, r5⟩ := e4
  subst e0 e1 e2 e3 r0 r1 r2 r3 r4 r5
  obtain ⟨b1, b2⟩ := bounds_u8 w2
  exact ⟨⟨k, n, v, s, o⟩, rfl, b1, b2⟩
/-- A list of acts. -/
theorem open_acts {a : Option Addr} {len cap : Nat} {d : DataW H} {p : List MemPlace} (h : DataW.Trod enc Try.prog w base (fun _ => true) held 69 (.slice a len cap) d p) : len ≤ cap ∧ ∀ i, i < len → ∃ A, ActAt w a i A := by
  have hC : Try.prog.cellsOf 77 = 10 := by kernel_rfl
  obtain ⟨fuel, hf⟩ := h
  rcases open_slice Try.underlying69 hf with ⟨hcs, _⟩ | ⟨ad, l, c, m, n, D, Pl, hcs, hb, hl, hm, hmm, _, hx⟩
  · simp [Value.cells] at hcs
    obtain ⟨rfl, rfl, rfl⟩ := hcs
    exact ⟨Nat.le_refl _, fun i hi => by omega⟩
  · simp [Value.cells] at hcs
    obtain ⟨rfl, rfl, rfl⟩ := hcs
    simp only [if_true] at hmm
    subst hmm
    rw [hC] at hx
    refine ⟨hl, fun i hi => ?_⟩
    obtain ⟨cs', h1, h2⟩ := hx i (by omega)
    obtain ⟨A, rfl, hv0, hv1⟩ := cells_act h2
    obtain ⟨_, _, h3⟩ := World.cells?_some h1
    have hc : ∀ j u, (actL A)[j]? = some u → w.cell? ((ad.add (i * 10)).add j) = some u := fun j u hj => by
      have hj10 : j < 10 := by have := (List.getElem?_eq_some_iff.1 hj).1; simpa using this
      rw [h3 j hj10]
      exact hj
    refine ⟨A, ⟨ad, rfl, ?_, hc⟩, hv0, hv1⟩
    have := World.block_lt_of_cell? w _ (hc 0 _ rfl)
    have e : ∀ (a : Addr) (k : Nat), (a.add k).block = a.block := fun a k => by
      unfold Addr.add
      split <;> rfl
    rwa [e, e] at this
end
end Go.Proofs.Ytmlkmgeddkpgiaa
