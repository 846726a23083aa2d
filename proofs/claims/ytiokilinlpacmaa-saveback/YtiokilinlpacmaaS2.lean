/- Walks of save: New, Len, find. -/
import Derived.Test.YtiokilinlpacmaaS1
import Derived.StillTailTactics
import Derived.Deep.RegionHeld3
namespace Go.Proofs.Ytiokilinlpacmaa
open Go.RowKit
set_option linter.unusedVariables false

section
variable {L : List Sv} {o : Ob}
theorem atS_none (h : ∀ (i : Nat) (s : Sv), L[i]? = some s → sameO 11 s.n 0 0 ⟨#[]⟩ o.k o.n o.a o.l o.s = false) : atS L o = none := by
  rw [atS, List.findIdx?_eq_none_iff]
  intro s hs
  obtain ⟨i, hi⟩ := List.mem_iff_getElem?.1 hs
  exact h i s hi
theorem atS_some {j : Nat} {s : Sv} (hj : L[j]? = some s) (hs : sameO 11 s.n 0 0 ⟨#[]⟩ o.k o.n o.a o.l o.s = true) (h : ∀ (i : Nat) (s : Sv), i < j → L[i]? = some s → sameO 11 s.n 0 0 ⟨#[]⟩ o.k o.n o.a o.l o.s = false) : atS L o = some j := by
  rw [atS, List.findIdx?_eq_some_iff_getElem]
  obtain ⟨hl, he⟩ := List.getElem?_eq_some_iff.1 hj
  refine ⟨hl, by rw [he]; exact hs, fun i hi => ?_⟩
  rw [h i L[i] hi (List.getElem?_eq_getElem (by omega))]
  decide
theorem atS_lt {j : Nat} (h : atS L o = some j) : j < L.length := by
  rw [atS, List.findIdx?_eq_some_iff_getElem] at h
  exact h.1
end

structure FindSt (L : List Sv) (sb last A : Nat) (o : Ob) (w wr : World) (j : Nat) : Prop where
  le : j ≤ L.length
  no : ∀ (i : Nat) (s : Sv), i < j → L[i]? = some s → sameO 11 s.n 0 0 ⟨#[]⟩ o.k o.n o.a o.l o.s = false
  sat : SAt wr sb L last
  ob : ObAt wr A o.k o.x o.n o.a o.l o.s
  below : Below w.heap.size w wr

theorem sv_box (w : World) (n : Int) (g : Nat) : ∃ wb, w.alloc (.cells #[.int .i64 11, .bool false, .int .i64 n, .int .i64 0, .int .i64 0, .string ⟨#[]⟩, ptr g] 94) = wb ∧ Below w.heap.size w wb ∧ wb.heap.size = w.heap.size + 1 ∧ ObAt wb w.heap.size 11 false n 0 0 ⟨#[]⟩ :=
  ⟨_, rfl, (Below.refl _ w).alloc (Nat.le_refl _) _, by simp, by simp [ObAt]⟩
theorem ent_cells {w : World} {sb last : Nat} {L : List Sv} (h : SAt w sb L last) {i : Nat} {s : Sv} (hi : L[i]? = some s) :
    w.cell? ⟨sb, i * 7, none⟩ = some (.int .i64 11) ∧ w.cell? ⟨sb, i * 7 + 1, none⟩ = some (.bool false) ∧ w.cell? ⟨sb, i * 7 + 2, none⟩ = some (.int .i64 s.n) ∧ w.cell? ⟨sb, i * 7 + 3, none⟩ = some (.int .i64 0) ∧ w.cell? ⟨sb, i * 7 + 4, none⟩ = some (.int .i64 0) ∧ w.cell? ⟨sb, i * 7 + 5, none⟩ = some (.string ⟨#[]⟩) ∧ w.cell? ⟨sb, i * 7 + 6, none⟩ = some (ptr s.g) :=
  ⟨h.ents i s hi 0 _ rfl, h.ents i s hi 1 _ rfl, h.ents i s hi 2 _ rfl, h.ents i s hi 3 _ rfl, h.ents i s hi 4 _ rfl, h.ents i s hi 5 _ rfl, h.ents i s hi 6 _ rfl⟩

set_option maxHeartbeats 1000000 in
set_option maxRecDepth 100000 in
theorem svfind_walk (sb last : Nat) (L : List Sv) (k : Int) (x : Bool) (n a l : Int) (s : ByteArray) (w : World) (h : Hid (SAt w sb L last)) :
    Calls Try.prog 59 #[ptr sb, obV k x n a l s] w fun e w' => e = .returned (.tuple #[.int .i64 ((atS L ⟨k, x, n, a, l, s⟩).getD 0 : Nat), .bool (atS L ⟨k, x, n, a, l, s⟩).isSome]) ∧ Below w.heap.size w w' := by
  go_enter Try.func59, Try.ntmps59
  go_wp2_with fail
  obtain ⟨wb, eb, kb, zb, ob⟩ := ob_box w k n a l x s
  rw [eb]
  have h1 := h.out.same (kb.block _ h.out.lt) kb.size
  have c70 := h1.count
  have hle : (L.length : Int) ≤ 10 := by have := h1.len; omega
  have hge : (0 : Int) ≤ L.length := by omega
  have F0 : Hid (FindSt L sb last w.heap.size ⟨k, x, n, a, l, s⟩ w wb 0) := Lib.hid ⟨Nat.zero_le _, fun i s hi => by omega, h1, ob, kb⟩
  clear eb kb zb ob h1
  go_quiet (fail)
  have F1 : Hid (FindSt L sb last w.heap.size ⟨k, x, n, a, l, s⟩ w (wb.drewN nq) 0) := Lib.hid ⟨F0.out.le, F0.out.no, F0.out.sat.same rfl (Nat.le_refl _), F0.out.ob, below_and F0.out.below (below_drewN _ _)⟩
  generalize wb.drewN nq = wq at F1
  clear F0 c70
  go_wp2
  go_loopw [19] (fun i wr => ∃ j : Nat, i = .int .i64 j ∧ FindSt L sb last w.heap.size ⟨k, x, n, a, l, s⟩ w wr j) (fun i _ => L.length - (intOf i).toNat)
  case atStart => exact ⟨0, rfl, F1.out⟩
  case round =>
    obtain ⟨j, rfl, fj⟩ := hrel
    have FJ := Lib.hid fj
    clear fj F1 hle hge
    by_cases hlt : j < L.length
    · obtain ⟨t, ht⟩ : ∃ t, L[j]? = some t := ⟨_, List.getElem?_eq_getElem hlt⟩
      have HT := Lib.hid ht
      have HL := Lib.hid hlt
      obtain ⟨c0, c1, c2, c3, c4, c5, c6⟩ := ent_cells FJ.out.sat ht
      obtain ⟨d0, d1, d2, d3, d4, d5⟩ := FJ.out.ob
      have h1 : (j : Int) < L.length := by omega
      have h2 : (0 : Int) ≤ j := by omega
      clear ht
      go_upto_region 6 with fail
      obtain ⟨wc, ec, kc, zc, oc⟩ := sv_box wr t.n t.g
      rw [ec]
      have FC : Hid (FindSt L sb last w.heap.size ⟨k, x, n, a, l, s⟩ w wc j) := Lib.hid ⟨FJ.out.le, FJ.out.no, FJ.out.sat.same (kc.block _ FJ.out.sat.lt) kc.size, FJ.out.ob.later kc, below_and FJ.out.below kc⟩
      clear c0 c1 c2 c3 c4 c5 c6 d0 d1 d2 d3 d4 d5 ec kc zc
      obtain ⟨c0, c1, c2, c3, c4, c5⟩ := oc
      obtain ⟨d0, d1, d2, d3, d4, d5⟩ := FC.out.ob
      obtain ⟨r, hr⟩ : ∃ r, sameO 11 t.n 0 0 ⟨#[]⟩ k n a l s = r := ⟨_, rfl⟩
      have HR := Lib.hid hr
      clear hr
      cases r
      · go_wp2_with fail
        refine (same_any 11 t.n 0 0 k n a l false x ⟨#[]⟩ s wc).mono ?_
        rintro e wd ⟨rfl, kd⟩
        rw [HR.out]
        have FD : Hid (FindSt L sb last w.heap.size ⟨k, x, n, a, l, s⟩ w wd (j + 1)) := Lib.hid ⟨HL.out, fun i s' hi hs => by
          by_cases e : i = j
          · subst e
            rw [HT.out] at hs
            obtain rfl : t = s' := by simpa using hs
            exact HR.out
          · exact FC.out.no i s' (by omega) hs, FC.out.sat.same (kd.block _ FC.out.sat.lt) kd.size, FC.out.ob.later kd, below_and FC.out.below kd⟩
        have e1 : IntKind.i64.wrap ((j : Int) + 1) = ((j + 1 : Nat) : Int) := by rw [IntWalk.i64_in _ (by have := FC.out.sat.len; have := HL.out; omega)]; omega
        clear kd c0 c1 c2 c3 c4 c5 d0 d1 d2 d3 d4 d5
        go_wp2
        go_roundw
        case rel => exact ⟨j + 1, by congr 1, FD.out⟩
        case measure => exact measure_up L.length j _ rfl HL.out
      · go_wp2_with fail
        refine (same_any 11 t.n 0 0 k n a l false x ⟨#[]⟩ s wc).mono ?_
        rintro e wd ⟨rfl, kd⟩
        rw [HR.out]
        have KD := Lib.hid (below_and FC.out.below kd)
        clear kd c0 c1 c2 c3 c4 c5 d0 d1 d2 d3 d4 d5
        go_wp2
        have ha : atS L ⟨k, x, n, a, l, s⟩ = some j := atS_some HT.out HR.out FC.out.no
        go_ret2
        exact ⟨by rw [ha]; rfl, KD.out⟩
    · have ha : atS L ⟨k, x, n, a, l, s⟩ = none := atS_none fun i s' hs => FJ.out.no i s' (by have := (List.getElem?_eq_some_iff.1 hs).1; omega) hs
      have h1 : ¬ ((j : Int) < L.length) := by omega
      go_wp2
      go_ret2
      exact ⟨rfl, FJ.out.below⟩
end Go.Proofs.Ytiokilinlpacmaa
