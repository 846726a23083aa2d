/- Walks of save: New, Len, Newer. -/
import Derived.Test.YtiokilinlpacmaaS2
namespace Go.Proofs.Ytiokilinlpacmaa
open Go.RowKit
set_option linter.unusedVariables false

theorem svLen {w : World} {sb last : Nat} {L : List Sv} (h : SAt w sb L last) : Calls Try.prog 14 #[ptr sb] w fun e w' => e = .returned (.int .i64 L.length) ∧ w = w' := by
  have c := h.count
  go_enter Try.func14, Try.ntmps14
  go_wp2
  go_ret
  exact ⟨rfl, rfl⟩
set_option maxRecDepth 100000 in
theorem svNew_any (w : World) : Calls Try.prog 11 #[] w fun e w' => e = .returned (ptr w.heap.size) ∧ ∃ C : Array Value, w' = w.alloc (.cells C 97) ∧ C.size = 72 ∧ C[70]? = some (.int .i64 0) ∧ C[71]? = some (.int .i64 0) := by
  go_enter Try.func11, Try.ntmps11
  go_wp2
  go_ret
  exact ⟨rfl, _, rfl, by kernel_rfl, by kernel_rfl, by kernel_rfl⟩
theorem SH.start {own : Nat → Prop} {hb : Nat} {P : List Cel} {w : World} (h : Sep own hb P w) (C : Array Value) (h1 : C.size = 72) (h2 : C[70]? = some (.int .i64 0)) (h3 : C[71]? = some (.int .i64 0)) :
    SH own hb P w.heap.size [] 0 (w.alloc (.cells C 97)) ∧ Kept own w (w.alloc (.cells C 97)) := by
  have hb' := heap_alloc_new w (.cells C 97)
  have hn : ¬ own w.heap.size := fun q => by
    obtain ⟨role, _, h2⟩ := h
    have := (h2 _ q).1
    omega
  refine ⟨⟨(Many.of_sep h).box _, ⟨by simp, fun j hj => ⟨?_, ?_⟩, fun i s hi => by simp at hi, ?_, ?_, by simp⟩, hn⟩, ((Many.of_sep h).below (box_below _ _)).2⟩
  · rw [cellAt hb', Array.getElem?_eq_getElem (by omega)]
    rfl
  · rw [freeAt hb']
  · rw [cellAt hb', h2]
    rfl
  · rw [cellAt hb', h3]
    rfl
theorem svNew {own : Nat → Prop} {hb : Nat} {P : List Cel} {w : World} (h : Sep own hb P w) : Calls Try.prog 11 #[] w fun e w' => e = .returned (ptr w.heap.size) ∧ SH own hb P w.heap.size [] 0 w' ∧ Kept own w w' := by
  refine (svNew_any w).mono ?_
  rintro e w' ⟨rfl, C, rfl, h1, h2, h3⟩
  have := SH.start h C h1 h2 h3
  exact ⟨rfl, this.1, this.2⟩

/-- Newer. -/
def newS (L : List Sv) (o x : Ob) : Bool :=
  match atS L o with
  | none => false
  | some i => if x.k = 9 ∨ x.k = 8 ∨ x.k = 10 then decide ((((L[i]?.map fun s => s.q.length).getD 0 : Nat) : Int) ≤ x.n) else decide (x.k = 11 ∧ o.n ≤ x.n)
set_option maxHeartbeats 1000000 in
set_option maxRecDepth 100000 in
theorem newer_none (sb : Nat) (k n a l k' n' a' l' : Int) (x x' : Bool) (s s' : ByteArray) (w : World)
    (hf : Hid (∀ wx, Below w.heap.size w wx → Calls Try.prog 59 #[ptr sb, obV k x n a l s] wx fun e w' => e = .returned (.tuple #[.int .i64 0, .bool false]) ∧ Below wx.heap.size wx w')) :
    Calls Try.prog 17 #[ptr sb, obV k x n a l s, obV k' x' n' a' l' s'] w fun e w' => e = .returned (.bool false) ∧ Below w.heap.size w w' := by
  go_enter Try.func17, Try.ntmps17
  go_upto_region 1 with fail
  obtain ⟨wb, eb, kb, ⟨c0, c1, c2, c3, c4, c5⟩, o2⟩ := two_box w k n a l k' n' a' l' x x' s s'
  rw [eb]
  go_wp2_with fail
  refine (hf.out _ kb).mono ?_
  rintro e wc ⟨rfl, kc⟩
  have KC := Lib.hid (below_and kb kc)
  clear eb kb kc c0 c1 c2 c3 c4 c5 o2
  go_wp2
  go_ret
  exact ⟨rfl, KC.out⟩
set_option maxHeartbeats 1000000 in
set_option maxRecDepth 100000 in
theorem newer_some (sb i g m : Nat) (k n a l k' n' a' l' : Int) (x x' b1 b2 b3 b4 p q r : Bool) (s s' : ByteArray) (w : World) (hi : i < 10) (h1 : (k' == 9) = b1) (h2 : (k' == 8) = b2) (h3 : (k' == 10) = b3) (h4 : (k' == 11) = b4)
    (h5 : decide ((m : Int) ≤ n') = p) (h6 : decide (n ≤ n') = q) (hr : Hid ((if b1 || (b2 || b3) then p else b4 && q) = r)) (hc : w.cell? ⟨sb, i * 7 + 6, none⟩ = some (ptr g))
    (hf : Hid (∀ wx, Below w.heap.size w wx → Calls Try.prog 59 #[ptr sb, obV k x n a l s] wx fun e w' => e = .returned (.tuple #[.int .i64 i, .bool true]) ∧ Below wx.heap.size wx w'))
    (hg : Hid (∀ wx, Below w.heap.size w wx → Calls Try.prog 21 #[ptr g] wx fun e w' => e = .returned (.int .i64 m) ∧ wx = w')) :
    Calls Try.prog 17 #[ptr sb, obV k x n a l s, obV k' x' n' a' l' s'] w fun e w' => e = .returned (.bool r) ∧ Below w.heap.size w w' := by
  go_enter Try.func17, Try.ntmps17
  go_upto_region 1 with fail
  obtain ⟨wb, eb, kb, ⟨c0, c1, c2, c3, c4, c5⟩, o2⟩ := two_box w k n a l k' n' a' l' x x' s s'
  rw [eb]
  go_wp2_with fail
  refine (hf.out _ kb).mono ?_
  rintro e wc ⟨rfl, kc⟩
  have KC := Lib.hid (below_and kb kc)
  obtain ⟨d0, d1, d2, d3, d4, d5⟩ := o2.later kc
  replace c2 := cell_later kc c2
  have e6 := cell_later (below_and kb kc) hc
  have i1 : (i : Int) < 10 := by omega
  have i0 : (0 : Int) ≤ i := by omega
  clear eb kb kc c0 c1 c3 c4 c5 o2 hc
  cases b1
  · cases b2
    · cases b3
      · cases b4
        · go_wp2
          go_ret
          exact ⟨ret_bool (by have := hr.out; simpa using this), KC.out⟩
        · go_wp2
          go_ret
          exact ⟨ret_bool (by have := hr.out; simpa [h6] using this), KC.out⟩
      · go_wp2_with fail
        go_quiet (first | (go_at_call 21; exact Calls.quiet_of_same ((hg.out _ (by first | exact KC.out | exact KC.out.drew | exact below_and KC.out (below_drewN _ _))).mono fun _ _ h => ⟨h.1, h.2.symm⟩)))
        go_wp2
        go_ret
        exact ⟨ret_bool (by have := hr.out; simpa [h5] using this), below_and KC.out (below_drewN _ _)⟩
    · go_wp2_with fail
      go_quiet (first | (go_at_call 21; exact Calls.quiet_of_same ((hg.out _ (by first | exact KC.out | exact KC.out.drew | exact below_and KC.out (below_drewN _ _))).mono fun _ _ h => ⟨h.1, h.2.symm⟩)))
      go_wp2
      go_ret
      exact ⟨ret_bool (by have := hr.out; simpa [h5] using this), below_and KC.out (below_drewN _ _)⟩
  · go_wp2_with fail
    go_quiet (first | (go_at_call 21; exact Calls.quiet_of_same ((hg.out _ (by first | exact KC.out | exact KC.out.drew | exact below_and KC.out (below_drewN _ _))).mono fun _ _ h => ⟨h.1, h.2.symm⟩)))
    go_wp2
    go_ret
    exact ⟨ret_bool (by have := hr.out; simpa [h5] using this), below_and KC.out (below_drewN _ _)⟩
section
variable {own : Nat → Prop} {hb sb last : Nat} {P : List Cel} {L : List Sv} {w : World}
theorem svFind (h : SAt w sb L last) (o : Ob) {r : Option Nat} (hr : atS L o = r) :
    Calls Try.prog 59 #[ptr sb, o.val] w fun e w' => e = .returned (.tuple #[.int .i64 (r.getD 0 : Nat), .bool r.isSome]) ∧ Below w.heap.size w w' := by
  have := svfind_walk sb last L o.k o.x o.n o.a o.l o.s w (Lib.hid h)
  rw [hr] at this
  exact this
theorem svNewer (h : SH own hb P sb L last w) (o x : Ob) : Calls Try.prog 17 #[ptr sb, o.val, x.val] w fun e w' => e = .returned (.bool (newS L o x)) ∧ SH own hb P sb L last w' ∧ Kept own w w' := by
  cases ha : atS L o with
  | none =>
    refine (newer_none sb o.k o.n o.a o.l x.k x.n x.a x.l o.x x.x o.s x.s w (Lib.hid fun wx kx => svFind (h.below kx).1.sat o ha)).mono ?_
    rintro e w' ⟨rfl, k⟩
    exact ⟨by simp [newS, ha], h.below k⟩
  | some i =>
    have hl := atS_lt ha
    have ht : L[i]? = some L[i] := List.getElem?_eq_getElem hl
    have := h.sat.len
    refine (newer_some sb i L[i].g L[i].q.length o.k o.n o.a o.l x.k x.n x.a x.l o.x x.x _ _ _ _ _ _ (newS L o x) o.s x.s w (by omega) rfl rfl rfl rfl rfl rfl (Lib.hid ?_) (ent_cells h.sat ht).2.2.2.2.2.2 (Lib.hid fun wx kx => svFind (h.below kx).1.sat o ha) (Lib.hid fun wx kx => manyCells (h.below kx).1.many (svG_get ht))).mono ?_
    · simp only [newS, ha, ht, Option.map_some, Option.getD_some]
      by_cases q9 : x.k = 9
      · simp [q9]
      by_cases q8 : x.k = 8
      · simp [q8]
      by_cases q10 : x.k = 10
      · simp [q10]
      by_cases q11 : x.k = 11 <;> simp [q9, q8, q10, q11]
    · rintro e w' ⟨rfl, k⟩
      exact ⟨rfl, h.below k⟩
end
end Go.Proofs.Ytiokilinlpacmaa
