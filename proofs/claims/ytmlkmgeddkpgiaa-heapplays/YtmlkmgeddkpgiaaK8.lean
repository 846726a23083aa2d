/- Walks of heap: find, for every object. -/
import Derived.Test.YtmlkmgeddkpgiaaK6
import Derived.Test.YtmlkmgeddkpgiaaK7
namespace Go.Proofs.Ytmlkmgeddkpgiaa
open Go.RowKit
set_option linter.unusedVariables false

def celT (c : Cel) : TypeId := if c.k = 8 then 141 else 156
theorem PCell.iv {w : World} {iv : Value} {pb : Nat} {row : Value} {c : Cel} (h : PCell w iv pb row c) : iv = .iface (celT c) (ptr pb) := by
  rcases h with ⟨rfl, h⟩ | ⟨rfl, h⟩
  · have := h.kind
    rw [celT, if_neg (by omega)]
  · rw [celT, if_pos h.kind]
theorem PCell.later {w w' : World} {iv : Value} {pb : Nat} {row : Value} {c : Cel} (h : PCell w iv pb row c) (k : Below w.heap.size w w') : PCell w' iv pb row c := h.same (k.block _ h.lt) fun g _ hg => k.block _ hg

/-- Where the m-th cell's interface value lies. -/
theorem PH.ivAt {role : Nat → Nat × Nat} {c hb : Nat} {vc : Value} {ivs : List Value} {pb : Nat → Nat} {rv : Nat → Value} {P : List Cel} {w : World} (h : PH role c hb vc ivs pb rv P w) {m : Nat} {cl : Cel} (hm : P[m]? = some cl) :
    ∃ g cap, vc = .slice (some ⟨g, 0, none⟩) P.length cap ∧ w.cell? ⟨hb, 0, none⟩ = some (.slice (some ⟨g, 0, none⟩) P.length cap) ∧ w.cell? ⟨g, m, none⟩ = some (.iface (celT cl) (ptr (pb m))) ∧ PCell w (.iface (celT cl) (ptr (pb m))) (pb m) (rv m) cl := by
  have hl := (List.getElem?_eq_some_iff.1 hm).1
  obtain ⟨g, cap, rfl, _, _⟩ := h.crow.form (by omega)
  obtain ⟨iv, h1, h2, _⟩ := h.cell m cl hm
  have e := h2.iv
  subst e
  refine ⟨g, cap, rfl, ?_, ?_, h2⟩
  · rw [cellAt h.hblk]
    rfl
  · rw [h.crow.cellAt m (by omega), h1]

theorem may_is {o : Ob} {b : Bool} (h : o.may = b) : Hid (∀ w, Calls Try.prog 109 #[o.val] w fun e w' => e = .returned (.bool b) ∧ Below w.heap.size w w') := Lib.hid fun w => by
  have := may_any o.k o.n o.a o.l o.x o.s w
  unfold Ob.may at h
  rw [h] at this
  exact this

theorem may_n {o : Ob} (hc : comp o.k = true) (h : o.may = true) : 0 ≤ o.n ∧ 0 ≤ o.a ∧ o.a ≤ 40000 ∧ 0 ≤ o.l ∧ o.l ≤ 40000 := by
  have hc := comp_iff.1 hc
  unfold Ob.may mayO at h
  rcases hc with hc | hc | hc <;> simp [hc, pieceP, onlyP] at h ⊢ <;> omega

theorem find_far (hb : Nat) (o : Ob) (p : Option Addr) (z cap : Nat) (w : World) (hk : comp o.k = true) (h0 : w.cell? ⟨hb, 0, none⟩ = some (.slice p z cap)) (hn : (z : Int) ≤ o.n) (hm : o.may = true) :
    Calls Try.prog 71 #[ptr hb, o.val] w fun e w' => e = .returned (.tuple #[pcV .nilIface 0 0, .int .i64 1]) ∧ Below w.heap.size w w' := by
  have M := may_is hm
  obtain ⟨k, x, n, a, l, s⟩ := o
  rcases comp_iff.1 hk with rfl | rfl | rfl
  · exact find_far_9 hb n a l x s p z cap w h0 hn M
  · exact find_far_8 hb n a l x s p z cap w h0 hn M
  · exact find_far_10 hb n a l x s p z cap w h0 hn M

theorem find_walk (hb g m r T : Nat) (o : Ob) (u v : Int) (y : Bool) (z cap : Nat) (w : World) (hk : comp o.k = true) (h0 : w.cell? ⟨hb, 0, none⟩ = some (.slice (some ⟨g, 0, none⟩) z cap)) (hg : w.cell? ⟨g, m, none⟩ = some (.iface T (ptr r))) (hn : m < z) (hmn : o.n = m)
    (hT : T = 156 ∨ T = 141) (hm : o.may = true)
    (hr : Hid (∀ wx, Below w.heap.size w wx → Calls Try.prog (if T = 156 then 159 else 153) #[ptr r, o.val] wx fun e w' => e = .returned (.tuple #[.int .i64 u, .int .i64 v, .bool y]) ∧ Below wx.heap.size wx w')) :
    Calls Try.prog 71 #[ptr hb, o.val] w fun e w' => e = .returned (.tuple #[if y = true then pcV (.iface T (ptr r)) u v else pcV .nilIface 0 0, .int .i64 (if y = true then 0 else 1)]) ∧ Below w.heap.size w w' := by
  have M := may_is hm
  obtain ⟨k, x, n, a, l, s⟩ := o
  simp only at hmn
  subst hmn
  rcases hT with rfl | rfl <;> rcases comp_iff.1 hk with rfl | rfl | rfl
  · exact find_walk_9_87 hb g m r a l u v x y s z cap w h0 hg (by omega) (by omega) M hr
  · exact find_walk_8_87 hb g m r a l u v x y s z cap w h0 hg (by omega) (by omega) M hr
  · exact find_walk_10_87 hb g m r a l u v x y s z cap w h0 hg (by omega) (by omega) M hr
  · exact find_walk_9_95 hb g m r a l u v x y s z cap w h0 hg (by omega) (by omega) M hr
  · exact find_walk_8_95 hb g m r a l u v x y s z cap w h0 hg (by omega) (by omega) M hr
  · exact find_walk_10_95 hb g m r a l u v x y s z cap w h0 hg (by omega) (by omega) M hr

theorem celT_two (c : Cel) : celT c = 156 ∨ celT c = 141 := by
  unfold celT
  split
  · exact .inr rfl
  · exact .inl rfl

theorem reach_yes {w : World} {pb : Nat} {row : Value} {c : Cel} (h : PCell w (.iface (celT c) (ptr pb)) pb row c) (o : Ob) (hz : c.size ≤ 40000) (ha : 0 ≤ o.a) (ha' : o.a ≤ 40000) (hk : c.k = o.k) (hl : o.a + o.l ≤ c.size) :
    Calls Try.prog (if celT c = 156 then 159 else 153) #[ptr pb, o.val] w fun e w' => e = .returned (.tuple #[.int .i64 o.a, .int .i64 (if o.k = 10 then c.size else o.l), .bool true]) ∧ Below w.heap.size w w' := by
  rcases h with ⟨e, h⟩ | ⟨e, h⟩
  · have e : celT c = 156 := by injection e
    rw [if_pos e]
    exact ireach_yes h o hz ha ha' hk hl
  · have e : celT c = 141 := by injection e
    rw [e, if_neg (by decide)]
    exact breach_yes h o hz ha ha' hk hl
theorem reach_no {w : World} {pb : Nat} {row : Value} {c : Cel} (h : PCell w (.iface (celT c) (ptr pb)) pb row c) (o : Ob) (hz : c.size ≤ 40000) (ha : 0 ≤ o.a) (ha' : o.a ≤ 40000) (hno : ¬(c.k = o.k ∧ o.a + o.l ≤ c.size)) :
    Calls Try.prog (if celT c = 156 then 159 else 153) #[ptr pb, o.val] w fun e w' => e = .returned (.tuple #[.int .i64 0, .int .i64 0, .bool false]) ∧ Below w.heap.size w w' := by
  rcases h with ⟨e, h⟩ | ⟨e, h⟩
  · have e : celT c = 156 := by injection e
    rw [if_pos e]
    exact ireach_no h o hz ha ha' hno
  · have e : celT c = 141 := by injection e
    rw [e, if_neg (by decide)]
    exact breach_no h o hz ha ha' hno

section
variable {role : Nat → Nat × Nat} {c hb : Nat} {vc : Value} {ivs : List Value} {pb : Nat → Nat} {rv : Nat → Value} {P : List Cel} {w : World}

theorem find_ok (h : PH role c hb vc ivs pb rv P w) (o : Ob) (ho : okO P o = true) :
    Calls Try.prog 71 #[ptr hb, o.val] w fun e w' => e = .returned (.tuple #[pcV (.iface (celT (cellOf P o)) (ptr (pb o.n.toNat))) o.a (lenO P o), .int .i64 0]) ∧ Below w.heap.size w w' := by
  obtain ⟨h1, h2, _⟩ := okO_iff.1 ho
  obtain ⟨b0, b1, b2, b3, b4, b5, b6, b7, _⟩ := ok_bd ho
  have hc := cellOf_get (P := P) (o := o) b0 b1
  obtain ⟨g, cap, rfl, e0, e1, e2⟩ := h.ivAt hc
  have hz := h.wf.size hc
  have L : lenO P o = if o.k = 10 then ((cellOf P o).size : Int) else o.l := by simp [lenO, ho]
  rw [L]
  exact find_walk hb g o.n.toNat (pb o.n.toNat) (celT (cellOf P o)) o o.a _ true P.length cap w h1 e0 e1 (by omega) (by omega) (celT_two _) h2 (Lib.hid fun wx kx => reach_yes (e2.later kx) o hz b2 b3 b6 b7)

theorem find_no (h : PH role c hb vc ivs pb rv P w) (o : Ob) (ho : okO P o = false) :
    Calls Try.prog 71 #[ptr hb, o.val] w fun e w' => e = .returned (.tuple #[pcV .nilIface 0 0, .int .i64 (errO P o)]) ∧ Below w.heap.size w w' := by
  cases hk : comp o.k
  · have E : errO P o = 6 := by simp [errO, hk]
    have hk' : ¬ (o.k = 9 ∨ o.k = 8 ∨ o.k = 10) := fun hh => by
      rw [comp_iff.2 hh] at hk
      cases hk
    rw [E]
    exact find_type hb o.k o.n o.a o.l o.x o.s w (by omega) (by omega) (by omega)
  · have E : errO P o = 1 := by simp [errO, hk, ho]
    rw [E]
    cases hm : o.may
    · exact find_bad hb o.k o.n o.a o.l o.x o.s w (comp_iff.1 hk) (may_is hm)
    · obtain ⟨b0, b1, b2, b3, b4⟩ := may_n hk hm
      by_cases hn : o.n < P.length
      · have hc := cellOf_get (P := P) (o := o) b0 hn
        obtain ⟨g, cap, rfl, e0, e1, e2⟩ := h.ivAt hc
        have hz := h.wf.size hc
        have hno : ¬((cellOf P o).k = o.k ∧ o.a + o.l ≤ (cellOf P o).size) := by
          intro hh
          have : okO P o = true := okO_iff.2 ⟨hk, hm, by simp [inCell, hn, hh]⟩
          rw [ho] at this
          cases this
        exact find_walk hb g o.n.toNat (pb o.n.toNat) (celT (cellOf P o)) o 0 0 false P.length cap w hk e0 e1 (by omega) (by omega) (celT_two _) hm (Lib.hid fun wx kx => reach_no (e2.later kx) o hz b1 b2 hno)
      · obtain ⟨p, cap, rfl⟩ := owns_form h.crow
        have e0 := cellAt h.hblk 0
        exact find_far hb o p P.length cap w hk e0 (by omega) hm
end
end Go.Proofs.Ytmlkmgeddkpgiaa
