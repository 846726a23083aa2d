/- Walks of dict: Get, New, Pairs whole. -/
import Derived.Test.YtigboibcgpfphaaD13
namespace Go.Proofs.Ytigboibcgpfphaa
open Go.RowKit Go.Maps
set_option linter.unusedVariables false

/-- What Get returns. -/
def dgetE (P : List Cel) (ps : List (Ob × Ob)) (k : Ob) : Int := if keyE P k = 0 then (if (ixD ps (keyO P k) ps.length).isSome then 0 else 9) else keyE P k
def dgetO (P : List Cel) (ps : List (Ob × Ob)) (k : Ob) : Ob := if keyE P k = 0 then (match ixD ps (keyO P k) ps.length with | some i => (ps.getD i (Ob.zero, Ob.zero)).2 | none => Ob.zero) else Ob.zero
section
variable {role : Nat → Nat × Nat} {c hb : Nat} {vc : Value} {ivs : List Value} {pb : Nat → Nat} {rv : Nat → Value} {P : List Cel} {w w' : World} {d : Ob} {ps : List (Ob × Ob)} {room : Nat} {lk : Bool}
theorem dictGet_is (h : PH role c hb vc ivs pb rv P w) (D : DictC P d ps room lk) (k : Ob) (hf : keyE P k = 0 → (keyO P k).Fine) :
    Calls Try.prog 42 #[ptr hb, d.val, k.val] w fun e w' => e = .returned (.tuple #[(dgetO P ps k).val, .int .i64 (dgetE P ps k)]) ∧ Below w.heap.size w w' := by
  by_cases hk : keyE P k = 0
  · have hop : Hid (∀ wx, Below w.heap.size w wx → Calls Try.prog 75 #[ptr hb, d.val, k.val] wx fun e w' => e = .returned (.tuple #[dcV hb d.k d.x d.n d.a d.l d.s ps.length room, (keyO P k).val, .int .i64 0]) ∧ Below wx.heap.size wx w') := Lib.hid fun wx kx => openFor_is (h.below kx) D k hk
    have hfd := fun wx kx => find_is (h.below (w' := wx) kx) D (keyO P k) (hf hk)
    cases hi : ixD ps (keyO P k) ps.length with
    | none =>
      have e1 : dgetE P ps k = 9 := by simp [dgetE, hk, hi]
      have e2 : dgetO P ps k = Ob.zero := by simp [dgetO, hk, hi]
      rw [e1, e2]
      rw [hi] at hfd
      exact get_miss hb d.k d.n d.a d.l ps.length room 0 d.x d.s k.k k.n k.a k.l k.x k.s (keyO P k).k (keyO P k).n (keyO P k).a (keyO P k).l (keyO P k).x (keyO P k).s 0 0 0 0 false ⟨#[]⟩ w hop (Lib.hid hfd)
    | some i =>
      obtain ⟨hil, p, hp, _⟩ := ixD_some hi
      have e1 : dgetE P ps k = 0 := by simp [dgetE, hk, hi]
      have e2 : dgetO P ps k = p.2 := by simp [dgetO, hk, hi, List.getD_eq_getElem?_getD, hp]
      rw [e1, e2]
      rw [hi] at hfd
      refine get_have hb d.k d.n d.a d.l ps.length room (2 * (i : Int) + 1) (((2 * i + 2 : Nat) : Int)) 0 d.x d.s k.k k.n k.a k.l k.x k.s (keyO P k).k (keyO P k).n (keyO P k).a (keyO P k).l (keyO P k).x (keyO P k).s p.2.k p.2.n p.2.a p.2.l p.2.x p.2.s w ?_ hop (Lib.hid hfd) (Lib.hid fun wx kx => ?_)
      · have := D.le
        have := D.most
        rw [wrapi_in _ (by omega) (by omega)]
        omega
      · exact dget_is (h.below kx) D (itemsD_key hp).2
  · have e1 : dgetE P ps k = keyE P k := by simp [dgetE, hk]
    have e2 : dgetO P ps k = Ob.zero := by simp [dgetO, hk]
    rw [e1, e2]
    exact get_fail hb d.k d.n d.a d.l 0 0 (keyE P k) d.x d.s k.k k.n k.a k.l k.x k.s 0 0 0 0 false ⟨#[]⟩ 0 0 0 0 false ⟨#[]⟩ w (by simpa using hk) (Lib.hid fun wx kx => openFor_no (h.below kx) D k hk)

theorem items_all (D : DictC P d ps room lk) : itemsL P d = itemsD ps room := by
  rw [itemsL, D.len, D.cell, D.zeros.1]
  show ((itemsD ps room).drop 0).take (((2 * room + 1 : Nat) : Int)).toNat = _
  rw [List.drop_zero, Int.toNat_natCast, List.take_of_length_le (by rw [itemsD_length D.le]; exact Nat.le_refl _)]
set_option maxRecDepth 100000 in
theorem pairs_is (h : PH role c hb vc ivs pb rv P w) (D : DictC P d ps room lk) (q : Nat) (hq : q = 2 * ps.length + 1) :
    Calls Try.prog 44 #[ptr hb, d.val] w fun e w' => ∃ g cap ad, e = .returned (.tuple #[.slice ad (q - 1) (cap - 1), .int .i64 0]) ∧ (0 < ps.length → ad = some ⟨g, 6, none⟩) ∧ w.heap.size ≤ g ∧ w'.ownsRow 0 26 6 (.slice (some ⟨g, 0, none⟩) (2 * room + 1) cap) (2 * room + 1) (obCells (itemsD ps room)) ∧ Below w.heap.size w w' := by
  have hop : Hid (∀ wx, Below w.heap.size w wx → _) := Lib.hid fun wx kx => open_is (h.below kx) D
  have hit : Hid (∀ wx, Below w.heap.size w wx → _) := Lib.hid fun wx kx => items_is (h.below kx) d D.ok (by rw [D.k]; decide)
  rw [items_all D, itemsD_length D.le] at hit
  have HP : Hid (ps.length ≤ 1000 ∧ ps.length ≤ room) := Lib.hid ⟨Nat.le_trans D.le D.most, D.le⟩
  have HQ := Lib.hid hq
  clear hq h D
  show Calls Try.prog 44 #[ptr hb, obV d.k d.x d.n d.a d.l d.s] w _
  go_enter Try.func44, Try.ntmps44
  go_wp2_with fail
  obtain ⟨wb, eb, kb, zb, ob⟩ := ob_box w d.k d.n d.a d.l d.x d.s
  rw [eb]
  refine (hop.out wb kb).mono ?_
  rintro e w1 ⟨rfl, k1⟩
  have K1 := Lib.hid (below_and kb k1)
  have O1 := Lib.hid (ob.later k1)
  clear eb kb zb ob k1
  go_upto_region 2 with fail
  obtain ⟨w2, e2, k2, z2, b2⟩ := dc_box w1 hb d.k d.x d.n d.a d.l d.s ps.length room
  rw [e2]
  have K2 := Lib.hid (below_and K1.out k2)
  have D2 := Lib.hid b2
  obtain ⟨o0, o1, o2, o3, o4, o5⟩ := O1.out.later k2
  clear e2 k2 z2 b2
  go_wp2_with fail
  refine (hit.out w2 K2.out).mono ?_
  rintro e w3 ⟨v, rfl, r3, k3⟩
  obtain ⟨g, cap, rfl, _, _⟩ := r3.form (by omega)
  have hcap : 2 * room + 1 ≤ cap := by
    rcases r3.2 with ⟨hn, _⟩ | ⟨g', cap', cur, hv, _, _, hc, _⟩
    · cases hn
    · injection hv with _ _ h3
      omega
  have K3 := Lib.hid (below_and K2.out k3)
  have R3 := Lib.hid (r3.mono (Nat.zero_le _))
  have G3 := Lib.hid (Nat.le_trans K2.out.size (r3.lt g rfl).1)
  obtain ⟨d0, d1, d2, d3, d4, d5, d6, d7, d8⟩ := dc_cells ((k3.block _ (blk_lt D2.out)).trans D2.out)
  have hsl := slice33 (some ⟨g, 0, none⟩) (2 * room + 1) cap 1 q (by have := HQ.out; omega) (by have := HQ.out; have := HP.out; omega)
  obtain ⟨ad, had⟩ : ∃ ad, (if cap = 1 then some (⟨g, 0, none⟩ : Addr) else (some (⟨g, 0, none⟩ : Addr)).map (·.add (1 * 6))) = ad := ⟨_, rfl⟩
  rw [had] at hsl
  rw [show (((1 : Nat) : Int)) = 1 from rfl] at hsl
  have HAD : Hid (0 < ps.length → ad = some ⟨g, 6, none⟩) := Lib.hid fun h0 => by
    rw [← had, if_neg (by have := HP.out; omega)]
    simp only [Option.map_some, Addr.add_mid, Nat.zero_add, Nat.one_mul]
  clear o0 o1 o2 o3 o4 o5 r3 k3 hcap had
  go_wp2_with fail
  refine (end_is hb d.k d.n d.a d.l room d.x d.s ps.length q HQ.out HP.out.1 w3).mono ?_
  rintro e w4 ⟨rfl, k4⟩
  have K4 := Lib.hid (below_and K3.out k4)
  have R4 := Lib.hid (owns_same R3.out fun b _ hb => k4.block b hb)
  clear k4 d0 d1 d2 d3 d4 d5 d6 d7 d8
  go_wp2
  go_ret2
  exact ⟨g, cap, ad, rfl, HAD.out, G3.out, R4.out, K4.out⟩
end
section
variable {own : Nat → Prop} {hb : Nat} {P : List Cel} {w : World}
theorem sDict_ok (h : Sep own hb P w) (n : Nat) (hn : n ≤ 1000) (hl : P.length < 2000) (hu : 2 * n + 1 + usedP P ≤ 40000) :
    Calls Try.prog 60 #[ptr hb, .int .i64 n] w fun e w' => e = .returned (.tuple #[obV 10 false P.length 0 0 ⟨#[]⟩, .int .i64 0]) ∧ Sep own hb (P ++ [⟨10, false, emptyD n, []⟩]) w' ∧ Kept own w w' := by
  obtain ⟨role, ⟨vc, ivs, pb, rv, h1⟩, h2⟩ := h
  refine (dict_ok h1 n (2 * n) rfl hn hl hu).mono ?_
  rintro e w' ⟨rfl, role', q1, q2⟩
  exact ⟨rfl, Sep.of_keep h2 q1 q2⟩
set_option maxRecDepth 100000 in
theorem newDict_walk (hb : Nat) (m k n a l E : Int) (x : Bool) (s : ByteArray) (w : World) (R : World → World → Prop)
    (hs : Hid (∀ wx, wx = w.alloc emptyOb → Calls Try.prog 60 #[ptr hb, .int .i64 m] wx fun e w' => e = .returned (.tuple #[obV k x n a l s, .int .i64 E]) ∧ R wx w' ∧ w'.heap[w.heap.size]? = some emptyOb)) :
    Calls Try.prog 33 #[ptr hb, .int .i64 m] w fun e w' => e = .returned (.tuple #[obV k x n a l s, .int .i64 E]) ∧ ∃ wx wy, wx = w.alloc emptyOb ∧ R wx wy ∧ w' = put6 wy w.heap.size (.int .i64 k) (.bool x) (.int .i64 n) (.int .i64 a) (.int .i64 l) (.string s) := by
  go_enter Try.func33, Try.ntmps33
  go_wp2_with fail
  refine (hs.out _ rfl).mono ?_
  rintro e w1 ⟨rfl, hR, hblk⟩
  have HR := Lib.hid hR
  have HB := Lib.hid hblk
  obtain ⟨⟨c0, c1, c2, c3, c4, c5⟩, f0, f1, f2, f3, f4, f5⟩ := cells6 hblk
  clear hR hblk
  go_wp2
  (try simp only [Exit.inBlock, Exit.then])
  exact bodyPost_ret (ret_cell rfl _ _ _ _ _ _ _ _ rfl rfl (set6 HB.out _ _ _ _ _ _) Try.underlying26 rfl (by kernel_rfl)) rfl ⟨rfl, _, w1, rfl, HR.out, rfl⟩
theorem sNewDict (h : Sep own hb P w) (hA : ∀ b, own b → b < w.heap.size) (n : Nat) (hn : n ≤ 1000) (hl : P.length < 2000) (hu : 2 * n + 1 + usedP P ≤ 40000) :
    Calls Try.prog 33 #[ptr hb, .int .i64 n] w fun e w' => e = .returned (.tuple #[obV 10 false P.length 0 0 ⟨#[]⟩, .int .i64 0]) ∧ Sep own hb (P ++ [⟨10, false, emptyD n, []⟩]) w' ∧ Kept own w w' := by
  refine (newDict_walk hb n 10 P.length 0 0 0 false ⟨#[]⟩ w (fun wx w' => wx = w.alloc emptyOb → Sep (fun b => own b ∨ b = w.heap.size) hb (P ++ [⟨10, false, emptyD n, []⟩]) w' ∧ Kept (fun b => own b ∨ b = w.heap.size) wx w') (Lib.hid fun wx hx => ?_)).mono ?_
  · subst hx
    refine (sDict_ok (h.box emptyOb) n hn hl hu).mono ?_
    rintro e w' ⟨rfl, s1, k1⟩
    exact ⟨rfl, fun _ => ⟨s1, k1⟩, (k1.block _ (.inr rfl)).trans (heap_alloc_new _ _)⟩
  · rintro e w' ⟨rfl, wx, wy, rfl, hR, rfl⟩
    obtain ⟨s1, k1⟩ := hR rfl
    have on : Only w.heap.size wy (put6 wy w.heap.size (.int .i64 10) (.bool false) (.int .i64 P.length) (.int .i64 0) (.int .i64 0) (.string ⟨#[]⟩)) := only6 _ _ _ _ _ _ _ _
    refine ⟨rfl, (s1.only (.inr rfl) on).sub fun b hb => .inl hb, ?_⟩
    exact ((h.below (box_below w emptyOb)).2.trans (k1.sub fun b hb => .inl hb)).only (own' := own) on fun e => by
      have := hA _ e
      omega
end
end Go.Proofs.Ytigboibcgpfphaa
