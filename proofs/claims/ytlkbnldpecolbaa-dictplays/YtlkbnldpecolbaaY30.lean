/- Y30: EA, EB. -/
import Derived.Test.YtlkbnldpecolbaaE9
import Derived.Test.YtlkbnldpecolbaaY29
import Derived.Laws.IdiomStrings
/- DictPlays: what the law calls beside Key, Get, Set, Drop. -/
namespace Go.Proofs.Ytlkbnldpecolbaa
open Go.RowKit Go.Maps
set_option linter.unusedVariables false
set_option linter.unusedSimpArgs false

/-- A list of pairs, as both sides return it. -/
def Prs (w : World) (ps : List (Ob × Ob)) (v : Value) : Prop := ∃ ad c, v = .slice ad (2 * ps.length) c ∧ (0 < ps.length → ∃ a, ad = some a ∧ ∀ j u, (obCells (flatD ps))[j]? = some u → w.cell? (a.add j) = some u)
theorem Prs.later {w w' : World} {ps : List (Ob × Ob)} {v : Value} (h : Prs w ps v) (k : Below w.heap.size w w') : Prs w' ps v := by
  obtain ⟨ad, c, e, hc⟩ := h
  exact ⟨ad, c, e, fun h0 => by
    obtain ⟨a, e1, h1⟩ := hc h0
    exact ⟨a, e1, fun j u hj => cell_later k (h1 j u hj)⟩⟩
theorem Prs.seg {w : World} {ps : List (Ob × Ob)} {v : Value} (h : Prs w ps v) (h0 : 0 < ps.length) : Seg w v (flatD ps) := by
  obtain ⟨ad, c, e, hc⟩ := h
  obtain ⟨a, rfl, h1⟩ := hc h0
  exact .inr ⟨a, c, by rw [e, flatD_length], h1⟩
theorem flat_cells {ps : List (Ob × Ob)} {rm j : Nat} {u : Value} (h : (obCells (flatD ps))[j]? = some u) : (obCells (itemsD ps rm))[6 + j]? = some u := by
  have hj := (List.getElem?_eq_some_iff.1 h).1
  have e : obCells (itemsD ps rm) = (Ob.num ps.length).cells ++ (obCells (flatD ps) ++ obCells (List.replicate (2 * (rm - ps.length)) Ob.null)) := by
    rw [← obCells_append]
    simp [itemsD, obCells]
  rw [e, List.getElem?_append_right (by simp [Ob.cells]), show 6 + j - (Ob.num ps.length).cells.length = j from by simp [Ob.cells], List.getElem?_append_left hj]
  exact h
theorem Prs.of {w : World} {ps : List (Ob × Ob)} {rm g cap z q : Nat} {ad : Option Addr} (hq : q = 2 * ps.length + 1) (h1 : 0 < ps.length → ad = some ⟨g, 6, none⟩) (h : w.ownsRow 0 30 6 (.slice (some ⟨g, 0, none⟩) (2 * rm + 1) cap) (2 * rm + 1) (obCells (itemsD ps rm))) : Prs w ps (.slice ad (q - 1) (cap - 1)) :=
  ⟨ad, cap - 1, by rw [hq]; rfl, fun h0 => ⟨_, h1 h0, fun j u hj => by
    have := h.cells (g := g) rfl (6 + j) u (flat_cells hj)
    rw [Addr.add_mid] at this ⊢
    simpa using this⟩⟩
set_option maxRecDepth 100000 in
theorem same_nil (a b : Option Addr) (c d : Nat) (w : World) : Calls Try.prog 36 #[.slice a (0 : Nat) c, .slice b (0 : Nat) d] w fun e w' => e = .returned (.bool true) ∧ Below w.heap.size w w' := by
  go_enter Try.func36, Try.ntmps36
  go_wp2
  go_loopw [5] (fun x wr => x = .int .i64 0 ∧ Below w.heap.size w wr) (fun x _ => 0)
  case atStart => exact ⟨rfl, Below.refl _ _⟩
  case round =>
    obtain ⟨rfl, hb⟩ := hrel
    have HB := Lib.hid hb
    clear hb
    go_wp2
    go_ret
    exact ⟨rfl, HB.out⟩
theorem same_prs {w : World} {ps : List (Ob × Ob)} {va vb : Value} (ha : Prs w ps va) (hb : Prs w ps vb) (hl : ps.length ≤ 500) : Calls Try.prog 36 #[va, vb] w fun e w' => e = .returned (.bool true) ∧ Below w.heap.size w w' := by
  by_cases h0 : 0 < ps.length
  · exact same_yes (ha.seg h0) (hb.seg h0) (by rw [flatD_length]; omega)
  · obtain ⟨a, c, rfl, _⟩ := ha
    obtain ⟨b, d, rfl, _⟩ := hb
    rw [show 2 * ps.length = 0 from by omega]
    exact same_nil a b c d w
set_option maxHeartbeats 1000000 in
set_option maxRecDepth 100000 in
theorem rpairs_walk (rb n q len : Nat) (d : Ob) (X : List Ob) (w : World) (hq : q = 2 * n + 1) (hX : X.length = len) (hl : q ≤ len) (hlm : len ≤ 2001)
    (C1 : Hid (∀ wx, Below w.heap.size w wx → Calls Try.prog 72 #[ptr rb, d.val] wx fun e w' => e = .returned (.tuple #[.int .i64 n, .int .i64 0]) ∧ Below wx.heap.size wx w'))
    (C2 : Hid (∀ wx, Below w.heap.size w wx → Calls Try.prog 73 #[ptr rb, d.val] wx fun e w' => ∃ v, e = .returned (.tuple #[v, .int .i64 0]) ∧ ItemsOf wx X v w')) :
    Calls Try.prog 33 #[ptr rb, d.val] w fun e w' => ∃ g cap ad, e = .returned (.tuple #[.slice ad (q - 1) (cap - 1), .int .i64 0]) ∧ (0 < n → ad = some ⟨g, 6, none⟩) ∧ w'.ownsRow 0 30 6 (.slice (some ⟨g, 0, none⟩) len cap) len (obCells X) ∧ Below w.heap.size w w' := by
  have HQ := Lib.hid hq
  have HL := Lib.hid hl
  obtain ⟨z, hz⟩ : ∃ z, 2 * n = z := ⟨_, rfl⟩
  have W1 := Lib.hid (wrp (x := 2 * (n : Int)) (z : Int) (by omega) (by omega) (by omega))
  have W2 := Lib.hid (wrp (x := (z : Int) + 1) (q : Int) (by omega) (by omega) (by omega))
  have HX := Lib.hid hX
  clear hq hX hl hlm hz
  simp only [Ob.val] at C1 C2 ⊢
  go_enter Try.func33, Try.ntmps33
  go_upto_region 1 with fail
  obtain ⟨wb, eb, kb, zb, ob⟩ := ob_box w d.k d.n d.a d.l d.x d.s
  rw [eb]
  have OB := Lib.hid ob
  have KB := Lib.hid kb
  clear eb zb kb ob
  obtain ⟨c0, c1, c2, c3, c4, c5⟩ := OB.out
  go_wp2_with fail
  refine (C1.out _ KB.out).mono ?_
  rintro e w1 ⟨rfl, k1⟩
  replace OB := Lib.hid (OB.out.later k1)
  replace KB := Lib.hid (below_and KB.out k1)
  clear k1 c0 c1 c2 c3 c4 c5
  obtain ⟨c0, c1, c2, c3, c4, c5⟩ := OB.out
  go_wp2_with fail
  refine (C2.out _ KB.out).mono ?_
  rintro e w3 ⟨v, rfl, r3, k3⟩
  rw [HX.out] at r3
  obtain ⟨g, cap, rfl, _, _⟩ := r3.form (by have := HL.out; have := HQ.out; omega)
  have hcap : len ≤ cap := by
    rcases r3.2 with ⟨hn, _⟩ | ⟨g', cap', cur, hv, _, _, hc, _⟩
    · cases hn
    · injection hv with _ _ h3
      omega
  replace KB := Lib.hid (below_and KB.out k3)
  have R3 := Lib.hid (r3.mono (Nat.zero_le _))
  have hsl := slice33 (some ⟨g, 0, none⟩) len cap 1 q (by have := HQ.out; omega) (by have := HL.out; omega)
  obtain ⟨ad, had⟩ : ∃ ad, (if cap = 1 then some (⟨g, 0, none⟩ : Addr) else (some (⟨g, 0, none⟩ : Addr)).map (·.add (1 * 6))) = ad := ⟨_, rfl⟩
  rw [had] at hsl
  rw [show (((1 : Nat) : Int)) = 1 from rfl] at hsl
  have HAD : Hid (0 < n → ad = some ⟨g, 6, none⟩) := Lib.hid fun h0 => by
    rw [← had, if_neg (by have := HQ.out; have := HL.out; omega)]
    simp only [Option.map_some, Addr.add_mid, Nat.zero_add, Nat.one_mul]
  obtain ⟨v1, v1'⟩ := W1.out
  obtain ⟨v2, v2'⟩ := W2.out
  clear k3 r3 hcap had c0 c1 c2 c3 c4 c5
  go_wp2
  go_ret2
  exact ⟨g, cap, ad, rfl, HAD.out, R3.out, KB.out⟩
section
variable {out base : Nat → Prop} {hb rb rm : Nat} {P A : List Cel} {ps : List (Ob × Ob)} {w w' : World}
theorem qPairs (h : DP out hb rb P (H1 ps rm) w) (G : Good rm ps) : Calls Try.prog 33 #[ptr rb, dO0.val] w fun e w' => (∃ v, e = .returned (.tuple #[v, .int .i64 0]) ∧ Prs w' ps v) ∧ Below w.heap.size w w' := by
  have C1 : Hid (∀ wx, Below w.heap.size w wx → Calls Try.prog 72 #[ptr rb, dO0.val] wx fun e w' => e = .returned (.tuple #[.int .i64 (ps.length : Nat), .int .i64 0]) ∧ Below wx.heap.size wx w') := Lib.hid fun wx kx => (h.below kx).refLeaf fun own u R r e => by
    have := rlenD_tot r dO0
    rw [e, G.dc.dlN, G.dc.drE] at this
    exact this
  have C2 : Hid (∀ wx, Below w.heap.size w wx → Calls Try.prog 73 #[ptr rb, dO0.val] wx fun e w' => ∃ v, e = .returned (.tuple #[v, .int .i64 0]) ∧ ItemsOf wx (itemsD ps rm) v w') := Lib.hid fun wx kx => by
    obtain ⟨own, u, R, h1, h2, h4, h5⟩ := h.below kx
    have := ritems_tot h2 dO0
    have e1 : itsE (cels R) dO0 = 0 := by rw [h5, itsE, if_pos G.dc.ok]; rfl
    have e2 : itsL (cels R) dO0 = itemsD ps rm := by rw [itsL, if_pos e1, h5]; exact items_all G.dc
    rw [e1, e2] at this
    exact this
  refine (rpairs_walk rb ps.length (2 * ps.length + 1) (2 * rm + 1) dO0 (itemsD ps rm) w rfl (itemsD_length G.le) (by have := G.le; omega) (by have := G.most; omega) C1 C2).mono ?_
  rintro e w' ⟨g, cap, ad, rfl, h1, h2, k⟩
  exact ⟨⟨_, rfl, Prs.of (z := 0) rfl h1 h2⟩, k⟩
theorem pPairs (h : DP out hb rb (H1 ps rm) A w) (G : Good rm ps) : Calls Try.prog 22 #[ptr hb, dO0.val] w fun e w' => (∃ v, e = .returned (.tuple #[v, .int .i64 0]) ∧ Prs w' ps v) ∧ Below w.heap.size w w' := by
  obtain ⟨own, u, R, h1, h2, h4, h5⟩ := h
  refine (hPairs h1 G.ok (isD0 _) (c := ⟨ps, rm, false⟩) rfl _ rfl).mono ?_
  rintro e w' ⟨g, cap, ad, rfl, h1, _, h2, k⟩
  exact ⟨⟨_, rfl, Prs.of (z := 0) rfl h1 h2⟩, k⟩
theorem pKey (h : DP out hb rb P A w) (k : Ob) : Calls Try.prog 27 #[ptr hb, k.val] w fun e w' => e = .returned (.tuple #[(keyO P k).val, .int .i64 (keyE P k)]) ∧ Below w.heap.size w w' := h.progLeaf fun own s => by
  obtain ⟨role, ⟨vc, ivs, pb, rv, h1⟩, h2⟩ := s
  exact key_is h1 k
theorem qKey (h : DP out hb rb P A w) (k : Ob) : Calls Try.prog 28 #[ptr rb, k.val] w fun e w' => e = .returned (.tuple #[(keyO A k).val, .int .i64 (keyE A k)]) ∧ Below w.heap.size w w' := h.refLeaf fun own u R r e => by
  have := rkey_tot r k
  rw [e] at this
  exact this
theorem pGet12 (h : DP out hb rb (H1 ps rm) A w) (G : Good rm ps) (k : Ob) : Calls Try.prog 31 #[ptr hb, dO0.val, k.val] w fun e w' => e = .returned (.tuple #[(dgetO (H1 ps rm) ps k).val, .int .i64 (dgetE (H1 ps rm) ps k)]) ∧ Below w.heap.size w w' :=
  h.progLeaf fun own s => hGet s G.ok (isD0 _) (c := ⟨ps, rm, false⟩) rfl k
theorem pSet12 (h : DP base hb rb (H1 ps rm) A w) (G : Good rm ps) (k v : Ob) :
    Calls Try.prog 20 #[ptr hb, dO0.val, k.val, v.val] w fun e w' => e = .returned (.int .i64 (dsetE (H1 ps rm) ps rm false k v)) ∧ DP base hb rb (H1 (if dsetE (H1 ps rm) ps rm false k v = 0 then dsetL ps (keyO (H1 ps rm) k) v else ps) rm) A w' ∧ Kept base w w' :=
  h.prog fun own s => by
    have := hSet s G.ok (isD0 _) (c := ⟨ps, rm, false⟩) rfl k v
    have e : setD [⟨ps, rm, false⟩] ⟨ps, rm, false⟩ dO0 k v = [⟨if dsetE (H1 ps rm) ps rm false k v = 0 then dsetL ps (keyO (H1 ps rm) k) v else ps, rm, false⟩] := by
      unfold setD
      split <;> rfl
    rw [e] at this
    exact this
theorem pDrop12 (h : DP base hb rb (H1 ps rm) A w) (G : Good rm ps) (k : Ob) :
    Calls Try.prog 21 #[ptr hb, dO0.val, k.val] w fun e w' => e = .returned (.int .i64 (dropE (H1 ps rm) ps false k)) ∧ DP base hb rb (H1 (if dropE (H1 ps rm) ps false k = 0 then dropL ps (keyO (H1 ps rm) k) else ps) rm) A w' ∧ Kept base w w' :=
  h.prog fun own s => by
    have := sDictDrop s G.dc (k := k) key_fine G.all
    rw [show (if dropE (H1 ps rm) ps false k = 0 then (H1 ps rm).set dO0.n.toNat ⟨10, false, itemsD (dropL ps (keyO (H1 ps rm) k)) rm, []⟩ else H1 ps rm) = H1 (if dropE (H1 ps rm) ps false k = 0 then dropL ps (keyO (H1 ps rm) k) else ps) rm from by
      split <;> rfl] at this
    exact this
end
set_option maxRecDepth 100000 in
theorem pLen_walk (hb k p r : Nat) (n a l : Int) (x : Bool) (s : ByteArray) (w : World)
    (C1 : Hid (∀ wx, Below w.heap.size w wx → Calls Try.prog 58 #[ptr hb, obV 10 x n a l s] wx fun e w' => e = .returned (.tuple #[dcV hb 10 x n a l s p r, .int .i64 0]) ∧ Below wx.heap.size wx w')) :
    Calls Try.prog 34 #[ptr hb, obV 10 x n a l s] w fun e w' => e = .returned (.tuple #[.int .i64 (p : Nat), .int .i64 0]) ∧ Below w.heap.size w w' := by
  go_enter Try.func34, Try.ntmps34
  go_upto_region 1 with fail
  obtain ⟨wb, eb, kb, zb, ob⟩ := ob_box w 10 n a l x s
  rw [eb]
  have KB := Lib.hid kb
  obtain ⟨c0, c1, c2, c3, c4, c5⟩ := ob
  clear eb zb kb
  go_wp2_with fail
  refine (C1.out _ KB.out).mono ?_
  rintro e w1 ⟨rfl, k1⟩
  replace KB := Lib.hid (below_and KB.out k1)
  clear k1 c0 c1 c2 c3 c4 c5
  go_upto_region 2 with fail
  obtain ⟨w2, e2, k2, z2, b2⟩ := dc_box w1 hb 10 x n a l s p r
  rw [e2]
  replace KB := Lib.hid (below_and KB.out k2)
  obtain ⟨d0, d1, d2, d3, d4, d5, d6, d7, d8⟩ := dc_cells b2
  clear e2 k2 z2 b2
  go_wp2
  go_ret2
  exact ⟨rfl, KB.out⟩
theorem pLen {out : Nat → Prop} {hb rb rm : Nat} {A : List Cel} {ps : List (Ob × Ob)} {w : World} (h : DP out hb rb (H1 ps rm) A w) (G : Good rm ps) : Calls Try.prog 34 #[ptr hb, dO0.val] w fun e w' => e = .returned (.tuple #[.int .i64 (ps.length : Nat), .int .i64 0]) ∧ Below w.heap.size w w' :=
  pLen_walk hb 0 ps.length rm 0 0 0 false ⟨#[]⟩ w (Lib.hid fun wx kx => (h.below kx).progLeaf fun own s => by
    obtain ⟨role, ⟨vc, ivs, pb, rv, h1⟩, h2⟩ := s
    exact open_is h1 G.dc)
set_option maxRecDepth 100000 in
theorem pRoom_walk (hb k p r : Nat) (n a l : Int) (x : Bool) (s : ByteArray) (w : World)
    (C1 : Hid (∀ wx, Below w.heap.size w wx → Calls Try.prog 58 #[ptr hb, obV 10 x n a l s] wx fun e w' => e = .returned (.tuple #[dcV hb 10 x n a l s p r, .int .i64 0]) ∧ Below wx.heap.size wx w')) :
    Calls Try.prog 35 #[ptr hb, obV 10 x n a l s] w fun e w' => e = .returned (.tuple #[.int .i64 (r : Nat), .int .i64 0]) ∧ Below w.heap.size w w' := by
  go_enter Try.func35, Try.ntmps35
  go_upto_region 1 with fail
  obtain ⟨wb, eb, kb, zb, ob⟩ := ob_box w 10 n a l x s
  rw [eb]
  have KB := Lib.hid kb
  obtain ⟨c0, c1, c2, c3, c4, c5⟩ := ob
  clear eb zb kb
  go_wp2_with fail
  refine (C1.out _ KB.out).mono ?_
  rintro e w1 ⟨rfl, k1⟩
  replace KB := Lib.hid (below_and KB.out k1)
  clear k1 c0 c1 c2 c3 c4 c5
  go_upto_region 2 with fail
  obtain ⟨w2, e2, k2, z2, b2⟩ := dc_box w1 hb 10 x n a l s p r
  rw [e2]
  replace KB := Lib.hid (below_and KB.out k2)
  obtain ⟨d0, d1, d2, d3, d4, d5, d6, d7, d8⟩ := dc_cells b2
  clear e2 k2 z2 b2
  go_wp2
  go_ret2
  exact ⟨rfl, KB.out⟩
theorem pRoom {out : Nat → Prop} {hb rb rm : Nat} {A : List Cel} {ps : List (Ob × Ob)} {w : World} (h : DP out hb rb (H1 ps rm) A w) (G : Good rm ps) : Calls Try.prog 35 #[ptr hb, dO0.val] w fun e w' => e = .returned (.tuple #[.int .i64 (rm : Nat), .int .i64 0]) ∧ Below w.heap.size w w' :=
  pRoom_walk hb 0 ps.length rm 0 0 0 false ⟨#[]⟩ w (Lib.hid fun wx kx => (h.below kx).progLeaf fun own s => by
    obtain ⟨role, ⟨vc, ivs, pb, rv, h1⟩, h2⟩ := s
    exact open_is h1 G.dc)
section
variable {own out : Nat → Prop} {hb rb : Nat} {P A : List Cel} {w : World}
theorem sDict_tot (h : Sep own hb P w) (n : Int) : Calls Try.prog 44 #[ptr hb, .int .i64 n] w fun e w' => e = .returned (.tuple #[(dicO P n).val, .int .i64 (dicE P n)]) ∧ Sep own hb (dicP P n) w' ∧ Kept own w w' := by
  obtain ⟨role, ⟨vc, ivs, pb, rv, h1⟩, h2⟩ := h
  refine (dict_tot h1 n).mono ?_
  rintro e w' ⟨rfl, role', q1, q2⟩
  exact ⟨rfl, Sep.of_keep h2 q1 q2⟩
theorem sNewDict_tot (h : Sep own hb P w) (n : Int) : Calls Try.prog 12 #[ptr hb, .int .i64 n] w fun e w' => e = .returned (.tuple #[(dicO P n).val, .int .i64 (dicE P n)]) ∧ Sep own hb (dicP P n) w' ∧ Kept own w w' := by
  have hA := h.lt
  refine (newDict_walk hb n (dicO P n).k (dicO P n).n (dicO P n).a (dicO P n).l (dicE P n) (dicO P n).x (dicO P n).s w (fun wx w' => wx = w.alloc emptyOb → Sep (fun b => own b ∨ b = w.heap.size) hb (dicP P n) w' ∧ Kept (fun b => own b ∨ b = w.heap.size) wx w') (Lib.hid fun wx hx => ?_)).mono ?_
  · subst hx
    refine (sDict_tot (h.box emptyOb) n).mono ?_
    rintro e w' ⟨rfl, s1, k1⟩
    exact ⟨rfl, fun _ => ⟨s1, k1⟩, (k1.block _ (.inr rfl)).trans (heap_alloc_new _ _)⟩
  · rintro e w' ⟨rfl, wx, wy, rfl, hR, rfl⟩
    obtain ⟨s1, k1⟩ := hR rfl
    have on : Only w.heap.size wy (put6 wy w.heap.size (.int .i64 (dicO P n).k) (.bool (dicO P n).x) (.int .i64 (dicO P n).n) (.int .i64 (dicO P n).a) (.int .i64 (dicO P n).l) (.string (dicO P n).s)) := only6 _ _ _ _ _ _ _ _
    refine ⟨rfl, (s1.only (.inr rfl) on).sub fun b hb => .inl hb, ?_⟩
    exact ((h.below (box_below w emptyOb)).2.trans (k1.sub fun b hb => .inl hb)).only (own' := own) on fun e => by
      have := hA _ e
      omega
theorem pNew (h : DP out hb rb P A w) (n : Int) : Calls Try.prog 12 #[ptr hb, .int .i64 n] w fun e w' => e = .returned (.tuple #[(dicO P n).val, .int .i64 (dicE P n)]) ∧ DP out hb rb (dicP P n) A w' ∧ Kept out w w' := h.prog fun own s => sNewDict_tot s n
theorem dic_in (n : Nat) (h : n ≤ 1000) : dicE [] n = 0 ∧ dicO [] n = dO0 ∧ dicP [] n = H1 [] n := by
  have e : dicE [] n = 0 := by
    rw [dicE, if_neg (by omega), mkE, if_pos]
    simp [usedP]
    omega
  refine ⟨e, ?_, ?_⟩
  · rw [dicO, if_pos e, mkO, if_pos]
    · rfl
    · rw [dicE, if_neg (by omega)] at e
      exact e
  · rw [dicP, if_neg (by omega), mkP, if_pos]
    · rw [Int.toNat_natCast, newD_cel]
      rfl
    · rw [dicE, if_neg (by omega)] at e
      simpa [Cel.size, emptyD] using e
theorem dic_out (n : Int) (h : n < 0 ∨ 1000 < n) : dicE [] n = 2 ∧ dicO [] n = Ob.zero := by
  have e : dicE [] n = 2 := by rw [dicE, if_pos h]
  exact ⟨e, by rw [dicO, if_neg (by rw [e]; decide)]⟩
end
end Go.Proofs.Ytlkbnldpecolbaa

/- DictPlays: a key by any number. -/
namespace Go.Proofs.Ytlkbnldpecolbaa
open Go.RowKit Go.Maps
set_option linter.unusedVariables false
set_option linter.unusedSimpArgs false

theorem kconv1 (w : World) (a : Int) (h0 : 0 ≤ a) (h1 : a ≤ 255) : (convert 100 9 (.slice (some ⟨w.heap.size, 0, none⟩) 1 1)).run Try.prog (w.alloc (.cells #[.int .u8 a] 5)) = .ok (.string ⟨#[UInt8.ofNat a.toNat]⟩) (w.alloc (.cells #[.int .u8 a] 5)) := by
  refine run_convert_bytes_back (w.alloc (.cells #[.int .u8 a] 5)) 100 9 5 ⟨w.heap.size, 0, none⟩ 1 [UInt8.ofNat a.toNat] Try.underlying100 Try.underlying5 Try.underlying9 fun j hj => ?_
  have e : j = 0 := by
    simp at hj
    exact hj
  subst e
  have e2 : (((UInt8.ofNat a.toNat).toNat : Nat) : Int) = a := by
    rw [UInt8.toNat_ofNat']
    omega
  rw [Addr.add_mid]
  show (w.alloc (.cells #[.int .u8 a] 5)).cell? ⟨w.heap.size, 0, none⟩ = _
  rw [cellAt (heap_alloc_new w _)]
  simp only [List.getElem_cons_zero, e2]
  rfl
set_option maxHeartbeats 2000000 in
set_option maxRecDepth 100000 in
theorem key_neg (k k4 p n a l : Int) (x : Bool) (s : ByteArray) (m : Int) (w : World) (e1 : k.tdiv 4 = k4) (ew : IntKind.i64.wrap k4 = k4) (e2 : k4.tmod 7 = m) (t0 : decide (k < 0) = true) :
    Calls Try.prog 26 #[.int .i64 k, obV p x n a l s] w fun e w' => e = .returned (obV p x n a l s) ∧ Below w.heap.size w w' := by
  have t1 : k < 0 := of_decide_eq_true t0
  go_enter Try.func26, Try.ntmps26
  go_upto_region 1 with fail
  obtain ⟨wb, eb, kb, zb, oa, ob⟩ := ob_zero w p n a l x s
  rw [eb]
  have KB := Lib.hid kb
  have OB := Lib.hid ob
  obtain ⟨a0, a1, a2, a3, a4, a5⟩ := ob_cells oa
  obtain ⟨⟨o0, o1, o2, o3, o4, o5⟩, f0, f1, f2, f3, f4, f5⟩ := cells6 ob
  clear eb kb zb oa ob
  go_wp2
  (try simp only [Exit.inBlock, Exit.then])
  exact bodyPost_ret (results_cell_row rfl _ _ _ _ _ _ _ rfl (set6 OB.out _ _ _ _ _ _) Try.underlying30 rfl (by kernel_rfl)) rfl ⟨rfl, set6_below KB.out (Nat.le_succ _) _ _ _ _ _ _⟩
set_option maxHeartbeats 2000000 in
set_option maxRecDepth 100000 in
theorem key_go1 (k k4 p n a l : Int) (x : Bool) (s : ByteArray) (m m2 : Nat) (c v r : Int) (xx : Bool) (w : World) (e1 : k.tdiv 4 = k4) (ew : IntKind.i64.wrap k4 = k4) (e2 : k4.tmod 7 = m) (t0 : decide (k < 0) = false) (e3 : k.tmod 4 = r) (hr : (r == 0) = false ∧ (r == 1) = true) (e4 : (m : Int).tmod 2 = m2) (hx : ((m2 : Int) == 1) = xx) (e5 : IntKind.i64.wrap (97 + (m : Int)) = c) (e6 : IntKind.u8.wrap c = c) (c0 : Hid (0 ≤ c ∧ c ≤ 255)) (e7 : IntKind.i64.wrap ((m : Int) * 32768) = v) :
    Calls Try.prog 26 #[.int .i64 k, obV p x n a l s] w fun e w' => e = .returned (obV 3 false m 0 0 ⟨#[]⟩) ∧ Below w.heap.size w w' := by
  obtain ⟨q0, q1⟩ := hr
  have t1 : ¬ k < 0 := of_decide_eq_false t0
  go_enter Try.func26, Try.ntmps26
  go_upto_region 1 with fail
  obtain ⟨wb, eb, kb, zb, oa, ob⟩ := ob_zero w p n a l x s
  rw [eb]
  have KB := Lib.hid kb
  have OB := Lib.hid ob
  obtain ⟨a0, a1, a2, a3, a4, a5⟩ := ob_cells oa
  obtain ⟨⟨o0, o1, o2, o3, o4, o5⟩, f0, f1, f2, f3, f4, f5⟩ := cells6 ob
  clear eb kb zb oa ob
  go_wp2
  (try simp only [Exit.inBlock, Exit.then])
  exact bodyPost_ret (results_cell_row rfl _ _ _ _ _ _ _ rfl (set6 OB.out _ _ _ _ _ _) Try.underlying30 rfl (by kernel_rfl)) rfl ⟨rfl, set6_below KB.out (Nat.le_succ _) _ _ _ _ _ _⟩
set_option maxHeartbeats 2000000 in
set_option maxRecDepth 100000 in
theorem key_go2 (k k4 p n a l : Int) (x : Bool) (s : ByteArray) (m m2 : Nat) (c v r : Int) (xx : Bool) (w : World) (e1 : k.tdiv 4 = k4) (ew : IntKind.i64.wrap k4 = k4) (e2 : k4.tmod 7 = m) (t0 : decide (k < 0) = false) (e3 : k.tmod 4 = r) (hr : (r == 0) = false ∧ (r == 1) = false ∧ (r == 2) = true) (e4 : (m : Int).tmod 2 = m2) (hx : ((m2 : Int) == 1) = xx) (e5 : IntKind.i64.wrap (97 + (m : Int)) = c) (e6 : IntKind.u8.wrap c = c) (c0 : Hid (0 ≤ c ∧ c ≤ 255)) (e7 : IntKind.i64.wrap ((m : Int) * 32768) = v) :
    Calls Try.prog 26 #[.int .i64 k, obV p x n a l s] w fun e w' => e = .returned (obV 4 false v 0 0 ⟨#[]⟩) ∧ Below w.heap.size w w' := by
  obtain ⟨q0, q1, q2⟩ := hr
  have t1 : ¬ k < 0 := of_decide_eq_false t0
  go_enter Try.func26, Try.ntmps26
  go_upto_region 1 with fail
  obtain ⟨wb, eb, kb, zb, oa, ob⟩ := ob_zero w p n a l x s
  rw [eb]
  have KB := Lib.hid kb
  have OB := Lib.hid ob
  obtain ⟨a0, a1, a2, a3, a4, a5⟩ := ob_cells oa
  obtain ⟨⟨o0, o1, o2, o3, o4, o5⟩, f0, f1, f2, f3, f4, f5⟩ := cells6 ob
  clear eb kb zb oa ob
  go_wp2
  (try simp only [Exit.inBlock, Exit.then])
  exact bodyPost_ret (results_cell_row rfl _ _ _ _ _ _ _ rfl (set6 OB.out _ _ _ _ _ _) Try.underlying30 rfl (by kernel_rfl)) rfl ⟨rfl, set6_below KB.out (Nat.le_succ _) _ _ _ _ _ _⟩
set_option maxHeartbeats 2000000 in
set_option maxRecDepth 100000 in
theorem key_go3 (k k4 p n a l : Int) (x : Bool) (s : ByteArray) (m m2 : Nat) (c v r : Int) (xx : Bool) (w : World) (e1 : k.tdiv 4 = k4) (ew : IntKind.i64.wrap k4 = k4) (e2 : k4.tmod 7 = m) (t0 : decide (k < 0) = false) (e3 : k.tmod 4 = r) (hr : (r == 0) = false ∧ (r == 1) = false ∧ (r == 2) = false) (e4 : (m : Int).tmod 2 = m2) (hx : ((m2 : Int) == 1) = xx) (e5 : IntKind.i64.wrap (97 + (m : Int)) = c) (e6 : IntKind.u8.wrap c = c) (c0 : Hid (0 ≤ c ∧ c ≤ 255)) (e7 : IntKind.i64.wrap ((m : Int) * 32768) = v) :
    Calls Try.prog 26 #[.int .i64 k, obV p x n a l s] w fun e w' => e = .returned (obV 2 false m2 0 0 ⟨#[]⟩) ∧ Below w.heap.size w w' := by
  obtain ⟨q0, q1, q2⟩ := hr
  have t1 : ¬ k < 0 := of_decide_eq_false t0
  go_enter Try.func26, Try.ntmps26
  go_upto_region 1 with fail
  obtain ⟨wb, eb, kb, zb, oa, ob⟩ := ob_zero w p n a l x s
  rw [eb]
  have KB := Lib.hid kb
  have OB := Lib.hid ob
  obtain ⟨a0, a1, a2, a3, a4, a5⟩ := ob_cells oa
  obtain ⟨⟨o0, o1, o2, o3, o4, o5⟩, f0, f1, f2, f3, f4, f5⟩ := cells6 ob
  clear eb kb zb oa ob
  go_wp2
  (try simp only [Exit.inBlock, Exit.then])
  exact bodyPost_ret (results_cell_row rfl _ _ _ _ _ _ _ rfl (set6 OB.out _ _ _ _ _ _) Try.underlying30 rfl (by kernel_rfl)) rfl ⟨rfl, set6_below KB.out (Nat.le_succ _) _ _ _ _ _ _⟩
set_option maxHeartbeats 2000000 in
set_option maxRecDepth 100000 in
theorem key_go0 (k k4 p n a l : Int) (x : Bool) (s : ByteArray) (m m2 : Nat) (c v r : Int) (xx : Bool) (w : World) (e1 : k.tdiv 4 = k4) (ew : IntKind.i64.wrap k4 = k4) (e2 : k4.tmod 7 = m) (t0 : decide (k < 0) = false) (e3 : k.tmod 4 = r) (hr : (r == 0) = true) (e4 : (m : Int).tmod 2 = m2) (hx : ((m2 : Int) == 1) = xx) (e5 : IntKind.i64.wrap (97 + (m : Int)) = c) (e6 : IntKind.u8.wrap c = c) (c0 : Hid (0 ≤ c ∧ c ≤ 255)) (e7 : IntKind.i64.wrap ((m : Int) * 32768) = v) :
    Calls Try.prog 26 #[.int .i64 k, obV p x n a l s] w fun e w' => e = .returned (obV 5 xx 0 0 0 ⟨#[UInt8.ofNat c.toNat]⟩) ∧ Below w.heap.size w w' := by
  have q0 := hr
  have t1 : ¬ k < 0 := of_decide_eq_false t0
  go_enter Try.func26, Try.ntmps26
  go_upto_region 1 with fail
  obtain ⟨wb, eb, kb, zb, oa, ob⟩ := ob_zero w p n a l x s
  rw [eb]
  have KB := Lib.hid kb
  have OB := Lib.hid ob
  have hcv := kconv1 wb c c0.out.1 c0.out.2
  clear eb kb zb oa ob
  go_upto_region 5 with fail
  have hB : Below wb.heap.size wb (wb.alloc (.cells #[.int .u8 c] 5)) := (Below.refl _ wb).alloc (Nat.le_refl _) _
  have ob' := (hB.block _ (blk_lt OB.out)).trans OB.out
  have KC := Lib.hid (below_and KB.out hB)
  have OC := Lib.hid ob'
  obtain ⟨⟨o0, o1, o2, o3, o4, o5⟩, f0, f1, f2, f3, f4, f5⟩ := cells6 ob'
  clear hB ob'
  go_wp2_with fail
  (try simp only [Exit.inBlock, Exit.then])
  exact bodyPost_ret (results_cell_row rfl _ _ _ _ _ _ _ rfl (set6 OC.out _ _ _ _ _ _) Try.underlying30 rfl (by kernel_rfl)) rfl ⟨rfl, set6_below KC.out (Nat.le_succ _) _ _ _ _ _ _⟩
theorem key_some_all (k : Int) (h0 : -9223372036854775808 ≤ k) (h1 : k < 9223372036854775808) (o : Ob) : ∃ q : Ob, ∀ w, Calls Try.prog 26 #[.int .i64 k, o.val] w fun e w' => e = .returned q.val ∧ Below w.heap.size w w' := by
  by_cases hk : k < 0
  · have ew : IntKind.i64.wrap (k.tdiv 4) = k.tdiv 4 := IntWalk.i64_in _ (by
      have := Int.mul_tdiv_add_tmod k 4
      have := Int.tmod_lt_of_pos k (b := 4) (by decide)
      have : -4 < k.tmod 4 := by
        have := Int.neg_tmod k 4
        have q := Int.tmod_lt_of_pos (-k) (b := 4) (by decide)
        omega
      omega)
    exact ⟨o, fun w => key_neg k _ o.k o.n o.a o.l o.x o.s _ w rfl ew rfl (decide_eq_true hk)⟩
  · obtain ⟨kn, rfl⟩ : ∃ kn : Nat, k = kn := ⟨k.toNat, by omega⟩
    obtain ⟨m, hm⟩ : ∃ m, kn / 4 % 7 = m := ⟨_, rfl⟩
    have e1 : (kn : Int).tdiv 4 = ((kn / 4 : Nat) : Int) := by rw [Int.tdiv_eq_ediv_of_nonneg (by omega)]; omega
    have ew : IntKind.i64.wrap ((kn / 4 : Nat) : Int) = ((kn / 4 : Nat) : Int) := wrapi_in _ (by omega) (by omega)
    have e2 : ((kn / 4 : Nat) : Int).tmod 7 = (m : Int) := by rw [Int.tmod_eq_emod_of_nonneg (by omega)]; omega
    have e3 : ∀ b : Nat, kn % 4 = b → (kn : Int).tmod 4 = (b : Int) := fun b hb => by rw [Int.tmod_eq_emod_of_nonneg (by omega)]; omega
    have e4 : (m : Int).tmod 2 = ((m % 2 : Nat) : Int) := by rw [Int.tmod_eq_emod_of_nonneg (by omega)]; omega
    have e5 : IntKind.i64.wrap (97 + (m : Int)) = ((97 + m : Nat) : Int) := by rw [wrapi_in _ (by omega) (by omega)]; omega
    have e6 : IntKind.u8.wrap ((97 + m : Nat) : Int) = ((97 + m : Nat) : Int) := by
      show ((97 + m : Nat) : Int) % 256 = _
      omega
    have e7 : IntKind.i64.wrap ((m : Int) * 32768) = ((m * 32768 : Nat) : Int) := by rw [wrapi_in _ (by omega) (by omega)]; omega
    have hb : kn % 4 = 0 ∨ kn % 4 = 1 ∨ kn % 4 = 2 ∨ kn % 4 = 3 := by omega
    have t0 : decide ((kn : Int) < 0) = false := decide_eq_false hk
    rcases hb with hb | hb | hb | hb
    · exact ⟨⟨_, _, _, _, _, _⟩, fun w => key_go0 kn _ o.k o.n o.a o.l o.x o.s m (m % 2) _ _ _ _ w e1 ew e2 t0 (e3 _ hb) rfl e4 rfl e5 e6 (Lib.hid (by omega)) e7⟩
    · exact ⟨⟨_, _, _, _, _, _⟩, fun w => key_go1 kn _ o.k o.n o.a o.l o.x o.s m (m % 2) _ _ _ _ w e1 ew e2 t0 (e3 _ hb) ⟨rfl, rfl⟩ e4 rfl e5 e6 (Lib.hid (by omega)) e7⟩
    · exact ⟨⟨_, _, _, _, _, _⟩, fun w => key_go2 kn _ o.k o.n o.a o.l o.x o.s m (m % 2) _ _ _ _ w e1 ew e2 t0 (e3 _ hb) ⟨rfl, rfl, rfl⟩ e4 rfl e5 e6 (Lib.hid (by omega)) e7⟩
    · exact ⟨⟨_, _, _, _, _, _⟩, fun w => key_go3 kn _ o.k o.n o.a o.l o.x o.s m (m % 2) _ _ _ _ w e1 ew e2 t0 (e3 _ hb) ⟨rfl, rfl, rfl⟩ e4 rfl e5 e6 (Lib.hid (by omega)) e7⟩
end Go.Proofs.Ytlkbnldpecolbaa
