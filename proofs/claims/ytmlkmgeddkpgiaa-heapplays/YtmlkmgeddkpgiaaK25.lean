/- Put of bytes into their own cell. -/
import Derived.Test.YtmlkmgeddkpgiaaK24
namespace Go.Proofs.Ytmlkmgeddkpgiaa
open Go.RowKit
set_option linter.unusedVariables false
section
variable {role : Nat → Nat × Nat} {c hb : Nat} {vc : Value} {ivs : List Value} {pb : Nat → Nat} {rv : Nat → Value} {P : List Cel} {w w' : World}
def bputP (P : List Cel) (o q : Ob) (i : Int) : List Cel := P.set o.n.toNat { cellOf P o with bs := putB (cellOf P o).bs (o.a + i).toNat (bytesL P q) }

set_option maxHeartbeats 1000000 in
theorem bput_is (h : PH role c hb vc ivs pb rv P w) (o q : Ob) (i : Int) (ho : okO P o = true) (hq : okO P q = true) (hk : o.k = 8) (hk2 : q.k = 8) (hn : q.n = o.n) (hi : i < 9223372036854775808) (hfit : 0 ≤ i ∧ 0 ≤ lenO P q ∧ i + lenO P q ≤ lenO P o) (hlk : (cellOf P o).lk = false) (hpos : 0 < (cellOf P o).bs.length) :
    Calls Try.prog 16 #[ptr hb, o.val, .int .i64 i, q.val] w fun e w' => e = .returned (.int .i64 0) ∧ PH role c hb vc ivs pb rv (bputP P o q i) w' ∧ Keep role c w role w' := by
  have hf := fun wx kx => find_ok (h.below (w' := wx) kx) o ho
  have hf2 := fun wx kx => find_ok (h.below (w' := wx) kx) q hq
  have ecel : cellOf P q = cellOf P o := by rw [cellOf, cellOf, hn]
  obtain ⟨z0, z1⟩ := lenO_bd h.wf o
  obtain ⟨n0, n1⟩ := len_in ho
  obtain ⟨m0, m1⟩ := len_in hq
  obtain ⟨b0, b1, b2, b3, _, _, b6, _⟩ := ok_bd ho
  obtain ⟨_, _, a2, a3, _⟩ := ok_bd hq
  have hc := cellOf_get (P := P) (o := o) b0 b1
  have hz := h.wf.size hc
  obtain ⟨g0, cap0, rfl, _, _, hp⟩ := h.ivAt hc
  obtain ⟨iv, g1, g2, g3, g4⟩ := h.cell o.n.toNat _ hc
  have hp' := hp
  rw [ecel] at m1 hf2
  rcases hp with ⟨eT, hC⟩ | ⟨eT, hC⟩
  · have := hC.kind
    omega
  have eT : celT (cellOf P o) = 141 := by injection eT
  have hs : (cellOf P o).size = (cellOf P o).bs.length := by simp [Cel.size, hC.it]
  rw [eT] at hf hf2 hp'
  have hv : q.val = obV o.k q.x q.n q.a q.l q.s := by
    rw [hk, ← hk2]
    rfl
  rw [hv] at hf2 ⊢
  rw [hn] at hf2 ⊢
  have hlen : (bytesL P q).length = (lenO P q).toNat := by
    simp [bytesL, ecel]
    omega
  have hrow := hC.row
  rcases hC.row with ⟨_, hnil⟩ | ⟨g, cap, cur, fr, er, hg, hfr, hcap, hsz, htk⟩
  · rw [hnil] at hpos
    simp at hpos
  have hblk := hC.blk
  rw [er] at hblk hrow
  have hgr := g4 g (by rw [er]; rfl)
  have hne : pb o.n.toNat ≠ g := fun e => by
    rw [e, hgr] at g3
    simp at g3
  have ed : (((o.a + i).toNat : Nat) : Int) = o.a + i := by omega
  have es : ((q.a.toNat : Nat) : Int) = q.a := by omega
  have em : (((lenO P q).toNat : Nat) : Int) = lenO P q := by omega
  have fin : ∀ wx, Below w.heap.size w wx → PH role c hb (.slice (some ⟨g0, 0, none⟩) P.length cap0) ivs pb rv (bputP P o q i) (wx.setCells g (o.a + i).toNat (byCells (bytesL P q))) ∧ Keep role c w role (wx.setCells g (o.a + i).toNat (byCells (bytesL P q))) := by
    intro wx kx
    have hx : rowB wx (.slice (some ⟨g, 0, none⟩) (cellOf P o).bs.length cap) (cellOf P o).bs := rowB_same hrow fun r _ hr => kx.block r hr
    obtain ⟨q1, q2⟩ := rowB_put (bytesL P q) (o.a + i).toNat wx _ hx rfl (by rw [hlen]; omega)
    refine ⟨h.change hc (by simp [Cel.size, putB_length]) ?_ ?_, q2.os.trans kx.os, q2.tape.trans kx.tape, q2.output.trans kx.output, by rw [q2.size]; exact kx.size, fun k hk hcc => ?_, fun _ _ => rfl⟩
    · rw [eT]
      refine .inr ⟨rfl, hC.kind, hC.it, ?_, ?_⟩
      · rw [q2.block _ hne, kx.block _ (blk_lt hC.blk)]
        exact hC.blk
      · rw [er]
        exact q1
    · intro k hk _ hne2
      rw [q2.block k (fun e => hne2 (by rw [er, e]; rfl))]
      exact kx.block k hk
    · rw [q2.block k (fun e => hcc (by rw [e, hgr]))]
      exact kx.block k hk
  refine put_walk95 hb (pb o.n.toNat) 141 (pb o.n.toNat) o.k o.n o.a o.l i o.a (lenO P o) q.a (lenO P q) (o.a + i) o.x o.s o.n q.a q.l q.x q.s w _ (by rw [hk]; decide) (wrapi_in _ (by omega) (by omega)) (Lib.hid hf) (Lib.hid hf2) (fits_is _ _ _ _ _ _ true z0 z1 hi (decide_eq_true hfit)) (locked_is (iv := iv) hp' false hlk) (Lib.hid fun wx kx => ?_)
  have hx : rowB wx (.slice (some ⟨g, 0, none⟩) (cellOf P o).bs.length cap) (cellOf P o).bs := rowB_same hrow fun r _ hr => kx.block r hr
  have h2 : wx.cell? ⟨pb o.n.toNat, 2, none⟩ = some (.slice (some ⟨g, 0, none⟩) (cellOf P o).bs.length cap) := by
    rw [cellAt ((kx.block _ (blk_lt hC.blk)).trans hblk)]
    rfl
  have s1 := slice58_l (some ⟨g, 0, none⟩) (cellOf P o).bs.length cap (o.a + i).toNat (by omega)
  have s2 := slice58 (some ⟨g, 0, none⟩) (cellOf P o).bs.length cap q.a.toNat (q.a.toNat + (lenO P q).toNat) (by omega) (by omega)
  rw [show q.a.toNat + (lenO P q).toNat - q.a.toNat = (lenO P q).toNat from by omega] at s2
  have hcopy : (Builtin.copy_ #[108, 108] 3 #[.slice (if cap = (o.a + i).toNat then some ⟨g, 0, none⟩ else (some (⟨g, 0, none⟩ : Addr)).map (·.add (o.a + i).toNat)) ((cellOf P o).bs.length - (o.a + i).toNat) (cap - (o.a + i).toNat), .slice (if cap = q.a.toNat then some ⟨g, 0, none⟩ else (some (⟨g, 0, none⟩ : Addr)).map (·.add q.a.toNat)) (lenO P q).toNat (cap - q.a.toNat)]).run Try.prog wx.drew = .ok (goInt (byCells (bytesL P q)).length) (wx.drew.setCells g (o.a + i).toNat (byCells (bytesL P q))) := by
    have hmin : (byCells (bytesL P q)).length = Nat.min (lenO P q).toNat ((cellOf P o).bs.length - (o.a + i).toNat) := by
      rw [byCells_length, hlen]
      exact (Nat.min_eq_left (by omega)).symm
    by_cases hm : (lenO P q).toNat = 0
    · have e0 : bytesL P q = [] := List.eq_nil_of_length_eq_zero (by omega)
      rw [e0] at hmin ⊢
      have key : ∀ x1 x2, (Builtin.copy_ #[108, 108] 3 #[.slice (some ⟨g, x1, none⟩) ((cellOf P o).bs.length - (o.a + i).toNat) (cap - (o.a + i).toNat), .slice (some ⟨g, x2, none⟩) (lenO P q).toNat (cap - q.a.toNat)]).run Try.prog wx.drew = .ok (goInt (byCells []).length) (wx.drew.setCells g x1 (byCells [])) := fun x1 x2 =>
        run_copy_mid wx.drew 3 g x1 _ _ ⟨g, x2, none⟩ _ _ (byCells []) hmin (fun j v hj => by simp [byCells] at hj) (fun j hj => by simp [byCells] at hj) (byCells_one [])
      by_cases h1 : cap = (o.a + i).toNat
      · rw [if_pos h1]
        by_cases h3 : cap = q.a.toNat
        · rw [if_pos h3]
          exact key 0 0
        · rw [if_neg h3]
          simp only [Option.map_some, Addr.add_mid]
          exact key 0 _
      · rw [if_neg h1]
        by_cases h3 : cap = q.a.toNat
        · rw [if_pos h3]
          simp only [Option.map_some, Addr.add_mid]
          exact key _ 0
        · rw [if_neg h3]
          simp only [Option.map_some, Addr.add_mid]
          exact key _ _
    · rw [if_neg (by omega), if_neg (by omega)]
      simp only [Option.map_some, Addr.add_mid, Nat.zero_add]
      refine run_copy_mid wx.drew 3 g _ _ _ ⟨g, q.a.toNat, none⟩ _ _ (byCells (bytesL P q)) hmin (fun j v hj => ?_) (fun j hj => ?_) (byCells_one _)
      · rw [Addr.add_mid]
        have : (byCells (cellOf P o).bs)[q.a.toNat + j]? = some v := by
          have hb := by_mid (l := (cellOf P q).bs) hj
          rw [ecel] at hb
          exact hb
        exact (rowB_cell hx this).1
      · rw [byCells_length, hlen] at hj
        have hin : (byCells (cellOf P o).bs)[(o.a + i).toNat + j]? = some ((byCells (cellOf P o).bs)[(o.a + i).toNat + j]'(by rw [byCells_length]; omega)) := List.getElem?_eq_getElem _
        obtain ⟨y1, y2⟩ := rowB_cell hx hin
        exact ⟨by rw [show wx.drew.cell? ⟨g, (o.a + i).toNat + j, none⟩ = wx.cell? ⟨g, (o.a + i).toNat + j, none⟩ from rfl, y1]; rfl, y2⟩
  have key := bput_walk (pb o.n.toNat) (cellOf P o).bs.length cap (pb o.n.toNat) (cellOf P o).bs.length cap (o.a + i).toNat q.a.toNat (lenO P q).toNat (q.a.toNat + (lenO P q).toNat) (some ⟨g, 0, none⟩) (some ⟨g, 0, none⟩) _ _ (goInt (byCells (bytesL P q)).length) (fun w2 => PH role c hb (.slice (some ⟨g0, 0, none⟩) P.length cap0) ivs pb rv (bputP P o q i) w2 ∧ Keep role c w role w2) wx h2 h2 (by rw [wrapi_in _ (by omega) (by omega)]; omega) s1 s2 (Lib.hid ⟨_, hcopy, fin _ kx.drew⟩)
  rw [ed, es, em] at key
  exact key
end
end Go.Proofs.Ytmlkmgeddkpgiaa
