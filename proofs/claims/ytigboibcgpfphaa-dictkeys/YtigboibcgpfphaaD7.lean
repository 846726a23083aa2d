/- Walks of dict: Key; Bytes of an empty cell. -/
import Derived.Test.YtigboibcgpfphaaD6
import Derived.Laws.BytesString
namespace Go.Proofs.Ytigboibcgpfphaa
open Go.RowKit Go.Maps
set_option linter.unusedVariables false

theorem conv0 (p : Option Addr) (cap : Nat) (w : World) : (convert 38 9 (.slice p 0 cap)).run Try.prog w = .ok (.string ⟨#[]⟩) w := by
  cases p with
  | some a =>
    exact run_convert_bytes_back w 38 9 5 a cap [] Try.underlying38 Try.underlying5 Try.underlying9 fun j hj => by simp at hj
  | none =>
    rw [run_convert_bytes_string w 38 9 5 none 0 cap Try.underlying38 Try.underlying5 Try.underlying9]
    simp [Conv.bytesToString]
    rfl
section
variable {role : Nat → Nat × Nat} {c hb : Nat} {vc : Value} {ivs : List Value} {pb : Nat → Nat} {rv : Nat → Value} {P : List Cel} {w w' : World}
theorem bytes_all (h : PH role c hb vc ivs pb rv P w) (o : Ob) (ho : okO P o = true) (hk : o.k = 8) :
    Calls Try.prog 15 #[ptr hb, o.val] w fun e w' => e = .returned (.tuple #[.string ⟨(bytesL P o).toArray⟩, .int .i64 0]) ∧ Below w.heap.size w w' := by
  by_cases hpos : 0 < (cellOf P o).bs.length
  · exact bytes_is h o ho hk hpos
  have hf := fun wx kx => find_ok (h.below (w' := wx) kx) o ho
  obtain ⟨b0, b1, b2, b3, b4, _, b6, b7, _⟩ := ok_bd ho
  obtain ⟨n0, n1⟩ := len_in ho
  have hc := cellOf_get (P := P) (o := o) b0 b1
  have hz := h.wf.size hc
  obtain ⟨g0, cap0, rfl, _, _, hp⟩ := h.ivAt hc
  rcases hp with ⟨eT, hC⟩ | ⟨eT, hC⟩
  · have := hC.kind
    omega
  · have eT : celT (cellOf P o) = 89 := by injection eT
    have hs : (cellOf P o).size = (cellOf P o).bs.length := by simp [Cel.size, hC.it]
    rw [eT] at hf
    have ea : o.a = ((0 : Nat) : Int) := by omega
    have el : lenO P o = ((0 : Nat) : Int) := by omega
    have eb : bytesL P o = [] := by simp [bytesL, el]
    rw [eb]
    have h2 : w.cell? ⟨pb o.n.toNat, 2, none⟩ = some (rv o.n.toNat) := by
      rw [cellAt hC.blk]
      rfl
    rw [ea, el] at hf
    have hv : o.val = obV o.k o.x o.n ((0 : Nat) : Int) o.l o.s := by
      unfold Ob.val
      rw [ea]
    rw [hv]
    rw [hv] at hf
    rcases hC.row with ⟨er, _⟩ | ⟨g, cap, cur, fr, er, _⟩
    · rw [er] at h2
      exact bytes_walk95 hb (pb o.n.toNat) 0 0 0 0 0 none o.k o.n _ o.l o.x o.s _ _ w h2 rfl (Lib.hid hf) (slice58 none 0 0 0 0 (Nat.le_refl _) (Nat.le_refl _)) (Lib.hid fun wx kx => conv0 _ _ wx)
    · rw [er, show (cellOf P o).bs.length = 0 from by omega] at h2
      exact bytes_walk95 hb (pb o.n.toNat) 0 cap 0 0 0 (some ⟨g, 0, none⟩) o.k o.n _ o.l o.x o.s _ _ w h2 rfl (Lib.hid hf) (slice58 (some ⟨g, 0, none⟩) 0 cap 0 0 (Nat.le_refl _) (Nat.zero_le _)) (Lib.hid fun wx kx => conv0 _ _ wx)
end

set_option maxRecDepth 100000 in
theorem nameOf_walk (hb : Nat) (k n a l : Int) (x : Bool) (s t : ByteArray) (w : World) (ht : t.size ≤ 100)
    (hm : Hid (∀ wx, Below w.heap.size w wx → Calls Try.prog 15 #[ptr hb, obV k x n a l s] wx fun e w' => e = .returned (.tuple #[.string t, .int .i64 0]) ∧ Below wx.heap.size wx w')) :
    Calls Try.prog 74 #[ptr hb, obV k x n a l s] w fun e w' => e = .returned (.tuple #[obV 5 false 0 0 0 t, .int .i64 0]) ∧ Below w.heap.size w w' := by
  have h1 : decide ((100 : Int) < t.size) = false := decide_eq_false (by omega)
  have h2 : decide (100 < t.size) = false := decide_eq_false (by omega)
  clear ht
  go_enter Try.func74, Try.ntmps74
  go_wp2_with fail
  obtain ⟨wb, eb, kb, zb, ob, db⟩ := ob_zero w k n a l x s
  rw [eb]
  refine (hm.out wb kb).mono ?_
  rintro e w1 ⟨rfl, k1⟩
  have K1 := Lib.hid (below_and kb k1)
  have D1 := Lib.hid ((k1.block _ (blk_lt db)).trans db)
  obtain ⟨⟨c0, c1, c2, c3, c4, c5⟩, f0, f1, f2, f3, f4, f5⟩ := cells6 D1.out
  clear eb kb zb ob db k1
  go_wp2
  (try simp only [Exit.inBlock, Exit.then])
  exact bodyPost_ret (ret_cell rfl _ _ _ _ _ _ _ _ rfl rfl (set6 D1.out _ _ _ _ _ _) Try.underlying26 rfl (by kernel_rfl)) rfl ⟨rfl, set6_below K1.out (Nat.le_succ _) _ _ _ _ _ _⟩
set_option maxRecDepth 100000 in
theorem nameOf_long (hb : Nat) (k n a l : Int) (x : Bool) (s t : ByteArray) (w : World) (ht : 100 < t.size)
    (hm : Hid (∀ wx, Below w.heap.size w wx → Calls Try.prog 15 #[ptr hb, obV k x n a l s] wx fun e w' => e = .returned (.tuple #[.string t, .int .i64 0]) ∧ Below wx.heap.size wx w')) :
    Calls Try.prog 74 #[ptr hb, obV k x n a l s] w fun e w' => e = .returned (.tuple #[zeroOb, .int .i64 5]) ∧ Below w.heap.size w w' := by
  have h1 : (100 : Int) < t.size := by omega
  clear ht
  go_enter Try.func74, Try.ntmps74
  go_wp2_with fail
  obtain ⟨wb, eb, kb, zb, ob, db⟩ := ob_zero w k n a l x s
  rw [eb]
  refine (hm.out wb kb).mono ?_
  rintro e w1 ⟨rfl, k1⟩
  have K1 := Lib.hid (below_and kb k1)
  have D1 := Lib.hid ((k1.block _ (blk_lt db)).trans db)
  obtain ⟨⟨c0, c1, c2, c3, c4, c5⟩, f0, f1, f2, f3, f4, f5⟩ := cells6 D1.out
  clear eb kb zb ob db k1
  go_wp2
  (try simp only [Exit.inBlock, Exit.then])
  exact bodyPost_ret (ret_cell rfl _ _ _ _ _ _ _ _ rfl rfl (set6 D1.out _ _ _ _ _ _) Try.underlying26 rfl (by kernel_rfl)) rfl ⟨rfl, set6_below K1.out (Nat.le_succ _) _ _ _ _ _ _⟩

set_option maxRecDepth 100000 in
theorem key_null (hb : Nat) (n a l : Int) (x : Bool) (s : ByteArray) (w : World) : Calls Try.prog 36 #[ptr hb, obV 1 x n a l s] w fun e w' => e = .returned (.tuple #[zeroOb, .int .i64 6]) ∧ Below w.heap.size w w' := by
  go_enter Try.func36, Try.ntmps36
  go_upto_region 1 with fail
  obtain ⟨wb, eb, kb, zb, ob, db⟩ := ob_zero w 1 n a l x s
  rw [eb]
  have K1 := Lib.hid kb
  have D1 := Lib.hid db
  obtain ⟨o0, o1, o2, o3, o4, o5⟩ := ob_cells ob
  obtain ⟨⟨c0, c1, c2, c3, c4, c5⟩, f0, f1, f2, f3, f4, f5⟩ := cells6 D1.out
  clear eb kb zb ob db
  go_wp2
  (try simp only [Exit.inBlock, Exit.then])
  exact bodyPost_ret (ret_cell rfl _ _ _ _ _ _ _ _ rfl rfl (set6 D1.out _ _ _ _ _ _) Try.underlying26 rfl (by kernel_rfl)) rfl ⟨rfl, set6_below K1.out (Nat.le_succ _) _ _ _ _ _ _⟩
set_option maxRecDepth 100000 in
theorem key_bad (hb : Nat) (k n a l : Int) (x : Bool) (s : ByteArray) (w : World) (hk : (k == 1) = false)
    (hm : Hid (∀ wx, Below w.heap.size w wx → Calls Try.prog 70 #[ptr hb, obV k x n a l s] wx fun e w' => e = .returned (.bool false) ∧ Below wx.heap.size wx w')) :
    Calls Try.prog 36 #[ptr hb, obV k x n a l s] w fun e w' => e = .returned (.tuple #[zeroOb, .int .i64 1]) ∧ Below w.heap.size w w' := by
  go_enter Try.func36, Try.ntmps36
  go_upto_region 1 with fail
  obtain ⟨wb, eb, kb, zb, ob, db⟩ := ob_zero w k n a l x s
  rw [eb]
  obtain ⟨o0, o1, o2, o3, o4, o5⟩ := ob_cells ob
  go_wp2_with fail
  refine (hm.out wb kb).mono ?_
  rintro e w1 ⟨rfl, k1⟩
  have K1 := Lib.hid (below_and kb k1)
  have D1 := Lib.hid ((k1.block _ (blk_lt db)).trans db)
  obtain ⟨⟨c0, c1, c2, c3, c4, c5⟩, f0, f1, f2, f3, f4, f5⟩ := cells6 D1.out
  clear eb kb zb ob db k1 o0 o1 o2 o3 o4 o5
  go_wp2
  (try simp only [Exit.inBlock, Exit.then])
  exact bodyPost_ret (ret_cell rfl _ _ _ _ _ _ _ _ rfl rfl (set6 D1.out _ _ _ _ _ _) Try.underlying26 rfl (by kernel_rfl)) rfl ⟨rfl, set6_below K1.out (Nat.le_succ _) _ _ _ _ _ _⟩
set_option maxRecDepth 100000 in
theorem key_obj (hb : Nat) (k n a l : Int) (x : Bool) (s : ByteArray) (w : World) (hk : (k == 1) = false) (hk8 : (k == 8) = false)
    (hm : Hid (∀ wx, Below w.heap.size w wx → Calls Try.prog 70 #[ptr hb, obV k x n a l s] wx fun e w' => e = .returned (.bool true) ∧ Below wx.heap.size wx w')) :
    Calls Try.prog 36 #[ptr hb, obV k x n a l s] w fun e w' => e = .returned (.tuple #[obV k false n a l s, .int .i64 0]) ∧ Below w.heap.size w w' := by
  go_enter Try.func36, Try.ntmps36
  go_upto_region 1 with fail
  obtain ⟨wb, eb, kb, zb, ob, db⟩ := ob_zero w k n a l x s
  rw [eb]
  obtain ⟨o0, o1, o2, o3, o4, o5⟩ := ob_cells ob
  go_wp2_with fail
  refine (hm.out wb kb).mono ?_
  rintro e w1 ⟨rfl, k1⟩
  have K1 := Lib.hid (below_and kb k1)
  have O1 := (k1.block _ (blk_lt ob)).trans ob
  have D1 := Lib.hid ((k1.block _ (blk_lt db)).trans db)
  clear eb kb zb ob db k1 o0 o1 o2 o3 o4 o5
  obtain ⟨⟨o0, o1, o2, o3, o4, o5⟩, g0, g1, g2, g3, g4, g5⟩ := cells6 O1
  obtain ⟨⟨c0, c1, c2, c3, c4, c5⟩, f0, f1, f2, f3, f4, f5⟩ := cells6 D1.out
  have OO := Lib.hid O1
  clear O1
  go_upto_region 10 with fail
  obtain ⟨w2, e2⟩ : ∃ w2, w1.setCell ⟨w.heap.size, 1, none⟩ (.bool false) = w2 := ⟨_, rfl⟩
  rw [e2]
  have O2 : w2.heap[w.heap.size]? = some (obObj k false n a l s) := by
    rw [← e2]
    exact heap_setCell_same _ _ 1 _ _ _ OO.out
  have D2 : Hid (w2.heap[w.heap.size + 1]? = some emptyOb) := Lib.hid (by
    rw [← e2, heap_setCell_other _ _ _ _ (Nat.succ_ne_self _)]
    exact D1.out)
  have K2 : Hid (Below w.heap.size w w2) := Lib.hid (by
    rw [← e2]
    exact K1.out.setCell (p := ⟨w.heap.size, 1, none⟩) (Nat.le_refl _) _)
  clear o0 o1 o2 o3 o4 o5 g0 g1 g2 g3 g4 g5 c0 c1 c2 c3 c4 c5 f0 f1 f2 f3 f4 f5 e2
  obtain ⟨o0, o1, o2, o3, o4, o5⟩ := ob_cells O2
  obtain ⟨⟨c0, c1, c2, c3, c4, c5⟩, f0, f1, f2, f3, f4, f5⟩ := cells6 D2.out
  go_wp2
  (try simp only [Exit.inBlock, Exit.then])
  exact bodyPost_ret (ret_cell rfl _ _ _ _ _ _ _ _ rfl rfl (set6 D2.out _ _ _ _ _ _) Try.underlying26 rfl (by kernel_rfl)) rfl ⟨rfl, set6_below K2.out (Nat.le_succ _) _ _ _ _ _ _⟩
set_option maxRecDepth 100000 in
theorem key_str (hb : Nat) (n a l E : Int) (x : Bool) (s : ByteArray) (kq nq aq lq : Int) (xq : Bool) (sq : ByteArray) (w : World)
    (hm : Hid (∀ wx, Below w.heap.size w wx → Calls Try.prog 70 #[ptr hb, obV 8 x n a l s] wx fun e w' => e = .returned (.bool true) ∧ Below wx.heap.size wx w'))
    (hn : Hid (∀ wx, Below w.heap.size w wx → Calls Try.prog 74 #[ptr hb, obV 8 x n a l s] wx fun e w' => e = .returned (.tuple #[obV kq xq nq aq lq sq, .int .i64 E]) ∧ Below wx.heap.size wx w')) :
    Calls Try.prog 36 #[ptr hb, obV 8 x n a l s] w fun e w' => e = .returned (.tuple #[obV kq xq nq aq lq sq, .int .i64 E]) ∧ Below w.heap.size w w' := by
  go_enter Try.func36, Try.ntmps36
  go_upto_region 1 with fail
  obtain ⟨wb, eb, kb, zb, ob, db⟩ := ob_zero w 8 n a l x s
  rw [eb]
  obtain ⟨o0, o1, o2, o3, o4, o5⟩ := ob_cells ob
  go_wp2_with fail
  refine (hm.out wb kb).mono ?_
  rintro e w1 ⟨rfl, k1⟩
  have K1 := Lib.hid (below_and kb k1)
  have O1 := (k1.block _ (blk_lt ob)).trans ob
  have D1 := Lib.hid ((k1.block _ (blk_lt db)).trans db)
  clear eb kb zb ob db k1 o0 o1 o2 o3 o4 o5
  obtain ⟨o0, o1, o2, o3, o4, o5⟩ := ob_cells O1
  go_wp2_with fail
  refine (hn.out w1 K1.out).mono ?_
  rintro e w2 ⟨rfl, k2⟩
  have K2 := Lib.hid (below_and K1.out k2)
  have D2 := Lib.hid ((k2.block _ (blk_lt D1.out)).trans D1.out)
  clear k2 O1 o0 o1 o2 o3 o4 o5
  obtain ⟨⟨c0, c1, c2, c3, c4, c5⟩, f0, f1, f2, f3, f4, f5⟩ := cells6 D2.out
  go_wp2
  (try simp only [Exit.inBlock, Exit.then])
  exact bodyPost_ret (ret_cell rfl _ _ _ _ _ _ _ _ rfl rfl (set6 D2.out _ _ _ _ _ _) Try.underlying26 rfl (by kernel_rfl)) rfl ⟨rfl, set6_below K2.out (Nat.le_succ _) _ _ _ _ _ _⟩

/-- What Key returns. -/
def keyE (P : List Cel) (o : Ob) : Int := if o.k = 1 then 6 else if mayH P o = true then (if o.k = 8 then (if (bytesL P o).length ≤ 100 then 0 else 5) else 0) else 1
def keyO (P : List Cel) (o : Ob) : Ob := if keyE P o = 0 then (if o.k = 8 then ⟨5, false, 0, 0, 0, ⟨(bytesL P o).toArray⟩⟩ else ⟨o.k, false, o.n, o.a, o.l, o.s⟩) else Ob.zero
section
variable {role : Nat → Nat × Nat} {c hb : Nat} {vc : Value} {ivs : List Value} {pb : Nat → Nat} {rv : Nat → Value} {P : List Cel} {w w' : World}
theorem key_is (h : PH role c hb vc ivs pb rv P w) (o : Ob) : Calls Try.prog 36 #[ptr hb, o.val] w fun e w' => e = .returned (.tuple #[(keyO P o).val, .int .i64 (keyE P o)]) ∧ Below w.heap.size w w' := by
  by_cases h1 : o.k = 1
  · have e1 : keyE P o = 6 := by simp [keyE, h1]
    have e2 : keyO P o = Ob.zero := by simp [keyO, e1]
    rw [e1, e2]
    have hv : o.val = obV 1 o.x o.n o.a o.l o.s := by
      rw [← h1]
      rfl
    rw [hv]
    exact key_null hb o.n o.a o.l o.x o.s w
  cases hm : mayH P o
  · have e1 : keyE P o = 1 := by simp [keyE, h1, hm]
    have e2 : keyO P o = Ob.zero := by simp [keyO, e1]
    rw [e1, e2]
    refine key_bad hb o.k o.n o.a o.l o.x o.s w (by simpa using h1) (Lib.hid fun wx kx => ?_)
    have := mayH_is (h.below kx) o
    rw [hm] at this
    exact this
  have hmm : Hid (∀ wx, Below w.heap.size w wx → Calls Try.prog 70 #[ptr hb, o.val] wx fun e w' => e = .returned (.bool true) ∧ Below wx.heap.size wx w') := Lib.hid fun wx kx => by
    have := mayH_is (h.below kx) o
    rw [hm] at this
    exact this
  by_cases h8 : o.k = 8
  · have hok : okO P o = true := by
      have := hm
      simp [mayH, comp, h8] at this
      rw [okO_iff]
      exact ⟨by simp [comp, h8], this⟩
    have hv : o.val = obV 8 o.x o.n o.a o.l o.s := by
      rw [← h8]
      rfl
    have hby : Hid (∀ wx, Below w.heap.size w wx → Calls Try.prog 15 #[ptr hb, obV 8 o.x o.n o.a o.l o.s] wx fun e w' => e = .returned (.tuple #[.string ⟨(bytesL P o).toArray⟩, .int .i64 0]) ∧ Below wx.heap.size wx w') := Lib.hid fun wx kx => by
      have := bytes_all (h.below kx) o hok h8
      rw [hv] at this
      exact this
    rw [hv] at hmm ⊢
    have hsz : (⟨(bytesL P o).toArray⟩ : ByteArray).size = (bytesL P o).length := rfl
    by_cases hl : (bytesL P o).length ≤ 100
    · have e1 : keyE P o = 0 := by simp [keyE, h8, hm, hl]
      have e2 : keyO P o = ⟨5, false, 0, 0, 0, ⟨(bytesL P o).toArray⟩⟩ := by simp [keyO, e1, h8]
      rw [e1, e2]
      exact key_str hb o.n o.a o.l 0 o.x o.s 5 0 0 0 false ⟨(bytesL P o).toArray⟩ w hmm (Lib.hid fun wx kx => nameOf_walk hb 8 o.n o.a o.l o.x o.s _ wx (by rw [hsz]; exact hl) (Lib.hid fun wy ky => hby.out wy (below_and kx ky)))
    · have e1 : keyE P o = 5 := by simp [keyE, h8, hm, hl]
      have e2 : keyO P o = Ob.zero := by simp [keyO, e1]
      rw [e1, e2]
      exact key_str hb o.n o.a o.l 5 o.x o.s 0 0 0 0 false ⟨#[]⟩ w hmm (Lib.hid fun wx kx => nameOf_long hb 8 o.n o.a o.l o.x o.s _ wx (by rw [hsz]; omega) (Lib.hid fun wy ky => hby.out wy (below_and kx ky)))
  · have e1 : keyE P o = 0 := by simp [keyE, h1, h8, hm]
    have e2 : keyO P o = ⟨o.k, false, o.n, o.a, o.l, o.s⟩ := by simp [keyO, e1, h8]
    rw [e1, e2]
    exact key_obj hb o.k o.n o.a o.l o.x o.s w (by simpa using h1) (by simpa using h8) hmm
end
end Go.Proofs.Ytigboibcgpfphaa
