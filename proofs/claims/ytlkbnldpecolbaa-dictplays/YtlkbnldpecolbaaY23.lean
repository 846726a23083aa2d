/- Y23: D7, E3, D8, D9. -/
import Derived.Test.YtlkbnldpecolbaaY22
import Derived.Laws.BytesString
import Derived.Test.YtlkbnldpecolbaaY21
/- Walks of dict: Key; Bytes of an empty cell. -/
namespace Go.Proofs.Ytlkbnldpecolbaa
open Go.RowKit Go.Maps
set_option linter.unusedVariables false

theorem conv0 (p : Option Addr) (cap : Nat) (w : World) : (convert 100 9 (.slice p 0 cap)).run Try.prog w = .ok (.string ⟨#[]⟩) w := by
  cases p with
  | some a =>
    exact run_convert_bytes_back w 100 9 5 a cap [] Try.underlying100 Try.underlying5 Try.underlying9 fun j hj => by simp at hj
  | none =>
    rw [run_convert_bytes_string w 100 9 5 none 0 cap Try.underlying100 Try.underlying5 Try.underlying9]
    simp [Conv.bytesToString]
    rfl
section
variable {role : Nat → Nat × Nat} {c hb : Nat} {vc : Value} {ivs : List Value} {pb : Nat → Nat} {rv : Nat → Value} {P : List Cel} {w w' : World}
theorem bytes_all (h : PH role c hb vc ivs pb rv P w) (o : Ob) (ho : okO P o = true) (hk : o.k = 8) :
    Calls Try.prog 91 #[ptr hb, o.val] w fun e w' => e = .returned (.tuple #[.string ⟨(bytesL P o).toArray⟩, .int .i64 0]) ∧ Below w.heap.size w w' := by
  by_cases hpos : 0 < (cellOf P o).bs.length
  · exact bytes_is h o ho hk hpos
  have hf := fun wx kx => find_ok (h.below (w' := wx) kx) o ho
  obtain ⟨b0, b1, b2, b3, b4, _, b6, b7, _⟩ := ok_bd ho
  obtain ⟨n0, n1⟩ := len_in ho
  have hc := cellOf_get (P := P) (o := o) b0 b1
  have hz := h.wf.size hc
  obtain ⟨g0, cap0, rfl, _, _, hp⟩ := h.ivAt hc
  rcases hp with ⟨eT, hC⟩ | ⟨eT, hC⟩
  · have := hC.kind
    omega
  · have eT : celT (cellOf P o) = 134 := by injection eT
    have hs : (cellOf P o).size = (cellOf P o).bs.length := by simp [Cel.size, hC.it]
    rw [eT] at hf
    have ea : o.a = ((0 : Nat) : Int) := by omega
    have el : lenO P o = ((0 : Nat) : Int) := by omega
    have eb : bytesL P o = [] := by simp [bytesL, el]
    rw [eb]
    have h2 : w.cell? ⟨pb o.n.toNat, 2, none⟩ = some (rv o.n.toNat) := by
      rw [cellAt hC.blk]
      rfl
    rw [ea, el] at hf
    have hv : o.val = obV o.k o.x o.n ((0 : Nat) : Int) o.l o.s := by
      unfold Ob.val
      rw [ea]
    rw [hv]
    rw [hv] at hf
    rcases hC.row with ⟨er, _⟩ | ⟨g, cap, cur, fr, er, _⟩
    · rw [er] at h2
      exact bytes_walk95 hb (pb o.n.toNat) 0 0 0 0 0 none o.k o.n _ o.l o.x o.s _ _ w h2 rfl (Lib.hid hf) (slice58 none 0 0 0 0 (Nat.le_refl _) (Nat.le_refl _)) (Lib.hid fun wx kx => conv0 _ _ wx)
    · rw [er, show (cellOf P o).bs.length = 0 from by omega] at h2
      exact bytes_walk95 hb (pb o.n.toNat) 0 cap 0 0 0 (some ⟨g, 0, none⟩) o.k o.n _ o.l o.x o.s _ _ w h2 rfl (Lib.hid hf) (slice58 (some ⟨g, 0, none⟩) 0 cap 0 0 (Nat.le_refl _) (Nat.zero_le _)) (Lib.hid fun wx kx => conv0 _ _ wx)
end

set_option maxRecDepth 100000 in
theorem nameOf_walk (hb : Nat) (k n a l : Int) (x : Bool) (s t : ByteArray) (w : World) (ht : t.size ≤ 100)
    (hm : Hid (∀ wx, Below w.heap.size w wx → Calls Try.prog 91 #[ptr hb, obV k x n a l s] wx fun e w' => e = .returned (.tuple #[.string t, .int .i64 0]) ∧ Below wx.heap.size wx w')) :
    Calls Try.prog 64 #[ptr hb, obV k x n a l s] w fun e w' => e = .returned (.tuple #[obV 5 false 0 0 0 t, .int .i64 0]) ∧ Below w.heap.size w w' := by
  have h1 : decide ((100 : Int) < t.size) = false := decide_eq_false (by omega)
  have h2 : decide (100 < t.size) = false := decide_eq_false (by omega)
  clear ht
  go_enter Try.func64, Try.ntmps64
  go_wp2_with fail
  obtain ⟨wb, eb, kb, zb, ob, db⟩ := ob_zero w k n a l x s
  rw [eb]
  refine (hm.out wb kb).mono ?_
  rintro e w1 ⟨rfl, k1⟩
  have K1 := Lib.hid (below_and kb k1)
  have D1 := Lib.hid ((k1.block _ (blk_lt db)).trans db)
  obtain ⟨⟨c0, c1, c2, c3, c4, c5⟩, f0, f1, f2, f3, f4, f5⟩ := cells6 D1.out
  clear eb kb zb ob db k1
  go_wp2
  (try simp only [Exit.inBlock, Exit.then])
  exact bodyPost_ret (ret_cell rfl _ _ _ _ _ _ _ _ rfl rfl (set6 D1.out _ _ _ _ _ _) Try.underlying30 rfl (by kernel_rfl)) rfl ⟨rfl, set6_below K1.out (Nat.le_succ _) _ _ _ _ _ _⟩
set_option maxRecDepth 100000 in
theorem nameOf_long (hb : Nat) (k n a l : Int) (x : Bool) (s t : ByteArray) (w : World) (ht : 100 < t.size)
    (hm : Hid (∀ wx, Below w.heap.size w wx → Calls Try.prog 91 #[ptr hb, obV k x n a l s] wx fun e w' => e = .returned (.tuple #[.string t, .int .i64 0]) ∧ Below wx.heap.size wx w')) :
    Calls Try.prog 64 #[ptr hb, obV k x n a l s] w fun e w' => e = .returned (.tuple #[zeroOb, .int .i64 5]) ∧ Below w.heap.size w w' := by
  have h1 : (100 : Int) < t.size := by omega
  clear ht
  go_enter Try.func64, Try.ntmps64
  go_wp2_with fail
  obtain ⟨wb, eb, kb, zb, ob, db⟩ := ob_zero w k n a l x s
  rw [eb]
  refine (hm.out wb kb).mono ?_
  rintro e w1 ⟨rfl, k1⟩
  have K1 := Lib.hid (below_and kb k1)
  have D1 := Lib.hid ((k1.block _ (blk_lt db)).trans db)
  obtain ⟨⟨c0, c1, c2, c3, c4, c5⟩, f0, f1, f2, f3, f4, f5⟩ := cells6 D1.out
  clear eb kb zb ob db k1
  go_wp2
  (try simp only [Exit.inBlock, Exit.then])
  exact bodyPost_ret (ret_cell rfl _ _ _ _ _ _ _ _ rfl rfl (set6 D1.out _ _ _ _ _ _) Try.underlying30 rfl (by kernel_rfl)) rfl ⟨rfl, set6_below K1.out (Nat.le_succ _) _ _ _ _ _ _⟩

set_option maxRecDepth 100000 in
theorem key_null (hb : Nat) (n a l : Int) (x : Bool) (s : ByteArray) (w : World) : Calls Try.prog 27 #[ptr hb, obV 1 x n a l s] w fun e w' => e = .returned (.tuple #[zeroOb, .int .i64 6]) ∧ Below w.heap.size w w' := by
  go_enter Try.func27, Try.ntmps27
  go_upto_region 1 with fail
  obtain ⟨wb, eb, kb, zb, ob, db⟩ := ob_zero w 1 n a l x s
  rw [eb]
  have K1 := Lib.hid kb
  have D1 := Lib.hid db
  obtain ⟨o0, o1, o2, o3, o4, o5⟩ := ob_cells ob
  obtain ⟨⟨c0, c1, c2, c3, c4, c5⟩, f0, f1, f2, f3, f4, f5⟩ := cells6 D1.out
  clear eb kb zb ob db
  go_wp2
  (try simp only [Exit.inBlock, Exit.then])
  exact bodyPost_ret (ret_cell rfl _ _ _ _ _ _ _ _ rfl rfl (set6 D1.out _ _ _ _ _ _) Try.underlying30 rfl (by kernel_rfl)) rfl ⟨rfl, set6_below K1.out (Nat.le_succ _) _ _ _ _ _ _⟩
set_option maxRecDepth 100000 in
theorem key_bad (hb : Nat) (k n a l : Int) (x : Bool) (s : ByteArray) (w : World) (hk : (k == 1) = false)
    (hm : Hid (∀ wx, Below w.heap.size w wx → Calls Try.prog 52 #[ptr hb, obV k x n a l s] wx fun e w' => e = .returned (.bool false) ∧ Below wx.heap.size wx w')) :
    Calls Try.prog 27 #[ptr hb, obV k x n a l s] w fun e w' => e = .returned (.tuple #[zeroOb, .int .i64 1]) ∧ Below w.heap.size w w' := by
  go_enter Try.func27, Try.ntmps27
  go_upto_region 1 with fail
  obtain ⟨wb, eb, kb, zb, ob, db⟩ := ob_zero w k n a l x s
  rw [eb]
  obtain ⟨o0, o1, o2, o3, o4, o5⟩ := ob_cells ob
  go_wp2_with fail
  refine (hm.out wb kb).mono ?_
  rintro e w1 ⟨rfl, k1⟩
  have K1 := Lib.hid (below_and kb k1)
  have D1 := Lib.hid ((k1.block _ (blk_lt db)).trans db)
  obtain ⟨⟨c0, c1, c2, c3, c4, c5⟩, f0, f1, f2, f3, f4, f5⟩ := cells6 D1.out
  clear eb kb zb ob db k1 o0 o1 o2 o3 o4 o5
  go_wp2
  (try simp only [Exit.inBlock, Exit.then])
  exact bodyPost_ret (ret_cell rfl _ _ _ _ _ _ _ _ rfl rfl (set6 D1.out _ _ _ _ _ _) Try.underlying30 rfl (by kernel_rfl)) rfl ⟨rfl, set6_below K1.out (Nat.le_succ _) _ _ _ _ _ _⟩
set_option maxRecDepth 100000 in
theorem key_obj (hb : Nat) (k n a l : Int) (x : Bool) (s : ByteArray) (w : World) (hk : (k == 1) = false) (hk8 : (k == 8) = false)
    (hm : Hid (∀ wx, Below w.heap.size w wx → Calls Try.prog 52 #[ptr hb, obV k x n a l s] wx fun e w' => e = .returned (.bool true) ∧ Below wx.heap.size wx w')) :
    Calls Try.prog 27 #[ptr hb, obV k x n a l s] w fun e w' => e = .returned (.tuple #[obV k false n a l s, .int .i64 0]) ∧ Below w.heap.size w w' := by
  go_enter Try.func27, Try.ntmps27
  go_upto_region 1 with fail
  obtain ⟨wb, eb, kb, zb, ob, db⟩ := ob_zero w k n a l x s
  rw [eb]
  obtain ⟨o0, o1, o2, o3, o4, o5⟩ := ob_cells ob
  go_wp2_with fail
  refine (hm.out wb kb).mono ?_
  rintro e w1 ⟨rfl, k1⟩
  have K1 := Lib.hid (below_and kb k1)
  have O1 := (k1.block _ (blk_lt ob)).trans ob
  have D1 := Lib.hid ((k1.block _ (blk_lt db)).trans db)
  clear eb kb zb ob db k1 o0 o1 o2 o3 o4 o5
  obtain ⟨⟨o0, o1, o2, o3, o4, o5⟩, g0, g1, g2, g3, g4, g5⟩ := cells6 O1
  obtain ⟨⟨c0, c1, c2, c3, c4, c5⟩, f0, f1, f2, f3, f4, f5⟩ := cells6 D1.out
  have OO := Lib.hid O1
  clear O1
  go_upto_region 10 with fail
  obtain ⟨w2, e2⟩ : ∃ w2, w1.setCell ⟨w.heap.size, 1, none⟩ (.bool false) = w2 := ⟨_, rfl⟩
  rw [e2]
  have O2 : w2.heap[w.heap.size]? = some (obObj k false n a l s) := by
    rw [← e2]
    exact heap_setCell_same _ _ 1 _ _ _ OO.out
  have D2 : Hid (w2.heap[w.heap.size + 1]? = some emptyOb) := Lib.hid (by
    rw [← e2, heap_setCell_other _ _ _ _ (Nat.succ_ne_self _)]
    exact D1.out)
  have K2 : Hid (Below w.heap.size w w2) := Lib.hid (by
    rw [← e2]
    exact K1.out.setCell (p := ⟨w.heap.size, 1, none⟩) (Nat.le_refl _) _)
  clear o0 o1 o2 o3 o4 o5 g0 g1 g2 g3 g4 g5 c0 c1 c2 c3 c4 c5 f0 f1 f2 f3 f4 f5 e2
  obtain ⟨o0, o1, o2, o3, o4, o5⟩ := ob_cells O2
  obtain ⟨⟨c0, c1, c2, c3, c4, c5⟩, f0, f1, f2, f3, f4, f5⟩ := cells6 D2.out
  go_wp2
  (try simp only [Exit.inBlock, Exit.then])
  exact bodyPost_ret (ret_cell rfl _ _ _ _ _ _ _ _ rfl rfl (set6 D2.out _ _ _ _ _ _) Try.underlying30 rfl (by kernel_rfl)) rfl ⟨rfl, set6_below K2.out (Nat.le_succ _) _ _ _ _ _ _⟩
set_option maxRecDepth 100000 in
theorem key_str (hb : Nat) (n a l E : Int) (x : Bool) (s : ByteArray) (kq nq aq lq : Int) (xq : Bool) (sq : ByteArray) (w : World)
    (hm : Hid (∀ wx, Below w.heap.size w wx → Calls Try.prog 52 #[ptr hb, obV 8 x n a l s] wx fun e w' => e = .returned (.bool true) ∧ Below wx.heap.size wx w'))
    (hn : Hid (∀ wx, Below w.heap.size w wx → Calls Try.prog 64 #[ptr hb, obV 8 x n a l s] wx fun e w' => e = .returned (.tuple #[obV kq xq nq aq lq sq, .int .i64 E]) ∧ Below wx.heap.size wx w')) :
    Calls Try.prog 27 #[ptr hb, obV 8 x n a l s] w fun e w' => e = .returned (.tuple #[obV kq xq nq aq lq sq, .int .i64 E]) ∧ Below w.heap.size w w' := by
  go_enter Try.func27, Try.ntmps27
  go_upto_region 1 with fail
  obtain ⟨wb, eb, kb, zb, ob, db⟩ := ob_zero w 8 n a l x s
  rw [eb]
  obtain ⟨o0, o1, o2, o3, o4, o5⟩ := ob_cells ob
  go_wp2_with fail
  refine (hm.out wb kb).mono ?_
  rintro e w1 ⟨rfl, k1⟩
  have K1 := Lib.hid (below_and kb k1)
  have O1 := (k1.block _ (blk_lt ob)).trans ob
  have D1 := Lib.hid ((k1.block _ (blk_lt db)).trans db)
  clear eb kb zb ob db k1 o0 o1 o2 o3 o4 o5
  obtain ⟨o0, o1, o2, o3, o4, o5⟩ := ob_cells O1
  go_wp2_with fail
  refine (hn.out w1 K1.out).mono ?_
  rintro e w2 ⟨rfl, k2⟩
  have K2 := Lib.hid (below_and K1.out k2)
  have D2 := Lib.hid ((k2.block _ (blk_lt D1.out)).trans D1.out)
  clear k2 O1 o0 o1 o2 o3 o4 o5
  obtain ⟨⟨c0, c1, c2, c3, c4, c5⟩, f0, f1, f2, f3, f4, f5⟩ := cells6 D2.out
  go_wp2
  (try simp only [Exit.inBlock, Exit.then])
  exact bodyPost_ret (ret_cell rfl _ _ _ _ _ _ _ _ rfl rfl (set6 D2.out _ _ _ _ _ _) Try.underlying30 rfl (by kernel_rfl)) rfl ⟨rfl, set6_below K2.out (Nat.le_succ _) _ _ _ _ _ _⟩

/-- What Key returns. -/
def keyE (P : List Cel) (o : Ob) : Int := if o.k = 1 then 6 else if mayH P o = true then (if o.k = 8 then (if (bytesL P o).length ≤ 100 then 0 else 5) else 0) else 1
def keyO (P : List Cel) (o : Ob) : Ob := if keyE P o = 0 then (if o.k = 8 then ⟨5, false, 0, 0, 0, ⟨(bytesL P o).toArray⟩⟩ else ⟨o.k, false, o.n, o.a, o.l, o.s⟩) else Ob.zero
section
variable {role : Nat → Nat × Nat} {c hb : Nat} {vc : Value} {ivs : List Value} {pb : Nat → Nat} {rv : Nat → Value} {P : List Cel} {w w' : World}
theorem key_is (h : PH role c hb vc ivs pb rv P w) (o : Ob) : Calls Try.prog 27 #[ptr hb, o.val] w fun e w' => e = .returned (.tuple #[(keyO P o).val, .int .i64 (keyE P o)]) ∧ Below w.heap.size w w' := by
  by_cases h1 : o.k = 1
  · have e1 : keyE P o = 6 := by simp [keyE, h1]
    have e2 : keyO P o = Ob.zero := by simp [keyO, e1]
    rw [e1, e2]
    have hv : o.val = obV 1 o.x o.n o.a o.l o.s := by
      rw [← h1]
      rfl
    rw [hv]
    exact key_null hb o.n o.a o.l o.x o.s w
  cases hm : mayH P o
  · have e1 : keyE P o = 1 := by simp [keyE, h1, hm]
    have e2 : keyO P o = Ob.zero := by simp [keyO, e1]
    rw [e1, e2]
    refine key_bad hb o.k o.n o.a o.l o.x o.s w (by simpa using h1) (Lib.hid fun wx kx => ?_)
    have := mayH_is (h.below kx) o
    rw [hm] at this
    exact this
  have hmm : Hid (∀ wx, Below w.heap.size w wx → Calls Try.prog 52 #[ptr hb, o.val] wx fun e w' => e = .returned (.bool true) ∧ Below wx.heap.size wx w') := Lib.hid fun wx kx => by
    have := mayH_is (h.below kx) o
    rw [hm] at this
    exact this
  by_cases h8 : o.k = 8
  · have hok : okO P o = true := by
      have := hm
      simp [mayH, comp, h8] at this
      rw [okO_iff]
      exact ⟨by simp [comp, h8], this⟩
    have hv : o.val = obV 8 o.x o.n o.a o.l o.s := by
      rw [← h8]
      rfl
    have hby : Hid (∀ wx, Below w.heap.size w wx → Calls Try.prog 91 #[ptr hb, obV 8 o.x o.n o.a o.l o.s] wx fun e w' => e = .returned (.tuple #[.string ⟨(bytesL P o).toArray⟩, .int .i64 0]) ∧ Below wx.heap.size wx w') := Lib.hid fun wx kx => by
      have := bytes_all (h.below kx) o hok h8
      rw [hv] at this
      exact this
    rw [hv] at hmm ⊢
    have hsz : (⟨(bytesL P o).toArray⟩ : ByteArray).size = (bytesL P o).length := rfl
    by_cases hl : (bytesL P o).length ≤ 100
    · have e1 : keyE P o = 0 := by simp [keyE, h8, hm, hl]
      have e2 : keyO P o = ⟨5, false, 0, 0, 0, ⟨(bytesL P o).toArray⟩⟩ := by simp [keyO, e1, h8]
      rw [e1, e2]
      exact key_str hb o.n o.a o.l 0 o.x o.s 5 0 0 0 false ⟨(bytesL P o).toArray⟩ w hmm (Lib.hid fun wx kx => nameOf_walk hb 8 o.n o.a o.l o.x o.s _ wx (by rw [hsz]; exact hl) (Lib.hid fun wy ky => hby.out wy (below_and kx ky)))
    · have e1 : keyE P o = 5 := by simp [keyE, h8, hm, hl]
      have e2 : keyO P o = Ob.zero := by simp [keyO, e1]
      rw [e1, e2]
      exact key_str hb o.n o.a o.l 5 o.x o.s 0 0 0 0 false ⟨#[]⟩ w hmm (Lib.hid fun wx kx => nameOf_long hb 8 o.n o.a o.l o.x o.s _ wx (by rw [hsz]; omega) (Lib.hid fun wy ky => hby.out wy (below_and kx ky)))
  · have e1 : keyE P o = 0 := by simp [keyE, h1, h8, hm]
    have e2 : keyO P o = ⟨o.k, false, o.n, o.a, o.l, o.s⟩ := by simp [keyO, e1, h8]
    rw [e1, e2]
    exact key_obj hb o.k o.n o.a o.l o.x o.s w (by simpa using h1) (by simpa using h8) hmm
end
end Go.Proofs.Ytlkbnldpecolbaa

/- Walks of tympanref12: Key. -/
namespace Go.Proofs.Ytlkbnldpecolbaa
open Go.RowKit
set_option linter.unusedVariables false
set_option linter.unusedSimpArgs false

set_option maxHeartbeats 1000000 in
set_option maxRecDepth 100000 in
theorem rkey_null (rb : Nat) (k n a l : Int) (x : Bool) (s : ByteArray) (w : World) (hk : (k == 1) = true) : Calls Try.prog 28 #[ptr rb, obV k x n a l s] w fun e w' => e = .returned (.tuple #[zeroOb, .int .i64 6]) ∧ Below w.heap.size w w' := by
  go_enter Try.func28, Try.ntmps28
  go_upto_region 1 with fail
  obtain ⟨wb, eb, kb, zb, ob, db⟩ := ob_zero w k n a l x s
  rw [eb]
  have KB := Lib.hid kb
  have OB := Lib.hid ob
  have DB := Lib.hid db
  clear eb kb zb ob db
  obtain ⟨⟨o0, o1, o2, o3, o4, o5⟩, g0, g1, g2, g3, g4, g5⟩ := cells6 OB.out
  obtain ⟨⟨c0, c1, c2, c3, c4, c5⟩, f0, f1, f2, f3, f4, f5⟩ := cells6 DB.out
  go_wp2
  (try simp only [Exit.inBlock, Exit.then])
  exact bodyPost_ret (ret_cell rfl _ _ _ _ _ _ _ _ rfl rfl (set6 DB.out _ _ _ _ _ _) Try.underlying30 rfl (by kernel_rfl)) rfl ⟨rfl, set6_below KB.out (Nat.le_succ _) _ _ _ _ _ _⟩
set_option maxHeartbeats 1000000 in
set_option maxRecDepth 100000 in
theorem rkey_bad (rb : Nat) (k n a l : Int) (x : Bool) (s : ByteArray) (w : World) (hk : (k == 1) = false) (C1 : Hid (∀ wx, Below w.heap.size w wx → Calls Try.prog 65 #[ptr rb, obV k x n a l s] wx fun e w' => e = .returned (.bool false) ∧ Below wx.heap.size wx w')) : Calls Try.prog 28 #[ptr rb, obV k x n a l s] w fun e w' => e = .returned (.tuple #[zeroOb, .int .i64 1]) ∧ Below w.heap.size w w' := by
  go_enter Try.func28, Try.ntmps28
  go_upto_region 1 with fail
  obtain ⟨wb, eb, kb, zb, ob, db⟩ := ob_zero w k n a l x s
  rw [eb]
  have KB := Lib.hid kb
  have OB := Lib.hid ob
  have DB := Lib.hid db
  clear eb kb zb ob db
  obtain ⟨⟨o0, o1, o2, o3, o4, o5⟩, g0, g1, g2, g3, g4, g5⟩ := cells6 OB.out
  obtain ⟨⟨c0, c1, c2, c3, c4, c5⟩, f0, f1, f2, f3, f4, f5⟩ := cells6 DB.out
  go_wp2_with fail
  refine (C1.out _ KB.out).mono ?_
  rintro e wc ⟨rfl, kc⟩
  replace KB := Lib.hid (below_and KB.out kc)
  replace OB := Lib.hid ((kc.block _ (blk_lt OB.out)).trans OB.out)
  replace DB := Lib.hid ((kc.block _ (blk_lt DB.out)).trans DB.out)
  clear kc o0 o1 o2 o3 o4 o5 g0 g1 g2 g3 g4 g5 c0 c1 c2 c3 c4 c5 f0 f1 f2 f3 f4 f5
  obtain ⟨⟨o0, o1, o2, o3, o4, o5⟩, g0, g1, g2, g3, g4, g5⟩ := cells6 OB.out
  obtain ⟨⟨c0, c1, c2, c3, c4, c5⟩, f0, f1, f2, f3, f4, f5⟩ := cells6 DB.out
  go_wp2
  (try simp only [Exit.inBlock, Exit.then])
  exact bodyPost_ret (ret_cell rfl _ _ _ _ _ _ _ _ rfl rfl (set6 DB.out _ _ _ _ _ _) Try.underlying30 rfl (by kernel_rfl)) rfl ⟨rfl, set6_below KB.out (Nat.le_succ _) _ _ _ _ _ _⟩
set_option maxHeartbeats 1000000 in
set_option maxRecDepth 100000 in
theorem rkey_long (rb : Nat) (k n a l : Int) (x : Bool) (s : ByteArray) (t : ByteArray) (e0 : Int) (w : World) (hk : (k == 1) = false) (h8 : (k == 8) = true) (ht : decide ((t.size : Int) > 100) = true) (ht2 : decide (t.size > 100) = true) (C1 : Hid (∀ wx, Below w.heap.size w wx → Calls Try.prog 65 #[ptr rb, obV k x n a l s] wx fun e w' => e = .returned (.bool true) ∧ Below wx.heap.size wx w')) (C2 : Hid (∀ wx, Below w.heap.size w wx → Calls Try.prog 66 #[ptr rb, obV k x n a l s] wx fun e w' => e = .returned (.tuple #[.string t, .int .i64 e0]) ∧ Below wx.heap.size wx w')) : Calls Try.prog 28 #[ptr rb, obV k x n a l s] w fun e w' => e = .returned (.tuple #[zeroOb, .int .i64 5]) ∧ Below w.heap.size w w' := by
  have h1 : (100 : Int) < t.size := of_decide_eq_true ht
  have h2 : 100 < t.size := of_decide_eq_true ht2
  go_enter Try.func28, Try.ntmps28
  go_upto_region 1 with fail
  obtain ⟨wb, eb, kb, zb, ob, db⟩ := ob_zero w k n a l x s
  rw [eb]
  have KB := Lib.hid kb
  have OB := Lib.hid ob
  have DB := Lib.hid db
  clear eb kb zb ob db
  obtain ⟨⟨o0, o1, o2, o3, o4, o5⟩, g0, g1, g2, g3, g4, g5⟩ := cells6 OB.out
  obtain ⟨⟨c0, c1, c2, c3, c4, c5⟩, f0, f1, f2, f3, f4, f5⟩ := cells6 DB.out
  go_wp2_with fail
  refine (C1.out _ KB.out).mono ?_
  rintro e wc ⟨rfl, kc⟩
  replace KB := Lib.hid (below_and KB.out kc)
  replace OB := Lib.hid ((kc.block _ (blk_lt OB.out)).trans OB.out)
  replace DB := Lib.hid ((kc.block _ (blk_lt DB.out)).trans DB.out)
  clear kc o0 o1 o2 o3 o4 o5 g0 g1 g2 g3 g4 g5 c0 c1 c2 c3 c4 c5 f0 f1 f2 f3 f4 f5
  obtain ⟨⟨o0, o1, o2, o3, o4, o5⟩, g0, g1, g2, g3, g4, g5⟩ := cells6 OB.out
  obtain ⟨⟨c0, c1, c2, c3, c4, c5⟩, f0, f1, f2, f3, f4, f5⟩ := cells6 DB.out
  go_wp2_with fail
  refine (C2.out _ KB.out).mono ?_
  rintro e wc ⟨rfl, kc⟩
  replace KB := Lib.hid (below_and KB.out kc)
  replace OB := Lib.hid ((kc.block _ (blk_lt OB.out)).trans OB.out)
  replace DB := Lib.hid ((kc.block _ (blk_lt DB.out)).trans DB.out)
  clear kc o0 o1 o2 o3 o4 o5 g0 g1 g2 g3 g4 g5 c0 c1 c2 c3 c4 c5 f0 f1 f2 f3 f4 f5
  obtain ⟨⟨o0, o1, o2, o3, o4, o5⟩, g0, g1, g2, g3, g4, g5⟩ := cells6 OB.out
  obtain ⟨⟨c0, c1, c2, c3, c4, c5⟩, f0, f1, f2, f3, f4, f5⟩ := cells6 DB.out
  go_wp2
  (try simp only [Exit.inBlock, Exit.then])
  exact bodyPost_ret (ret_cell rfl _ _ _ _ _ _ _ _ rfl rfl (set6 DB.out _ _ _ _ _ _) Try.underlying30 rfl (by kernel_rfl)) rfl ⟨rfl, set6_below KB.out (Nat.le_succ _) _ _ _ _ _ _⟩
set_option maxHeartbeats 1000000 in
set_option maxRecDepth 100000 in
theorem rkey_str (rb : Nat) (k n a l : Int) (x : Bool) (s : ByteArray) (t : ByteArray) (e0 : Int) (w : World) (hk : (k == 1) = false) (h8 : (k == 8) = true) (ht : decide ((100 : Int) < t.size) = false) (ht2 : decide (100 < t.size) = false) (C1 : Hid (∀ wx, Below w.heap.size w wx → Calls Try.prog 65 #[ptr rb, obV k x n a l s] wx fun e w' => e = .returned (.bool true) ∧ Below wx.heap.size wx w')) (C2 : Hid (∀ wx, Below w.heap.size w wx → Calls Try.prog 66 #[ptr rb, obV k x n a l s] wx fun e w' => e = .returned (.tuple #[.string t, .int .i64 e0]) ∧ Below wx.heap.size wx w')) : Calls Try.prog 28 #[ptr rb, obV k x n a l s] w fun e w' => e = .returned (.tuple #[obV 5 false 0 0 0 t, .int .i64 0]) ∧ Below w.heap.size w w' := by
  go_enter Try.func28, Try.ntmps28
  go_upto_region 1 with fail
  obtain ⟨wb, eb, kb, zb, ob, db⟩ := ob_zero w k n a l x s
  rw [eb]
  have KB := Lib.hid kb
  have OB := Lib.hid ob
  have DB := Lib.hid db
  clear eb kb zb ob db
  obtain ⟨⟨o0, o1, o2, o3, o4, o5⟩, g0, g1, g2, g3, g4, g5⟩ := cells6 OB.out
  obtain ⟨⟨c0, c1, c2, c3, c4, c5⟩, f0, f1, f2, f3, f4, f5⟩ := cells6 DB.out
  go_wp2_with fail
  refine (C1.out _ KB.out).mono ?_
  rintro e wc ⟨rfl, kc⟩
  replace KB := Lib.hid (below_and KB.out kc)
  replace OB := Lib.hid ((kc.block _ (blk_lt OB.out)).trans OB.out)
  replace DB := Lib.hid ((kc.block _ (blk_lt DB.out)).trans DB.out)
  clear kc o0 o1 o2 o3 o4 o5 g0 g1 g2 g3 g4 g5 c0 c1 c2 c3 c4 c5 f0 f1 f2 f3 f4 f5
  obtain ⟨⟨o0, o1, o2, o3, o4, o5⟩, g0, g1, g2, g3, g4, g5⟩ := cells6 OB.out
  obtain ⟨⟨c0, c1, c2, c3, c4, c5⟩, f0, f1, f2, f3, f4, f5⟩ := cells6 DB.out
  go_wp2_with fail
  refine (C2.out _ KB.out).mono ?_
  rintro e wc ⟨rfl, kc⟩
  replace KB := Lib.hid (below_and KB.out kc)
  replace OB := Lib.hid ((kc.block _ (blk_lt OB.out)).trans OB.out)
  replace DB := Lib.hid ((kc.block _ (blk_lt DB.out)).trans DB.out)
  clear kc o0 o1 o2 o3 o4 o5 g0 g1 g2 g3 g4 g5 c0 c1 c2 c3 c4 c5 f0 f1 f2 f3 f4 f5
  obtain ⟨⟨o0, o1, o2, o3, o4, o5⟩, g0, g1, g2, g3, g4, g5⟩ := cells6 OB.out
  obtain ⟨⟨c0, c1, c2, c3, c4, c5⟩, f0, f1, f2, f3, f4, f5⟩ := cells6 DB.out
  go_wp2
  (try simp only [Exit.inBlock, Exit.then])
  exact bodyPost_ret (ret_cell rfl _ _ _ _ _ _ _ _ rfl rfl (set6 DB.out _ _ _ _ _ _) Try.underlying30 rfl (by kernel_rfl)) rfl ⟨rfl, set6_below KB.out (Nat.le_succ _) _ _ _ _ _ _⟩
set_option maxHeartbeats 1000000 in
set_option maxRecDepth 100000 in
theorem rkey_obj (rb : Nat) (k n a l : Int) (x : Bool) (s : ByteArray) (w : World) (hk : (k == 1) = false) (h8 : (k == 8) = false) (C1 : Hid (∀ wx, Below w.heap.size w wx → Calls Try.prog 65 #[ptr rb, obV k x n a l s] wx fun e w' => e = .returned (.bool true) ∧ Below wx.heap.size wx w')) : Calls Try.prog 28 #[ptr rb, obV k x n a l s] w fun e w' => e = .returned (.tuple #[obV k false n a l s, .int .i64 0]) ∧ Below w.heap.size w w' := by
  go_enter Try.func28, Try.ntmps28
  go_upto_region 1 with fail
  obtain ⟨wb, eb, kb, zb, ob, db⟩ := ob_zero w k n a l x s
  rw [eb]
  have KB := Lib.hid kb
  have OB := Lib.hid ob
  have DB := Lib.hid db
  clear eb kb zb ob db
  obtain ⟨⟨o0, o1, o2, o3, o4, o5⟩, g0, g1, g2, g3, g4, g5⟩ := cells6 OB.out
  obtain ⟨⟨c0, c1, c2, c3, c4, c5⟩, f0, f1, f2, f3, f4, f5⟩ := cells6 DB.out
  go_wp2_with fail
  refine (C1.out _ KB.out).mono ?_
  rintro e wc ⟨rfl, kc⟩
  replace KB := Lib.hid (below_and KB.out kc)
  replace OB := Lib.hid ((kc.block _ (blk_lt OB.out)).trans OB.out)
  replace DB := Lib.hid ((kc.block _ (blk_lt DB.out)).trans DB.out)
  clear kc o0 o1 o2 o3 o4 o5 g0 g1 g2 g3 g4 g5 c0 c1 c2 c3 c4 c5 f0 f1 f2 f3 f4 f5
  obtain ⟨⟨o0, o1, o2, o3, o4, o5⟩, g0, g1, g2, g3, g4, g5⟩ := cells6 OB.out
  obtain ⟨⟨c0, c1, c2, c3, c4, c5⟩, f0, f1, f2, f3, f4, f5⟩ := cells6 DB.out
  go_upto_region 11 with fail
  obtain ⟨w2, e2⟩ : ∃ w2, wc.setCell ⟨w.heap.size, 1, none⟩ (.bool false) = w2 := ⟨_, rfl⟩
  rw [e2]
  have O2 : Hid (w2.heap[w.heap.size]? = some (obObj k false n a l s)) := Lib.hid (by
    rw [← e2]
    exact heap_setCell_same _ _ 1 _ _ _ OB.out)
  have D2 : Hid (w2.heap[w.heap.size + 1]? = some emptyOb) := Lib.hid (by
    rw [← e2, heap_setCell_other _ _ _ _ (Nat.succ_ne_self _)]
    exact DB.out)
  have K2 : Hid (Below w.heap.size w w2) := Lib.hid (by
    rw [← e2]
    exact KB.out.setCell (p := ⟨w.heap.size, 1, none⟩) (Nat.le_refl _) _)
  clear o0 o1 o2 o3 o4 o5 g0 g1 g2 g3 g4 g5 c0 c1 c2 c3 c4 c5 f0 f1 f2 f3 f4 f5 e2 KB OB DB
  have KB := Lib.hid K2.out
  have OB := Lib.hid O2.out
  have DB := Lib.hid D2.out
  clear K2 O2 D2
  obtain ⟨⟨o0, o1, o2, o3, o4, o5⟩, g0, g1, g2, g3, g4, g5⟩ := cells6 OB.out
  obtain ⟨⟨c0, c1, c2, c3, c4, c5⟩, f0, f1, f2, f3, f4, f5⟩ := cells6 DB.out
  go_wp2
  (try simp only [Exit.inBlock, Exit.then])
  exact bodyPost_ret (ret_cell rfl _ _ _ _ _ _ _ _ rfl rfl (set6 DB.out _ _ _ _ _ _) Try.underlying30 rfl (by kernel_rfl)) rfl ⟨rfl, set6_below KB.out (Nat.le_succ _) _ _ _ _ _ _⟩
theorem rkey_tot {own : Nat → Prop} {rb : Nat} {v : Value} {R : List RC} {w : World} (h : RH own rb v R w) (o : Ob) : Calls Try.prog 28 #[ptr rb, o.val] w fun e w' => e = .returned (.tuple #[(keyO (cels R) o).val, .int .i64 (keyE (cels R) o)]) ∧ Below w.heap.size w w' := by
  by_cases h1 : o.k = 1
  · have e1 : keyE (cels R) o = 6 := by simp [keyE, h1]
    have e2 : keyO (cels R) o = Ob.zero := by simp [keyO, e1]
    rw [e1, e2]
    exact rkey_null rb o.k o.n o.a o.l o.x o.s w (by simpa using h1)
  have h1' : (o.k == 1) = false := by simpa using h1
  cases hm : mayH (cels R) o
  · have e1 : keyE (cels R) o = 1 := by simp [keyE, h1, hm]
    have e2 : keyO (cels R) o = Ob.zero := by simp [keyO, e1]
    rw [e1, e2]
    exact rkey_bad rb o.k o.n o.a o.l o.x o.s w h1' (Lib.hid fun wx kx => by
      have := rmayH_any (h.below kx) o
      rw [hm] at this
      exact this)
  have hmm : Hid (∀ wx, Below w.heap.size w wx → Calls Try.prog 65 #[ptr rb, obV o.k o.x o.n o.a o.l o.s] wx fun e w' => e = .returned (.bool true) ∧ Below wx.heap.size wx w') := Lib.hid fun wx kx => by
    have := rmayH_any (h.below kx) o
    rw [hm] at this
    exact this
  by_cases h8 : o.k = 8
  · have hok : okO (cels R) o = true := by
      have := hm
      simp [mayH, comp, h8] at this
      rw [okO_iff]
      exact ⟨by simp [comp, h8], this⟩
    have hbv : bytV (cels R) o = ⟨(bytesL (cels R) o).toArray⟩ := by simp [bytV, errO_ok hok, h8]
    have hby : Hid (∀ wx, Below w.heap.size w wx → Calls Try.prog 66 #[ptr rb, obV o.k o.x o.n o.a o.l o.s] wx fun e w' => e = .returned (.tuple #[.string ⟨(bytesL (cels R) o).toArray⟩, .int .i64 (bytE (cels R) o)]) ∧ Below wx.heap.size wx w') := Lib.hid fun wx kx => by
      have := rbytes_tot (h.below kx) o
      rw [hbv] at this
      exact this
    have hsz : (⟨(bytesL (cels R) o).toArray⟩ : ByteArray).size = (bytesL (cels R) o).length := rfl
    by_cases hl : (bytesL (cels R) o).length ≤ 100
    · have e1 : keyE (cels R) o = 0 := by simp [keyE, h8, hm, hl]
      have e2 : keyO (cels R) o = ⟨5, false, 0, 0, 0, ⟨(bytesL (cels R) o).toArray⟩⟩ := by simp [keyO, e1, h8]
      rw [e1, e2]
      exact rkey_str rb o.k o.n o.a o.l o.x o.s _ _ w h1' (by simpa using h8) (decide_eq_false (by rw [hsz]; omega)) (decide_eq_false (by rw [hsz]; omega)) hmm hby
    · have e1 : keyE (cels R) o = 5 := by simp [keyE, h8, hm, hl]
      have e2 : keyO (cels R) o = Ob.zero := by simp [keyO, e1]
      rw [e1, e2]
      exact rkey_long rb o.k o.n o.a o.l o.x o.s _ _ w h1' (by simpa using h8) (decide_eq_true (by rw [hsz]; omega)) (decide_eq_true (by rw [hsz]; omega)) hmm hby
  · have e1 : keyE (cels R) o = 0 := by simp [keyE, h1, h8, hm]
    have e2 : keyO (cels R) o = ⟨o.k, false, o.n, o.a, o.l, o.s⟩ := by simp [keyO, e1, h8]
    rw [e1, e2]
    exact rkey_obj rb o.k o.n o.a o.l o.x o.s w h1' (by simpa using h8) hmm
end Go.Proofs.Ytlkbnldpecolbaa

/- Walks of dict: openFor. -/
namespace Go.Proofs.Ytlkbnldpecolbaa
open Go.RowKit Go.Maps
set_option linter.unusedVariables false

theorem ret_cell2 {P : Program} {fn : Func} {p q u : Tmp} {ty ty2 : TypeId} (h : fn.results = #[.cell p ty, .cell q ty2, .tmp u]) (tmps : Array Value) (w : World) (g g2 : Nat) (t t2 : TypeId) (cs cs2 : Array Value) (fr fr2 : Nat × Nat) (d d2 : TypeDesc) (v : Value)
    (hp : tmps.getD p undef = .pointer (some ⟨g, 0, none⟩)) (hq : tmps.getD q undef = .pointer (some ⟨g2, 0, none⟩)) (hv : tmps.getD u undef = v) (hg : w.heap[g]? = some (.cells cs t fr)) (hg2 : w.heap[g2]? = some (.cells cs2 t2 fr2))
    (hu : P.underlying ty = some d) (hd : (match d with | .struct _ | .array _ _ => true | _ => false) = true) (hi : (P.info? ty).map (·.size) = some cs.size)
    (hu2 : P.underlying ty2 = some d2) (hd2 : (match d2 with | .struct _ | .array _ _ => true | _ => false) = true) (hi2 : (P.info? ty2).map (·.size) = some cs2.size) :
    (results fn tmps).run P w = .ok (.tuple #[.agg cs, .agg cs2, v]) w := by
  have hp' : tmps[p]?.getD undef = .pointer (some ⟨g, 0, none⟩) := by simpa using hp
  have hq' : tmps[q]?.getD undef = .pointer (some ⟨g2, 0, none⟩) := by simpa using hq
  have hv' : tmps[u]?.getD undef = v := by simpa using hv
  simp only [results, h]
  simp [Sem.run_bind, Result.andThen, hp', hq', hv', asAddr, run_loadVar_row w g t ty cs fr d hg hu hd hi, run_loadVar_row w g2 t2 ty2 cs2 fr2 d2 hg2 hu2 hd2 hi2]

theorem two_zero (w : World) (k n a l : Int) (x : Bool) (s : ByteArray) (k' n' a' l' : Int) (x' : Bool) (s' : ByteArray) :
    ∃ wb, (((w.alloc (.cells #[.int .i64 k, .bool x, .int .i64 n, .int .i64 a, .int .i64 l, .string s] 30)).alloc (.cells #[.int .i64 k', .bool x', .int .i64 n', .int .i64 a', .int .i64 l', .string s'] 30)).alloc zeroDc).alloc (.cells #[.int .i64 0, .bool false, .int .i64 0, .int .i64 0, .int .i64 0, .string ⟨#[]⟩] 30) = wb ∧ Below w.heap.size w wb ∧
      wb.heap[w.heap.size]? = some (obObj k x n a l s) ∧ wb.heap[w.heap.size + 1]? = some (obObj k' x' n' a' l' s') ∧ wb.heap[w.heap.size + 2]? = some zeroDc ∧ wb.heap[w.heap.size + 3]? = some emptyOb := by
  refine ⟨_, rfl, below_and (below_and (box_below _ _) (box_below _ _)) (below_and (box_below _ _) (box_below _ _)), ?_, ?_, ?_, ?_⟩
  · rw [Below.heap_alloc _ _ _ (by simp; omega), Below.heap_alloc _ _ _ (by simp; omega), Below.heap_alloc _ _ _ (by simp)]
    exact heap_alloc_new _ _
  · rw [Below.heap_alloc _ _ _ (by simp), Below.heap_alloc _ _ _ (by simp)]
    have := heap_alloc_new (w.alloc (.cells #[.int .i64 k, .bool x, .int .i64 n, .int .i64 a, .int .i64 l, .string s] 30)) (obObj k' x' n' a' l' s')
    simpa using this
  · rw [Below.heap_alloc _ _ _ (by simp)]
    have := heap_alloc_new ((w.alloc (.cells #[.int .i64 k, .bool x, .int .i64 n, .int .i64 a, .int .i64 l, .string s] 30)).alloc (.cells #[.int .i64 k', .bool x', .int .i64 n', .int .i64 a', .int .i64 l', .string s'] 30)) zeroDc
    simpa using this
  · have := heap_alloc_new (((w.alloc (.cells #[.int .i64 k, .bool x, .int .i64 n, .int .i64 a, .int .i64 l, .string s] 30)).alloc (.cells #[.int .i64 k', .bool x', .int .i64 n', .int .i64 a', .int .i64 l', .string s'] 30)).alloc zeroDc) emptyOb
    simpa using this

abbrev zeroDcV : Value := .agg #[.pointer none, .int .i64 0, .bool false, .int .i64 0, .int .i64 0, .int .i64 0, .string ⟨#[]⟩, .int .i64 0, .int .i64 0]
set_option maxHeartbeats 1000000 in
set_option maxRecDepth 100000 in
theorem openFor_ok (hb : Nat) (k n a l p r : Int) (x : Bool) (s : ByteArray) (k' n' a' l' : Int) (x' : Bool) (s' : ByteArray) (kq nq aq lq : Int) (xq : Bool) (sq : ByteArray) (w : World)
    (ho : Hid (∀ wx, Below w.heap.size w wx → Calls Try.prog 58 #[ptr hb, obV k x n a l s] wx fun e w' => e = .returned (.tuple #[dcV hb k x n a l s p r, .int .i64 0]) ∧ Below wx.heap.size wx w'))
    (hk : Hid (∀ wx, Below w.heap.size w wx → Calls Try.prog 27 #[ptr hb, obV k' x' n' a' l' s'] wx fun e w' => e = .returned (.tuple #[obV kq xq nq aq lq sq, .int .i64 0]) ∧ Below wx.heap.size wx w')) :
    Calls Try.prog 51 #[ptr hb, obV k x n a l s, obV k' x' n' a' l' s'] w fun e w' => e = .returned (.tuple #[dcV hb k x n a l s p r, obV kq xq nq aq lq sq, .int .i64 0]) ∧ Below w.heap.size w w' := by
  go_enter Try.func51, Try.ntmps51
  go_upto_region 1 with fail
  obtain ⟨wb, eb, kb, b1, b2, b3, b4⟩ := two_zero w k n a l x s k' n' a' l' x' s'
  rw [eb]
  obtain ⟨o0, o1, o2, o3, o4, o5⟩ := ob_cells b1
  go_wp2_with fail
  refine (ho.out wb kb).mono ?_
  rintro e w1 ⟨rfl, k1⟩
  have K1 := Lib.hid (below_and kb k1)
  have B2 := Lib.hid ((k1.block _ (blk_lt b2)).trans b2)
  have B3 := Lib.hid ((k1.block _ (blk_lt b3)).trans b3)
  have B4 := Lib.hid ((k1.block _ (blk_lt b4)).trans b4)
  clear eb kb b1 b2 b3 b4 k1 o0 o1 o2 o3 o4 o5
  obtain ⟨⟨c0, c1, c2, c3, c4, c5, c6, c7, c8⟩, f0, f1, f2, f3, f4, f5, f6, f7, f8⟩ := cells9 B3.out
  go_upto_region 2 with fail
  obtain ⟨w2, e2⟩ : ∃ w2, put9 w1 (w.heap.size + 2) (ptr hb) (.int .i64 k) (.bool x) (.int .i64 n) (.int .i64 a) (.int .i64 l) (.string s) (.int .i64 p) (.int .i64 r) = w2 := ⟨_, rfl⟩
  change Code.wp _ _ _ _ (put9 w1 (w.heap.size + 2) (ptr hb) (.int .i64 k) (.bool x) (.int .i64 n) (.int .i64 a) (.int .i64 l) (.string s) (.int .i64 p) (.int .i64 r))
  rw [e2]
  have ON : Hid (Only (w.heap.size + 2) w1 w2) := Lib.hid (by rw [← e2]; exact only9 _ _ _ _ _ _ _ _ _ _ _)
  have C3 : Hid (w2.heap[w.heap.size + 2]? = some (dcObj hb k x n a l s p r)) := Lib.hid (by rw [← e2]; exact set9 B3.out _ _ _ _ _ _ _ _ _)
  have C2 := Lib.hid ((ON.out.block _ (by omega)).trans B2.out)
  have C4 := Lib.hid ((ON.out.block _ (by omega)).trans B4.out)
  have K2 := Lib.hid (only_below ON.out K1.out (by omega))
  clear e2 c0 c1 c2 c3 c4 c5 c6 c7 c8 f0 f1 f2 f3 f4 f5 f6 f7 f8
  obtain ⟨o0, o1, o2, o3, o4, o5⟩ := ob_cells C2.out
  go_wp2_with fail
  refine (hk.out w2 K2.out).mono ?_
  rintro e w3 ⟨rfl, k3⟩
  have K3 := Lib.hid (below_and K2.out k3)
  have D3 := Lib.hid ((k3.block _ (blk_lt C3.out)).trans C3.out)
  have D4 := Lib.hid ((k3.block _ (blk_lt C4.out)).trans C4.out)
  clear k3 o0 o1 o2 o3 o4 o5
  obtain ⟨⟨c0, c1, c2, c3, c4, c5⟩, f0, f1, f2, f3, f4, f5⟩ := cells6 D4.out
  go_upto_region 5 with fail
  obtain ⟨w4, e4⟩ : ∃ w4, (((((w3.setCell ⟨w.heap.size + 3, 0, none⟩ (.int .i64 kq)).setCell ⟨w.heap.size + 3, 1, none⟩ (.bool xq)).setCell ⟨w.heap.size + 3, 2, none⟩ (.int .i64 nq)).setCell ⟨w.heap.size + 3, 3, none⟩ (.int .i64 aq)).setCell ⟨w.heap.size + 3, 4, none⟩ (.int .i64 lq)).setCell ⟨w.heap.size + 3, 5, none⟩ (.string sq) = w4 := ⟨_, rfl⟩
  rw [e4]
  have ON4 : Hid (Only (w.heap.size + 3) w3 w4) := Lib.hid (by rw [← e4]; exact only6 _ _ _ _ _ _ _ _)
  have E4 : Hid (w4.heap[w.heap.size + 3]? = some (obObj kq xq nq aq lq sq)) := Lib.hid (by rw [← e4]; exact set6 D4.out _ _ _ _ _ _)
  have E3 := Lib.hid ((ON4.out.block _ (by omega)).trans D3.out)
  have K4 := Lib.hid (only_below ON4.out K3.out (by omega))
  clear e4 c0 c1 c2 c3 c4 c5 f0 f1 f2 f3 f4 f5
  obtain ⟨⟨c0, c1, c2, c3, c4, c5⟩, f0, f1, f2, f3, f4, f5⟩ := cells6 E4.out
  obtain ⟨⟨d0, d1, d2, d3, d4, d5, d6, d7, d8⟩, g0, g1, g2, g3, g4, g5, g6, g7, g8⟩ := cells9 E3.out
  go_wp2_with fail
  go_region
  obtain ⟨w5, e5⟩ : ∃ w5, put9 w4 (w.heap.size + 1 + 1) (ptr hb) (.int .i64 k) (.bool x) (.int .i64 n) (.int .i64 a) (.int .i64 l) (.string s) (.int .i64 p) (.int .i64 r) = w5 := ⟨_, rfl⟩
  have e5' := e5
  unfold put9 at e5'
  rw [e5']
  clear e5'
  obtain ⟨w6, e6⟩ : ∃ w6, (((((w5.setCell ⟨w.heap.size + 1 + 1 + 1, 0, none⟩ (.int .i64 kq)).setCell ⟨w.heap.size + 1 + 1 + 1, 1, none⟩ (.bool xq)).setCell ⟨w.heap.size + 1 + 1 + 1, 2, none⟩ (.int .i64 nq)).setCell ⟨w.heap.size + 1 + 1 + 1, 3, none⟩ (.int .i64 aq)).setCell ⟨w.heap.size + 1 + 1 + 1, 4, none⟩ (.int .i64 lq)).setCell ⟨w.heap.size + 1 + 1 + 1, 5, none⟩ (.string sq) = w6 := ⟨_, rfl⟩
  rw [e6]
  have O5 : Hid (Only (w.heap.size + 2) w4 w5) := Lib.hid (by rw [← e5]; exact only9 _ _ _ _ _ _ _ _ _ _ _)
  have O6 : Hid (Only (w.heap.size + 3) w5 w6) := Lib.hid (by rw [← e6]; exact only6 _ _ _ _ _ _ _ _)
  have F3 : w5.heap[w.heap.size + 2]? = some (dcObj hb k x n a l s p r) := by rw [← e5]; exact set9 E3.out _ _ _ _ _ _ _ _ _
  have F4 : w5.heap[w.heap.size + 3]? = some (obObj kq xq nq aq lq sq) := (O5.out.block _ (by omega)).trans E4.out
  have G3 := Lib.hid ((O6.out.block _ (by omega)).trans F3)
  have G4 : Hid (w6.heap[w.heap.size + 3]? = some (obObj kq xq nq aq lq sq)) := Lib.hid (by rw [← e6]; exact set6 F4 _ _ _ _ _ _)
  have K6 := Lib.hid (only_below O6.out (only_below O5.out K4.out (by omega)) (by omega))
  clear e5 e6 F3 F4 c0 c1 c2 c3 c4 c5 f0 f1 f2 f3 f4 f5 d0 d1 d2 d3 d4 d5 d6 d7 d8 g0 g1 g2 g3 g4 g5 g6 g7 g8
  go_wp2
  (try simp only [Exit.inBlock, Exit.then])
  exact bodyPost_ret (ret_cell2 rfl _ _ _ _ _ _ _ _ _ _ _ _ _ rfl rfl rfl G3.out G4.out Try.underlying86 rfl (by kernel_rfl) Try.underlying30 rfl (by kernel_rfl)) rfl ⟨rfl, K6.out.drew⟩
set_option maxHeartbeats 1000000 in
set_option maxRecDepth 100000 in
theorem openFor_key (hb : Nat) (k n a l p r E : Int) (x : Bool) (s : ByteArray) (k' n' a' l' : Int) (x' : Bool) (s' : ByteArray) (w : World) (hE : (E != 0) = true)
    (ho : Hid (∀ wx, Below w.heap.size w wx → Calls Try.prog 58 #[ptr hb, obV k x n a l s] wx fun e w' => e = .returned (.tuple #[dcV hb k x n a l s p r, .int .i64 0]) ∧ Below wx.heap.size wx w'))
    (hk : Hid (∀ wx, Below w.heap.size w wx → Calls Try.prog 27 #[ptr hb, obV k' x' n' a' l' s'] wx fun e w' => e = .returned (.tuple #[zeroOb, .int .i64 E]) ∧ Below wx.heap.size wx w')) :
    Calls Try.prog 51 #[ptr hb, obV k x n a l s, obV k' x' n' a' l' s'] w fun e w' => e = .returned (.tuple #[zeroDcV, zeroOb, .int .i64 E]) ∧ Below w.heap.size w w' := by
  go_enter Try.func51, Try.ntmps51
  go_upto_region 1 with fail
  obtain ⟨wb, eb, kb, b1, b2, b3, b4⟩ := two_zero w k n a l x s k' n' a' l' x' s'
  rw [eb]
  obtain ⟨o0, o1, o2, o3, o4, o5⟩ := ob_cells b1
  go_wp2_with fail
  refine (ho.out wb kb).mono ?_
  rintro e w1 ⟨rfl, k1⟩
  have K1 := Lib.hid (below_and kb k1)
  have B2 := Lib.hid ((k1.block _ (blk_lt b2)).trans b2)
  have B3 := Lib.hid ((k1.block _ (blk_lt b3)).trans b3)
  have B4 := Lib.hid ((k1.block _ (blk_lt b4)).trans b4)
  clear eb kb b1 b2 b3 b4 k1 o0 o1 o2 o3 o4 o5
  obtain ⟨⟨c0, c1, c2, c3, c4, c5, c6, c7, c8⟩, f0, f1, f2, f3, f4, f5, f6, f7, f8⟩ := cells9 B3.out
  go_upto_region 2 with fail
  obtain ⟨w2, e2⟩ : ∃ w2, put9 w1 (w.heap.size + 2) (ptr hb) (.int .i64 k) (.bool x) (.int .i64 n) (.int .i64 a) (.int .i64 l) (.string s) (.int .i64 p) (.int .i64 r) = w2 := ⟨_, rfl⟩
  change Code.wp _ _ _ _ (put9 w1 (w.heap.size + 2) (ptr hb) (.int .i64 k) (.bool x) (.int .i64 n) (.int .i64 a) (.int .i64 l) (.string s) (.int .i64 p) (.int .i64 r))
  rw [e2]
  have ON : Hid (Only (w.heap.size + 2) w1 w2) := Lib.hid (by rw [← e2]; exact only9 _ _ _ _ _ _ _ _ _ _ _)
  have C3 : Hid (w2.heap[w.heap.size + 2]? = some (dcObj hb k x n a l s p r)) := Lib.hid (by rw [← e2]; exact set9 B3.out _ _ _ _ _ _ _ _ _)
  have C2 := Lib.hid ((ON.out.block _ (by omega)).trans B2.out)
  have C4 := Lib.hid ((ON.out.block _ (by omega)).trans B4.out)
  have K2 := Lib.hid (only_below ON.out K1.out (by omega))
  clear e2 c0 c1 c2 c3 c4 c5 c6 c7 c8 f0 f1 f2 f3 f4 f5 f6 f7 f8
  obtain ⟨o0, o1, o2, o3, o4, o5⟩ := ob_cells C2.out
  go_wp2_with fail
  refine (hk.out w2 K2.out).mono ?_
  rintro e w3 ⟨rfl, k3⟩
  have K3 := Lib.hid (below_and K2.out k3)
  have D3 := Lib.hid ((k3.block _ (blk_lt C3.out)).trans C3.out)
  have D4 := Lib.hid ((k3.block _ (blk_lt C4.out)).trans C4.out)
  clear k3 o0 o1 o2 o3 o4 o5
  obtain ⟨⟨c0, c1, c2, c3, c4, c5⟩, f0, f1, f2, f3, f4, f5⟩ := cells6 D4.out
  go_upto_region 5 with fail
  obtain ⟨w4, e4⟩ : ∃ w4, (((((w3.setCell ⟨w.heap.size + 3, 0, none⟩ (.int .i64 0)).setCell ⟨w.heap.size + 3, 1, none⟩ (.bool false)).setCell ⟨w.heap.size + 3, 2, none⟩ (.int .i64 0)).setCell ⟨w.heap.size + 3, 3, none⟩ (.int .i64 0)).setCell ⟨w.heap.size + 3, 4, none⟩ (.int .i64 0)).setCell ⟨w.heap.size + 3, 5, none⟩ (.string ⟨#[]⟩) = w4 := ⟨_, rfl⟩
  rw [e4]
  have ON4 : Hid (Only (w.heap.size + 3) w3 w4) := Lib.hid (by rw [← e4]; exact only6 _ _ _ _ _ _ _ _)
  have E4 : Hid (w4.heap[w.heap.size + 3]? = some (obObj 0 false 0 0 0 ⟨#[]⟩)) := Lib.hid (by rw [← e4]; exact set6 D4.out _ _ _ _ _ _)
  have E3 := Lib.hid ((ON4.out.block _ (by omega)).trans D3.out)
  have K4 := Lib.hid (only_below ON4.out K3.out (by omega))
  clear e4 c0 c1 c2 c3 c4 c5 f0 f1 f2 f3 f4 f5
  obtain ⟨⟨c0, c1, c2, c3, c4, c5⟩, f0, f1, f2, f3, f4, f5⟩ := cells6 E4.out
  obtain ⟨⟨d0, d1, d2, d3, d4, d5, d6, d7, d8⟩, g0, g1, g2, g3, g4, g5, g6, g7, g8⟩ := cells9 E3.out
  go_wp2_with fail
  go_region
  obtain ⟨w5, e5⟩ : ∃ w5, put9 w4 (w.heap.size + 1 + 1) (.pointer none) (.int .i64 0) (.bool false) (.int .i64 0) (.int .i64 0) (.int .i64 0) (.string ⟨#[]⟩) (.int .i64 0) (.int .i64 0) = w5 := ⟨_, rfl⟩
  have e5' := e5
  unfold put9 at e5'
  rw [e5']
  clear e5'
  obtain ⟨w6, e6⟩ : ∃ w6, (((((w5.setCell ⟨w.heap.size + 1 + 1 + 1, 0, none⟩ (.int .i64 0)).setCell ⟨w.heap.size + 1 + 1 + 1, 1, none⟩ (.bool false)).setCell ⟨w.heap.size + 1 + 1 + 1, 2, none⟩ (.int .i64 0)).setCell ⟨w.heap.size + 1 + 1 + 1, 3, none⟩ (.int .i64 0)).setCell ⟨w.heap.size + 1 + 1 + 1, 4, none⟩ (.int .i64 0)).setCell ⟨w.heap.size + 1 + 1 + 1, 5, none⟩ (.string ⟨#[]⟩) = w6 := ⟨_, rfl⟩
  rw [e6]
  have O5 : Hid (Only (w.heap.size + 2) w4 w5) := Lib.hid (by rw [← e5]; exact only9 _ _ _ _ _ _ _ _ _ _ _)
  have O6 : Hid (Only (w.heap.size + 3) w5 w6) := Lib.hid (by rw [← e6]; exact only6 _ _ _ _ _ _ _ _)
  have F3 : w5.heap[w.heap.size + 2]? = some zeroDc := by rw [← e5]; exact set9 E3.out _ _ _ _ _ _ _ _ _
  have F4 : w5.heap[w.heap.size + 3]? = some (obObj 0 false 0 0 0 ⟨#[]⟩) := (O5.out.block _ (by omega)).trans E4.out
  have G3 := Lib.hid ((O6.out.block _ (by omega)).trans F3)
  have G4 : Hid (w6.heap[w.heap.size + 3]? = some (obObj 0 false 0 0 0 ⟨#[]⟩)) := Lib.hid (by rw [← e6]; exact set6 F4 _ _ _ _ _ _)
  have K6 := Lib.hid (only_below O6.out (only_below O5.out K4.out (by omega)) (by omega))
  clear e5 e6 F3 F4 c0 c1 c2 c3 c4 c5 f0 f1 f2 f3 f4 f5 d0 d1 d2 d3 d4 d5 d6 d7 d8 g0 g1 g2 g3 g4 g5 g6 g7 g8
  go_wp2
  (try simp only [Exit.inBlock, Exit.then])
  exact bodyPost_ret (ret_cell2 rfl _ _ _ _ _ _ _ _ _ _ _ _ _ rfl rfl rfl G3.out G4.out Try.underlying86 rfl (by kernel_rfl) Try.underlying30 rfl (by kernel_rfl)) rfl ⟨rfl, K6.out.drew⟩
end Go.Proofs.Ytlkbnldpecolbaa

/- Walks of dict: Get. -/
namespace Go.Proofs.Ytlkbnldpecolbaa
open Go.RowKit Go.Maps
set_option linter.unusedVariables false

theorem obs_zero (w : World) (k n a l : Int) (x : Bool) (s : ByteArray) (k' n' a' l' : Int) (x' : Bool) (s' : ByteArray) :
    ∃ wb, ((w.alloc (.cells #[.int .i64 k, .bool x, .int .i64 n, .int .i64 a, .int .i64 l, .string s] 30)).alloc (.cells #[.int .i64 k', .bool x', .int .i64 n', .int .i64 a', .int .i64 l', .string s'] 30)).alloc (.cells #[.int .i64 0, .bool false, .int .i64 0, .int .i64 0, .int .i64 0, .string ⟨#[]⟩] 30) = wb ∧ Below w.heap.size w wb ∧
      wb.heap[w.heap.size]? = some (obObj k x n a l s) ∧ wb.heap[w.heap.size + 1]? = some (obObj k' x' n' a' l' s') ∧ wb.heap[w.heap.size + 2]? = some emptyOb := by
  refine ⟨_, rfl, below_and (below_and (box_below _ _) (box_below _ _)) (box_below _ _), ?_, ?_, ?_⟩
  · rw [Below.heap_alloc _ _ _ (by simp; omega), Below.heap_alloc _ _ _ (by simp)]
    exact heap_alloc_new _ _
  · rw [Below.heap_alloc _ _ _ (by simp)]
    have := heap_alloc_new (w.alloc (.cells #[.int .i64 k, .bool x, .int .i64 n, .int .i64 a, .int .i64 l, .string s] 30)) (obObj k' x' n' a' l' s')
    simpa using this
  · have := heap_alloc_new ((w.alloc (.cells #[.int .i64 k, .bool x, .int .i64 n, .int .i64 a, .int .i64 l, .string s] 30)).alloc (.cells #[.int .i64 k', .bool x', .int .i64 n', .int .i64 a', .int .i64 l', .string s'] 30)) emptyOb
    simpa using this
theorem later6 {w : World} {A : Nat} {c0 c1 c2 c3 c4 c5 : Value} {t : TypeId} (h : w.heap[A]? = some (.cells #[c0, c1, c2, c3, c4, c5] t (0, 0))) :
    ((∀ o, (w.alloc o).cell? ⟨A, 0, none⟩ = some c0) ∧ (∀ o, (w.alloc o).cell? ⟨A, 1, none⟩ = some c1) ∧ (∀ o, (w.alloc o).cell? ⟨A, 2, none⟩ = some c2) ∧ (∀ o, (w.alloc o).cell? ⟨A, 3, none⟩ = some c3) ∧ (∀ o, (w.alloc o).cell? ⟨A, 4, none⟩ = some c4) ∧ (∀ o, (w.alloc o).cell? ⟨A, 5, none⟩ = some c5)) ∧
    (∀ o, (w.alloc o).frozen? ⟨A, 0, none⟩ = false) ∧ (∀ o, (w.alloc o).frozen? ⟨A, 1, none⟩ = false) ∧ (∀ o, (w.alloc o).frozen? ⟨A, 2, none⟩ = false) ∧ (∀ o, (w.alloc o).frozen? ⟨A, 3, none⟩ = false) ∧ (∀ o, (w.alloc o).frozen? ⟨A, 4, none⟩ = false) ∧ (∀ o, (w.alloc o).frozen? ⟨A, 5, none⟩ = false) := by
  have q : ∀ o, (w.alloc o).heap[A]? = some (.cells #[c0, c1, c2, c3, c4, c5] t (0, 0)) := fun o => (Below.heap_alloc _ _ _ (blk_lt h)).trans h
  exact ⟨⟨fun o => cellAt (q o) 0, fun o => cellAt (q o) 1, fun o => cellAt (q o) 2, fun o => cellAt (q o) 3, fun o => cellAt (q o) 4, fun o => cellAt (q o) 5⟩, fun o => freeAt (q o) 0, fun o => freeAt (q o) 1, fun o => freeAt (q o) 2, fun o => freeAt (q o) 3, fun o => freeAt (q o) 4, fun o => freeAt (q o) 5⟩
abbrev put6 (w : World) (A : Nat) (v0 v1 v2 v3 v4 v5 : Value) : World := (((((w.setCell ⟨A, 0, none⟩ v0).setCell ⟨A, 1, none⟩ v1).setCell ⟨A, 2, none⟩ v2).setCell ⟨A, 3, none⟩ v3).setCell ⟨A, 4, none⟩ v4).setCell ⟨A, 5, none⟩ v5

theorem zdc_box (w : World) : ∃ wb, w.alloc (.cells #[.pointer none, .int .i64 0, .bool false, .int .i64 0, .int .i64 0, .int .i64 0, .string ⟨#[]⟩, .int .i64 0, .int .i64 0] 86) = wb ∧ Below w.heap.size w wb ∧ wb.heap.size = w.heap.size + 1 ∧ wb.heap[w.heap.size]? = some zeroDc :=
  ⟨_, rfl, box_below _ _, by simp, heap_alloc_new _ _⟩
set_option maxHeartbeats 1000000 in
set_option maxRecDepth 100000 in
theorem get_fail (hb : Nat) (k n a l p r E : Int) (x : Bool) (s : ByteArray) (k' n' a' l' : Int) (x' : Bool) (s' : ByteArray) (kq nq aq lq : Int) (xq : Bool) (sq : ByteArray) (kv nv av lv : Int) (xv : Bool) (sv : ByteArray) (w : World) (hE : (E != 0) = true)
    (ho : Hid (∀ wx, Below w.heap.size w wx → Calls Try.prog 51 #[ptr hb, obV k x n a l s, obV k' x' n' a' l' s'] wx fun e w' => e = .returned (.tuple #[zeroDcV, zeroOb, .int .i64 E]) ∧ Below wx.heap.size wx w')) :
    Calls Try.prog 31 #[ptr hb, obV k x n a l s, obV k' x' n' a' l' s'] w fun e w' => e = .returned (.tuple #[zeroOb, .int .i64 E]) ∧ Below w.heap.size w w' := by
  go_enter Try.func31, Try.ntmps31
  go_upto_region 1 with fail
  obtain ⟨wb, eb, kb, b1, b2, b3⟩ := obs_zero w k n a l x s k' n' a' l' x' s'
  rw [eb]
  obtain ⟨o0, o1, o2, o3, o4, o5⟩ := ob_cells b1
  obtain ⟨p0, p1, p2, p3, p4, p5⟩ := ob_cells b2
  go_wp2_with fail
  refine (ho.out wb kb).mono ?_
  rintro e w1 ⟨rfl, k1⟩
  have K1 := Lib.hid (below_and kb k1)
  have B1 := Lib.hid ((k1.block _ (blk_lt b1)).trans b1)
  have B2 := (k1.block _ (blk_lt b2)).trans b2
  have B3 := Lib.hid ((k1.block _ (blk_lt b3)).trans b3)
  clear eb kb b1 b2 b3 k1 o0 o1 o2 o3 o4 o5 p0 p1 p2 p3 p4 p5
  have LT := Lib.hid (blk_lt B2)
  obtain ⟨⟨p0, p1, p2, p3, p4, p5⟩, f0, f1, f2, f3, f4, f5⟩ := later6 B2
  have BB := Lib.hid B2
  clear B2
  go_upto_region 2 with fail
  obtain ⟨w2, e2, k2, z2, d2⟩ := zdc_box w1
  obtain ⟨w3, e3⟩ : ∃ w3, put6 w2 (w.heap.size + 1) (.int .i64 0) (.bool false) (.int .i64 0) (.int .i64 0) (.int .i64 0) (.string ⟨#[]⟩) = w3 := ⟨_, rfl⟩
  have e3' := e3
  unfold put6 at e3'
  rw [e2, e3']
  have ON : Hid (Only (w.heap.size + 1) w2 w3) := Lib.hid (by rw [← e3]; exact only6 _ _ _ _ _ _ _ _)
  have K2 := Lib.hid (below_and K1.out k2)
  have C2 : Hid (w3.heap[w.heap.size + 1]? = some emptyOb) := Lib.hid (by rw [← e3]; exact set6 ((k2.block _ (blk_lt BB.out)).trans BB.out) _ _ _ _ _ _)
  have C1 := Lib.hid ((ON.out.block _ (by omega)).trans ((k2.block _ (blk_lt B1.out)).trans B1.out))
  have C3 := Lib.hid ((ON.out.block _ (by omega)).trans ((k2.block _ (blk_lt B3.out)).trans B3.out))
  have C4 := Lib.hid ((ON.out.block _ (by have := LT.out; omega)).trans d2)
  have K3 := Lib.hid (only_below ON.out K2.out (by omega))
  clear e2 e3 e3' k2 z2 d2 p0 p1 p2 p3 p4 p5 f0 f1 f2 f3 f4 f5
  obtain ⟨⟨p0, p1, p2, p3, p4, p5⟩, f0, f1, f2, f3, f4, f5⟩ := cells6 C3.out
  go_wp2
  (try simp only [Exit.inBlock, Exit.then])
  exact bodyPost_ret (ret_cell rfl _ _ _ _ _ _ _ _ rfl rfl (set6 C3.out _ _ _ _ _ _) Try.underlying30 rfl (by kernel_rfl)) rfl ⟨rfl, set6_below K3.out (by omega) _ _ _ _ _ _⟩

set_option maxHeartbeats 1000000 in
set_option maxRecDepth 100000 in
theorem get_miss (hb : Nat) (k n a l p r i : Int) (x : Bool) (s : ByteArray) (k' n' a' l' : Int) (x' : Bool) (s' : ByteArray) (kq nq aq lq : Int) (xq : Bool) (sq : ByteArray) (kv nv av lv : Int) (xv : Bool) (sv : ByteArray) (w : World) 
    (ho : Hid (∀ wx, Below w.heap.size w wx → Calls Try.prog 51 #[ptr hb, obV k x n a l s, obV k' x' n' a' l' s'] wx fun e w' => e = .returned (.tuple #[dcV hb k x n a l s p r, obV kq xq nq aq lq sq, .int .i64 0]) ∧ Below wx.heap.size wx w'))
    (hf : Hid (∀ wx, Below w.heap.size w wx → Calls Try.prog 54 #[dcV hb k x n a l s p r, obV kq xq nq aq lq sq] wx fun e w' => e = .returned (.tuple #[.int .i64 i, .bool false]) ∧ Below wx.heap.size wx w')) :
    Calls Try.prog 31 #[ptr hb, obV k x n a l s, obV k' x' n' a' l' s'] w fun e w' => e = .returned (.tuple #[zeroOb, .int .i64 9]) ∧ Below w.heap.size w w' := by
  go_enter Try.func31, Try.ntmps31
  go_upto_region 1 with fail
  obtain ⟨wb, eb, kb, b1, b2, b3⟩ := obs_zero w k n a l x s k' n' a' l' x' s'
  rw [eb]
  obtain ⟨o0, o1, o2, o3, o4, o5⟩ := ob_cells b1
  obtain ⟨p0, p1, p2, p3, p4, p5⟩ := ob_cells b2
  go_wp2_with fail
  refine (ho.out wb kb).mono ?_
  rintro e w1 ⟨rfl, k1⟩
  have K1 := Lib.hid (below_and kb k1)
  have B1 := Lib.hid ((k1.block _ (blk_lt b1)).trans b1)
  have B2 := (k1.block _ (blk_lt b2)).trans b2
  have B3 := Lib.hid ((k1.block _ (blk_lt b3)).trans b3)
  clear eb kb b1 b2 b3 k1 o0 o1 o2 o3 o4 o5 p0 p1 p2 p3 p4 p5
  have LT := Lib.hid (blk_lt B2)
  obtain ⟨⟨p0, p1, p2, p3, p4, p5⟩, f0, f1, f2, f3, f4, f5⟩ := later6 B2
  have BB := Lib.hid B2
  clear B2
  go_upto_region 2 with fail
  obtain ⟨w2, e2, k2, z2, d2⟩ := dc_box w1 hb k x n a l s p r
  obtain ⟨w3, e3⟩ : ∃ w3, put6 w2 (w.heap.size + 1) (.int .i64 kq) (.bool xq) (.int .i64 nq) (.int .i64 aq) (.int .i64 lq) (.string sq) = w3 := ⟨_, rfl⟩
  have e3' := e3
  unfold put6 at e3'
  rw [e2, e3']
  have ON : Hid (Only (w.heap.size + 1) w2 w3) := Lib.hid (by rw [← e3]; exact only6 _ _ _ _ _ _ _ _)
  have K2 := Lib.hid (below_and K1.out k2)
  have C2 : Hid (w3.heap[w.heap.size + 1]? = some (obObj kq xq nq aq lq sq)) := Lib.hid (by rw [← e3]; exact set6 ((k2.block _ (blk_lt BB.out)).trans BB.out) _ _ _ _ _ _)
  have C1 := Lib.hid ((ON.out.block _ (by omega)).trans ((k2.block _ (blk_lt B1.out)).trans B1.out))
  have C3 := Lib.hid ((ON.out.block _ (by omega)).trans ((k2.block _ (blk_lt B3.out)).trans B3.out))
  have C4 := Lib.hid ((ON.out.block _ (by have := LT.out; omega)).trans d2)
  have K3 := Lib.hid (only_below ON.out K2.out (by omega))
  clear e2 e3 e3' k2 z2 d2 p0 p1 p2 p3 p4 p5 f0 f1 f2 f3 f4 f5
  obtain ⟨o0, o1, o2, o3, o4, o5⟩ := ob_cells C2.out
  obtain ⟨d0, d1, d2, d3, d4, d5, d6, d7, d8⟩ := dc_cells C4.out
  go_wp2_with fail
  refine (hf.out w3 K3.out).mono ?_
  rintro e w4 ⟨rfl, k4⟩
  have K4 := Lib.hid (below_and K3.out k4)
  have D1 := Lib.hid ((k4.block _ (blk_lt C1.out)).trans C1.out)
  have D3 := Lib.hid ((k4.block _ (blk_lt C3.out)).trans C3.out)
  clear k4 o0 o1 o2 o3 o4 o5 d0 d1 d2 d3 d4 d5 d6 d7 d8
  obtain ⟨⟨p0, p1, p2, p3, p4, p5⟩, f0, f1, f2, f3, f4, f5⟩ := cells6 D3.out
  go_wp2
  (try simp only [Exit.inBlock, Exit.then])
  exact bodyPost_ret (ret_cell rfl _ _ _ _ _ _ _ _ rfl rfl (set6 D3.out _ _ _ _ _ _) Try.underlying30 rfl (by kernel_rfl)) rfl ⟨rfl, set6_below K4.out (by omega) _ _ _ _ _ _⟩

set_option maxHeartbeats 1000000 in
set_option maxRecDepth 100000 in
theorem get_have (hb : Nat) (k n a l p r i j E : Int) (x : Bool) (s : ByteArray) (k' n' a' l' : Int) (x' : Bool) (s' : ByteArray) (kq nq aq lq : Int) (xq : Bool) (sq : ByteArray) (kv nv av lv : Int) (xv : Bool) (sv : ByteArray) (w : World) (ej : IntKind.i64.wrap (i + 1) = j)
    (ho : Hid (∀ wx, Below w.heap.size w wx → Calls Try.prog 51 #[ptr hb, obV k x n a l s, obV k' x' n' a' l' s'] wx fun e w' => e = .returned (.tuple #[dcV hb k x n a l s p r, obV kq xq nq aq lq sq, .int .i64 0]) ∧ Below wx.heap.size wx w'))
    (hf : Hid (∀ wx, Below w.heap.size w wx → Calls Try.prog 54 #[dcV hb k x n a l s p r, obV kq xq nq aq lq sq] wx fun e w' => e = .returned (.tuple #[.int .i64 i, .bool true]) ∧ Below wx.heap.size wx w'))
    (hg : Hid (∀ wx, Below w.heap.size w wx → Calls Try.prog 71 #[ptr hb, obV k x n a l s, .int .i64 j] wx fun e w' => e = .returned (.tuple #[obV kv xv nv av lv sv, .int .i64 E]) ∧ Below wx.heap.size wx w')) :
    Calls Try.prog 31 #[ptr hb, obV k x n a l s, obV k' x' n' a' l' s'] w fun e w' => e = .returned (.tuple #[obV kv xv nv av lv sv, .int .i64 E]) ∧ Below w.heap.size w w' := by
  go_enter Try.func31, Try.ntmps31
  go_upto_region 1 with fail
  obtain ⟨wb, eb, kb, b1, b2, b3⟩ := obs_zero w k n a l x s k' n' a' l' x' s'
  rw [eb]
  obtain ⟨o0, o1, o2, o3, o4, o5⟩ := ob_cells b1
  obtain ⟨p0, p1, p2, p3, p4, p5⟩ := ob_cells b2
  go_wp2_with fail
  refine (ho.out wb kb).mono ?_
  rintro e w1 ⟨rfl, k1⟩
  have K1 := Lib.hid (below_and kb k1)
  have B1 := Lib.hid ((k1.block _ (blk_lt b1)).trans b1)
  have B2 := (k1.block _ (blk_lt b2)).trans b2
  have B3 := Lib.hid ((k1.block _ (blk_lt b3)).trans b3)
  clear eb kb b1 b2 b3 k1 o0 o1 o2 o3 o4 o5 p0 p1 p2 p3 p4 p5
  have LT := Lib.hid (blk_lt B2)
  obtain ⟨⟨p0, p1, p2, p3, p4, p5⟩, f0, f1, f2, f3, f4, f5⟩ := later6 B2
  have BB := Lib.hid B2
  clear B2
  go_upto_region 2 with fail
  obtain ⟨w2, e2, k2, z2, d2⟩ := dc_box w1 hb k x n a l s p r
  obtain ⟨w3, e3⟩ : ∃ w3, put6 w2 (w.heap.size + 1) (.int .i64 kq) (.bool xq) (.int .i64 nq) (.int .i64 aq) (.int .i64 lq) (.string sq) = w3 := ⟨_, rfl⟩
  have e3' := e3
  unfold put6 at e3'
  rw [e2, e3']
  have ON : Hid (Only (w.heap.size + 1) w2 w3) := Lib.hid (by rw [← e3]; exact only6 _ _ _ _ _ _ _ _)
  have K2 := Lib.hid (below_and K1.out k2)
  have C2 : Hid (w3.heap[w.heap.size + 1]? = some (obObj kq xq nq aq lq sq)) := Lib.hid (by rw [← e3]; exact set6 ((k2.block _ (blk_lt BB.out)).trans BB.out) _ _ _ _ _ _)
  have C1 := Lib.hid ((ON.out.block _ (by omega)).trans ((k2.block _ (blk_lt B1.out)).trans B1.out))
  have C3 := Lib.hid ((ON.out.block _ (by omega)).trans ((k2.block _ (blk_lt B3.out)).trans B3.out))
  have C4 := Lib.hid ((ON.out.block _ (by have := LT.out; omega)).trans d2)
  have K3 := Lib.hid (only_below ON.out K2.out (by omega))
  clear e2 e3 e3' k2 z2 d2 p0 p1 p2 p3 p4 p5 f0 f1 f2 f3 f4 f5
  obtain ⟨o0, o1, o2, o3, o4, o5⟩ := ob_cells C2.out
  obtain ⟨d0, d1, d2, d3, d4, d5, d6, d7, d8⟩ := dc_cells C4.out
  go_wp2_with fail
  refine (hf.out w3 K3.out).mono ?_
  rintro e w4 ⟨rfl, k4⟩
  have K4 := Lib.hid (below_and K3.out k4)
  have D1 := Lib.hid ((k4.block _ (blk_lt C1.out)).trans C1.out)
  have D3 := Lib.hid ((k4.block _ (blk_lt C3.out)).trans C3.out)
  clear k4 o0 o1 o2 o3 o4 o5 d0 d1 d2 d3 d4 d5 d6 d7 d8
  obtain ⟨o0, o1, o2, o3, o4, o5⟩ := ob_cells D1.out
  go_wp2_with fail
  refine (hg.out w4 K4.out).mono ?_
  rintro e w5 ⟨rfl, k5⟩
  have K5 := Lib.hid (below_and K4.out k5)
  have E3 := Lib.hid ((k5.block _ (blk_lt D3.out)).trans D3.out)
  clear k5 o0 o1 o2 o3 o4 o5
  obtain ⟨⟨p0, p1, p2, p3, p4, p5⟩, f0, f1, f2, f3, f4, f5⟩ := cells6 E3.out
  go_wp2
  (try simp only [Exit.inBlock, Exit.then])
  exact bodyPost_ret (ret_cell rfl _ _ _ _ _ _ _ _ rfl rfl (set6 E3.out _ _ _ _ _ _) Try.underlying30 rfl (by kernel_rfl)) rfl ⟨rfl, set6_below K5.out (by omega) _ _ _ _ _ _⟩

end Go.Proofs.Ytlkbnldpecolbaa
