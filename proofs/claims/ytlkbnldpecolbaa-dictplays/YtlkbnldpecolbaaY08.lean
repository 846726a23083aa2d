/- Y08: K15, K14, K16, K17. -/
import Derived.Test.YtlkbnldpecolbaaY07
import Derived.Deep.Cut
import Derived.StillTailTactics
/- Walks of heap: May, and what writes one item or byte. -/
namespace Go.Proofs.Ytlkbnldpecolbaa
open Go.RowKit
set_option linter.unusedVariables false

theorem hmay_no (hb : Nat) (k n a l : Int) (x : Bool) (s : ByteArray) (w : World) (hm : Hid (∀ w, Calls Try.prog 80 #[obV k x n a l s] w fun e w' => e = .returned (.bool false) ∧ Below w.heap.size w w')) :
    Calls Try.prog 52 #[ptr hb, obV k x n a l s] w fun e w' => e = .returned (.bool false) ∧ Below w.heap.size w w' := by
  go_enter Try.func52, Try.ntmps52
  go_wp2_with fail
  refine (hm.out _).mono ?_
  rintro e wc ⟨rfl, kc⟩
  go_wp2
  go_ret
  exact ⟨rfl, below_and (box_below _ _) kc⟩

theorem hmay_find (hb : Nat) (k n a l u z E : Int) (iv : Value) (x b : Bool) (s : ByteArray) (w : World) (hb' : Hid ((E == 0 || E == 6) = b)) (h1 : iv = .nilIface ∨ ∃ T r, iv = .iface T (ptr r)) (hm : Hid (∀ w, Calls Try.prog 80 #[obV k x n a l s] w fun e w' => e = .returned (.bool true) ∧ Below w.heap.size w w'))
    (hf : Hid (∀ wx, Below w.heap.size w wx → Calls Try.prog 81 #[ptr hb, obV k x n a l s] wx fun e w' => e = .returned (.tuple #[pcV iv u z, .int .i64 E]) ∧ Below wx.heap.size wx w')) :
    Calls Try.prog 52 #[ptr hb, obV k x n a l s] w fun e w' => e = .returned (.bool b) ∧ Below w.heap.size w w' := by
  rcases h1 with rfl | ⟨T, r, rfl⟩
  all_goals
    go_enter Try.func52, Try.ntmps52
    go_wp2_with fail
    obtain ⟨wb, eb, kb, zb, ob⟩ := ob_box w k n a l x s
    rw [eb]
    refine (hm.out _).mono ?_
    rintro e wc ⟨rfl, kc⟩
    have KC := Lib.hid (below_and kb kc)
    obtain ⟨o0, o1, o2, o3, o4, o5⟩ := ob.later kc
    clear eb kb zb ob kc
    go_wp2_with fail
    refine (hf.out _ KC.out).mono ?_
    rintro e wd ⟨rfl, kd⟩
    have KD := Lib.hid (below_and KC.out kd)
    clear kd o0 o1 o2 o3 o4 o5
    go_wp2
    all_goals
      go_ret
      exact ⟨ret_bool (by first | exact hb'.out | (rw [← hb'.out]; simp_all)), KD.out.alloc KD.out.size _⟩

theorem iset_no (hb r : Nat) (i k n a l : Int) (x : Bool) (s : ByteArray) (w : World) (hm : Hid (∀ wx, Below w.heap.size w wx → Calls Try.prog 52 #[ptr hb, obV k x n a l s] wx fun e w' => e = .returned (.bool false) ∧ Below wx.heap.size wx w')) :
    Calls Try.prog 130 #[ptr r, ptr hb, .int .i64 i, obV k x n a l s] w fun e w' => e = .returned (.int .i64 1) ∧ Below w.heap.size w w' := by
  go_enter Try.func130, Try.ntmps130
  go_wp2_with fail
  refine (hm.out _ (box_below _ _)).mono ?_
  rintro e wc ⟨rfl, kc⟩
  go_wp2
  go_ret
  exact ⟨rfl, below_and (box_below _ _) kc⟩

theorem ob_one (o : Ob) : ∀ v ∈ o.cells, v.oneCell' = true := fun v hv => obCells_one [o] v (by simpa [obCells] using hv)
set_option maxRecDepth 100000 in
theorem iset_walk (hb r g z cap i : Nat) (k n a l : Int) (x : Bool) (s : ByteArray) (w : World) (hm : Hid (∀ wx, Below w.heap.size w wx → Calls Try.prog 52 #[ptr hb, obV k x n a l s] wx fun e w' => e = .returned (.bool true) ∧ Below wx.heap.size wx w'))
    (h2 : w.cell? ⟨r, 2, none⟩ = some (.slice (some ⟨g, 0, none⟩) z cap)) (hi : (i : Int) < z) (hi0 : (0 : Int) ≤ i) (ht : Hid (∀ wx, Below w.heap.size w wx → wx.there g (i * 6) 6)) :
    Calls Try.prog 130 #[ptr r, ptr hb, .int .i64 i, obV k x n a l s] w fun e w' => e = .returned (.int .i64 0) ∧ ∃ w1, Below w.heap.size w w1 ∧ w' = w1.setCells g (i * 6) [.int .i64 k, .bool x, .int .i64 n, .int .i64 a, .int .i64 l, .string s] := by
  go_enter Try.func130, Try.ntmps130
  go_wp2_with fail
  obtain ⟨wb, eb, kb, zb, ob⟩ := ob_box w k n a l x s
  rw [eb]
  refine (hm.out _ kb).mono ?_
  rintro e wc ⟨rfl, kc⟩
  have kk := below_and kb kc
  have KC := Lib.hid kk
  obtain ⟨o0, o1, o2, o3, o4, o5⟩ := ob.later kc
  replace h2 := cell_later kk h2
  clear eb kb zb ob kc kk
  go_wp2_with fail
  go_still_tail 7, (by kernel_rfl)
  refine wpList_store_mid rfl 30 _ _ rfl g (i * 6) #[.int .i64 k, .bool x, .int .i64 n, .int .i64 a, .int .i64 l, .string s] rfl rfl (ht.out _ KC.out.drew) (by kernel_rfl) (all_oneCell_toArray (ob_one ⟨k, x, n, a, l, s⟩)) ?_
  obtain ⟨wz, ez⟩ : ∃ wz, wc.drew.setCells g (i * 6) [.int .i64 k, .bool x, .int .i64 n, .int .i64 a, .int .i64 l, .string s] = wz := ⟨_, rfl⟩
  have EZ := Lib.hid ez
  change wpList _ _ _ _ _ (wc.drew.setCells g (i * 6) [.int .i64 k, .bool x, .int .i64 n, .int .i64 a, .int .i64 l, .string s])
  rw [ez]
  clear ez o0 o1 o2 o3 o4 o5 h2
  go_wp2
  go_ret
  exact ⟨rfl, wc.drew, KC.out.drew, EZ.out.symm⟩

theorem bset_type (hb r : Nat) (i k n a l : Int) (x : Bool) (s : ByteArray) (w : World) (hk : (k != 3) = true) :
    Calls Try.prog 136 #[ptr r, ptr hb, .int .i64 i, obV k x n a l s] w fun e w' => e = .returned (.int .i64 6) ∧ Below w.heap.size w w' := by
  go_enter Try.func136, Try.ntmps136
  go_wp2
  go_ret
  exact ⟨rfl, box_below _ _⟩
theorem bset_range (hb r : Nat) (i n a l : Int) (x : Bool) (s : ByteArray) (w : World) (hn : n < 0 ∨ 255 < n) :
    Calls Try.prog 136 #[ptr r, ptr hb, .int .i64 i, obV 3 x n a l s] w fun e w' => e = .returned (.int .i64 2) ∧ Below w.heap.size w w' := by
  rcases hn with hn | hn
  · go_enter Try.func136, Try.ntmps136
    go_wp2
    go_ret
    exact ⟨rfl, box_below _ _⟩
  · have h1 : decide (n < 0) = false := decide_eq_false (by omega)
    go_enter Try.func136, Try.ntmps136
    go_wp2
    go_ret
    exact ⟨rfl, box_below _ _⟩
set_option maxRecDepth 100000 in
theorem bset_walk (hb r g z cap i : Nat) (n a l : Int) (x : Bool) (s : ByteArray) (u0 : Value) (w : World) (hn : 0 ≤ n) (hn' : n ≤ 255)
    (h2 : w.cell? ⟨r, 2, none⟩ = some (.slice (some ⟨g, 0, none⟩) z cap)) (hi : (i : Int) < z) (hi0 : (0 : Int) ≤ i)
    (c0 : w.cell? ⟨g, i, none⟩ = some u0) (f0 : w.frozen? ⟨g, i, none⟩ = false) :
    Calls Try.prog 136 #[ptr r, ptr hb, .int .i64 i, obV 3 x n a l s] w fun e w' => e = .returned (.int .i64 0) ∧ ∃ w1, Below w.heap.size w w1 ∧ w' = w1.setCell ⟨g, i, none⟩ (.int .u8 n) := by
  have h1 : decide (n < 0) = false := decide_eq_false (by omega)
  have h3 : decide (n > 255) = false := decide_eq_false (by omega)
  have e1 : IntKind.u8.wrap n = n := by
    rw [IntKind.wrap_u8]
    omega
  go_enter Try.func136, Try.ntmps136
  go_wp2_with fail
  obtain ⟨wb, eb, kb, zb, ob⟩ := ob_box w 3 n a l x s
  rw [eb]
  have KB := Lib.hid kb
  obtain ⟨o0, o1, o2, o3, o4, o5⟩ := ob
  replace f0 := free_later kb c0 f0
  replace h2 := cell_later kb h2
  replace c0 := cell_later kb c0
  clear eb kb zb
  go_still_tail 9, (by kernel_rfl)
  go_wp2
  go_ret
  exact ⟨rfl, wb.drew, KB.out.drew, rfl⟩
end Go.Proofs.Ytlkbnldpecolbaa

/- Walks of heap: Get. -/
namespace Go.Proofs.Ytlkbnldpecolbaa
open Go.RowKit
set_option linter.unusedVariables false

/-- A box of an object, and a zero object behind it. -/
theorem get_box (w : World) (k n a l : Int) (x : Bool) (s : ByteArray) :
    ∃ wb, (w.alloc (.cells #[.int .i64 k, .bool x, .int .i64 n, .int .i64 a, .int .i64 l, .string s] 30)).alloc (.cells #[.int .i64 0, .bool false, .int .i64 0, .int .i64 0, .int .i64 0, .string ⟨#[]⟩] 30) = wb ∧ Below w.heap.size w wb ∧ ObAt wb w.heap.size k x n a l s ∧ wb.heap[w.heap.size + 1]? = some emptyOb := by
  refine ⟨_, rfl, below_and (box_below _ _) (box_below _ _), ?_, heap_alloc2_new _ _ _⟩
  obtain ⟨wb, eb, kb, zb, ob⟩ := ob_box w k n a l x s
  rw [eb]
  exact ob.later (box_below _ _)

theorem get_err (hb : Nat) (k n a l i E : Int) (x : Bool) (s : ByteArray) (w : World) (hE : (E != 0) = true)
    (hf : Hid (∀ wx, Below w.heap.size w wx → Calls Try.prog 81 #[ptr hb, obV k x n a l s] wx fun e w' => e = .returned (.tuple #[pcV .nilIface 0 0, .int .i64 E]) ∧ Below wx.heap.size wx w')) :
    Calls Try.prog 71 #[ptr hb, obV k x n a l s, .int .i64 i] w fun e w' => e = .returned (.tuple #[zeroOb, .int .i64 E]) ∧ Below w.heap.size w w' := by
  go_enter Try.func71, Try.ntmps71
  go_wp2_with fail
  obtain ⟨wb, eb, kb, ob, pb⟩ := get_box w k n a l x s
  rw [eb]
  have KB := Lib.hid kb
  have PB := Lib.hid pb
  refine (hf.out _ kb).mono ?_
  rintro e wc ⟨rfl, kc⟩
  have KC := Lib.hid (below_and kb kc)
  have PC : Hid (wc.heap[w.heap.size + 1]? = some emptyOb) := Lib.hid ((kc.block _ (blk_lt pb)).trans pb)
  clear eb kb pb kc ob
  go_upto_region 2 with fail
  obtain ⟨wd, ed, kd, zd, d0, d1, d2⟩ := pc_box wc .nilIface 0 0
  rw [ed]
  have KD := Lib.hid (below_and KC.out kd)
  have PD : Hid (wd.heap[w.heap.size + 1]? = some emptyOb) := Lib.hid ((kd.block _ (blk_lt PC.out)).trans PC.out)
  obtain ⟨⟨c0, c1, c2, c3, c4, c5⟩, f0, f1, f2, f3, f4, f5⟩ := cells6 PD.out
  clear ed kd zd
  go_wp2
  (try simp only [Exit.inBlock, Exit.then])
  exact bodyPost_ret (ret_cell rfl _ _ _ _ _ _ _ _ rfl rfl (set6 PD.out _ _ _ _ _ _) Try.underlying30 rfl (by kernel_rfl)) rfl ⟨rfl, set6_below KD.out (by omega) _ _ _ _ _ _⟩

theorem get_index (hb T r : Nat) (k n a l i u z : Int) (x : Bool) (s : ByteArray) (w : World)
    (hf : Hid (∀ wx, Below w.heap.size w wx → Calls Try.prog 81 #[ptr hb, obV k x n a l s] wx fun e w' => e = .returned (.tuple #[pcV (.iface T (ptr r)) u z, .int .i64 0]) ∧ Below wx.heap.size wx w'))
    (hh : Hid (∀ w, Calls Try.prog 85 #[pcV (.iface T (ptr r)) u z, .int .i64 i] w fun e w' => e = .returned (.bool false) ∧ Below w.heap.size w w')) :
    Calls Try.prog 71 #[ptr hb, obV k x n a l s, .int .i64 i] w fun e w' => e = .returned (.tuple #[zeroOb, .int .i64 12]) ∧ Below w.heap.size w w' := by
  go_enter Try.func71, Try.ntmps71
  go_wp2_with fail
  obtain ⟨wb, eb, kb, ob, pb⟩ := get_box w k n a l x s
  rw [eb]
  refine (hf.out _ kb).mono ?_
  rintro e wc ⟨rfl, kc⟩
  have KC := Lib.hid (below_and kb kc)
  have PC : Hid (wc.heap[w.heap.size + 1]? = some emptyOb) := Lib.hid ((kc.block _ (blk_lt pb)).trans pb)
  clear eb kb pb kc ob
  go_upto_region 2 with fail
  obtain ⟨wd, ed, kd, zd, d0, d1, d2⟩ := pc_box wc (.iface T (ptr r)) u z
  rw [ed]
  have KD := Lib.hid (below_and KC.out kd)
  have PD : Hid (wd.heap[w.heap.size + 1]? = some emptyOb) := Lib.hid ((kd.block _ (blk_lt PC.out)).trans PC.out)
  have KE0 := Lib.hid kd
  clear ed zd kd
  go_wp2_with fail
  refine (hh.out _).mono ?_
  rintro e we ⟨rfl, ke⟩
  have KE := Lib.hid (below_and KD.out ke)
  have PE : Hid (we.heap[w.heap.size + 1]? = some emptyOb) := Lib.hid ((ke.block _ (blk_lt PD.out)).trans PD.out)
  have g0 := cell_later ke d0
  have g1 := cell_later ke d1
  clear d0 d1 d2 ke
  obtain ⟨⟨c0, c1, c2, c3, c4, c5⟩, f0, f1, f2, f3, f4, f5⟩ := cells6 PE.out
  go_wp2
  (try simp only [Exit.inBlock, Exit.then])
  exact bodyPost_ret (ret_cell rfl _ _ _ _ _ _ _ _ rfl rfl (set6 PE.out _ _ _ _ _ _) Try.underlying30 rfl (by kernel_rfl)) rfl ⟨rfl, set6_below KE.out (by omega) _ _ _ _ _ _⟩

theorem method_get87 (r : Nat) (w : World) : (method 270 113 (ptr r) "tympan/heap.get").run Try.prog w = .ok (125, ptr r) w := by kernel_rfl
theorem get_walk87 (hb r : Nat) (k n a l i u z j : Int) (x : Bool) (s : ByteArray) (k' n' a' l' : Int) (x' : Bool) (s' : ByteArray) (w : World) (e1 : IntKind.i64.wrap (u + i) = j)
    (hf : Hid (∀ wx, Below w.heap.size w wx → Calls Try.prog 81 #[ptr hb, obV k x n a l s] wx fun e w' => e = .returned (.tuple #[pcV (.iface 113 (ptr r)) u z, .int .i64 0]) ∧ Below wx.heap.size wx w'))
    (hh : Hid (∀ w, Calls Try.prog 85 #[pcV (.iface 113 (ptr r)) u z, .int .i64 i] w fun e w' => e = .returned (.bool true) ∧ Below w.heap.size w w'))
    (hg : Hid (∀ wx, Below w.heap.size w wx → Calls Try.prog 125 #[ptr r, .int .i64 j] wx fun e w' => e = .returned (obV k' x' n' a' l' s') ∧ Below wx.heap.size wx w')) :
    Calls Try.prog 71 #[ptr hb, obV k x n a l s, .int .i64 i] w fun e w' => e = .returned (.tuple #[obV k' x' n' a' l' s', .int .i64 0]) ∧ Below w.heap.size w w' := by
  have hme := method_get87
  go_enter Try.func71, Try.ntmps71
  go_wp2_with fail
  obtain ⟨wb, eb, kb, ob, pb⟩ := get_box w k n a l x s
  rw [eb]
  refine (hf.out _ kb).mono ?_
  rintro e wc ⟨rfl, kc⟩
  have KC := Lib.hid (below_and kb kc)
  have PC : Hid (wc.heap[w.heap.size + 1]? = some emptyOb) := Lib.hid ((kc.block _ (blk_lt pb)).trans pb)
  clear eb kb pb kc ob
  go_upto_region 2 with fail
  obtain ⟨wd, ed, kd, zd, d0, d1, d2⟩ := pc_box wc (.iface 113 (ptr r)) u z
  rw [ed]
  have KD := Lib.hid (below_and KC.out kd)
  have PD : Hid (wd.heap[w.heap.size + 1]? = some emptyOb) := Lib.hid ((kd.block _ (blk_lt PC.out)).trans PC.out)
  have KE0 := Lib.hid kd
  clear ed zd kd
  go_wp2_with fail
  refine (hh.out _).mono ?_
  rintro e we ⟨rfl, ke⟩
  have KE := Lib.hid (below_and KD.out ke)
  have PE : Hid (we.heap[w.heap.size + 1]? = some emptyOb) := Lib.hid ((ke.block _ (blk_lt PD.out)).trans PD.out)
  have g0 := cell_later ke d0
  have g1 := cell_later ke d1
  clear d0 d1 d2 ke
  go_wp2_with fail
  refine (hg.out _ KE.out).mono ?_
  rintro e wf ⟨rfl, kf⟩
  have KF := Lib.hid (below_and KE.out kf)
  have PF : Hid (wf.heap[w.heap.size + 1]? = some emptyOb) := Lib.hid ((kf.block _ (blk_lt PE.out)).trans PE.out)
  obtain ⟨⟨c0, c1, c2, c3, c4, c5⟩, f0, f1, f2, f3, f4, f5⟩ := cells6 PF.out
  clear g0 g1 kf
  go_wp2
  (try simp only [Exit.inBlock, Exit.then])
  exact bodyPost_ret (ret_cell rfl _ _ _ _ _ _ _ _ rfl rfl (set6 PF.out _ _ _ _ _ _) Try.underlying30 rfl (by kernel_rfl)) rfl ⟨rfl, set6_below KF.out (by omega) _ _ _ _ _ _⟩

theorem method_get95 (r : Nat) (w : World) : (method 270 134 (ptr r) "tympan/heap.get").run Try.prog w = .ok (133, ptr r) w := by kernel_rfl
theorem get_walk95 (hb r : Nat) (k n a l i u z j : Int) (x : Bool) (s : ByteArray) (k' n' a' l' : Int) (x' : Bool) (s' : ByteArray) (w : World) (e1 : IntKind.i64.wrap (u + i) = j)
    (hf : Hid (∀ wx, Below w.heap.size w wx → Calls Try.prog 81 #[ptr hb, obV k x n a l s] wx fun e w' => e = .returned (.tuple #[pcV (.iface 134 (ptr r)) u z, .int .i64 0]) ∧ Below wx.heap.size wx w'))
    (hh : Hid (∀ w, Calls Try.prog 85 #[pcV (.iface 134 (ptr r)) u z, .int .i64 i] w fun e w' => e = .returned (.bool true) ∧ Below w.heap.size w w'))
    (hg : Hid (∀ wx, Below w.heap.size w wx → Calls Try.prog 133 #[ptr r, .int .i64 j] wx fun e w' => e = .returned (obV k' x' n' a' l' s') ∧ Below wx.heap.size wx w')) :
    Calls Try.prog 71 #[ptr hb, obV k x n a l s, .int .i64 i] w fun e w' => e = .returned (.tuple #[obV k' x' n' a' l' s', .int .i64 0]) ∧ Below w.heap.size w w' := by
  have hme := method_get95
  go_enter Try.func71, Try.ntmps71
  go_wp2_with fail
  obtain ⟨wb, eb, kb, ob, pb⟩ := get_box w k n a l x s
  rw [eb]
  refine (hf.out _ kb).mono ?_
  rintro e wc ⟨rfl, kc⟩
  have KC := Lib.hid (below_and kb kc)
  have PC : Hid (wc.heap[w.heap.size + 1]? = some emptyOb) := Lib.hid ((kc.block _ (blk_lt pb)).trans pb)
  clear eb kb pb kc ob
  go_upto_region 2 with fail
  obtain ⟨wd, ed, kd, zd, d0, d1, d2⟩ := pc_box wc (.iface 134 (ptr r)) u z
  rw [ed]
  have KD := Lib.hid (below_and KC.out kd)
  have PD : Hid (wd.heap[w.heap.size + 1]? = some emptyOb) := Lib.hid ((kd.block _ (blk_lt PC.out)).trans PC.out)
  have KE0 := Lib.hid kd
  clear ed zd kd
  go_wp2_with fail
  refine (hh.out _).mono ?_
  rintro e we ⟨rfl, ke⟩
  have KE := Lib.hid (below_and KD.out ke)
  have PE : Hid (we.heap[w.heap.size + 1]? = some emptyOb) := Lib.hid ((ke.block _ (blk_lt PD.out)).trans PD.out)
  have g0 := cell_later ke d0
  have g1 := cell_later ke d1
  clear d0 d1 d2 ke
  go_wp2_with fail
  refine (hg.out _ KE.out).mono ?_
  rintro e wf ⟨rfl, kf⟩
  have KF := Lib.hid (below_and KE.out kf)
  have PF : Hid (wf.heap[w.heap.size + 1]? = some emptyOb) := Lib.hid ((kf.block _ (blk_lt PE.out)).trans PE.out)
  obtain ⟨⟨c0, c1, c2, c3, c4, c5⟩, f0, f1, f2, f3, f4, f5⟩ := cells6 PF.out
  clear g0 g1 kf
  go_wp2
  (try simp only [Exit.inBlock, Exit.then])
  exact bodyPost_ret (ret_cell rfl _ _ _ _ _ _ _ _ rfl rfl (set6 PF.out _ _ _ _ _ _) Try.underlying30 rfl (by kernel_rfl)) rfl ⟨rfl, set6_below KF.out (by omega) _ _ _ _ _ _⟩

end Go.Proofs.Ytlkbnldpecolbaa

/- Walks of heap: Part. -/
namespace Go.Proofs.Ytlkbnldpecolbaa
open Go.RowKit
set_option linter.unusedVariables false

theorem Only.below {A : Nat} {w0 w w' : World} (h : Only A w w') (k : Below w0.heap.size w0 w) (hA : w0.heap.size ≤ A) : Below w0.heap.size w0 w' :=
  ⟨h.os.trans k.os, h.tape.trans k.tape, h.output.trans k.output, by rw [h.size]; exact k.size, fun i hi => (h.block i (by omega)).trans (k.block i hi)⟩
theorem ObAt.only {A b : Nat} {w w' : World} {k n a l : Int} {x : Bool} {s : ByteArray} (h : ObAt w b k x n a l s) (o : Only A w w') (hb : b ≠ A) : ObAt w' b k x n a l s := by
  have e : ∀ i, w'.cell? ⟨b, i, none⟩ = w.cell? ⟨b, i, none⟩ := fun i => World.cell?_of_block (o.block b hb)
  unfold ObAt
  rw [e, e, e, e, e, e]
  exact h
theorem set6_box {w : World} {A : Nat} {c0 c1 c2 c3 c4 c5 : Value} {t : TypeId} (h : w.heap[A]? = some (.cells #[c0, c1, c2, c3, c4, c5] t (0, 0))) (v0 v1 v2 v3 v4 v5 : Value) :
    ∃ wf, ((((((w.setCell ⟨A, 0, none⟩ v0).setCell ⟨A, 1, none⟩ v1).setCell ⟨A, 2, none⟩ v2).setCell ⟨A, 3, none⟩ v3).setCell ⟨A, 4, none⟩ v4).setCell ⟨A, 5, none⟩ v5) = wf ∧ wf.heap[A]? = some (.cells #[v0, v1, v2, v3, v4, v5] t (0, 0)) ∧ Only A w wf :=
  ⟨_, rfl, set6 h _ _ _ _ _ _, only6 _ _ _ _ _ _ _ _⟩
theorem set34_box {w : World} {A : Nat} {c0 c1 c2 c3 c4 c5 : Value} {t : TypeId} (h : w.heap[A]? = some (.cells #[c0, c1, c2, c3, c4, c5] t (0, 0))) (v3 v4 : Value) :
    ∃ wf, (w.setCell ⟨A, 3, none⟩ v3).setCell ⟨A, 4, none⟩ v4 = wf ∧ wf.heap[A]? = some (.cells #[c0, c1, c2, v3, v4, c5] t (0, 0)) ∧ Only A w wf := by
  refine ⟨_, rfl, ?_, ((Only.refl A w).set 3 v3).set 4 v4⟩
  rw [heap_setCell_same _ _ _ _ t _ (heap_setCell_same _ _ _ _ t _ h)]
  rfl

end Go.Proofs.Ytlkbnldpecolbaa

/- Walks of heap: Set. -/
namespace Go.Proofs.Ytlkbnldpecolbaa
open Go.RowKit
set_option linter.unusedVariables false

theorem set_err (hb : Nat) (k n a l i E : Int) (x : Bool) (s : ByteArray) (k' n' a' l' : Int) (x' : Bool) (s' : ByteArray) (w : World) (hE : (E != 0) = true)
    (hf : Hid (∀ wx, Below w.heap.size w wx → Calls Try.prog 81 #[ptr hb, obV k x n a l s] wx fun e w' => e = .returned (.tuple #[pcV .nilIface 0 0, .int .i64 E]) ∧ Below wx.heap.size wx w')) :
    Calls Try.prog 55 #[ptr hb, obV k x n a l s, .int .i64 i, obV k' x' n' a' l' s'] w fun e w' => e = .returned (.int .i64 E) ∧ Below w.heap.size w w' := by
  go_enter Try.func55, Try.ntmps55
  go_wp2_with fail
  obtain ⟨wb, eb, kb, ob⟩ := two_box w k n a l k' n' a' l' x x' s s'
  rw [eb]
  refine (hf.out _ kb).mono ?_
  rintro e wc ⟨rfl, kc⟩
  have KC := Lib.hid (below_and kb kc)
  have OC := Lib.hid (ob.2.later kc)
  clear eb kb kc ob
  go_upto_region 2 with fail
  obtain ⟨wd, ed, kd, zd, d0, d1, d2⟩ := pc_box wc .nilIface 0 0
  rw [ed]
  have KD := Lib.hid (below_and KC.out kd)
  have OD := Lib.hid (OC.out.later kd)
  clear ed kd zd
  go_wp2
  go_ret
  exact ⟨rfl, KD.out⟩

theorem set_index (hb T r : Nat) (k n a l i u z : Int) (x : Bool) (s : ByteArray) (k' n' a' l' : Int) (x' : Bool) (s' : ByteArray) (w : World)
    (hf : Hid (∀ wx, Below w.heap.size w wx → Calls Try.prog 81 #[ptr hb, obV k x n a l s] wx fun e w' => e = .returned (.tuple #[pcV (.iface T (ptr r)) u z, .int .i64 0]) ∧ Below wx.heap.size wx w'))
    (hh : Hid (∀ w, Calls Try.prog 85 #[pcV (.iface T (ptr r)) u z, .int .i64 i] w fun e w' => e = .returned (.bool false) ∧ Below w.heap.size w w')) :
    Calls Try.prog 55 #[ptr hb, obV k x n a l s, .int .i64 i, obV k' x' n' a' l' s'] w fun e w' => e = .returned (.int .i64 12) ∧ Below w.heap.size w w' := by
  go_enter Try.func55, Try.ntmps55
  go_wp2_with fail
  obtain ⟨wb, eb, kb, ob⟩ := two_box w k n a l k' n' a' l' x x' s s'
  rw [eb]
  refine (hf.out _ kb).mono ?_
  rintro e wc ⟨rfl, kc⟩
  have KC := Lib.hid (below_and kb kc)
  have OC := Lib.hid (ob.2.later kc)
  clear eb kb kc ob
  go_upto_region 2 with fail
  obtain ⟨wd, ed, kd, zd, d0, d1, d2⟩ := pc_box wc (.iface T (ptr r)) u z
  rw [ed]
  have KD := Lib.hid (below_and KC.out kd)
  have OD := Lib.hid (OC.out.later kd)
  clear ed kd zd
  go_wp2_with fail
  refine (hh.out _).mono ?_
  rintro e we ⟨rfl, ke⟩
  have KE := Lib.hid (below_and KD.out ke)
  have g0 := cell_later ke d0
  have g1 := cell_later ke d1
  have OE := Lib.hid (OD.out.later ke)
  clear d0 d1 d2 ke
  go_wp2
  go_ret
  exact ⟨rfl, KE.out⟩

theorem method_isLocked87 (r : Nat) (w : World) : (method 270 113 (ptr r) "tympan/heap.isLocked").run Try.prog w = .ok (126, ptr r) w := by kernel_rfl
theorem method_set87 (r : Nat) (w : World) : (method 270 113 (ptr r) "tympan/heap.set").run Try.prog w = .ok (130, ptr r) w := by kernel_rfl
theorem set_locked87 (hb r : Nat) (k n a l i u z : Int) (x : Bool) (s : ByteArray) (k' n' a' l' : Int) (x' : Bool) (s' : ByteArray) (w : World)
    (hf : Hid (∀ wx, Below w.heap.size w wx → Calls Try.prog 81 #[ptr hb, obV k x n a l s] wx fun e w' => e = .returned (.tuple #[pcV (.iface 113 (ptr r)) u z, .int .i64 0]) ∧ Below wx.heap.size wx w'))
    (hh : Hid (∀ w, Calls Try.prog 85 #[pcV (.iface 113 (ptr r)) u z, .int .i64 i] w fun e w' => e = .returned (.bool true) ∧ Below w.heap.size w w'))
    (hl : Hid (∀ wx, Below w.heap.size w wx → Calls Try.prog 126 #[ptr r] wx fun e w' => e = .returned (.bool true) ∧ wx = w')) :
    Calls Try.prog 55 #[ptr hb, obV k x n a l s, .int .i64 i, obV k' x' n' a' l' s'] w fun e w' => e = .returned (.int .i64 1) ∧ Below w.heap.size w w' := by
  have hme := method_isLocked87
  go_enter Try.func55, Try.ntmps55
  go_wp2_with fail
  obtain ⟨wb, eb, kb, ob⟩ := two_box w k n a l k' n' a' l' x x' s s'
  rw [eb]
  refine (hf.out _ kb).mono ?_
  rintro e wc ⟨rfl, kc⟩
  have KC := Lib.hid (below_and kb kc)
  have OC := Lib.hid (ob.2.later kc)
  clear eb kb kc ob
  go_upto_region 2 with fail
  obtain ⟨wd, ed, kd, zd, d0, d1, d2⟩ := pc_box wc (.iface 113 (ptr r)) u z
  rw [ed]
  have KD := Lib.hid (below_and KC.out kd)
  have OD := Lib.hid (OC.out.later kd)
  clear ed kd zd
  go_wp2_with fail
  refine (hh.out _).mono ?_
  rintro e we ⟨rfl, ke⟩
  have KE := Lib.hid (below_and KD.out ke)
  have g0 := cell_later ke d0
  have g1 := cell_later ke d1
  have OE := Lib.hid (OD.out.later ke)
  clear d0 d1 d2 ke
  go_wp2_with fail
  refine (hl.out _ KE.out).mono ?_
  rintro e wf ⟨rfl, rfl⟩
  go_wp2
  go_ret
  exact ⟨rfl, KE.out⟩

theorem set_walk87 (hb r : Nat) (k n a l i u z j : Int) (x : Bool) (s : ByteArray) (k' n' a' l' : Int) (x' : Bool) (s' : ByteArray) (w : World) (R : Ending → World → Prop) (e1 : IntKind.i64.wrap (u + i) = j)
    (hf : Hid (∀ wx, Below w.heap.size w wx → Calls Try.prog 81 #[ptr hb, obV k x n a l s] wx fun e w' => e = .returned (.tuple #[pcV (.iface 113 (ptr r)) u z, .int .i64 0]) ∧ Below wx.heap.size wx w'))
    (hh : Hid (∀ w, Calls Try.prog 85 #[pcV (.iface 113 (ptr r)) u z, .int .i64 i] w fun e w' => e = .returned (.bool true) ∧ Below w.heap.size w w'))
    (hl : Hid (∀ wx, Below w.heap.size w wx → Calls Try.prog 126 #[ptr r] wx fun e w' => e = .returned (.bool false) ∧ wx = w'))
    (hs : Hid (∀ wx, Below w.heap.size w wx → Calls Try.prog 130 #[ptr r, ptr hb, .int .i64 j, obV k' x' n' a' l' s'] wx fun e w' => (∃ q, e = .returned (.int .i64 q)) ∧ R e w')) :
    Calls Try.prog 55 #[ptr hb, obV k x n a l s, .int .i64 i, obV k' x' n' a' l' s'] w fun e w' => R e w' := by
  have hme := method_isLocked87
  have hms := method_set87
  go_enter Try.func55, Try.ntmps55
  go_wp2_with fail
  obtain ⟨wb, eb, kb, ob⟩ := two_box w k n a l k' n' a' l' x x' s s'
  rw [eb]
  refine (hf.out _ kb).mono ?_
  rintro e wc ⟨rfl, kc⟩
  have KC := Lib.hid (below_and kb kc)
  have OC := Lib.hid (ob.2.later kc)
  clear eb kb kc ob
  go_upto_region 2 with fail
  obtain ⟨wd, ed, kd, zd, d0, d1, d2⟩ := pc_box wc (.iface 113 (ptr r)) u z
  rw [ed]
  have KD := Lib.hid (below_and KC.out kd)
  have OD := Lib.hid (OC.out.later kd)
  clear ed kd zd
  go_wp2_with fail
  refine (hh.out _).mono ?_
  rintro e we ⟨rfl, ke⟩
  have KE := Lib.hid (below_and KD.out ke)
  have g0 := cell_later ke d0
  have g1 := cell_later ke d1
  have OE := Lib.hid (OD.out.later ke)
  clear d0 d1 d2 ke
  go_wp2_with fail
  refine (hl.out _ KE.out).mono ?_
  rintro e wf ⟨rfl, rfl⟩
  obtain ⟨o0, o1, o2, o3, o4, o5⟩ := OE.out
  go_wp2_with fail
  refine (hs.out _ KE.out).mono ?_
  rintro e wg ⟨⟨q, rfl⟩, hR⟩
  have HR := Lib.hid hR
  clear hR g0 g1 o0 o1 o2 o3 o4 o5
  go_wp2
  exact HR.out

theorem method_isLocked95 (r : Nat) (w : World) : (method 270 134 (ptr r) "tympan/heap.isLocked").run Try.prog w = .ok (126, ptr r) w := by kernel_rfl
theorem method_set95 (r : Nat) (w : World) : (method 270 134 (ptr r) "tympan/heap.set").run Try.prog w = .ok (136, ptr r) w := by kernel_rfl
theorem set_locked95 (hb r : Nat) (k n a l i u z : Int) (x : Bool) (s : ByteArray) (k' n' a' l' : Int) (x' : Bool) (s' : ByteArray) (w : World)
    (hf : Hid (∀ wx, Below w.heap.size w wx → Calls Try.prog 81 #[ptr hb, obV k x n a l s] wx fun e w' => e = .returned (.tuple #[pcV (.iface 134 (ptr r)) u z, .int .i64 0]) ∧ Below wx.heap.size wx w'))
    (hh : Hid (∀ w, Calls Try.prog 85 #[pcV (.iface 134 (ptr r)) u z, .int .i64 i] w fun e w' => e = .returned (.bool true) ∧ Below w.heap.size w w'))
    (hl : Hid (∀ wx, Below w.heap.size w wx → Calls Try.prog 126 #[ptr r] wx fun e w' => e = .returned (.bool true) ∧ wx = w')) :
    Calls Try.prog 55 #[ptr hb, obV k x n a l s, .int .i64 i, obV k' x' n' a' l' s'] w fun e w' => e = .returned (.int .i64 1) ∧ Below w.heap.size w w' := by
  have hme := method_isLocked95
  go_enter Try.func55, Try.ntmps55
  go_wp2_with fail
  obtain ⟨wb, eb, kb, ob⟩ := two_box w k n a l k' n' a' l' x x' s s'
  rw [eb]
  refine (hf.out _ kb).mono ?_
  rintro e wc ⟨rfl, kc⟩
  have KC := Lib.hid (below_and kb kc)
  have OC := Lib.hid (ob.2.later kc)
  clear eb kb kc ob
  go_upto_region 2 with fail
  obtain ⟨wd, ed, kd, zd, d0, d1, d2⟩ := pc_box wc (.iface 134 (ptr r)) u z
  rw [ed]
  have KD := Lib.hid (below_and KC.out kd)
  have OD := Lib.hid (OC.out.later kd)
  clear ed kd zd
  go_wp2_with fail
  refine (hh.out _).mono ?_
  rintro e we ⟨rfl, ke⟩
  have KE := Lib.hid (below_and KD.out ke)
  have g0 := cell_later ke d0
  have g1 := cell_later ke d1
  have OE := Lib.hid (OD.out.later ke)
  clear d0 d1 d2 ke
  go_wp2_with fail
  refine (hl.out _ KE.out).mono ?_
  rintro e wf ⟨rfl, rfl⟩
  go_wp2
  go_ret
  exact ⟨rfl, KE.out⟩

theorem set_walk95 (hb r : Nat) (k n a l i u z j : Int) (x : Bool) (s : ByteArray) (k' n' a' l' : Int) (x' : Bool) (s' : ByteArray) (w : World) (R : Ending → World → Prop) (e1 : IntKind.i64.wrap (u + i) = j)
    (hf : Hid (∀ wx, Below w.heap.size w wx → Calls Try.prog 81 #[ptr hb, obV k x n a l s] wx fun e w' => e = .returned (.tuple #[pcV (.iface 134 (ptr r)) u z, .int .i64 0]) ∧ Below wx.heap.size wx w'))
    (hh : Hid (∀ w, Calls Try.prog 85 #[pcV (.iface 134 (ptr r)) u z, .int .i64 i] w fun e w' => e = .returned (.bool true) ∧ Below w.heap.size w w'))
    (hl : Hid (∀ wx, Below w.heap.size w wx → Calls Try.prog 126 #[ptr r] wx fun e w' => e = .returned (.bool false) ∧ wx = w'))
    (hs : Hid (∀ wx, Below w.heap.size w wx → Calls Try.prog 136 #[ptr r, ptr hb, .int .i64 j, obV k' x' n' a' l' s'] wx fun e w' => (∃ q, e = .returned (.int .i64 q)) ∧ R e w')) :
    Calls Try.prog 55 #[ptr hb, obV k x n a l s, .int .i64 i, obV k' x' n' a' l' s'] w fun e w' => R e w' := by
  have hme := method_isLocked95
  have hms := method_set95
  go_enter Try.func55, Try.ntmps55
  go_wp2_with fail
  obtain ⟨wb, eb, kb, ob⟩ := two_box w k n a l k' n' a' l' x x' s s'
  rw [eb]
  refine (hf.out _ kb).mono ?_
  rintro e wc ⟨rfl, kc⟩
  have KC := Lib.hid (below_and kb kc)
  have OC := Lib.hid (ob.2.later kc)
  clear eb kb kc ob
  go_upto_region 2 with fail
  obtain ⟨wd, ed, kd, zd, d0, d1, d2⟩ := pc_box wc (.iface 134 (ptr r)) u z
  rw [ed]
  have KD := Lib.hid (below_and KC.out kd)
  have OD := Lib.hid (OC.out.later kd)
  clear ed kd zd
  go_wp2_with fail
  refine (hh.out _).mono ?_
  rintro e we ⟨rfl, ke⟩
  have KE := Lib.hid (below_and KD.out ke)
  have g0 := cell_later ke d0
  have g1 := cell_later ke d1
  have OE := Lib.hid (OD.out.later ke)
  clear d0 d1 d2 ke
  go_wp2_with fail
  refine (hl.out _ KE.out).mono ?_
  rintro e wf ⟨rfl, rfl⟩
  obtain ⟨o0, o1, o2, o3, o4, o5⟩ := OE.out
  go_wp2_with fail
  refine (hs.out _ KE.out).mono ?_
  rintro e wg ⟨⟨q, rfl⟩, hR⟩
  have HR := Lib.hid hR
  clear hR g0 g1 o0 o1 o2 o3 o4 o5
  go_wp2
  exact HR.out

end Go.Proofs.Ytlkbnldpecolbaa
