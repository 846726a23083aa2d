/- Walks of dict: openFor. -/
import Derived.Test.YtigboibcgpfphaaD7
namespace Go.Proofs.Ytigboibcgpfphaa
open Go.RowKit Go.Maps
set_option linter.unusedVariables false

theorem ret_cell2 {P : Program} {fn : Func} {p q u : Tmp} {ty ty2 : TypeId} (h : fn.results = #[.cell p ty, .cell q ty2, .tmp u]) (tmps : Array Value) (w : World) (g g2 : Nat) (t t2 : TypeId) (cs cs2 : Array Value) (fr fr2 : Nat × Nat) (d d2 : TypeDesc) (v : Value)
    (hp : tmps.getD p undef = .pointer (some ⟨g, 0, none⟩)) (hq : tmps.getD q undef = .pointer (some ⟨g2, 0, none⟩)) (hv : tmps.getD u undef = v) (hg : w.heap[g]? = some (.cells cs t fr)) (hg2 : w.heap[g2]? = some (.cells cs2 t2 fr2))
    (hu : P.underlying ty = some d) (hd : (match d with | .struct _ | .array _ _ => true | _ => false) = true) (hi : (P.info? ty).map (·.size) = some cs.size)
    (hu2 : P.underlying ty2 = some d2) (hd2 : (match d2 with | .struct _ | .array _ _ => true | _ => false) = true) (hi2 : (P.info? ty2).map (·.size) = some cs2.size) :
    (results fn tmps).run P w = .ok (.tuple #[.agg cs, .agg cs2, v]) w := by
  have hp' : tmps[p]?.getD undef = .pointer (some ⟨g, 0, none⟩) := by simpa using hp
  have hq' : tmps[q]?.getD undef = .pointer (some ⟨g2, 0, none⟩) := by simpa using hq
  have hv' : tmps[u]?.getD undef = v := by simpa using hv
  simp only [results, h]
  simp [Sem.run_bind, Result.andThen, hp', hq', hv', asAddr, run_loadVar_row w g t ty cs fr d hg hu hd hi, run_loadVar_row w g2 t2 ty2 cs2 fr2 d2 hg2 hu2 hd2 hi2]

theorem two_zero (w : World) (k n a l : Int) (x : Bool) (s : ByteArray) (k' n' a' l' : Int) (x' : Bool) (s' : ByteArray) :
    ∃ wb, (((w.alloc (.cells #[.int .i64 k, .bool x, .int .i64 n, .int .i64 a, .int .i64 l, .string s] 26)).alloc (.cells #[.int .i64 k', .bool x', .int .i64 n', .int .i64 a', .int .i64 l', .string s'] 26)).alloc zeroDc).alloc (.cells #[.int .i64 0, .bool false, .int .i64 0, .int .i64 0, .int .i64 0, .string ⟨#[]⟩] 26) = wb ∧ Below w.heap.size w wb ∧
      wb.heap[w.heap.size]? = some (obObj k x n a l s) ∧ wb.heap[w.heap.size + 1]? = some (obObj k' x' n' a' l' s') ∧ wb.heap[w.heap.size + 2]? = some zeroDc ∧ wb.heap[w.heap.size + 3]? = some emptyOb := by
  refine ⟨_, rfl, below_and (below_and (box_below _ _) (box_below _ _)) (below_and (box_below _ _) (box_below _ _)), ?_, ?_, ?_, ?_⟩
  · rw [Below.heap_alloc _ _ _ (by simp; omega), Below.heap_alloc _ _ _ (by simp; omega), Below.heap_alloc _ _ _ (by simp)]
    exact heap_alloc_new _ _
  · rw [Below.heap_alloc _ _ _ (by simp), Below.heap_alloc _ _ _ (by simp)]
    have := heap_alloc_new (w.alloc (.cells #[.int .i64 k, .bool x, .int .i64 n, .int .i64 a, .int .i64 l, .string s] 26)) (obObj k' x' n' a' l' s')
    simpa using this
  · rw [Below.heap_alloc _ _ _ (by simp)]
    have := heap_alloc_new ((w.alloc (.cells #[.int .i64 k, .bool x, .int .i64 n, .int .i64 a, .int .i64 l, .string s] 26)).alloc (.cells #[.int .i64 k', .bool x', .int .i64 n', .int .i64 a', .int .i64 l', .string s'] 26)) zeroDc
    simpa using this
  · have := heap_alloc_new (((w.alloc (.cells #[.int .i64 k, .bool x, .int .i64 n, .int .i64 a, .int .i64 l, .string s] 26)).alloc (.cells #[.int .i64 k', .bool x', .int .i64 n', .int .i64 a', .int .i64 l', .string s'] 26)).alloc zeroDc) emptyOb
    simpa using this

abbrev zeroDcV : Value := .agg #[.pointer none, .int .i64 0, .bool false, .int .i64 0, .int .i64 0, .int .i64 0, .string ⟨#[]⟩, .int .i64 0, .int .i64 0]
set_option maxHeartbeats 1000000 in
set_option maxRecDepth 100000 in
theorem openFor_ok (hb : Nat) (k n a l p r : Int) (x : Bool) (s : ByteArray) (k' n' a' l' : Int) (x' : Bool) (s' : ByteArray) (kq nq aq lq : Int) (xq : Bool) (sq : ByteArray) (w : World)
    (ho : Hid (∀ wx, Below w.heap.size w wx → Calls Try.prog 82 #[ptr hb, obV k x n a l s] wx fun e w' => e = .returned (.tuple #[dcV hb k x n a l s p r, .int .i64 0]) ∧ Below wx.heap.size wx w'))
    (hk : Hid (∀ wx, Below w.heap.size w wx → Calls Try.prog 36 #[ptr hb, obV k' x' n' a' l' s'] wx fun e w' => e = .returned (.tuple #[obV kq xq nq aq lq sq, .int .i64 0]) ∧ Below wx.heap.size wx w')) :
    Calls Try.prog 75 #[ptr hb, obV k x n a l s, obV k' x' n' a' l' s'] w fun e w' => e = .returned (.tuple #[dcV hb k x n a l s p r, obV kq xq nq aq lq sq, .int .i64 0]) ∧ Below w.heap.size w w' := by
  go_enter Try.func75, Try.ntmps75
  go_upto_region 1 with fail
  obtain ⟨wb, eb, kb, b1, b2, b3, b4⟩ := two_zero w k n a l x s k' n' a' l' x' s'
  rw [eb]
  obtain ⟨o0, o1, o2, o3, o4, o5⟩ := ob_cells b1
  go_wp2_with fail
  refine (ho.out wb kb).mono ?_
  rintro e w1 ⟨rfl, k1⟩
  have K1 := Lib.hid (below_and kb k1)
  have B2 := Lib.hid ((k1.block _ (blk_lt b2)).trans b2)
  have B3 := Lib.hid ((k1.block _ (blk_lt b3)).trans b3)
  have B4 := Lib.hid ((k1.block _ (blk_lt b4)).trans b4)
  clear eb kb b1 b2 b3 b4 k1 o0 o1 o2 o3 o4 o5
  obtain ⟨⟨c0, c1, c2, c3, c4, c5, c6, c7, c8⟩, f0, f1, f2, f3, f4, f5, f6, f7, f8⟩ := cells9 B3.out
  go_upto_region 2 with fail
  obtain ⟨w2, e2⟩ : ∃ w2, put9 w1 (w.heap.size + 2) (ptr hb) (.int .i64 k) (.bool x) (.int .i64 n) (.int .i64 a) (.int .i64 l) (.string s) (.int .i64 p) (.int .i64 r) = w2 := ⟨_, rfl⟩
  change Code.wp _ _ _ _ (put9 w1 (w.heap.size + 2) (ptr hb) (.int .i64 k) (.bool x) (.int .i64 n) (.int .i64 a) (.int .i64 l) (.string s) (.int .i64 p) (.int .i64 r))
  rw [e2]
  have ON : Hid (Only (w.heap.size + 2) w1 w2) := Lib.hid (by rw [← e2]; exact only9 _ _ _ _ _ _ _ _ _ _ _)
  have C3 : Hid (w2.heap[w.heap.size + 2]? = some (dcObj hb k x n a l s p r)) := Lib.hid (by rw [← e2]; exact set9 B3.out _ _ _ _ _ _ _ _ _)
  have C2 := Lib.hid ((ON.out.block _ (by omega)).trans B2.out)
  have C4 := Lib.hid ((ON.out.block _ (by omega)).trans B4.out)
  have K2 := Lib.hid (only_below ON.out K1.out (by omega))
  clear e2 c0 c1 c2 c3 c4 c5 c6 c7 c8 f0 f1 f2 f3 f4 f5 f6 f7 f8
  obtain ⟨o0, o1, o2, o3, o4, o5⟩ := ob_cells C2.out
  go_wp2_with fail
  refine (hk.out w2 K2.out).mono ?_
  rintro e w3 ⟨rfl, k3⟩
  have K3 := Lib.hid (below_and K2.out k3)
  have D3 := Lib.hid ((k3.block _ (blk_lt C3.out)).trans C3.out)
  have D4 := Lib.hid ((k3.block _ (blk_lt C4.out)).trans C4.out)
  clear k3 o0 o1 o2 o3 o4 o5
  obtain ⟨⟨c0, c1, c2, c3, c4, c5⟩, f0, f1, f2, f3, f4, f5⟩ := cells6 D4.out
  go_upto_region 5 with fail
  obtain ⟨w4, e4⟩ : ∃ w4, (((((w3.setCell ⟨w.heap.size + 3, 0, none⟩ (.int .i64 kq)).setCell ⟨w.heap.size + 3, 1, none⟩ (.bool xq)).setCell ⟨w.heap.size + 3, 2, none⟩ (.int .i64 nq)).setCell ⟨w.heap.size + 3, 3, none⟩ (.int .i64 aq)).setCell ⟨w.heap.size + 3, 4, none⟩ (.int .i64 lq)).setCell ⟨w.heap.size + 3, 5, none⟩ (.string sq) = w4 := ⟨_, rfl⟩
  rw [e4]
  have ON4 : Hid (Only (w.heap.size + 3) w3 w4) := Lib.hid (by rw [← e4]; exact only6 _ _ _ _ _ _ _ _)
  have E4 : Hid (w4.heap[w.heap.size + 3]? = some (obObj kq xq nq aq lq sq)) := Lib.hid (by rw [← e4]; exact set6 D4.out _ _ _ _ _ _)
  have E3 := Lib.hid ((ON4.out.block _ (by omega)).trans D3.out)
  have K4 := Lib.hid (only_below ON4.out K3.out (by omega))
  clear e4 c0 c1 c2 c3 c4 c5 f0 f1 f2 f3 f4 f5
  obtain ⟨⟨c0, c1, c2, c3, c4, c5⟩, f0, f1, f2, f3, f4, f5⟩ := cells6 E4.out
  obtain ⟨⟨d0, d1, d2, d3, d4, d5, d6, d7, d8⟩, g0, g1, g2, g3, g4, g5, g6, g7, g8⟩ := cells9 E3.out
  go_wp2_with fail
  go_region
  obtain ⟨w5, e5⟩ : ∃ w5, put9 w4 (w.heap.size + 1 + 1) (ptr hb) (.int .i64 k) (.bool x) (.int .i64 n) (.int .i64 a) (.int .i64 l) (.string s) (.int .i64 p) (.int .i64 r) = w5 := ⟨_, rfl⟩
  have e5' := e5
  unfold put9 at e5'
  rw [e5']
  clear e5'
  obtain ⟨w6, e6⟩ : ∃ w6, (((((w5.setCell ⟨w.heap.size + 1 + 1 + 1, 0, none⟩ (.int .i64 kq)).setCell ⟨w.heap.size + 1 + 1 + 1, 1, none⟩ (.bool xq)).setCell ⟨w.heap.size + 1 + 1 + 1, 2, none⟩ (.int .i64 nq)).setCell ⟨w.heap.size + 1 + 1 + 1, 3, none⟩ (.int .i64 aq)).setCell ⟨w.heap.size + 1 + 1 + 1, 4, none⟩ (.int .i64 lq)).setCell ⟨w.heap.size + 1 + 1 + 1, 5, none⟩ (.string sq) = w6 := ⟨_, rfl⟩
  rw [e6]
  have O5 : Hid (Only (w.heap.size + 2) w4 w5) := Lib.hid (by rw [← e5]; exact only9 _ _ _ _ _ _ _ _ _ _ _)
  have O6 : Hid (Only (w.heap.size + 3) w5 w6) := Lib.hid (by rw [← e6]; exact only6 _ _ _ _ _ _ _ _)
  have F3 : w5.heap[w.heap.size + 2]? = some (dcObj hb k x n a l s p r) := by rw [← e5]; exact set9 E3.out _ _ _ _ _ _ _ _ _
  have F4 : w5.heap[w.heap.size + 3]? = some (obObj kq xq nq aq lq sq) := (O5.out.block _ (by omega)).trans E4.out
  have G3 := Lib.hid ((O6.out.block _ (by omega)).trans F3)
  have G4 : Hid (w6.heap[w.heap.size + 3]? = some (obObj kq xq nq aq lq sq)) := Lib.hid (by rw [← e6]; exact set6 F4 _ _ _ _ _ _)
  have K6 := Lib.hid (only_below O6.out (only_below O5.out K4.out (by omega)) (by omega))
  clear e5 e6 F3 F4 c0 c1 c2 c3 c4 c5 f0 f1 f2 f3 f4 f5 d0 d1 d2 d3 d4 d5 d6 d7 d8 g0 g1 g2 g3 g4 g5 g6 g7 g8
  go_wp2
  (try simp only [Exit.inBlock, Exit.then])
  exact bodyPost_ret (ret_cell2 rfl _ _ _ _ _ _ _ _ _ _ _ _ _ rfl rfl rfl G3.out G4.out Try.underlying118 rfl (by kernel_rfl) Try.underlying26 rfl (by kernel_rfl)) rfl ⟨rfl, K6.out.drew⟩
set_option maxHeartbeats 1000000 in
set_option maxRecDepth 100000 in
theorem openFor_key (hb : Nat) (k n a l p r E : Int) (x : Bool) (s : ByteArray) (k' n' a' l' : Int) (x' : Bool) (s' : ByteArray) (w : World) (hE : (E != 0) = true)
    (ho : Hid (∀ wx, Below w.heap.size w wx → Calls Try.prog 82 #[ptr hb, obV k x n a l s] wx fun e w' => e = .returned (.tuple #[dcV hb k x n a l s p r, .int .i64 0]) ∧ Below wx.heap.size wx w'))
    (hk : Hid (∀ wx, Below w.heap.size w wx → Calls Try.prog 36 #[ptr hb, obV k' x' n' a' l' s'] wx fun e w' => e = .returned (.tuple #[zeroOb, .int .i64 E]) ∧ Below wx.heap.size wx w')) :
    Calls Try.prog 75 #[ptr hb, obV k x n a l s, obV k' x' n' a' l' s'] w fun e w' => e = .returned (.tuple #[zeroDcV, zeroOb, .int .i64 E]) ∧ Below w.heap.size w w' := by
  go_enter Try.func75, Try.ntmps75
  go_upto_region 1 with fail
  obtain ⟨wb, eb, kb, b1, b2, b3, b4⟩ := two_zero w k n a l x s k' n' a' l' x' s'
  rw [eb]
  obtain ⟨o0, o1, o2, o3, o4, o5⟩ := ob_cells b1
  go_wp2_with fail
  refine (ho.out wb kb).mono ?_
  rintro e w1 ⟨rfl, k1⟩
  have K1 := Lib.hid (below_and kb k1)
  have B2 := Lib.hid ((k1.block _ (blk_lt b2)).trans b2)
  have B3 := Lib.hid ((k1.block _ (blk_lt b3)).trans b3)
  have B4 := Lib.hid ((k1.block _ (blk_lt b4)).trans b4)
  clear eb kb b1 b2 b3 b4 k1 o0 o1 o2 o3 o4 o5
  obtain ⟨⟨c0, c1, c2, c3, c4, c5, c6, c7, c8⟩, f0, f1, f2, f3, f4, f5, f6, f7, f8⟩ := cells9 B3.out
  go_upto_region 2 with fail
  obtain ⟨w2, e2⟩ : ∃ w2, put9 w1 (w.heap.size + 2) (ptr hb) (.int .i64 k) (.bool x) (.int .i64 n) (.int .i64 a) (.int .i64 l) (.string s) (.int .i64 p) (.int .i64 r) = w2 := ⟨_, rfl⟩
  change Code.wp _ _ _ _ (put9 w1 (w.heap.size + 2) (ptr hb) (.int .i64 k) (.bool x) (.int .i64 n) (.int .i64 a) (.int .i64 l) (.string s) (.int .i64 p) (.int .i64 r))
  rw [e2]
  have ON : Hid (Only (w.heap.size + 2) w1 w2) := Lib.hid (by rw [← e2]; exact only9 _ _ _ _ _ _ _ _ _ _ _)
  have C3 : Hid (w2.heap[w.heap.size + 2]? = some (dcObj hb k x n a l s p r)) := Lib.hid (by rw [← e2]; exact set9 B3.out _ _ _ _ _ _ _ _ _)
  have C2 := Lib.hid ((ON.out.block _ (by omega)).trans B2.out)
  have C4 := Lib.hid ((ON.out.block _ (by omega)).trans B4.out)
  have K2 := Lib.hid (only_below ON.out K1.out (by omega))
  clear e2 c0 c1 c2 c3 c4 c5 c6 c7 c8 f0 f1 f2 f3 f4 f5 f6 f7 f8
  obtain ⟨o0, o1, o2, o3, o4, o5⟩ := ob_cells C2.out
  go_wp2_with fail
  refine (hk.out w2 K2.out).mono ?_
  rintro e w3 ⟨rfl, k3⟩
  have K3 := Lib.hid (below_and K2.out k3)
  have D3 := Lib.hid ((k3.block _ (blk_lt C3.out)).trans C3.out)
  have D4 := Lib.hid ((k3.block _ (blk_lt C4.out)).trans C4.out)
  clear k3 o0 o1 o2 o3 o4 o5
  obtain ⟨⟨c0, c1, c2, c3, c4, c5⟩, f0, f1, f2, f3, f4, f5⟩ := cells6 D4.out
  go_upto_region 5 with fail
  obtain ⟨w4, e4⟩ : ∃ w4, (((((w3.setCell ⟨w.heap.size + 3, 0, none⟩ (.int .i64 0)).setCell ⟨w.heap.size + 3, 1, none⟩ (.bool false)).setCell ⟨w.heap.size + 3, 2, none⟩ (.int .i64 0)).setCell ⟨w.heap.size + 3, 3, none⟩ (.int .i64 0)).setCell ⟨w.heap.size + 3, 4, none⟩ (.int .i64 0)).setCell ⟨w.heap.size + 3, 5, none⟩ (.string ⟨#[]⟩) = w4 := ⟨_, rfl⟩
  rw [e4]
  have ON4 : Hid (Only (w.heap.size + 3) w3 w4) := Lib.hid (by rw [← e4]; exact only6 _ _ _ _ _ _ _ _)
  have E4 : Hid (w4.heap[w.heap.size + 3]? = some (obObj 0 false 0 0 0 ⟨#[]⟩)) := Lib.hid (by rw [← e4]; exact set6 D4.out _ _ _ _ _ _)
  have E3 := Lib.hid ((ON4.out.block _ (by omega)).trans D3.out)
  have K4 := Lib.hid (only_below ON4.out K3.out (by omega))
  clear e4 c0 c1 c2 c3 c4 c5 f0 f1 f2 f3 f4 f5
  obtain ⟨⟨c0, c1, c2, c3, c4, c5⟩, f0, f1, f2, f3, f4, f5⟩ := cells6 E4.out
  obtain ⟨⟨d0, d1, d2, d3, d4, d5, d6, d7, d8⟩, g0, g1, g2, g3, g4, g5, g6, g7, g8⟩ := cells9 E3.out
  go_wp2_with fail
  go_region
  obtain ⟨w5, e5⟩ : ∃ w5, put9 w4 (w.heap.size + 1 + 1) (.pointer none) (.int .i64 0) (.bool false) (.int .i64 0) (.int .i64 0) (.int .i64 0) (.string ⟨#[]⟩) (.int .i64 0) (.int .i64 0) = w5 := ⟨_, rfl⟩
  have e5' := e5
  unfold put9 at e5'
  rw [e5']
  clear e5'
  obtain ⟨w6, e6⟩ : ∃ w6, (((((w5.setCell ⟨w.heap.size + 1 + 1 + 1, 0, none⟩ (.int .i64 0)).setCell ⟨w.heap.size + 1 + 1 + 1, 1, none⟩ (.bool false)).setCell ⟨w.heap.size + 1 + 1 + 1, 2, none⟩ (.int .i64 0)).setCell ⟨w.heap.size + 1 + 1 + 1, 3, none⟩ (.int .i64 0)).setCell ⟨w.heap.size + 1 + 1 + 1, 4, none⟩ (.int .i64 0)).setCell ⟨w.heap.size + 1 + 1 + 1, 5, none⟩ (.string ⟨#[]⟩) = w6 := ⟨_, rfl⟩
  rw [e6]
  have O5 : Hid (Only (w.heap.size + 2) w4 w5) := Lib.hid (by rw [← e5]; exact only9 _ _ _ _ _ _ _ _ _ _ _)
  have O6 : Hid (Only (w.heap.size + 3) w5 w6) := Lib.hid (by rw [← e6]; exact only6 _ _ _ _ _ _ _ _)
  have F3 : w5.heap[w.heap.size + 2]? = some zeroDc := by rw [← e5]; exact set9 E3.out _ _ _ _ _ _ _ _ _
  have F4 : w5.heap[w.heap.size + 3]? = some (obObj 0 false 0 0 0 ⟨#[]⟩) := (O5.out.block _ (by omega)).trans E4.out
  have G3 := Lib.hid ((O6.out.block _ (by omega)).trans F3)
  have G4 : Hid (w6.heap[w.heap.size + 3]? = some (obObj 0 false 0 0 0 ⟨#[]⟩)) := Lib.hid (by rw [← e6]; exact set6 F4 _ _ _ _ _ _)
  have K6 := Lib.hid (only_below O6.out (only_below O5.out K4.out (by omega)) (by omega))
  clear e5 e6 F3 F4 c0 c1 c2 c3 c4 c5 f0 f1 f2 f3 f4 f5 d0 d1 d2 d3 d4 d5 d6 d7 d8 g0 g1 g2 g3 g4 g5 g6 g7 g8
  go_wp2
  (try simp only [Exit.inBlock, Exit.then])
  exact bodyPost_ret (ret_cell2 rfl _ _ _ _ _ _ _ _ _ _ _ _ _ rfl rfl rfl G3.out G4.out Try.underlying118 rfl (by kernel_rfl) Try.underlying26 rfl (by kernel_rfl)) rfl ⟨rfl, K6.out.drew⟩
end Go.Proofs.Ytigboibcgpfphaa
