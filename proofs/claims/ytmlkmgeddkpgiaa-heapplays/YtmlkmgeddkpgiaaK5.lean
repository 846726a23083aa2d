/- Walks of heap: has, fits, find. -/
import Derived.Test.YtmlkmgeddkpgiaaK4
import Derived.Laws.ResultCell
namespace Go.Proofs.Ytmlkmgeddkpgiaa
open Go.RowKit
set_option linter.unusedVariables false

abbrev pcV (iv : Value) (a n : Int) : Value := .agg #[iv, .int .i64 a, .int .i64 n]
theorem pc_box (w : World) (iv : Value) (a n : Int) : ∃ wb, w.alloc (.cells #[iv, .int .i64 a, .int .i64 n] 101) = wb ∧ Below w.heap.size w wb ∧ wb.heap.size = w.heap.size + 1 ∧ wb.cell? ⟨w.heap.size, 0, none⟩ = some iv ∧ wb.cell? ⟨w.heap.size, 1, none⟩ = some (.int .i64 a) ∧ wb.cell? ⟨w.heap.size, 2, none⟩ = some (.int .i64 n) :=
  ⟨_, rfl, (Below.refl _ w).alloc (Nat.le_refl _) _, by simp, by simp, by simp, by simp⟩

theorem has_any (T : TypeId) (p : Nat) (a n i : Int) (w : World) :
    Calls Try.prog 72 #[pcV (.iface T (ptr p)) a n, .int .i64 i] w fun e w' => e = .returned (.bool (decide (0 ≤ i ∧ i < n))) ∧ Below w.heap.size w w' := by
  by_cases h1 : 0 ≤ i <;> by_cases h2 : i < n
  all_goals
    have H := Lib.hid (rfl : decide (0 ≤ i ∧ i < n) = decide (0 ≤ i ∧ i < n))
    go_enter Try.func72, Try.ntmps72
    go_wp2
    go_ret
    exact ⟨ret_bool (by simp [h1, h2]), box_below _ _⟩

theorem fits_any (T : TypeId) (p : Nat) (a z i n : Int) (w : World) (hz : 0 ≤ z) (hz' : z ≤ 40000) (hi : i < 9223372036854775808) :
    Calls Try.prog 75 #[pcV (.iface T (ptr p)) a z, .int .i64 i, .int .i64 n] w fun e w' => e = .returned (.bool (decide (0 ≤ i ∧ 0 ≤ n ∧ i + n ≤ z))) ∧ Below w.heap.size w w' := by
  by_cases h1 : 0 ≤ i
  · have e1 : IntKind.i64.wrap (z - i) = z - i := wrapi_in _ (by omega) (by omega)
    by_cases h2 : 0 ≤ n <;> by_cases h3 : n ≤ z - i
    all_goals
      have H := Lib.hid h3
      go_enter Try.func75, Try.ntmps75
      go_wp2
      go_ret
      refine ⟨ret_bool ?_, box_below _ _⟩
      have := H.out
      simp [h1, h2]
      omega
  · go_enter Try.func75, Try.ntmps75
    go_wp2
    go_ret
    exact ⟨ret_bool (by simp; omega), box_below _ _⟩

section
variable {P : Program} {ops : Array Oper} {Q : Exit → Act → World → Prop} {md : Region.Mode}
/-- A guarded operation that is not wanted. -/
theorem wpAny_skip (i d : Nat) {fuel : Nat} {listed : Array Bool} {a : Act} {w : World} (hd : (ops[i]?).map (fun o => (o.dst, Region.wanted o (yielded ops a.tmps))) = some (some d, false))
    (hs : Region.noSelect ops = true) (hf : Region.free md ops listed i = true) (hr : (Region.ready md ops listed).contains i = true)
    (hQ : ∀ c a w, Q (.panic c) (a.put (some d) undef) w → Q (.panic c) a w)
    (h : wpAny P md ops Q fuel (listed.setIfInBounds i true) (a.put (some d) undef) w) : wpAny P md ops Q (fuel + 1) listed a w := by
  cases ho : ops[i]? with
  | none => simp [ho] at hd
  | some o =>
    simp [ho] at hd
    exact wpAny_take ho hs hf hr (by rw [hd.1]; exact hQ) (Or.inr ⟨hd.2, rfl⟩) (by rw [hd.1]; exact h)
/-- An operation that yields in whatever world. -/
theorem wpAny_give (i d : Nat) (v : Value) {oi : Oper} {fuel : Nat} {listed : Array Bool} {a : Act} {w : World} (hi : ops[i]? = some oi) (hd : oi.dst = some d) (hw : Region.wanted oi (yielded ops a.tmps) = true)
    (hs : Region.noSelect ops = true) (hf : Region.free md ops listed i = true) (hr : (Region.ready md ops listed).contains i = true)
    (hQ : ∀ c a w, Q (.panic c) (a.put (some d) v) w → Q (.panic c) a w) (hy : ∀ w, (execOp a.eval oi).run P w = .ok (.value v) w)
    (h : wpAny P md ops Q fuel (listed.setIfInBounds i true) (a.put (some d) v) w) : wpAny P md ops Q (fuel + 1) listed a w :=
  wpAny_take hi hs hf hr (by rw [hd]; exact hQ) (Or.inl ⟨hw, hy⟩) (by rw [hd]; exact h)
end

theorem cells3 {w : World} {A : Nat} {c0 c1 c2 : Value} {t : TypeId} (h : w.heap[A]? = some (.cells #[c0, c1, c2] t (0, 0))) :
    w.cell? ⟨A, 0, none⟩ = some c0 ∧ w.cell? ⟨A, 1, none⟩ = some c1 ∧ w.cell? ⟨A, 2, none⟩ = some c2 ∧ w.frozen? ⟨A, 0, none⟩ = false ∧ w.frozen? ⟨A, 1, none⟩ = false ∧ w.frozen? ⟨A, 2, none⟩ = false :=
  ⟨by rw [cellAt h]; rfl, by rw [cellAt h]; rfl, by rw [cellAt h]; rfl, freeAt h 0, freeAt h 1, freeAt h 2⟩
theorem cells6 {w : World} {A : Nat} {c0 c1 c2 c3 c4 c5 : Value} {t : TypeId} (h : w.heap[A]? = some (.cells #[c0, c1, c2, c3, c4, c5] t (0, 0))) :
    (w.cell? ⟨A, 0, none⟩ = some c0 ∧ w.cell? ⟨A, 1, none⟩ = some c1 ∧ w.cell? ⟨A, 2, none⟩ = some c2 ∧ w.cell? ⟨A, 3, none⟩ = some c3 ∧ w.cell? ⟨A, 4, none⟩ = some c4 ∧ w.cell? ⟨A, 5, none⟩ = some c5) ∧
    w.frozen? ⟨A, 0, none⟩ = false ∧ w.frozen? ⟨A, 1, none⟩ = false ∧ w.frozen? ⟨A, 2, none⟩ = false ∧ w.frozen? ⟨A, 3, none⟩ = false ∧ w.frozen? ⟨A, 4, none⟩ = false ∧ w.frozen? ⟨A, 5, none⟩ = false :=
  ⟨⟨by rw [cellAt h]; rfl, by rw [cellAt h]; rfl, by rw [cellAt h]; rfl, by rw [cellAt h]; rfl, by rw [cellAt h]; rfl, by rw [cellAt h]; rfl⟩, freeAt h 0, freeAt h 1, freeAt h 2, freeAt h 3, freeAt h 4, freeAt h 5⟩
theorem set3 {w : World} {A : Nat} {c0 c1 c2 : Value} {t : TypeId} (h : w.heap[A]? = some (.cells #[c0, c1, c2] t (0, 0))) (v0 v1 v2 : Value) :
    (((w.setCell ⟨A, 0, none⟩ v0).setCell ⟨A, 1, none⟩ v1).setCell ⟨A, 2, none⟩ v2).heap[A]? = some (.cells #[v0, v1, v2] t (0, 0)) := by
  rw [heap_setCell_same _ _ _ _ t _ (heap_setCell_same _ _ _ _ t _ (heap_setCell_same _ _ _ _ t _ h))]
  rfl
theorem set3_below {w wc : World} {A : Nat} (h : Below w.heap.size w wc) (hA : w.heap.size ≤ A) (v0 v1 v2 : Value) :
    Below w.heap.size w (((wc.setCell ⟨A, 0, none⟩ v0).setCell ⟨A, 1, none⟩ v1).setCell ⟨A, 2, none⟩ v2) := ((h.setCell (p := ⟨A, 0, none⟩) hA v0).setCell (p := ⟨A, 1, none⟩) hA v1).setCell (p := ⟨A, 2, none⟩) hA v2
theorem set6 {w : World} {A : Nat} {c0 c1 c2 c3 c4 c5 : Value} {t : TypeId} (h : w.heap[A]? = some (.cells #[c0, c1, c2, c3, c4, c5] t (0, 0))) (v0 v1 v2 v3 v4 v5 : Value) :
    ((((((w.setCell ⟨A, 0, none⟩ v0).setCell ⟨A, 1, none⟩ v1).setCell ⟨A, 2, none⟩ v2).setCell ⟨A, 3, none⟩ v3).setCell ⟨A, 4, none⟩ v4).setCell ⟨A, 5, none⟩ v5).heap[A]? = some (.cells #[v0, v1, v2, v3, v4, v5] t (0, 0)) := by
  rw [heap_setCell_same _ _ _ _ t _ (heap_setCell_same _ _ _ _ t _ (heap_setCell_same _ _ _ _ t _ (heap_setCell_same _ _ _ _ t _ (heap_setCell_same _ _ _ _ t _ (heap_setCell_same _ _ _ _ t _ h)))))]
  rfl
theorem set6_below {w wc : World} {A : Nat} (h : Below w.heap.size w wc) (hA : w.heap.size ≤ A) (v0 v1 v2 v3 v4 v5 : Value) :
    Below w.heap.size w ((((((wc.setCell ⟨A, 0, none⟩ v0).setCell ⟨A, 1, none⟩ v1).setCell ⟨A, 2, none⟩ v2).setCell ⟨A, 3, none⟩ v3).setCell ⟨A, 4, none⟩ v4).setCell ⟨A, 5, none⟩ v5) :=
  (((((h.setCell (p := ⟨A, 0, none⟩) hA v0).setCell (p := ⟨A, 1, none⟩) hA v1).setCell (p := ⟨A, 2, none⟩) hA v2).setCell (p := ⟨A, 3, none⟩) hA v3).setCell (p := ⟨A, 4, none⟩) hA v4).setCell (p := ⟨A, 5, none⟩) hA v5

theorem ret_cell {P : Program} {fn : Func} {p u : Tmp} {ty : TypeId} (h : fn.results = #[.cell p ty, .tmp u]) (tmps : Array Value) (w : World) (g : Nat) (t : TypeId) (cs : Array Value) (fr : Nat × Nat) (d : TypeDesc) (v : Value)
    (hp : tmps.getD p undef = .pointer (some ⟨g, 0, none⟩)) (hv : tmps.getD u undef = v) (hg : w.heap[g]? = some (.cells cs t fr))
    (hu : P.underlying ty = some d) (hd : (match d with | .struct _ | .array _ _ => true | _ => false) = true) (hi : (P.info? ty).map (·.size) = some cs.size) :
    (results fn tmps).run P w = .ok (.tuple #[.agg cs, v]) w := by
  rw [results_cell_tmp h, hp, hv]
  simp [asAddr, run_loadVar_row w g t ty cs fr d hg hu hd hi]

theorem find_type (hb : Nat) (k n a l : Int) (x : Bool) (s : ByteArray) (w : World) (h9 : k ≠ 9) (h8 : k ≠ 8) (h10 : k ≠ 10) :
    Calls Try.prog 71 #[ptr hb, obV k x n a l s] w fun e w' => e = .returned (.tuple #[pcV .nilIface 0 0, .int .i64 6]) ∧ Below w.heap.size w w' := by
  have b9 : (k != 9) = true := by simpa using h9
  have b8 : (k != 8) = true := by simpa using h8
  have b10 : (k != 10) = true := by simpa using h10
  clear h9 h8 h10
  go_enter Try.func71, Try.ntmps71
  go_wp2
  (try simp only [Exit.inBlock, Exit.then])
  exact bodyPost_ret (ret_cell rfl _ _ _ _ _ _ _ _ rfl rfl (heap_alloc2_new _ _ _) Try.underlying101 rfl (by kernel_rfl)) rfl ⟨rfl, below_and (box_below _ _) (box_below _ _)⟩

/-- A box of an object, and a zero piece behind it. -/
theorem find_box (w : World) (k n a l : Int) (x : Bool) (s : ByteArray) :
    ∃ wb, (w.alloc (.cells #[.int .i64 k, .bool x, .int .i64 n, .int .i64 a, .int .i64 l, .string s] 24)).alloc (.cells #[.nilIface, .int .i64 0, .int .i64 0] 101) = wb ∧ Below w.heap.size w wb ∧ ObAt wb w.heap.size k x n a l s ∧ wb.heap[w.heap.size + 1]? = some (.cells #[.nilIface, .int .i64 0, .int .i64 0] 101 (0, 0)) := by
  refine ⟨_, rfl, below_and (box_below _ _) (box_below _ _), ?_, heap_alloc2_new _ _ _⟩
  obtain ⟨wb, eb, kb, zb, ob⟩ := ob_box w k n a l x s
  rw [eb]
  exact ob.later (box_below _ _)

set_option maxHeartbeats 2000000 in
theorem find_bad (hb : Nat) (k n a l : Int) (x : Bool) (s : ByteArray) (w : World) (hk : k = 9 ∨ k = 8 ∨ k = 10)
    (hm : Hid (∀ w, Calls Try.prog 109 #[obV k x n a l s] w fun e w' => e = .returned (.bool false) ∧ Below w.heap.size w w')) :
    Calls Try.prog 71 #[ptr hb, obV k x n a l s] w fun e w' => e = .returned (.tuple #[pcV .nilIface 0 0, .int .i64 1]) ∧ Below w.heap.size w w' := by
  rcases hk with rfl | rfl | rfl
  all_goals
    go_enter Try.func71, Try.ntmps71
    go_wp2
    obtain ⟨wb, eb, kb, ob, pb⟩ := find_box w _ n a l x s
    rw [eb]
    have gb := Lib.hid kb
    obtain ⟨d0, d1, d2, d3, d4, d5⟩ := ob
    clear eb kb
    refine wp_region_any (by kernel_rfl) ?_
    (try (change wpAny _ _ _ _ _ _ _ (World.drew _)))
    refine wpAny_ready (rs := [0]) (by kernel_rfl) (by simp) ?_
    refine AllReady.cons rfl (fun K hK => ?_) AllReady.nil
    go_simp
    refine hK _ _ ?_
    clear hK K
    refine wpAny_ready (rs := [1]) (by kernel_rfl) (by simp) ?_
    refine AllReady.cons rfl (fun K hK => ?_) AllReady.nil
    go_simp
    refine (hm.out _).mono ?_
    rintro e wc ⟨rfl, kc⟩
    go_wp2_with fail
    have pc : wc.heap[w.heap.size + 1]? = some (.cells #[.nilIface, .int .i64 0, .int .i64 0] 101 (0, 0)) := (kc.block _ (blk_lt pb)).trans pb
    replace gb := Lib.hid (below_and gb.out (below_drew kc))
    have p0 := cellAt pc 0
    have p1 := cellAt pc 1
    have p2 := cellAt pc 2
    have f0 := freeAt pc 0
    have f1 := freeAt pc 1
    have f2 := freeAt pc 2
    simp at p0 p1 p2
    clear pb d0 d1 d2 d3 d4 d5 kc
    refine wpAny_give 2 32 (.bool true) rfl rfl (by rfl) (by kernel_rfl) (by kernel_rfl) (by kernel_rfl) (fun _ _ _ h => h) (fun _ => by go_simp) ?_
    simp only [Act.put, List.setIfInBounds_toArray, List.set_cons_zero, List.set_cons_succ]
    refine wpAny_give 3 33 (.bool true) rfl rfl (by rfl) (by kernel_rfl) (by kernel_rfl) (by kernel_rfl) (fun _ _ _ h => h) (fun _ => by go_simp) ?_
    simp only [Act.put, List.setIfInBounds_toArray, List.set_cons_zero, List.set_cons_succ]
    refine wpAny_skip 4 34 (by rfl) (by kernel_rfl) (by kernel_rfl) (by kernel_rfl) (fun _ _ _ h => h) ?_
    simp only [Act.put, List.setIfInBounds_toArray, List.set_cons_zero, List.set_cons_succ]
    refine wpAny_skip 5 35 (by rfl) (by kernel_rfl) (by kernel_rfl) (by kernel_rfl) (fun _ _ _ h => h) ?_
    simp only [Act.put, List.setIfInBounds_toArray, List.set_cons_zero, List.set_cons_succ]
    refine wpAny_skip 6 36 (by rfl) (by kernel_rfl) (by kernel_rfl) (by kernel_rfl) (fun _ _ _ h => h) ?_
    simp only [Act.put, List.setIfInBounds_toArray, List.set_cons_zero, List.set_cons_succ]
    refine wpAny_skip 7 37 (by rfl) (by kernel_rfl) (by kernel_rfl) (by kernel_rfl) (fun _ _ _ h => h) ?_
    simp only [Act.put, List.setIfInBounds_toArray, List.set_cons_zero, List.set_cons_succ]
    refine wpAny_skip 8 38 (by rfl) (by kernel_rfl) (by kernel_rfl) (by kernel_rfl) (fun _ _ _ h => h) ?_
    simp only [Act.put, List.setIfInBounds_toArray, List.set_cons_zero, List.set_cons_succ]
    refine wpAny_skip 9 39 (by rfl) (by kernel_rfl) (by kernel_rfl) (by kernel_rfl) (fun _ _ _ h => h) ?_
    simp only [Act.put, List.setIfInBounds_toArray, List.set_cons_zero, List.set_cons_succ]
    refine wpAny_skip 10 40 (by rfl) (by kernel_rfl) (by kernel_rfl) (by kernel_rfl) (fun _ _ _ h => h) ?_
    simp only [Act.put, List.setIfInBounds_toArray, List.set_cons_zero, List.set_cons_succ]
    refine wpAny_skip 11 41 (by rfl) (by kernel_rfl) (by kernel_rfl) (by kernel_rfl) (fun _ _ _ h => h) ?_
    simp only [Act.put, List.setIfInBounds_toArray, List.set_cons_zero, List.set_cons_succ]
    refine wpAny_give 12 42 (.bool true) rfl rfl (by rfl) (by kernel_rfl) (by kernel_rfl) (by kernel_rfl) (fun _ _ _ h => h) (fun _ => by go_simp) ?_
    simp only [Act.put, List.setIfInBounds_toArray, List.set_cons_zero, List.set_cons_succ]
    refine wpAny_give 13 29 (.bool true) rfl rfl (by rfl) (by kernel_rfl) (by kernel_rfl) (by kernel_rfl) (fun _ _ _ h => h) (fun _ => by go_simp) ?_
    simp only [Act.put, List.setIfInBounds_toArray, List.set_cons_zero, List.set_cons_succ]
    refine wpAny_done (by kernel_rfl) ?_ _
    go_wp2
    (try simp only [Exit.inBlock, Exit.then])
    exact bodyPost_ret (ret_cell rfl _ _ _ _ _ _ _ _ rfl rfl (set3 pc _ _ _) Try.underlying101 rfl (by kernel_rfl)) rfl ⟨rfl, set3_below gb.out (by omega) _ _ _⟩
/-- A cell that stays, and an object in a box. -/
def Stay (w : World) (hb : Nat) (v : Value) (b : Nat) (k : Int) (x : Bool) (n a l : Int) (s : ByteArray) : Prop := w.cell? ⟨hb, 0, none⟩ = some v ∧ ObAt w b k x n a l s
theorem Stay.later {w wx : World} {hb : Nat} {v : Value} {b : Nat} {k : Int} {x : Bool} {n a l : Int} {s : ByteArray} (h : Stay w hb v b k x n a l s) (kc : Below w.heap.size w wx) : Stay wx hb v b k x n a l s := ⟨cell_later kc h.1, h.2.later kc⟩

set_option maxHeartbeats 1000000 in
theorem find_far_9 (hb : Nat) (n a l : Int) (x : Bool) (s : ByteArray) (p : Option Addr) (z cap : Nat) (w : World) (h0 : w.cell? ⟨hb, 0, none⟩ = some (.slice p z cap)) (hn : (z : Int) ≤ n)
    (hm : Hid (∀ w, Calls Try.prog 109 #[obV 9 x n a l s] w fun e w' => e = .returned (.bool true) ∧ Below w.heap.size w w')) :
    Calls Try.prog 71 #[ptr hb, obV 9 x n a l s] w fun e w' => e = .returned (.tuple #[pcV .nilIface 0 0, .int .i64 1]) ∧ Below w.heap.size w w' := by
  go_enter Try.func71, Try.ntmps71
  go_wp2
  obtain ⟨wb, eb, kb, ob, pb⟩ := find_box w 9 n a l x s
  rw [eb]
  have gb := Lib.hid kb.drew
  have go : Hid (Stay wb.drew hb (.slice p z cap) w.heap.size 9 x n a l s) := Lib.hid ⟨cell_later kb.drew h0, ob⟩
  have gp : Hid (wb.drew.heap[w.heap.size + 1]? = some (.cells #[.nilIface, .int .i64 0, .int .i64 0] 101 (0, 0))) := Lib.hid pb
  have st := go.out
  obtain ⟨c0, d0, d1, d2, d3, d4, d5⟩ := st
  clear eb kb h0 ob pb
  go_region_held3 (fun wx => wx.cell? ⟨hb, 0, none⟩ = some (.slice p z cap) ∧ wx.cell? ⟨w.heap.size, 0, none⟩ = some (.int .i64 9) ∧ wx.cell? ⟨w.heap.size, 1, none⟩ = some (.bool x) ∧ wx.cell? ⟨w.heap.size, 2, none⟩ = some (.int .i64 n) ∧ wx.cell? ⟨w.heap.size, 3, none⟩ = some (.int .i64 a) ∧ wx.cell? ⟨w.heap.size, 4, none⟩ = some (.int .i64 l) ∧ wx.cell? ⟨w.heap.size, 5, none⟩ = some (.string s))
    (first | exact go.out | go_keep)
    (first | (go_at_call 109; refine (hm.out _).mono ?_; rintro e wc ⟨rfl, kc⟩; replace gb := Lib.hid (below_and gb.out kc); replace go := Lib.hid (go.out.later kc); replace gp := Lib.hid ((kc.block _ (blk_lt gp.out)).trans gp.out)))
  obtain ⟨p0, p1, p2, f0, f1, f2⟩ := cells3 gp.out
  go_wp2
  (try simp only [Exit.inBlock, Exit.then])
  exact bodyPost_ret (ret_cell rfl _ _ _ _ _ _ _ _ rfl rfl (set3 gp.out _ _ _) Try.underlying101 rfl (by kernel_rfl)) rfl ⟨rfl, set3_below gb.out (by omega) _ _ _⟩

set_option maxHeartbeats 1000000 in
theorem find_far_8 (hb : Nat) (n a l : Int) (x : Bool) (s : ByteArray) (p : Option Addr) (z cap : Nat) (w : World) (h0 : w.cell? ⟨hb, 0, none⟩ = some (.slice p z cap)) (hn : (z : Int) ≤ n)
    (hm : Hid (∀ w, Calls Try.prog 109 #[obV 8 x n a l s] w fun e w' => e = .returned (.bool true) ∧ Below w.heap.size w w')) :
    Calls Try.prog 71 #[ptr hb, obV 8 x n a l s] w fun e w' => e = .returned (.tuple #[pcV .nilIface 0 0, .int .i64 1]) ∧ Below w.heap.size w w' := by
  go_enter Try.func71, Try.ntmps71
  go_wp2
  obtain ⟨wb, eb, kb, ob, pb⟩ := find_box w 8 n a l x s
  rw [eb]
  have gb := Lib.hid kb.drew
  have go : Hid (Stay wb.drew hb (.slice p z cap) w.heap.size 8 x n a l s) := Lib.hid ⟨cell_later kb.drew h0, ob⟩
  have gp : Hid (wb.drew.heap[w.heap.size + 1]? = some (.cells #[.nilIface, .int .i64 0, .int .i64 0] 101 (0, 0))) := Lib.hid pb
  have st := go.out
  obtain ⟨c0, d0, d1, d2, d3, d4, d5⟩ := st
  clear eb kb h0 ob pb
  go_region_held3 (fun wx => wx.cell? ⟨hb, 0, none⟩ = some (.slice p z cap) ∧ wx.cell? ⟨w.heap.size, 0, none⟩ = some (.int .i64 8) ∧ wx.cell? ⟨w.heap.size, 1, none⟩ = some (.bool x) ∧ wx.cell? ⟨w.heap.size, 2, none⟩ = some (.int .i64 n) ∧ wx.cell? ⟨w.heap.size, 3, none⟩ = some (.int .i64 a) ∧ wx.cell? ⟨w.heap.size, 4, none⟩ = some (.int .i64 l) ∧ wx.cell? ⟨w.heap.size, 5, none⟩ = some (.string s))
    (first | exact go.out | go_keep)
    (first | (go_at_call 109; refine (hm.out _).mono ?_; rintro e wc ⟨rfl, kc⟩; replace gb := Lib.hid (below_and gb.out kc); replace go := Lib.hid (go.out.later kc); replace gp := Lib.hid ((kc.block _ (blk_lt gp.out)).trans gp.out)))
  obtain ⟨p0, p1, p2, f0, f1, f2⟩ := cells3 gp.out
  go_wp2
  (try simp only [Exit.inBlock, Exit.then])
  exact bodyPost_ret (ret_cell rfl _ _ _ _ _ _ _ _ rfl rfl (set3 gp.out _ _ _) Try.underlying101 rfl (by kernel_rfl)) rfl ⟨rfl, set3_below gb.out (by omega) _ _ _⟩

set_option maxHeartbeats 1000000 in
theorem find_far_10 (hb : Nat) (n a l : Int) (x : Bool) (s : ByteArray) (p : Option Addr) (z cap : Nat) (w : World) (h0 : w.cell? ⟨hb, 0, none⟩ = some (.slice p z cap)) (hn : (z : Int) ≤ n)
    (hm : Hid (∀ w, Calls Try.prog 109 #[obV 10 x n a l s] w fun e w' => e = .returned (.bool true) ∧ Below w.heap.size w w')) :
    Calls Try.prog 71 #[ptr hb, obV 10 x n a l s] w fun e w' => e = .returned (.tuple #[pcV .nilIface 0 0, .int .i64 1]) ∧ Below w.heap.size w w' := by
  go_enter Try.func71, Try.ntmps71
  go_wp2
  obtain ⟨wb, eb, kb, ob, pb⟩ := find_box w 10 n a l x s
  rw [eb]
  have gb := Lib.hid kb.drew
  have go : Hid (Stay wb.drew hb (.slice p z cap) w.heap.size 10 x n a l s) := Lib.hid ⟨cell_later kb.drew h0, ob⟩
  have gp : Hid (wb.drew.heap[w.heap.size + 1]? = some (.cells #[.nilIface, .int .i64 0, .int .i64 0] 101 (0, 0))) := Lib.hid pb
  have st := go.out
  obtain ⟨c0, d0, d1, d2, d3, d4, d5⟩ := st
  clear eb kb h0 ob pb
  go_region_held3 (fun wx => wx.cell? ⟨hb, 0, none⟩ = some (.slice p z cap) ∧ wx.cell? ⟨w.heap.size, 0, none⟩ = some (.int .i64 10) ∧ wx.cell? ⟨w.heap.size, 1, none⟩ = some (.bool x) ∧ wx.cell? ⟨w.heap.size, 2, none⟩ = some (.int .i64 n) ∧ wx.cell? ⟨w.heap.size, 3, none⟩ = some (.int .i64 a) ∧ wx.cell? ⟨w.heap.size, 4, none⟩ = some (.int .i64 l) ∧ wx.cell? ⟨w.heap.size, 5, none⟩ = some (.string s))
    (first | exact go.out | go_keep)
    (first | (go_at_call 109; refine (hm.out _).mono ?_; rintro e wc ⟨rfl, kc⟩; replace gb := Lib.hid (below_and gb.out kc); replace go := Lib.hid (go.out.later kc); replace gp := Lib.hid ((kc.block _ (blk_lt gp.out)).trans gp.out)))
  obtain ⟨p0, p1, p2, f0, f1, f2⟩ := cells3 gp.out
  go_wp2
  (try simp only [Exit.inBlock, Exit.then])
  exact bodyPost_ret (ret_cell rfl _ _ _ _ _ _ _ _ rfl rfl (set3 gp.out _ _ _) Try.underlying101 rfl (by kernel_rfl)) rfl ⟨rfl, set3_below gb.out (by omega) _ _ _⟩

end Go.Proofs.Ytmlkmgeddkpgiaa
