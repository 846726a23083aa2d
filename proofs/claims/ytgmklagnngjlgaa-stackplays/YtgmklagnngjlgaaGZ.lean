/- GZ: GC, GD, L4. -/
import Derived.Test.YtgmklagnngjlgaaGY
import Derived.RangeFuncNested
import Derived.RangeFuncBound
import Derived.RangeFuncCalls
import Derived.RangeFuncLeaves
import Derived.RangeFuncBox
import Derived.Shelf.Abstract
import Derived.OwnWalkIn
import Derived.TacticsInMore
import Derived.LoopNIn
import Derived.LoopIn
/- Walks of stack: ToMark (a range over slices.Backward). -/
namespace Go.Proofs.Ytgmklagnngjlgaa
open Go.RowKit Go.Shelf
set_option linter.unusedVariables false
set_option linter.unusedSimpArgs false

attribute [local go_sem] Oper.semAt_some

/-- The objects from the top down, each with its place. -/
def backAt (X : List Ob) (k : Nat) : Nat × Ob := (X.length - 1 - k, X.getD (X.length - 1 - k) Ob.zero)
def uptoB (X : List Ob) (k : Nat) : List (Nat × Ob) := (List.range k).map (backAt X)
theorem uptoB_succ (X : List Ob) (k : Nat) : uptoB X (k + 1) = uptoB X k ++ [backAt X k] := by simp [uptoB, List.range_succ]
theorem uptoB_length (X : List Ob) (k : Nat) : (uptoB X k).length = k := by simp [uptoB]
abbrev encB (x : Nat × Ob) : Array Value := #[.int .i64 (x.1 : Int), obV x.2.k x.2.x x.2.n x.2.a x.2.l x.2.s]
/-- The objects X lie in a block below n₀, or there are none. -/
def SegB (n₀ : Nat) (W : World) (sv : Value) (X : List Ob) : Prop :=
  (sv = .slice none 0 0 ∧ X = []) ∨ ∃ b cap, sv = .slice (some ⟨b, 0, none⟩) X.length cap ∧ b < n₀ ∧ ∀ i o, X[i]? = some o → ∀ j u, o.cells[j]? = some u → W.cell? ⟨b, i * 6 + j, none⟩ = some u
theorem SegB.below {n₀ : Nat} {A B : World} {sv : Value} {X : List Ob} (h : Below n₀ A B) : SegB n₀ A sv X → SegB n₀ B sv X
  | .inl e => .inl e
  | .inr ⟨b, cap, e, hb, hc⟩ => .inr ⟨b, cap, e, hb, fun i o hi j u hj => (h.cell (p := ⟨b, i * 6 + j, none⟩) hb).trans (hc i o hi j u hj)⟩
theorem SegB.of_owns {w : World} {v : Value} {X : List Ob} (h : w.ownsRow 0 24 6 v X.length (obCells X)) : SegB w.heap.size w v X := by
  have hc := fun g e => h.cells (g := g) e
  have hl := h.lt
  rcases h.2 with ⟨rfl, h0⟩ | ⟨g, cap, cur, rfl, _⟩
  · exact .inl ⟨rfl, List.eq_nil_of_length_eq_zero h0⟩
  · refine .inr ⟨g, cap, rfl, (hl g rfl).2, fun i o hi j u hj => ?_⟩
    have hj6 : j < 6 := by have := (List.getElem?_eq_some_iff.1 hj).1; simpa [Ob.cells] using this
    have := hc g rfl (i * 6 + j) u (by rw [obCells_get hi hj6]; exact hj)
    rwa [Addr.add_mid, Nat.zero_add] at this
set_option maxRecDepth 100000 in
set_option maxHeartbeats 2000000 in
theorem back1_in (F : Fence) (n : Nat) (hF : F.fn 137) (hro : F.round = none) (hn : 1 ≤ n) (l Bs n₀ b cap : Nat) (X : List Ob) (hX : X.length ≤ 1000) (hb : b < n₀) (J Jx : List (Nat × Ob) → World → Prop)
    (hY : ∀ pre x W, J pre W → pre.length < X.length → YieldAt F (n - 1) Try.prog l (encB x) W fun e W' =>
      (e = .returned (.bool true) ∧ J (pre ++ [x]) W' ∧ Below n₀ W W') ∨ (e = .returned (.bool false) ∧ Jx (pre ++ [x]) W'))
    (W : World) (hBs : W.cell? ⟨Bs, 0, none⟩ = some (.slice (some ⟨b, 0, none⟩) X.length cap)) (hBn : Bs < n₀) (hc : ∀ i o, X[i]? = some o → ∀ j u, o.cells[j]? = some u → W.cell? ⟨b, i * 6 + j, none⟩ = some u) (h0 : J [] W) :
    CallsIn F n Try.prog 137 #[.func (.yield l) #[] #[], .pointer (some ⟨Bs, 0, none⟩)] W fun e W' => (∃ v, e = .returned v) ∧
      ((∃ ys, ys = uptoB X X.length ∧ J ys W') ∨ (∃ pre, (∃ k, k ≤ X.length ∧ pre = uptoB X k) ∧ Jx pre W')) := by
  have HX := Lib.hid hX
  have eL : IntKind.i64.wrap ((X.length : Int) - 1) = (X.length : Int) - 1 := IntWalk.i64_in _ (by omega)
  refine callsIn_of_wp Try.func137 rfl hF ?_ hro
  simp only [Try.ntmps137, List.size_toArray, List.length_cons, List.length_nil, Nat.reduceAdd, Nat.reduceSub, Array.replicate_succ, Array.replicate_zero, List.push_toArray, List.append_toArray, List.nil_append, List.cons_append]
  gi_wp2
  gi_loopw [3] (fun i wr => ∃ (k : Nat) (t : Int), k ≤ X.length ∧ t = (X.length : Int) - 1 - k ∧ i = .int .i64 t ∧ J (uptoB X k) wr ∧ Below n₀ W wr)
    (fun i _ => (intOf i + 1).toNat)
  case atStart => exact ⟨0, _, Nat.zero_le _, by omega, rfl, h0, Below.refl _ _⟩
  case round =>
    obtain ⟨k, t, hk, ht, rfl, hJs, hnx⟩ := hrel
    by_cases hlt : k < X.length
    · obtain ⟨m, hm⟩ : ∃ m : Nat, X.length = m + 1 + k := ⟨X.length - 1 - k, by omega⟩
      obtain rfl : t = (m : Int) := by omega
      obtain ⟨o, ho⟩ : ∃ o, X[m]? = some o := ⟨_, List.getElem?_eq_getElem (by omega)⟩
      have hbk : backAt X k = (m, o) := by
        unfold backAt
        rw [show X.length - 1 - k = m from by omega, List.getD_eq_getElem?_getD, ho]
        rfl
      have hco := fun j u hj => (hnx.cell (p := ⟨b, m * 6 + j, none⟩) hb).trans (hc m o ho j u hj)
      have c0 : wr.cell? ⟨b, m * 6, none⟩ = some _ := hco 0 _ rfl
      have c1 : wr.cell? ⟨b, m * 6 + 1, none⟩ = some _ := hco 1 _ rfl
      have c2 : wr.cell? ⟨b, m * 6 + 2, none⟩ = some _ := hco 2 _ rfl
      have c3 : wr.cell? ⟨b, m * 6 + 3, none⟩ = some _ := hco 3 _ rfl
      have c4 : wr.cell? ⟨b, m * 6 + 4, none⟩ = some _ := hco 4 _ rfl
      have c5 : wr.cell? ⟨b, m * 6 + 5, none⟩ = some _ := hco 5 _ rfl
      have cs : wr.cell? ⟨Bs, 0, none⟩ = some (.slice (some ⟨b, 0, none⟩) X.length cap) := (hnx.cell (p := ⟨Bs, 0, none⟩) hBn).trans hBs
      obtain ⟨fn, tmps, assign, body, hy, hR⟩ := hY _ (m, o) wr hJs (by rw [uptoB_length]; exact hlt)
      have t0 : (0 : Int) ≤ m := by omega
      have t1 : (m : Int) < X.length := by omega
      have e1 : IntKind.i64.wrap ((m : Int) - 1) = (m : Int) - 1 := IntWalk.i64_in _ (by have := HX.out; omega)
      have HM := Lib.hid hm
      have HK := Lib.hid hk
      clear hco ho hm ht hk hX eL
      gi_wp2
      refine hR.mono ?_
      rintro e W3 (⟨rfl, hJ3, hk3⟩ | ⟨rfl, hJx3⟩)
      · gi_wp2
        go_roundw
        case rel => exact ⟨k + 1, (m : Int) - 1, by have := HM.out; omega, by have := HM.out; omega, rfl, by rw [uptoB_succ, hbk]; exact hJ3, hnx.trans hk3⟩
        case measure => simp [intOf]
      · gi_wp2
        refine bodyPost_ret (results_none rfl _ _ _) rfl ?_
        exact ⟨⟨_, rfl⟩, .inr ⟨_, ⟨k + 1, by have := HM.out; omega, by rw [uptoB_succ, hbk]⟩, hJx3⟩⟩
    · obtain rfl : k = X.length := by omega
      obtain rfl : t = -1 := by omega
      gi_wp2
      go_end0
      exact ⟨⟨_, rfl⟩, .inl ⟨_, rfl, hJs⟩⟩
set_option maxRecDepth 100000 in
set_option maxHeartbeats 1000000 in
theorem back1_nil (F : Fence) (n : Nat) (hF : F.fn 137) (hro : F.round = none) (l Bs : Nat) (J : List (Nat × Ob) → World → Prop) (W : World) (hBs : W.cell? ⟨Bs, 0, none⟩ = some (.slice none 0 0)) (h0 : J [] W) :
    CallsIn F n Try.prog 137 #[.func (.yield l) #[] #[], .pointer (some ⟨Bs, 0, none⟩)] W fun e W' => (∃ v, e = .returned v) ∧ J [] W' := by
  refine callsIn_of_wp Try.func137 rfl hF ?_ hro
  simp only [Try.ntmps137, List.size_toArray, List.length_cons, List.length_nil, Nat.reduceAdd, Nat.reduceSub, Array.replicate_succ, Array.replicate_zero, List.push_toArray, List.append_toArray, List.nil_append, List.cons_append]
  gi_wp2
  gi_loopw [3] (fun i wr => i = .int .i64 (-1) ∧ J [] wr) (fun _ _ => 0)
  case atStart => exact ⟨rfl, h0⟩
  case round =>
    obtain ⟨rfl, hJs⟩ := hrel
    gi_wp2
    go_end0
    exact ⟨⟨_, rfl⟩, hJs⟩
set_option maxHeartbeats 1000000 in
theorem back_in (F : Fence) (n : Nat) (hF : F.fn 123) (hro : F.round = none) (a : Option Addr) (len cap : Nat) (w : World) :
    CallsIn F n Try.prog 123 #[.slice a len cap] w fun e w' => e = .returned (.func (.func 137) #[] #[.pointer (some ⟨w.heap.size, 0, none⟩)]) ∧ w' = w.alloc (.cells #[.slice a len cap] 33) := by
  refine callsIn_of_wp Try.func123 rfl hF ?_ hro
  simp only [Try.ntmps123, List.size_toArray, List.length_cons, List.length_nil, Nat.reduceAdd, Nat.reduceSub, Array.replicate_succ, Array.replicate_zero, List.push_toArray, List.append_toArray, List.nil_append, List.cons_append]
  gi_wp2
  go_ret
  exact ⟨rfl, rfl⟩
theorem back_stops (F : Fence) (n : Nat) (hF : F.fn 137) (hro : F.round = none) (hn : 1 ≤ n) (Bs n₀ : Nat) (sv : Value) (X : List Ob) (hX : X.length ≤ 1000) (w : World) (hBs : Bs < w.heap.size) (hBn : Bs < n₀) (hn₀ : n₀ ≤ w.heap.size)
    (hc : w.cell? ⟨Bs, 0, none⟩ = some sv) (hI : SegB n₀ w sv X) :
    SeqStopsK F n Try.prog 137 #[.pointer (some ⟨Bs, 0, none⟩)] encB (Below n₀) (fun ys => ys = uptoB X X.length)
      (fun pre => ∃ k, k ≤ X.length ∧ pre = uptoB X k) X.length w := fun l J Jx W hW _ _ hY h0 => by
  have hc' := (hW.cell (p := ⟨Bs, 0, none⟩) hBs).trans hc
  rcases hI.below (hW.mono hn₀) with ⟨rfl, rfl⟩ | ⟨b, cap, rfl, hb, hcs⟩
  · exact (back1_nil F n hF hro l Bs J W hc' h0).mono fun e W' ⟨he, hj⟩ => ⟨he, .inl ⟨_, rfl, hj⟩⟩
  · exact back1_in F n hF hro hn l Bs n₀ b cap X hX hb J Jx hY W hc' hBn hcs h0
end Go.Proofs.Ytgmklagnngjlgaa

/- Walks of stack: ToMark. -/
namespace Go.Proofs.Ytgmklagnngjlgaa
open Go.RowKit Go.Shelf
set_option linter.unusedVariables false
set_option linter.unusedSimpArgs false

attribute [local go_sem] Oper.semAt_some

/-- Between two rounds: no mark has come. -/
structure TmI (w : World) (sb : Nat) (pre : List (Nat × Ob)) (W : World) : Prop where
  no : ∀ q ∈ pre, q.2.k ≠ 6
  s : Boxed W w.heap.size 88 (ptr sb)
  n : Boxed W (w.heap.size + 1) 3 (.int .i64 0)
  e : Boxed W (w.heap.size + 1 + 1) 39 (.int .i64 0)
  b : Below w.heap.size w W
  z : w.heap.size + 4 ≤ W.heap.size
theorem boxed_keep {W W' : World} {row : Option Nat} {b : Nat} {t : TypeId} {v : Value} (h : Boxed W b t v) (hg : W.grownBy W' row) (hr : ∀ r, row = some r → ∃ o : Obj, W.heap[r]? = some o ∧ o.isCells = false) : Boxed W' b t v :=
  boxed_own b t (fun _ : Unit => v) () W W' row h hg hr
theorem TmI.own (w : World) (sb B : Nat) (hB : w.heap.size ≤ B) : OwnFrom B (TmI w sb) := fun s X Y row hs hg hr =>
  have hr' := fun r e => (hr r e).2
  ⟨hs.no, boxed_keep hs.s hg hr', boxed_keep hs.n hg hr', boxed_keep hs.e hg hr', hs.b.grown hg hs.b.size fun k e => Nat.le_trans hB (hr k e).1, Nat.le_trans hs.z hg.size⟩
/-- A mark has come. -/
structure TmX (w : World) (L : Int) (c : Code) (pre : List (Nat × Ob)) (W : World) : Prop where
  ret : c = .ret
  ex : ∃ ini last, pre = ini ++ [last] ∧ (∀ q ∈ ini, q.2.k ≠ 6) ∧ last.2.k = 6 ∧ Boxed W (w.heap.size + 1) 3 (.int .i64 (wrap64 (L - 1 - (last.1 : Int)))) ∧ Boxed W (w.heap.size + 1 + 1) 39 (.int .i64 0)
  b : Below w.heap.size w W
theorem TmX.own (w : World) (L : Int) (B : Nat) (hB : w.heap.size ≤ B) (c : Code) : OwnFrom B (TmX w L c) := fun s X Y row hs hg hr => by
  have hr' := fun r e => (hr r e).2
  obtain ⟨h1, ⟨ini, last, e1, e2, e3, e4, e5⟩, h3⟩ := hs
  exact ⟨h1, ⟨ini, last, e1, e2, e3, boxed_keep e4 hg hr', boxed_keep e5 hg hr'⟩, h3.grown hg h3.size fun k e => Nat.le_trans hB (hr k e).1⟩
set_option maxRecDepth 100000 in
set_option maxHeartbeats 2000000 in
theorem mark_in (F : Fence) (n : Nat) (h74 : F.fn 74) (h123 : F.fn 123) (h137 : F.fn 137) (hro : F.round = none) (hn : 3 ≤ n) (sb : Nat) (p : Option Addr) (cap : Nat) (X : List Ob) (hX : X.length ≤ 1000) (w : World) (h0 : w.cell? ⟨sb, 0, none⟩ = some (.slice p X.length cap)) (hI : SegB w.heap.size w (.slice p X.length cap) X) :
    CallsIn F n Try.prog 74 #[ptr sb] w fun e W' => ((e = .returned (.tuple #[.int .i64 0, .int .i64 10]) ∧ ∀ q ∈ uptoB X X.length, q.2.k ≠ 6) ∨ ∃ k, k < X.length ∧ (∀ q ∈ uptoB X k, q.2.k ≠ 6) ∧ (backAt X k).2.k = 6 ∧ e = .returned (.tuple #[.int .i64 k, .int .i64 0])) ∧ Below w.heap.size w W' := by
  have h1 : 1 ≤ n := by omega
  have hsb : sb < w.heap.size := World.block_lt_of_cell? w _ h0
  refine callsIn_of_wp_marks Try.func74 rfl h74 ?_ hro
  simp only [Try.ntmps74, List.size_toArray, List.length_cons, List.length_nil, Nat.reduceAdd, Nat.reduceSub, Array.replicate_succ, Array.replicate_zero, List.push_toArray, List.append_toArray, List.nil_append, List.cons_append]
  have q0 : (((w.alloc (.cells #[ptr sb] 88)).alloc (.cells #[.int .i64 0] 3)).alloc (.cells #[.int .i64 0] 39)).cell? ⟨sb, 0, none⟩ = some (.slice p X.length cap) :=
    cell_later (below_and (below_and (box_below _ _) (box_below _ _)) (box_below _ _)) h0
  gi_wp2_with (gi_at_call 123; refine (back_in F (n - 1) h123 hro _ _ _ _).mono ?_; rintro e w' ⟨rfl, rfl⟩)
  have bS := (((Boxed.new w 88 (ptr sb)).alloc (.cells #[.int .i64 0] 3)).alloc (.cells #[.int .i64 0] 39)).alloc (.cells #[.slice p X.length cap] 33)
  have bN := ((Boxed.new (w.alloc (.cells #[ptr sb] 88)) 3 (.int .i64 0)).alloc (.cells #[.int .i64 0] 39)).alloc (.cells #[.slice p X.length cap] 33)
  have bE := (Boxed.new ((w.alloc (.cells #[ptr sb] 88)).alloc (.cells #[.int .i64 0] 3)) 39 (.int .i64 0)).alloc (.cells #[.slice p X.length cap] 33)
  have bL := Boxed.new (((w.alloc (.cells #[ptr sb] 88)).alloc (.cells #[.int .i64 0] 3)).alloc (.cells #[.int .i64 0] 39)) 33 (.slice p X.length cap)
  simp only [World.size_alloc] at bN bE bL
  have hB0 : Below w.heap.size w ((((w.alloc (.cells #[ptr sb] 88)).alloc (.cells #[.int .i64 0] 3)).alloc (.cells #[.int .i64 0] 39)).alloc (.cells #[.slice p X.length cap] 33)) :=
    below_and (below_and (below_and (box_below _ _) (box_below _ _)) (box_below _ _)) (box_below _ _)
  have hsz : ((((w.alloc (.cells #[ptr sb] 88)).alloc (.cells #[.int .i64 0] 3)).alloc (.cells #[.int .i64 0] 39)).alloc (.cells #[.slice p X.length cap] 33)).heap.size = w.heap.size + 4 := by simp
  obtain ⟨W0, hW0⟩ : ∃ W0, (((w.alloc (.cells #[ptr sb] 88)).alloc (.cells #[.int .i64 0] 3)).alloc (.cells #[.int .i64 0] 39)).alloc (.cells #[.slice p X.length cap] 33) = W0 := ⟨_, rfl⟩
  rw [hW0] at bS bN bE bL hB0 hsz ⊢
  clear hW0 q0
  have hI0 : SegB W0.heap.size W0 (.slice p X.length cap) X := by
    rcases hI.below hB0 with h | ⟨b, c, e, hb, hc⟩
    · exact .inl h
    · exact .inr ⟨b, c, e, by omega, hc⟩
  refine wpIn_rangeFunc_ownH hro h1 (gf := 137) (lb := #[.pointer (some ⟨w.heap.size + 1 + 1 + 1, 0, none⟩)]) rfl h137 (enters_of Try.func137 (by kernel_rfl) rfl)
    (back_stops F (n - 1) h137 hro (by omega) (w.heap.size + 1 + 1 + 1) W0.heap.size _ X hX W0 (by omega) (by omega) (Nat.le_refl _) bL.cell hI0) belowK_t (belowK_b (Nat.le_refl _)) (Below.refl _ _) (fun _ => rfl)
    (TmI w sb) (TmX w X.length) (TmI.own w sb _ (by omega)) (TmX.own w _ _ (by omega))
    ⟨fun q h => by simp at h, bS, bN, bE, hB0, by omega⟩
    (fun x a' W => ∃ Bx, w.heap.size + 1 + 1 + 1 < Bx ∧ W.heap[Bx]? = some (obObj x.2.k x.2.x x.2.n x.2.a x.2.l x.2.s) ∧ a' = { tmps := #[ptr sb, .pointer (some ⟨w.heap.size, 0, none⟩), .pointer (some ⟨w.heap.size + 1, 0, none⟩), .pointer (some ⟨w.heap.size + 1 + 1, 0, none⟩), .int .i64 (x.1 : Int), .pointer (some ⟨Bx, 0, none⟩), ptr sb, .bool false, ptr sb, .pointer (some ⟨sb, 0, none⟩), .pointer (some ⟨sb, 0, none⟩), .slice p X.length cap, .func (.func 137) #[] #[.pointer (some ⟨w.heap.size + 1 + 1 + 1, 0, none⟩)], .int .i64 (x.1 : Int), obV x.2.k x.2.x x.2.n x.2.a x.2.l x.2.s, undef, undef, undef, undef, undef, undef, undef, undef, undef, undef, undef], defers := [] })
    (fun x a' _ A B row hs hg hr => by
      obtain ⟨Bx, h1, h2, h3⟩ := hs
      refine ⟨Bx, h1, (hg.block Bx (blk_lt h2) fun e => ?_).trans h2, h3⟩
      obtain ⟨o, ho, hc⟩ := (hr Bx e.symm).2
      rw [h2] at ho
      cases ho
      cases hc)
    ?assign ?body ?done ?stop
  case assign =>
    rintro l pre x W K hi hK
    gi_wp2
    have hs := hi.b.size
    exact hK _ _ ((KeepsOthers.alloc _ _).from _) ((Below.refl _ W).alloc (by have := hi.z; omega) _) ⟨hi.no, hi.s.alloc _, hi.n.alloc _, hi.e.alloc _, hi.b.alloc hs _, by have := hi.z; simp; omega⟩ ⟨W.heap.size, by have := hi.z; omega, heap_alloc_new _ _, rfl⟩
  case body =>
    rintro l pre x a' W hl ⟨r, hr⟩ hi ⟨Bx, hBx, bX, rfl⟩ hlt
    have HI := Lib.hid hi
    have c0 : W.cell? ⟨Bx, 0, none⟩ = some (.int .i64 x.2.k) := cellAt bX 0
    have cS := hi.s.cell
    have cN := hi.n.cell
    have cE := hi.e.cell
    have fN := hi.n.frozen
    have fE := hi.e.frozen
    have cq : W.cell? ⟨sb, 0, none⟩ = some (.slice p X.length cap) := (hi.b.cell (p := ⟨sb, 0, none⟩) hsb).trans h0
    have eL : IntKind.i64.wrap ((X.length : Int) - 1) = (X.length : Int) - 1 := IntWalk.i64_in _ (by omega)
    clear hi h0 hI hI0 bS bN bE bL bX
    by_cases hk : x.2.k = 6
    · gi_wp2
      exact ⟨((KeepsOthers.setCell _ _ _).trans (KeepsOthers.setCell _ _ _)).from _, rfl, ⟨pre, x, rfl, HI.out.no, hk, (HI.out.n.set _).other (by omega) _, (HI.out.e.other (by omega) _).set _⟩, (HI.out.b.setCell (p := ⟨w.heap.size + 1, 0, none⟩) (by simp) _).setCell (p := ⟨w.heap.size + 1 + 1, 0, none⟩) (by simp; omega) _⟩
    · gi_wp2
      exact ⟨KeepsFrom.refl _ _, Below.refl _ _, fun q h => (List.mem_append.1 h).elim (HI.out.no q) (fun e => by simp at e; subst e; exact hk), HI.out.s, HI.out.n, HI.out.e, HI.out.b, HI.out.z⟩
  case done =>
    rintro D ys W hD rfl hi hK
    have cN := hi.n.cell
    have cE := hi.e.cell
    have fN := hi.n.frozen
    have fE := hi.e.frozen
    gi_wp2
    have hK' := ((KeepsOthers.setCell W ⟨w.heap.size + 1, 0, none⟩ (.int .i64 0)).trans (KeepsOthers.setCell _ ⟨w.heap.size + 1 + 1, 0, none⟩ (.int .i64 10))).same D _ hK rfl
    have bN' : Boxed ((W.setCell ⟨w.heap.size + 1, 0, none⟩ (.int .i64 0)).setCell ⟨w.heap.size + 1 + 1, 0, none⟩ (.int .i64 10)) (w.heap.size + 1) 3 (.int .i64 0) := (hi.n.set _).other (by omega) _
    have bE' : Boxed ((W.setCell ⟨w.heap.size + 1, 0, none⟩ (.int .i64 0)).setCell ⟨w.heap.size + 1 + 1, 0, none⟩ (.int .i64 10)) (w.heap.size + 1 + 1) 39 (.int .i64 10) := (hi.e.other (by omega) _).set _
    have hB := (hi.b.setCell (p := ⟨w.heap.size + 1, 0, none⟩) (by simp) (.int .i64 0)).setCell (p := ⟨w.heap.size + 1 + 1, 0, none⟩) (by simp; omega) (.int .i64 10)
    refine ⟨by simp, .inl ⟨_, _, rfl, run_takeDeferred hK', ?_⟩⟩
    have kc := grownBy_putObj' ((W.setCell ⟨w.heap.size + 1, 0, none⟩ (.int .i64 0)).setCell ⟨w.heap.size + 1 + 1, 0, none⟩ (.int .i64 10)) D (.deferred none)
    have hcN := cell_kept bN'.cell kc (fun r e => by cases e; exact ⟨_, hK', rfl⟩)
    have hcE := cell_kept bE'.cell kc (fun r e => by cases e; exact ⟨_, hK', rfl⟩)
    refine ⟨.tuple #[.int .i64 0, .int .i64 10], ?_, .inl ⟨rfl, hi.no⟩, hB.trans (belowK_b (w := w) (Nat.le_refl _) _ D _ _ (by omega) hK' rfl rfl)⟩
    simp [results, Try.f74, go_sem, hcN, hcE]
  case stop =>
    rintro D c pre W hD ⟨k, hk, rfl⟩ ⟨rfl, ⟨ini, last, e1, e2, e3, bN', bE'⟩, hB⟩ hK
    gi_wp2
    refine ⟨by simp, .inl ⟨_, _, rfl, run_takeDeferred hK, ?_⟩⟩
    have kc := grownBy_putObj' W D (.deferred none)
    obtain ⟨k', rfl⟩ : ∃ k', k = k' + 1 := by
      cases k with
      | zero => simp [uptoB] at e1
      | succ k' => exact ⟨k', rfl⟩
    rw [uptoB_succ] at e1
    obtain ⟨rfl, e5⟩ := List.append_inj' e1 rfl
    obtain rfl : backAt X k' = last := by simpa using e5
    have ew : wrap64 ((X.length : Int) - 1 - ((backAt X k').1 : Int)) = k' := by
      rw [← IntWalk.i64_left, IntWalk.i64_in _ (by simp only [backAt]; omega)]
      simp only [backAt]
      omega
    rw [ew] at bN'
    have hcN := cell_kept bN'.cell kc (fun r e => by cases e; exact ⟨_, hK, rfl⟩)
    have hcE := cell_kept bE'.cell kc (fun r e => by cases e; exact ⟨_, hK, rfl⟩)
    refine ⟨.tuple #[.int .i64 k', .int .i64 0], ?_, .inr ⟨k', by omega, e2, e3, rfl⟩, hB.trans (belowK_b (w := w) (Nat.le_refl _) _ D _ _ (by omega) hK rfl rfl)⟩
    simp [results, Try.f74, go_sem, hcN, hcE]
end Go.Proofs.Ytgmklagnngjlgaa

/- ToMark's plain answer; the walk of StackMarks. -/
namespace Go.Proofs.Ytgmklagnngjlgaa
open Go.RowKit
set_option linter.unusedVariables false
set_option linter.unusedSimpArgs false

/-- A block of ours has been written. -/
theorem SK.only {own : Nat → Prop} {T : TypeId} {sb A : Nat} {X : List Ob} {w w' : World} (h : SK own T sb X w) (k : Only A w w') (hA : own A) : SK own T sb X w' := by
  obtain ⟨v, hs, hv⟩ := h.ex
  refine ⟨⟨v, hs.same fun b q => k.block b fun e => ?_, hv⟩, h.nown, fun b q => by rw [k.size]; exact h.lt b q⟩
  rcases q with q | q
  · exact h.nown (q ▸ e ▸ hA)
  · exact hv b q (e ▸ hA)
def isMk (o : Ob) : Bool := o.k == 6
def markK (X : List Ob) : Nat := X.reverse.findIdx isMk
def markN (X : List Ob) : Int := if markK X < X.length then markK X else 0
def markE (X : List Ob) : Int := if markK X < X.length then 0 else 10
theorem back_rev (X : List Ob) (k : Nat) (hk : k < X.length) : X.reverse[k]? = some (backAt X k).2 := by
  rw [List.getElem?_reverse hk]
  unfold backAt
  dsimp only
  rw [List.getD_eq_getElem?_getD, List.getElem?_eq_getElem (by omega)]
  rfl
theorem uptoB_mem {X : List Ob} {n : Nat} {q : Nat × Ob} : q ∈ uptoB X n ↔ ∃ j, j < n ∧ backAt X j = q := by simp [uptoB]
theorem mark_is {sb : Nat} {v : Value} {X : List Ob} {w : World} (h : Stk 166 sb v X w) : Calls Try.prog 74 #[ptr sb] w fun e w' => e = .returned (.tuple #[.int .i64 (markN X), .int .i64 (markE X)]) ∧ Below w.heap.size w w' := by
  obtain ⟨p, cap, rfl⟩ := h.form
  have hl := h.len
  refine (callsIn_wide (n := 3)).1 ((mark_in Fence.wide 3 trivial trivial trivial rfl (Nat.le_refl _) sb p cap X (by omega) w h.cell (SegB.of_owns h.row)).mono ?_)
  rintro e w' ⟨⟨rfl, hno⟩ | ⟨k, hk, hno, hm, rfl⟩, hb⟩
  · refine ⟨?_, hb⟩
    have : markK X = X.length := by
      unfold markK
      refine Eq.trans (List.findIdx_eq_length.2 fun o ho => ?_) List.length_reverse
      obtain ⟨j, hj⟩ := List.mem_iff_getElem?.1 ho
      have hj2 : j < X.length := by have := (List.getElem?_eq_some_iff.1 hj).1; simpa using this
      rw [back_rev X j hj2] at hj
      have := hno (backAt X j) (uptoB_mem.2 ⟨j, hj2, rfl⟩)
      rw [Option.some.inj hj] at this
      simpa [isMk] using this
    simp [markN, markE, this]
  · refine ⟨?_, hb⟩
    have hr : k < X.reverse.length := by simpa using hk
    have : markK X = k := by
      unfold markK
      rw [List.findIdx_eq hr]
      refine ⟨?_, fun j hj => ?_⟩
      · have := back_rev X k hk
        rw [List.getElem?_eq_getElem hr] at this
        rw [Option.some.inj this]
        simp [isMk, hm]
      · have := back_rev X j (by omega)
        rw [List.getElem?_eq_getElem (by simp; omega)] at this
        rw [Option.some.inj this]
        have := hno (backAt X j) (uptoB_mem.2 ⟨j, hj, rfl⟩)
        simpa [isMk] using this
    simp [markN, markE, this, hk]
theorem kMark {own : Nat → Prop} {sb : Nat} {X : List Ob} {w : World} (h : SK own 166 sb X w) (n E : Int) (hn : markN X = n) (hE : markE X = E) : Calls Try.prog 74 #[ptr sb] w fun e w' => e = .returned (.tuple #[.int .i64 n, .int .i64 E]) ∧ SK own 166 sb X w' ∧ Kept own w w' := by
  subst hn hE
  obtain ⟨v, hs, hv⟩ := h.ex
  refine (mark_is hs).mono ?_
  rintro e w' ⟨rfl, d⟩
  exact ⟨rfl, h.below d⟩
def wantV (X : List Ob) : Int := if markK X < X.length then markK X else -1
theorem markK_push (X : List Ob) (o : Ob) : markK (X ++ [o]) = if o.k = 6 then 0 else markK X + 1 := by
  unfold markK
  rw [List.reverse_append, List.reverse_singleton, List.singleton_append, List.findIdx_cons]
  by_cases h : o.k = 6
  · simp [isMk, h]
  · have hq : (o.k == 6) = false := by simpa using h
    simp [isMk, hq, h]
theorem wantV_push (X : List Ob) (o : Ob) : wantV (X ++ [o]) = if o.k = 6 then 0 else if 0 ≤ wantV X then wantV X + 1 else -1 := by
  unfold wantV
  rw [markK_push]
  by_cases h : o.k = 6
  · simp [h]
  · simp only [h, if_false, List.length_append, List.length_singleton]
    by_cases h2 : markK X < X.length
    · rw [if_pos (by omega), if_pos h2, if_pos (by omega)]
      omega
    · rw [if_neg (by omega), if_neg h2, if_neg (by omega)]
theorem wantV_bd (X : List Ob) : -1 ≤ wantV X ∧ wantV X ≤ X.length := by
  unfold wantV
  split <;> omega
theorem want_mark (X : List Ob) : (wantV X < 0 → markN X = 0 ∧ markE X = 10) ∧ (0 ≤ wantV X → markN X = wantV X ∧ markE X = 0) := by
  unfold wantV markN markE
  by_cases h : markK X < X.length
  · simp only [h, if_true]
    exact ⟨fun q => by omega, fun _ => ⟨by trivial, by trivial⟩⟩
  · simp only [h, if_false]
    exact ⟨fun _ => ⟨by trivial, by trivial⟩, fun q => by omega⟩
def mkO : Ob := ⟨6, false, 0, 0, 0, ⟨#[]⟩⟩
theorem push_null (X : List Ob) (o : Ob) (ho : o = Ob.null ∨ o = mkO) (h : X.length < 200) : pushE X o = 0 ∧ pushP X o = X ++ [o] := by
  have hm : o.may = true := by rcases ho with rfl | rfl <;> decide
  have e : pushE X o = 0 := by simp [pushE, hm, h]
  exact ⟨e, by simp [pushP, e]⟩
set_option maxHeartbeats 1000000 in
set_option maxRecDepth 100000 in
theorem marks_walk (a : Option Addr) (len cap : Nat) (B : Nat → Bool) (w : World) (hB : ∀ i, i < len → ∃ x, a = some x ∧ w.cell? (x.add i) = some (.bool (B i))) :
    Calls Try.prog 10 #[.slice a len cap] w fun e w' => e = .returned (.bool true) ∧ Below w.heap.size w w' := by
  have HB := Lib.hid hB
  clear hB
  go_enter Try.func10, Try.ntmps10
  go_wp2_with fail
  refine (kknown_any w).mono ?_
  rintro e w0 ⟨rfl, b0⟩
  have B0 := Lib.hid b0
  clear b0
  go_wp2_with fail
  refine (stkNew w0).mono ?_
  rintro e w1 ⟨rfl, rfl⟩
  obtain ⟨w1, e1, s1, b1⟩ : ∃ w1, w0.alloc (.cells #[.slice none 0 0] 166) = w1 ∧ SK (fun b => b < w0.heap.size) 166 w0.heap.size [] w1 ∧ Below w0.heap.size w0 w1 := ⟨_, rfl, SK.new fun b q => q, box_below _ _⟩
  rw [e1]
  have S1 := Lib.hid s1
  have B1 := Lib.hid b1
  clear e1 s1 b1
  go_wp2_with fail
  go_loopw [4, 5] (fun v i wr => ∃ (j : Nat) (X : List Ob), j ≤ len ∧ j ≤ 100 ∧ X.length = j ∧ v = .int .i64 (wantV X) ∧ i = .int .i64 j ∧ SK (fun b => b < w0.heap.size) 166 w0.heap.size X wr ∧ Below w0.heap.size w0 wr) (fun _ i _ => 100 - (intOf i).toNat)
  case atStart => exact ⟨0, [], Nat.zero_le _, Nat.zero_le _, rfl, rfl, rfl, S1.out, B1.out⟩
  case round =>
    obtain ⟨j, X, hjl, hj1, hX, rfl, rfl, hs, hb⟩ := hrel
    have HS := Lib.hid hs
    have HW := Lib.hid hb
    have HX := Lib.hid hX
    have bd := wantV_bd X
    have WM := Lib.hid (want_mark X)
    have WP := Lib.hid (fun o => wantV_push X o)
    clear hs hb S1 B1
    rw [hX] at bd
    clear hX
    generalize wantV X = t at *
    by_cases hlt : j < len ∧ j < 100
    · obtain ⟨hl1, hl2⟩ := hlt
      have t1 : (j : Int) < len := by omega
      have t2 : (j : Int) < 100 := by omega
      have t3 : (0 : Int) ≤ j := by omega
      have d1 : decide (j < len) = true := by simpa using hl1
      have HL := Lib.hid (And.intro hl1 hl2)
      have f1 : IntKind.i64.wrap ((j : Int) + 1) = (j : Int) + 1 := IntWalk.i64_in _ (by omega)
      obtain ⟨x, rfl, hcell⟩ := HB.out j hl1
      have kb := B0.out.trans (HW.out.mono B0.out.size)
      replace hcell := (kb.cell (p := x.add j) (World.block_lt_of_cell? w _ hcell)).trans hcell
      clear kb hl1 hl2 hjl hj1
      go_upto_region 9 with fail
      obtain ⟨wa, ea, sa, ka, oa⟩ := HS.out.box_ob 1 false 0 0 0 ⟨#[]⟩
      rw [ea]
      have SA := Lib.hid sa
      have KA := Lib.hid (HW.out.trans (ka.below fun _ h => h))
      have OA := Lib.hid oa
      have hc : wa.cell? (x.add j) = some (.bool (B j)) := (Below.cell (p := x.add j) (ka.below (n := w0.heap.size) fun _ h => h) (by
        have := World.block_lt_of_cell? wr _ hcell
        obtain ⟨y, e, q⟩ := HB.out j HL.out.1
        have := World.block_lt_of_cell? w _ q
        obtain rfl : x = y := by simpa using e
        have := B0.out.size
        omega)).trans hcell
      obtain ⟨⟨o0, o1, o2, o3, o4, o5⟩, g0, g1, g2, g3, g4, g5⟩ := cells6 oa
      clear ea sa ka oa hcell
      cases hBj : B j with
      | false =>
        rw [hBj] at hc
        clear hBj
        by_cases hw : 0 ≤ t
        · have f2 : IntKind.i64.wrap (t + 1) = t + 1 := IntWalk.i64_in _ (by omega)
          have WQ := Lib.hid (WP.out Ob.null)
          have HT := Lib.hid hw
          have PN := Lib.hid (push_null X Ob.null (by simp) (by have := HX.out; have := HL.out; omega))
          go_wp2_with fail
          refine (kPush SA.out Ob.null 0 (X ++ [Ob.null]) PN.out.1 PN.out.2).mono ?_
          rintro e wc ⟨rfl, sc, kc⟩
          have SC := Lib.hid (sc.sub (own' := fun b => b < w0.heap.size) fun b h => .inl h)
          have KC := Lib.hid (KA.out.trans (kc.below fun _ h => .inl h))
          clear sc kc
          go_wp2
          go_roundw
          case rel => exact ⟨j + 1, X ++ [Ob.null], HL.out.1, HL.out.2, by rw [List.length_append, HX.out]; rfl, by rw [WQ.out, if_neg (by decide), if_pos HT.out], by go_num, SC.out, KC.out⟩
          case measure => exact measure_up 100 j _ (by go_num) HL.out.2
        · have hw2 : t = -1 := by omega
          have WQ := Lib.hid (WP.out Ob.null)
          have HT := Lib.hid hw
          subst hw2
          have PN := Lib.hid (push_null X Ob.null (by simp) (by have := HX.out; have := HL.out; omega))
          go_wp2_with fail
          refine (kPush SA.out Ob.null 0 (X ++ [Ob.null]) PN.out.1 PN.out.2).mono ?_
          rintro e wc ⟨rfl, sc, kc⟩
          have SC := Lib.hid (sc.sub (own' := fun b => b < w0.heap.size) fun b h => .inl h)
          have KC := Lib.hid (KA.out.trans (kc.below fun _ h => .inl h))
          clear sc kc
          go_wp2
          go_roundw
          case rel => exact ⟨j + 1, X ++ [Ob.null], HL.out.1, HL.out.2, by rw [List.length_append, HX.out]; rfl, by rw [WQ.out, if_neg (by decide), if_neg (by decide)], by go_num, SC.out, KC.out⟩
          case measure => exact measure_up 100 j _ (by go_num) HL.out.2
      | true =>
        rw [hBj] at hc
        clear hBj
        by_cases hw : 0 ≤ t
        · have f2 : IntKind.i64.wrap (t + 1) = t + 1 := IntWalk.i64_in _ (by omega)
          have WQ := Lib.hid (WP.out mkO)
          have HT := Lib.hid hw
          go_upto_region 13 with fail
          obtain ⟨wb, eb⟩ : ∃ wb, wa.setCell ⟨wr.heap.size, 0, none⟩ (.int .i64 6) = wb := ⟨_, rfl⟩
          have hb1 : wb.heap[wr.heap.size]? = some (obObj 6 false 0 0 0 ⟨#[]⟩) := by
            rw [← eb, heap_setCell_same _ _ _ _ 24 _ OA.out]
            rfl
          have on : Only wr.heap.size wa wb := by rw [← eb]; exact (Only.refl _ _).set 0 _
          have SB := Lib.hid (SA.out.only on (.inr rfl))
          rw [eb]
          clear eb o0 o1 o2 o3 o4 o5 g0 g1 g2 g3 g4 g5
          obtain ⟨⟨o0, o1, o2, o3, o4, o5⟩, g0, g1, g2, g3, g4, g5⟩ := cells6 hb1
          have KB := Lib.hid (KA.out.trans ((kept_only on (own := fun b => b < w0.heap.size) (fun q => by have := HW.out.size; omega)).below fun _ h => h))
          clear on hb1
          have PN := Lib.hid (push_null X mkO (by simp) (by have := HX.out; have := HL.out; omega))
          go_wp2_with fail
          refine (kPush SB.out mkO 0 (X ++ [mkO]) PN.out.1 PN.out.2).mono ?_
          rintro e wc ⟨rfl, sc, kc⟩
          have SC := Lib.hid (sc.sub (own' := fun b => b < w0.heap.size) fun b h => .inl h)
          have KC := Lib.hid (KB.out.trans (kc.below fun _ h => .inl h))
          clear sc kc
          go_wp2
          go_roundw
          case rel => exact ⟨j + 1, X ++ [mkO], HL.out.1, HL.out.2, by rw [List.length_append, HX.out]; rfl, by rw [WQ.out]; rfl, by go_num, SC.out, KC.out⟩
          case measure => exact measure_up 100 j _ (by go_num) HL.out.2
        · have hw2 : t = -1 := by omega
          have WQ := Lib.hid (WP.out mkO)
          have HT := Lib.hid hw
          subst hw2
          go_upto_region 13 with fail
          obtain ⟨wb, eb⟩ : ∃ wb, wa.setCell ⟨wr.heap.size, 0, none⟩ (.int .i64 6) = wb := ⟨_, rfl⟩
          have hb1 : wb.heap[wr.heap.size]? = some (obObj 6 false 0 0 0 ⟨#[]⟩) := by
            rw [← eb, heap_setCell_same _ _ _ _ 24 _ OA.out]
            rfl
          have on : Only wr.heap.size wa wb := by rw [← eb]; exact (Only.refl _ _).set 0 _
          have SB := Lib.hid (SA.out.only on (.inr rfl))
          rw [eb]
          clear eb o0 o1 o2 o3 o4 o5 g0 g1 g2 g3 g4 g5
          obtain ⟨⟨o0, o1, o2, o3, o4, o5⟩, g0, g1, g2, g3, g4, g5⟩ := cells6 hb1
          have KB := Lib.hid (KA.out.trans ((kept_only on (own := fun b => b < w0.heap.size) (fun q => by have := HW.out.size; omega)).below fun _ h => h))
          clear on hb1
          have PN := Lib.hid (push_null X mkO (by simp) (by have := HX.out; have := HL.out; omega))
          go_wp2_with fail
          refine (kPush SB.out mkO 0 (X ++ [mkO]) PN.out.1 PN.out.2).mono ?_
          rintro e wc ⟨rfl, sc, kc⟩
          have SC := Lib.hid (sc.sub (own' := fun b => b < w0.heap.size) fun b h => .inl h)
          have KC := Lib.hid (KB.out.trans (kc.below fun _ h => .inl h))
          clear sc kc
          go_wp2
          go_roundw
          case rel => exact ⟨j + 1, X ++ [mkO], HL.out.1, HL.out.2, by rw [List.length_append, HX.out]; rfl, by rw [WQ.out]; rfl, by go_num, SC.out, KC.out⟩
          case measure => exact measure_up 100 j _ (by go_num) HL.out.2
    · rcases Nat.lt_or_ge j len with hl | hl
      · have hj : j = 100 := by omega
        subst hj
        have t1 : ((100 : Nat) : Int) < len := by omega
        have t1' : (100 : Int) < len := by omega
        have d1 : decide (100 < len) = true := by simpa using hl
        clear hlt
        by_cases hw : 0 ≤ t
        · have hw2 : ¬ (t < 0) := by omega
          have MM := Lib.hid (WM.out.2 hw)
          go_wp2_with fail
          refine (kMark HS.out t 0 MM.out.1 MM.out.2).mono ?_
          rintro e wc ⟨rfl, sc, kc⟩
          have KC := Lib.hid (HW.out.trans (kc.below fun _ h => h))
          clear sc kc
          go_wp2
          go_ret
          exact ⟨rfl, B0.out.trans (KC.out.mono B0.out.size)⟩
        · have hw2 : t < 0 := by omega
          have MM := Lib.hid (WM.out.1 hw2)
          go_wp2_with fail
          refine (kMark HS.out 0 10 MM.out.1 MM.out.2).mono ?_
          rintro e wc ⟨rfl, sc, kc⟩
          have KC := Lib.hid (HW.out.trans (kc.below fun _ h => h))
          clear sc kc
          go_wp2
          go_ret
          exact ⟨rfl, B0.out.trans (KC.out.mono B0.out.size)⟩
      · have hj : j = len := by omega
        subst hj
        have t1 : ¬ ((j : Int) < j) := by omega
        clear hlt
        by_cases hw : 0 ≤ t
        · have hw2 : ¬ (t < 0) := by omega
          have MM := Lib.hid (WM.out.2 hw)
          go_wp2_with fail
          refine (kMark HS.out t 0 MM.out.1 MM.out.2).mono ?_
          rintro e wc ⟨rfl, sc, kc⟩
          have KC := Lib.hid (HW.out.trans (kc.below fun _ h => h))
          clear sc kc
          go_wp2
          go_ret
          exact ⟨rfl, B0.out.trans (KC.out.mono B0.out.size)⟩
        · have hw2 : t < 0 := by omega
          have MM := Lib.hid (WM.out.1 hw2)
          go_wp2_with fail
          refine (kMark HS.out 0 10 MM.out.1 MM.out.2).mono ?_
          rintro e wc ⟨rfl, sc, kc⟩
          have KC := Lib.hid (HW.out.trans (kc.below fun _ h => h))
          clear sc kc
          go_wp2
          go_ret
          exact ⟨rfl, B0.out.trans (KC.out.mono B0.out.size)⟩
end Go.Proofs.Ytgmklagnngjlgaa
