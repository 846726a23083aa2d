/- Walks of dict: names and others, the maps of the keys. -/
import Derived.Test.YtigboibcgpfphaaD2
namespace Go.Proofs.Ytigboibcgpfphaa
open Go.RowKit Go.Maps
set_option linter.unusedVariables false

theorem makeMap_some (v : Int) (w : World) : (Instr.makeMap 139 (some (.int .i64 v))).run Try.prog w = .ok (.map (some w.heap.size)) (w.alloc (.map #[] 0)) := by
  simp [Instr.makeMap, run_underlying Try.underlying139, asInt, asIntOf]
theorem end_is (hb : Nat) (k n a l r : Int) (x : Bool) (s : ByteArray) (p q : Nat) (hq : q = 2 * p + 1) (hp : p ≤ 1000) (w : World) : Calls Try.prog 83 #[dcV hb k x n a l s p r] w fun e w' => e = .returned (.int .i64 q) ∧ Below w.heap.size w w' := by
  subst hq
  exact end_any hb k n a l r x s p hp w
theorem wrap64_two {A : Nat} (h : A ≤ 3000) : wrap64 ((A : Int) + 2) = ((A + 2 : Nat) : Int) := by
  unfold wrap64
  omega
theorem measure_two (K A : Nat) (q : Int) (h : q = ((A + 2 : Nat) : Int)) (hx : A < K) : K - (intOf (.int .i64 q)).toNat < K - (intOf (.int .i64 (A : Int))).toNat := by
  subst h
  simp [intOf]
  omega
theorem zero3 (w : World) : (zeroValue 3).run Try.prog w = .ok (.int .i64 0) w := by kernel_rfl

/-- What a round of names and others keeps. -/
structure Round (R : Value → Option (DataW Unit × List MemPlace)) (T : TypeId) (w : World) (hb : Nat) (k : Int) (x : Bool) (nn a l : Int) (s : ByteArray) (n : Int) (r : Int) (ls : Nat → Option Lit) (j : Nat) (wr : World) : Prop where
  below : Below w.heap.size w wr
  blk : wr.heap[w.heap.size]? = some (dcObj hb k x nn a l s n r)
  map : ∃ M : DataW Unit, wr.ownsMap Try.prog T R (w.heap.size + 1) j M ∧ MapIs M j ls
section
variable {R : Value → Option (DataW Unit × List MemPlace)} {T : TypeId} {w : World} {hb : Nat} {k : Int} {x : Bool} {nn a l : Int} {s : ByteArray} {n r : Int} {ls : Nat → Option Lit} {j : Nat} {wr wx : World}
theorem Round.later (h : Round R T w hb k x nn a l s n r ls j wr) (kx : Below wr.heap.size wr wx) : Round R T w hb k x nn a l s n r ls j wx := by
  obtain ⟨M, h1, h2⟩ := h.map
  exact ⟨below_and h.below kx, (kx.block _ (blk_lt h.blk)).trans h.blk, M, owns_block h1 (kx.block _ h1.lt), h2⟩
theorem Round.skip (h : Round R T w hb k x nn a l s n r ls j wr) (hn : ls j = none) : Round R T w hb k x nn a l s n r ls (j + 1) wr := by
  obtain ⟨M, h1, h2⟩ := h.map
  exact ⟨h.below, h.blk, M, h1.mono (Nat.le_succ _), h2.skip hn⟩
theorem Round.put (h : Round R T w hb k x nn a l s n r ls j wr) {M : DataW Unit} {kl : Lit} (h2 : MapIs M j ls) (hn : ls j = some kl) (hk : WideAt.IsKeyLit kl) (hown : wx.ownsMap Try.prog T R (w.heap.size + 1) (j + 1) (M.put kl (.lit (.int .i64 (2 * j + 1))))) (hg : wr.grownBy wx (some (w.heap.size + 1))) : Round R T w hb k x nn a l s n r ls (j + 1) wx :=
  ⟨h.below.grown hg h.below.size (fun j hj => by cases hj; exact Nat.le_succ _), (hg.block _ (blk_lt h.blk) (by simp)).trans h.blk, _, hown, h2.put hn hk⟩
theorem Round.start (w : World) : Round R T w hb k x nn a l s n r ls 0 ((w.alloc (.cells #[ptr hb, .int .i64 k, .bool x, .int .i64 nn, .int .i64 a, .int .i64 l, .string s, .int .i64 n, .int .i64 r] 118)).alloc (.map #[] 0)) := by
  refine ⟨below_and (box_below _ _) (box_below _ _), ?_, .map [], ?_, MapIs.zero _⟩
  · rw [Below.heap_alloc _ _ _ (by simp)]
    exact heap_alloc_new _ _
  · have := World.ownsMap_made (w.alloc (.cells #[ptr hb, .int .i64 k, .bool x, .int .i64 nn, .int .i64 a, .int .i64 l, .string s, .int .i64 n, .int .i64 r] 118)) Try.prog T R
    simpa using this
end

set_option maxHeartbeats 1000000 in
set_option maxRecDepth 100000 in
theorem names_walk (hb n N2 : Nat) (k nn a l r : Int) (x : Bool) (s : ByteArray) (key : Nat → Ob) (ls : Nat → Option Lit) (w : World) (hn : n ≤ 1000) (hN2 : N2 = 2 * n + 1) (hs : Hid (∀ j, j < n → (key j).s.size ≤ maxLen))
    (hls : Hid (∀ j, j < n → ls j = if (key j).k = 5 then some (.string (key j).s.data.toList) else none))
    (hg : Hid (∀ j A : Nat, j < n → A = 2 * j + 1 → ∀ wx, Below w.heap.size w wx → Calls Try.prog 50 #[ptr hb, obV k x nn a l s, .int .i64 A] wx fun e w' => e = .returned (.tuple #[(key j).val, .int .i64 0]) ∧ Below wx.heap.size wx w')) :
    Calls Try.prog 92 #[dcV hb k x nn a l s n r] w fun e w' => e = .returned (.map (some (w.heap.size + 1))) ∧ Round (plainElem Try.prog 3) 9 w hb k x nn a l s n r ls n w' := by
  have hmm := makeMap_some
  have HN := Lib.hid hn
  have HN2 := Lib.hid hN2
  clear hn hN2
  go_enter Try.func92, Try.ntmps92
  go_wp2
  go_loopw [4] (fun at_ wr => ∃ j A : Nat, j ≤ n ∧ A = 2 * j + 1 ∧ at_ = .int .i64 A ∧ Round (plainElem Try.prog 3) 9 w hb k x nn a l s n r ls j wr) (fun at_ _ => N2 - (intOf at_).toNat)
  case atStart => exact ⟨0, 1, Nat.zero_le _, rfl, rfl, Round.start w⟩
  case round =>
    obtain ⟨j, A, hj, hA, rfl, hr⟩ := hrel
    have HR := Lib.hid hr
    have HA := Lib.hid hA
    clear hr hA hmm
    obtain ⟨c0, c1, c2, c3, c4, c5, c6, c7, c8⟩ := dc_cells HR.out.blk
    go_wp2_with fail
    refine (end_is hb k nn a l r x s n N2 HN2.out HN.out wr).mono ?_
    rintro e w1 ⟨rfl, k1⟩
    have R1 := Lib.hid (HR.out.later k1)
    clear k1 c0 c1 c2 c3 c4 c5 c6 c7 c8
    by_cases hlt : j < n
    · have t1 : (A : Int) < N2 := by have := HA.out; have := HN2.out; omega
      obtain ⟨c0, c1, c2, c3, c4, c5, c6, c7, c8⟩ := dc_cells R1.out.blk
      go_wp2_with fail
      have HS := hs.out j hlt
      have HLS := hls.out j hlt
      have hgj := hg.out j A hlt HA.out w1 R1.out.below
      obtain ⟨o, ho⟩ : ∃ o, key j = o := ⟨_, rfl⟩
      rw [ho] at HS HLS hgj
      obtain ⟨k', x', n', a', l', s'⟩ := o
      simp only [Ob.val] at hgj
      have HLS := Lib.hid HLS
      have HS := Lib.hid HS
      refine hgj.mono ?_
      rintro e w2 ⟨rfl, k2⟩
      clear hgj ho c0 c1 c2 c3 c4 c5 c6 c7 c8
      go_upto_region 6 with fail
      obtain ⟨w3, e3, k3, z3, o3⟩ := ob_box w2 k' n' a' l' x' s'
      rw [e3]
      have R3 := Lib.hid (R1.out.later (below_and k2 k3))
      obtain ⟨d0, d1, d2, d3, d4, d5⟩ := o3
      have hwr := wrap64_two (A := A) (by have := HA.out; have := HN.out; omega)
      have HW := Lib.hid hwr
      clear hwr e3 k2 k3 z3
      by_cases h5 : k' = 5
      · subst h5
        obtain ⟨M, hown, hM⟩ := R3.out.map
        have hMM := Lib.hid hM
        have hkey : keyOf Try.prog 9 (.string s') = some (.string s'.data.toList) := WideMaps.keyOf_string_mk Try.underlying9 HS.out
        have hwf : (Lit.int .i64 (A : Int)).wf = true := WalkArith.wf_i64 (by have := HA.out; have := HN.out; omega)
        clear hM
        go_wp2_with (first
          | (at_mapUpdate; refine wpList_mapUpdate_own _ rfl _ _ _ 139 rfl 9 3 law9 Try.underlying139 _ (w.heap.size + 1) j _ rfl hown (by unfold maxLen; have := HN.out; omega) _ _ _ rfl rfl hkey _ [] (plainElem_int Try.underlying3 hwf) ?_))
        intro w4 hown1 hgrow1
        have R4 := Lib.hid (R3.out.put (kl := .string s'.data.toList) hMM.out (by simpa using HLS.out) trivial (by have e := HA.out; rw [show (2 * (j : Int) + 1) = (A : Int) from by omega]; exact hown1) hgrow1)
        clear hown hown1 hgrow1 d0 d1 d2 d3 d4 d5
        go_wp2
        go_roundw
        case rel => exact ⟨j + 1, A + 2, hlt, by have := HA.out; omega, congrArg (Value.int .i64) HW.out, R4.out⟩
        case measure => exact measure_two N2 A _ HW.out (by omega)
      · have h5' : (k' == 5) = false := by simpa using h5
        have R4 := Lib.hid (R3.out.skip (by rw [HLS.out]; simp [h5]))
        clear h5
        go_wp2
        go_roundw
        case rel => exact ⟨j + 1, A + 2, hlt, by have := HA.out; omega, congrArg (Value.int .i64) HW.out, R4.out⟩
        case measure => exact measure_two N2 A _ HW.out (by omega)
    · have t0 := HA.out
      have t2 := HN2.out
      have t1 : decide (A < N2) = false := decide_eq_false (by omega)
      clear t0 t2
      have e : j = n := by omega
      subst e
      go_wp2
      go_ret
      exact ⟨rfl, R1.out⟩
end Go.Proofs.Ytigboibcgpfphaa
