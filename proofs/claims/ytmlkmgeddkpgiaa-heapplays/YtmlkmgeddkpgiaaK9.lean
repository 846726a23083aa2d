/- Walks of heap: New, Cells, Used, hasRoom, add. -/
import Derived.Test.YtmlkmgeddkpgiaaK4
import Derived.OwnWalk
import Derived.OneCell
namespace Go.Proofs.Ytmlkmgeddkpgiaa
open Go.RowKit
set_option linter.unusedVariables false

theorem new_any (w : World) : Calls Try.prog 9 #[] w fun e w' => e = .returned (ptr w.heap.size) ∧ w' = w.alloc (.cells #[.slice none 0 0, .int .i64 0] 97) := by
  go_enter Try.func9, Try.ntmps9
  go_wp2
  go_ret
  exact ⟨rfl, rfl⟩

theorem cells_any (hb : Nat) (p : Option Addr) (z cap : Nat) (w : World) (h0 : w.cell? ⟨hb, 0, none⟩ = some (.slice p z cap)) : Calls Try.prog 23 #[ptr hb] w fun e w' => e = .returned (.int .i64 z) ∧ w = w' := by
  go_enter Try.func23, Try.ntmps23
  go_wp2
  go_ret
  exact ⟨rfl, rfl⟩

theorem used_any (hb : Nat) (u : Int) (w : World) (h0 : w.cell? ⟨hb, 1, none⟩ = some (.int .i64 u)) : Calls Try.prog 24 #[ptr hb] w fun e w' => e = .returned (.int .i64 u) ∧ w = w' := by
  go_enter Try.func24, Try.ntmps24
  go_wp2
  go_ret
  exact ⟨rfl, rfl⟩

set_option maxRecDepth 100000 in
theorem room_any (hb : Nat) (p : Option Addr) (z cap : Nat) (u n : Int) (w : World) (h0 : w.cell? ⟨hb, 0, none⟩ = some (.slice p z cap)) (h1 : w.cell? ⟨hb, 1, none⟩ = some (.int .i64 u)) (hu : 0 ≤ u) (hu' : u ≤ 40000) :
    Calls Try.prog 98 #[ptr hb, .int .i64 n] w fun e w' => e = .returned (.bool (decide (z < 2000 ∧ n + u ≤ 40000))) ∧ w = w' := by
  obtain ⟨v, hv⟩ : ∃ v, v = 40000 - u := ⟨_, rfl⟩
  have e1 : IntKind.i64.wrap (40000 - u) = v := by rw [hv]; exact wrapi_in _ (by omega) (by omega)
  have HV := Lib.hid hv
  clear hv
  by_cases hz : z < 2000 <;> by_cases hn : n ≤ v
  all_goals
    have H := Lib.hid hn
    have HZ := Lib.hid hz
    go_enter Try.func98, Try.ntmps98
    go_wp2
    go_ret
    refine ⟨ret_bool ?_, rfl⟩
    have := H.out
    have := HZ.out
    have := HV.out
    simp <;> omega

theorem info68 : (Try.prog.info? 99).map (fun i => (i.zero, i.size, i.bytes)) = some (some .nilIface, 1, 16) := by kernel_rfl

theorem cadd_any (hb : Nat) (vc : Value) (ivs : List Value) (n : Nat) (u m : Int) (T r : Nat) (w : World) (hblk : w.heap[hb]? = some (.cells #[vc, .int .i64 u] 97 (0, 0))) (hrow : w.ownsRow 0 99 1 vc n ivs) (hne : vc.ownBlock ≠ some hb)
    (hn : n ≤ 2000) (hu : 0 ≤ u) (hu' : u ≤ 40000) (hm : 0 ≤ m) (hm' : m ≤ 40000) :
    Calls Try.prog 99 #[ptr hb, .iface T (ptr r), .int .i64 m] w fun e w' => e = .returned (.int .i64 n) ∧ ∃ g cap, w'.heap[hb]? = some (.cells #[.slice (some ⟨g, 0, none⟩) (n + 1) cap, .int .i64 (u + m)] 97 (0, 0)) ∧
      w'.ownsRow 0 99 1 (.slice (some ⟨g, 0, none⟩) (n + 1) cap) (n + 1) (ivs ++ [.iface T (ptr r)]) ∧ (vc.ownBlock = some g ∨ w.heap.size ≤ g) ∧ w'.os = w.os ∧ w'.tape = w.tape ∧ w'.output = w.output ∧ w.heap.size ≤ w'.heap.size ∧
      ∀ k, k < w.heap.size → k ≠ hb → vc.ownBlock ≠ some k → w'.heap[k]? = w.heap[k]? := by
  obtain ⟨i0, hi, hz0, hz1, hz2⟩ := info_parts info68
  have e1 : IntKind.i64.wrap (u + m) = u + m := wrapi_in _ (by omega) (by omega)
  obtain ⟨p, cap0, rfl⟩ := owns_form hrow
  have hlt := blk_lt hblk
  have H1 := Lib.hid hblk
  have H2 := Lib.hid hrow
  have H3 := Lib.hid hne
  have b0 := cellAt hblk 0
  have b1 := cellAt hblk 1
  have f0 := freeAt hblk 0
  have f1 := freeAt hblk 1
  simp at b0 b1
  clear hblk hrow hne
  go_enter Try.func99, Try.ntmps99
  go_wp2_with (first
    | (at_builtin; refine wpList_append_lies _ rfl _ _ 95 rfl 0 99 i0 .nilIface 1 16 Try.underlying95 hi hz0 hz1 hz2 rfl (by decide) _ _ _ rfl (H2.out.alloc _) ⟨w.heap.size, 0, none⟩ 1 1 [.iface T (ptr r)] rfl rfl (cell_one_new _ _ _) (fun x hx => by simp at hx; subst hx; rfl) (by decide) (by unfold maxLen; omega) (by omega) (Nat.zero_le _) (w.heap.size + 1) (by simp) ?_))
  intro g cap w1 hown hgrow hat hg1
  have K1 : w1.heap[hb]? = some (.cells #[.slice p n cap0, .int .i64 u] 97 (0, 0)) := by
    rw [hgrow.block hb (by simp; omega) (fun e => H3.out e.symm), Below.heap_alloc _ _ _ hlt]
    exact H1.out
  have K2 := Lib.hid hown
  have K3 := Lib.hid hgrow
  have K4 := Lib.hid hat
  have K5 := Lib.hid K1
  have d0 := cellAt K1 0
  have d1 := cellAt K1 1
  have f0 := freeAt K1 0
  have f1 := freeAt K1 1
  simp at d0 d1
  clear hown hgrow hat hg1 K1 b0 b1
  go_wp2
  go_ret
  have L1 := heap_setCell_same _ hb 1 _ 97 (.int .i64 (u + m)) (heap_setCell_same w1 hb 0 _ 97 (.slice (some ⟨g, 0, none⟩) (n + 1) cap) K5.out)
  have hgb : g ≠ hb := by
    intro e
    subst e
    rcases K4.out with h | h
    · exact H3.out h
    · omega
  refine ⟨ret_int (by omega), g, cap, L1, ?_, ?_, K3.out.os, K3.out.tape, K3.out.output, ?_, fun k hk hne hk2 => ?_⟩
  · exact ownsRow_setCell_other (ownsRow_setCell_other K2.out (by simpa [Value.ownBlock] using hgb) _) (by simpa [Value.ownBlock] using hgb) _
  · rcases K4.out with h | h
    · exact .inl h
    · exact .inr (by omega)
  · have := K3.out.size
    simp [World.setCell] at this ⊢
    omega
  · rw [heap_setCell_other _ _ _ _ hne, heap_setCell_other _ _ _ _ hne, K3.out.block k (by simp; omega) (fun e => hk2 e.symm), Below.heap_alloc _ _ _ hk]
end Go.Proofs.Ytmlkmgeddkpgiaa
