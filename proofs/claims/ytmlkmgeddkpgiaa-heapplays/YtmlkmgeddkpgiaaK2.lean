/- Walks of heap's cells: locks and parts. -/
import Derived.Test.YtmlkmgeddkpgiaaK1
namespace Go.Proofs.Ytmlkmgeddkpgiaa
open Go.RowKit
set_option linter.unusedVariables false

theorem wrapi_in (n : Int) (h0 : -9223372036854775808 ≤ n) (h1 : n < 9223372036854775808) : IntKind.i64.wrap n = n := by
  rw [IntKind.wrap_i64]
  omega

theorem isLocked_any (b : Nat) (lk : Bool) (w : World) (h : w.cell? ⟨b, 1, none⟩ = some (.bool lk)) : Calls Try.prog 150 #[ptr b] w fun e w' => e = .returned (.bool lk) ∧ w = w' := by
  go_enter Try.func150, Try.ntmps150
  go_wp2
  go_ret
  exact ⟨rfl, rfl⟩

theorem lock_any (b : Nat) (v : Value) (w : World) (h : w.cell? ⟨b, 1, none⟩ = some v) (f : w.frozen? ⟨b, 1, none⟩ = false) : Calls Try.prog 151 #[ptr b] w fun e w' => e = .returned (.tuple #[]) ∧ w' = w.setCell ⟨b, 1, none⟩ (.bool true) := by
  go_enter Try.func151, Try.ntmps151
  go_wp2
  go_end0
  exact ⟨rfl, rfl⟩

theorem part_no (b : Nat) (K k n a l : Int) (x : Bool) (s : ByteArray) (z : Nat) (w : World) (hc : w.cell? ⟨b, 0, none⟩ = some (.int .i64 K)) (ha : 0 ≤ a) (ha' : a ≤ 40000) (hz : z ≤ 40000) (hno : ¬(k = K ∧ a + l ≤ z)) :
    Calls Try.prog 156 #[ptr b, obV k x n a l s, .int .i64 z] w fun e w' => e = .returned (.tuple #[.int .i64 0, .int .i64 0, .bool false]) ∧ Below w.heap.size w w' := by
  by_cases hk : k = K
  · subst hk
    have hl : (z : Int) - a < l := by
      simp at hno
      omega
    have e1 : IntKind.i64.wrap ((z : Int) - a) = z - a := wrapi_in _ (by omega) (by omega)
    clear hno
    go_enter Try.func156, Try.ntmps156
    go_wp2_with fail
    obtain ⟨wb, eb, kb, zb, ob⟩ := ob_box w k n a l x s
    have gb := Lib.hid kb
    have hcb := cell_later kb hc
    obtain ⟨d0, d1, d2, d3, d4, d5⟩ := ob
    rw [eb]
    clear eb kb zb hc
    go_quiet (fail)
    go_wp2
    go_ret3
    exact ⟨rfl, below_and gb.out (below_drewN _ _)⟩
  · clear hno
    go_enter Try.func156, Try.ntmps156
    go_wp2_with fail
    obtain ⟨wb, eb, kb, zb, ob⟩ := ob_box w k n a l x s
    have gb := Lib.hid kb
    have hcb := cell_later kb hc
    obtain ⟨d0, d1, d2, d3, d4, d5⟩ := ob
    rw [eb]
    clear eb kb zb hc
    go_quiet (fail)
    go_wp2
    go_ret3
    exact ⟨rfl, below_and gb.out (below_drewN _ _)⟩

theorem part_yes (b : Nat) (k n a l : Int) (x : Bool) (s : ByteArray) (z : Nat) (w : World) (hc : w.cell? ⟨b, 0, none⟩ = some (.int .i64 k)) (ha : 0 ≤ a) (ha' : a ≤ 40000) (hz : z ≤ 40000) (hy : a + l ≤ z) :
    Calls Try.prog 156 #[ptr b, obV k x n a l s, .int .i64 z] w fun e w' => e = .returned (.tuple #[.int .i64 a, .int .i64 l, .bool true]) ∧ Below w.heap.size w w' := by
  have hl : ¬ (z : Int) - a < l := by omega
  have e1 : IntKind.i64.wrap ((z : Int) - a) = z - a := wrapi_in _ (by omega) (by omega)
  clear hy
  go_enter Try.func156, Try.ntmps156
  go_wp2_with fail
  obtain ⟨wb, eb, kb, zb, ob⟩ := ob_box w k n a l x s
  have gb := Lib.hid kb
  have hcb := cell_later kb hc
  obtain ⟨d0, d1, d2, d3, d4, d5⟩ := ob
  rw [eb]
  clear eb kb zb hc
  go_quiet (fail)
  go_wp2_with fail
  go_quiet (fail)
  go_wp2
  go_ret3
  exact ⟨rfl, below_and (below_and gb.out (below_drewN _ _)) (below_drewN _ _)⟩
end Go.Proofs.Ytmlkmgeddkpgiaa
