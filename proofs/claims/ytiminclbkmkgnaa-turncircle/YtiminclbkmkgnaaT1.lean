/- The table of sines, an array made inside a function: its statement, the reference's table, and the sine of the first quarter. -/
import Derived.Test.YtiminclbkmkgnaaF2
import Derived.Test.YtiminclbkmkgnaaM7
import Derived.Laws.Tables
import Derived.Deep.RegionHeld3
namespace Go.Proofs.Ytiminclbkmkgnaa
open Go.RowKit
set_option linter.unusedVariables false

def tabV : Array Value := (tabL.map (fun x => Value.int .i64 x)).toArray
/-- The table lies in block b. -/
def TabAt (b : Nat) (w : World) : Prop := ∀ k : Nat, k < 91 → w.cell? ⟨b, k, none⟩ = some (.int .i64 (tab k))

theorem tabL_at : ∀ k, k < 91 → tabL[k]? = some (tab k) := by decide +kernel
theorem tabV_at (k : Nat) (h : k < 91) : tabV[k]? = some (.int .i64 (tab k)) := by
  simp [tabV, tabL_at k h]

section
variable {P : Program}
theorem wpList_buildTo {ops : Array Oper} {rest : List Oper} {o : Oper} {a : Act} {w : World} {Q : Exit → Act → World → Prop} (hg : o.guard = none) (t : TypeId) (parts : Array (Nat × Operand)) (ho : o.op = .build t parts)
    (cells : Array Value) (hf : P.built t (parts.map fun (i, x) => (i, a.eval x)).toList = some cells)
    (h : wpList P ops Q rest (a.put o.dst (.agg cells)) w) : wpList P ops Q (o :: rest) a w :=
  wpList_build hg t parts ho (by rw [hf]; rfl) (by rw [hf]; exact h)
theorem wpList_allocRow {ops : Array Oper} {rest : List Oper} {o : Oper} {a : Act} {w : World} {Q : Exit → Act → World → Prop} (hg : o.guard = none) (t : TypeId) (ho : o.op = .alloc t) (i : TypeInfo) (z : Value)
    (hi : P.info? t = some i) (hz : i.zero = some z)
    (h : wpList P ops Q rest (a.put o.dst (.pointer (some ⟨w.heap.size, 0, none⟩))) (w.alloc (.cells z.cells t))) : wpList P ops Q (o :: rest) a w := by
  refine wpList_plain hg fun K hK => ?_
  have hq := hK _ _ h
  unfold Oper.wp execOp
  simp only [ho, Instr.alloc, newVar, newRow, newObj]
  have e : (zeroValue t).run P w = .ok z w := by simp [zeroValue, typeInfo, hi, hz]
  simp [Sem.run_bind, e]
  exact hq
end

theorem tab_info : ∃ i z, Try.prog.info? 44 = some i ∧ i.zero = some z ∧ z.cells.size = 91 ∧ i.size = 91 := by
  have h : ((Try.prog.info? 44).bind fun i => i.zero.map fun z => (z.cells.size, i.size)) = some (91, 91) := by kernel_rfl
  cases hi : Try.prog.info? 44 with
  | none => rw [hi] at h; simp at h
  | some i =>
    rw [hi] at h
    cases hz : i.zero with
    | none => simp [hz] at h
    | some z => simp [hz] at h; exact ⟨i, z, rfl, hz, h.1, h.2⟩

theorem tab_size : tabV.size = 91 := by decide
theorem tab_one : (tabV.all fun x => x.oneCell') = true := by decide +kernel

theorem tab_world (w : World) (c : Array Value) : Below w.heap.size w ((w.alloc (.cells c 44)).setRow w.heap.size tabV) ∧
    ((w.alloc (.cells c 44)).setRow w.heap.size tabV).heap.size = w.heap.size + 1 ∧ TabAt w.heap.size ((w.alloc (.cells c 44)).setRow w.heap.size tabV) := by
  have hg : (w.alloc (.cells c 44)).heap[w.heap.size]? = some (.cells c 44 (0, 0)) := by show (w.heap.push _)[w.heap.size]? = _; simp
  refine ⟨⟨rfl, rfl, rfl, ?_, ?_⟩, ?_, ?_⟩
  · rw [setRow_size]; show _ ≤ (w.heap.push _).size; simp
  · intro k hk
    rw [setRow_other _ _ _ _ (by omega)]
    show (w.heap.push _)[k]? = _
    rw [Array.getElem?_push, if_neg (by omega)]
  · rw [setRow_size]; show (w.heap.push _).size = _; simp
  · intro k hk
    rw [cell_setRow_same _ _ _ _ _ _ _ hg]
    exact tabV_at k hk

theorem below_drew {w w' : World} (h : Below w.drew.heap.size w.drew w') : Below w.heap.size w w' := ⟨h.os, h.tape, h.output, h.size, h.block⟩

/-- The statement that makes the table. -/
theorem tab_region {id : Nat} {o1 o2 o3 : Oper} {Q : Exit → Act → World → Prop} {a : Act} {w : World} {parts : Array (Nat × Operand)} (d1 d2 : Tmp)
    (g1 : o1.guard = none) (h1 : o1.op = .build 44 parts) (e1 : o1.dst = some d1) (hf : Try.prog.built 44 (parts.map fun (i, x) => (i, a.eval x)).toList = some tabV)
    (g2 : o2.guard = none) (h2 : o2.op = .alloc 44) (e2 : o2.dst = some d2)
    (g3 : o3.guard = none) (h3 : o3.op = .store 44 (.tmp d2) (.tmp d1)) (e3 : o3.dst = none)
    (hx : ((a.put (some d1) (.agg tabV)).put (some d2) (.pointer (some ⟨w.heap.size, 0, none⟩))).eval (.tmp d2) = .pointer (some ⟨w.heap.size, 0, none⟩))
    (hy : ((a.put (some d1) (.agg tabV)).put (some d2) (.pointer (some ⟨w.heap.size, 0, none⟩))).eval (.tmp d1) = .agg tabV)
    (h : ∀ w1, Below w.heap.size w w1 → w1.heap.size = w.heap.size + 1 → TabAt w.heap.size w1 →
      Q .normal ((a.put (some d1) (.agg tabV)).put (some d2) (.pointer (some ⟨w.heap.size, 0, none⟩))) w1) :
    (Code.region id #[o1, o2, o3] false).wp Try.prog Q a w := by
  obtain ⟨i, z, hi, hz, hs, hn⟩ := tab_info
  obtain ⟨k1, k2, k3⟩ := tab_world w z.cells
  refine wp_region_lit ?_
  refine wpList_buildTo g1 44 parts h1 tabV hf ?_
  refine wpList_allocRow g2 44 h2 i z hi hz ?_
  rw [e1, e2]
  refine wpList_store_row g3 44 _ _ h3 w.heap.size tabV hx hy 44 z.cells (by show (w.heap.push _)[w.heap.size]? = _; simp) (by rw [hi]; simp [hn, tab_size]) (by rw [hs, tab_size]) tab_one ?_
  rw [e3]
  exact wpList_nil (h _ k1 k2 k3)

set_option maxHeartbeats 400000 in
theorem rtable_any (k : Nat) (w : World) (hk : k < 91) : Calls Try.prog 31 #[.int .i64 (k : Int)] w fun e w' => e = .returned (.int .i64 (tab k)) ∧ Below w.heap.size w w' := by
  go_enter Try.func31, Try.ntmps31
  go_upto_region 1 with fail
  refine tab_region 4 3 rfl rfl rfl (by kernel_rfl) rfl rfl rfl rfl rfl rfl rfl rfl ?_
  intro w1 k1 z1 ht
  have c := ht k hk
  simp only [Exit.then]
  go_at_K
  go_wp2
  go_ret
  exact ⟨rfl, k1⟩

set_option maxHeartbeats 400000 in
theorem first_whole (d : Int) (k : Nat) (w : World) (hk : k < 91) (e : d = (k : Int) * 65536)
    (h1 : Hid (∀ w, Calls Try.prog 35 #[.int .i64 d] w fun e w' => e = .returned (.int .i64 (k : Int)) ∧ Below w.heap.size w w')) :
    Calls Try.prog 30 #[.int .i64 d] w fun e w' => e = .returned (.int .i64 (tab k)) ∧ Below w.heap.size w w' := by
  have ef : d - (k : Int) * 65536 = 0 := by omega
  have d0 : 0 ≤ d := by omega
  have d1 : d ≤ 5898240 := by omega
  clear e
  go_enter Try.func30, Try.ntmps30
  go_upto_region 1 with fail
  refine tab_region 8 3 rfl rfl rfl (by kernel_rfl) rfl rfl rfl rfl rfl rfl rfl rfl ?_
  intro w1 k1 z1 ht
  have c := ht k hk
  simp only [Exit.then]
  go_at_K
  go_wp2_with fail
  refine (h1.out _).mono ?_
  rintro e w2 ⟨rfl, k2⟩
  have c2 := cell_later k2 c
  clear c
  go_wp2
  go_ret
  exact ⟨rfl, k1.trans (k2.mono (by omega))⟩

set_option maxHeartbeats 1000000 in
theorem first_part (d f g t0 t1 p : Int) (k : Nat) (w : World) (hk : k < 90) (e : d = (k : Int) * 65536 + f) (f0 : 0 < f) (f1 : f < 65536)
    (a0 : 0 ≤ t0) (a1 : t0 ≤ 65536) (b0 : 0 ≤ t1) (b1 : t1 ≤ 65536) (g0 : 0 ≤ g) (g1 : g ≤ 65536) (ep : t1 - t0 = p) (E0 : Hid (tab k = t0)) (E1 : Hid (tab (k + 1) = t1))
    (h1 : Hid (∀ w, Calls Try.prog 35 #[.int .i64 d] w fun e w' => e = .returned (.int .i64 (k : Int)) ∧ Below w.heap.size w w'))
    (h2 : Hid (∀ w, Calls Try.prog 36 #[.int .i64 p, .int .i64 f] w fun e w' => e = .returned (.tuple #[.int .i64 g, .bool true]) ∧ Below w.heap.size w w')) :
    Calls Try.prog 30 #[.int .i64 d] w fun e w' => e = .returned (.int .i64 (t0 + g)) ∧ Below w.heap.size w w' := by
  have ef : d - (k : Int) * 65536 = f := by omega
  have w0 : IntKind.i64.wrap ((k : Int) + 1) = (k : Int) + 1 := IntWalk.i64_in _ (by omega)
  have w1 : IntKind.i64.wrap (t1 - t0) = p := by rw [ep]; exact IntWalk.i64_in _ (by omega)
  have n1 : ((k : Int) + 1).toNat = k + 1 := by omega
  have dd0 : 0 ≤ d := by omega
  have dd1 : d ≤ 5898240 := by omega
  have i0 : (0 : Int) ≤ (k : Int) := by omega
  have i1 : (k : Int) < 91 := by omega
  have i2 : (0 : Int) ≤ (k : Int) + 1 := by omega
  have i3 : (k : Int) + 1 < 91 := by omega
  clear e ep
  go_enter Try.func30, Try.ntmps30
  go_upto_region 1 with fail
  refine tab_region 8 3 rfl rfl rfl (by kernel_rfl) rfl rfl rfl rfl rfl rfl rfl rfl ?_
  intro wa ka za ht
  have c0 := ht k (by omega)
  have c1 := ht (k + 1) (by omega)
  rw [E0.out] at c0
  rw [E1.out] at c1
  simp only [Exit.then]
  go_at_K
  go_wp2_with fail
  refine (h1.out _).mono ?_
  rintro e wb ⟨rfl, kb⟩
  have d0 := cell_later kb c0
  have d1 := cell_later kb c1
  have kb' := Lib.hid (ka.trans (kb.mono (by omega : w.heap.size ≤ wa.heap.size)))
  clear c0 c1 ht kb ka za
  go_wp2_with fail
  go_region_held3 (fun wx => wx.cell? ⟨w.heap.size, k, none⟩ = some (.int .i64 t0) ∧ wx.cell? ⟨w.heap.size, k + 1, none⟩ = some (.int .i64 t1))
    (first | exact ⟨cell_later kc d0, cell_later kc d1⟩ | exact ⟨d0, d1⟩ | go_keep)
    (first | (go_at_call 36; refine (h2.out _).mono ?_; rintro e wc ⟨rfl, kc⟩))
  have c0 := cell_later kc d0
  clear d0 d1
  go_wp2
  go_ret
  exact ⟨rfl, kb'.out.trans ((below_drew kc).mono kb'.out.size)⟩

theorem sinQ_whole (d : Int) (h : d % 65536 = 0) : sinQ d = tab (d / 65536).toNat := by
  unfold sinQ
  rw [h, Int.mul_zero]
  have : near 0 65536 = 0 := by decide
  omega

theorem first_any (d : Int) (w : World) (h0 : 0 ≤ d) (h1 : d ≤ 5898240) : Calls Try.prog 30 #[.int .i64 d] w fun e w' => e = .returned (.int .i64 (sinQ d)) ∧ Below w.heap.size w w' := by
  obtain ⟨k, hk⟩ : ∃ k, (d / 65536).toNat = k := ⟨_, rfl⟩
  have hw : wholeF d = (k : Int) := by unfold wholeF; rw [clamp_in d (by omega) (by omega)]; omega
  have c1 := Lib.hid (fun w => wholeF_any d w)
  rw [hw] at c1
  by_cases hf : d % 65536 = 0
  · rw [sinQ_whole d hf, hk]
    exact first_whole d k w (by omega) (by omega) c1
  · have b0 := tab_bd k
    have b1 := tab_bd (k + 1)
    have hu := tab_up k (by omega)
    have hs := step_bd (tab (k + 1) - tab k) (d % 65536) (by omega) (by omega) (by omega)
    have c2 := Lib.hid (fun w => mulF_any (tab (k + 1) - tab k) (d % 65536) w (by omega) (by omega) (by omega) (by omega))
    have ho : okMul (tab (k + 1) - tab k) (d % 65536) = true := by
      unfold okMul
      rw [(may_iff _).2 ⟨by omega, by omega⟩, (may_iff _).2 ⟨by omega, by omega⟩, (may_iff _).2 ⟨by omega, by omega⟩]
      rfl
    rw [ho] at c2
    unfold sinQ
    rw [hk]
    exact first_part d (d % 65536) _ (tab k) (tab (k + 1)) _ k w (by omega) (by omega) (by omega) (by omega) (by omega) (by omega) (by omega) (by omega) hs.1 (by omega) rfl (Lib.hid rfl) (Lib.hid rfl) c1 c2
end Go.Proofs.Ytiminclbkmkgnaa
