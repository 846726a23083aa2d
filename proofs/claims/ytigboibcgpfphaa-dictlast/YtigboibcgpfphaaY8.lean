/- DictLast: the key by a number. -/
import Derived.Test.YtigboibcgpfphaaY7
import Derived.Laws.IdiomStrings
namespace Go.Proofs.Ytigboibcgpfphaa
open Go.RowKit Go.Maps
set_option linter.unusedVariables false

theorem kconv1 (w : World) (a : Int) (h0 : 0 ≤ a) (h1 : a ≤ 255) : (convert 38 9 (.slice (some ⟨w.heap.size, 0, none⟩) 1 1)).run Try.prog (w.alloc (.cells #[.int .u8 a] 5)) = .ok (.string ⟨#[UInt8.ofNat a.toNat]⟩) (w.alloc (.cells #[.int .u8 a] 5)) := by
  refine run_convert_bytes_back (w.alloc (.cells #[.int .u8 a] 5)) 38 9 5 ⟨w.heap.size, 0, none⟩ 1 [UInt8.ofNat a.toNat] Try.underlying38 Try.underlying5 Try.underlying9 fun j hj => ?_
  have e : j = 0 := by
    simp at hj
    exact hj
  subst e
  have e2 : (((UInt8.ofNat a.toNat).toNat : Nat) : Int) = a := by
    rw [UInt8.toNat_ofNat']
    omega
  rw [Addr.add_mid]
  show (w.alloc (.cells #[.int .u8 a] 5)).cell? ⟨w.heap.size, 0, none⟩ = _
  rw [cellAt (heap_alloc_new w _)]
  simp only [List.getElem_cons_zero, e2]
  rfl

set_option maxHeartbeats 2000000 in
set_option maxRecDepth 100000 in
theorem key_go1 (k m m2 : Nat) (k4 c v r : Int) (xx : Bool) (w : World) (e1 : (k : Int).tdiv 4 = k4) (ew : IntKind.i64.wrap k4 = k4) (e2 : k4.tmod 7 = m) (e3 : (k : Int).tmod 4 = r) (hr : (r == 0) = false ∧ (r == 1) = true)
    (e4 : (m : Int).tmod 2 = m2) (hx : ((m2 : Int) == 1) = xx) (e5 : IntKind.i64.wrap (97 + (m : Int)) = c) (e6 : IntKind.u8.wrap c = c) (c0 : Hid (0 ≤ c ∧ c ≤ 255)) (e7 : IntKind.i64.wrap ((m : Int) * 32768) = v) (hk : k < 256) :
    Calls Try.prog 35 #[.int .i64 k, zeroOb] w fun e w' => e = .returned (obV 3 false m 0 0 ⟨#[]⟩) ∧ Below w.heap.size w w' := by
  obtain ⟨q0, q1⟩ := hr
  have t0 : decide ((k : Int) < 0) = false := decide_eq_false (by omega)
  have t1 : decide (k < 0) = false := decide_eq_false (by omega)
  go_enter Try.func35, Try.ntmps35
  go_upto_region 1 with fail
  obtain ⟨wb, eb, kb, zb, oa, ob⟩ := ob_zero w 0 0 0 0 false ⟨#[]⟩
  rw [eb]
  have KB := Lib.hid kb
  have OB := Lib.hid ob
  obtain ⟨a0, a1, a2, a3, a4, a5⟩ := ob_cells oa
  obtain ⟨⟨o0, o1, o2, o3, o4, o5⟩, f0, f1, f2, f3, f4, f5⟩ := cells6 ob
  clear eb kb zb oa ob
  go_wp2
  (try simp only [Exit.inBlock, Exit.then])
  refine bodyPost_ret (results_cell_row rfl _ _ _ _ _ _ _ rfl (set6 OB.out _ _ _ _ _ _) Try.underlying26 rfl (by kernel_rfl)) rfl ⟨rfl, set6_below KB.out (Nat.le_succ _) _ _ _ _ _ _⟩

set_option maxHeartbeats 2000000 in
set_option maxRecDepth 100000 in
theorem key_go2 (k m m2 : Nat) (k4 c v r : Int) (xx : Bool) (w : World) (e1 : (k : Int).tdiv 4 = k4) (ew : IntKind.i64.wrap k4 = k4) (e2 : k4.tmod 7 = m) (e3 : (k : Int).tmod 4 = r) (hr : (r == 0) = false ∧ (r == 1) = false ∧ (r == 2) = true)
    (e4 : (m : Int).tmod 2 = m2) (hx : ((m2 : Int) == 1) = xx) (e5 : IntKind.i64.wrap (97 + (m : Int)) = c) (e6 : IntKind.u8.wrap c = c) (c0 : Hid (0 ≤ c ∧ c ≤ 255)) (e7 : IntKind.i64.wrap ((m : Int) * 32768) = v) (hk : k < 256) :
    Calls Try.prog 35 #[.int .i64 k, zeroOb] w fun e w' => e = .returned (obV 4 false v 0 0 ⟨#[]⟩) ∧ Below w.heap.size w w' := by
  obtain ⟨q0, q1, q2⟩ := hr
  have t0 : decide ((k : Int) < 0) = false := decide_eq_false (by omega)
  have t1 : decide (k < 0) = false := decide_eq_false (by omega)
  go_enter Try.func35, Try.ntmps35
  go_upto_region 1 with fail
  obtain ⟨wb, eb, kb, zb, oa, ob⟩ := ob_zero w 0 0 0 0 false ⟨#[]⟩
  rw [eb]
  have KB := Lib.hid kb
  have OB := Lib.hid ob
  obtain ⟨a0, a1, a2, a3, a4, a5⟩ := ob_cells oa
  obtain ⟨⟨o0, o1, o2, o3, o4, o5⟩, f0, f1, f2, f3, f4, f5⟩ := cells6 ob
  clear eb kb zb oa ob
  go_wp2
  (try simp only [Exit.inBlock, Exit.then])
  refine bodyPost_ret (results_cell_row rfl _ _ _ _ _ _ _ rfl (set6 OB.out _ _ _ _ _ _) Try.underlying26 rfl (by kernel_rfl)) rfl ⟨rfl, set6_below KB.out (Nat.le_succ _) _ _ _ _ _ _⟩

set_option maxHeartbeats 2000000 in
set_option maxRecDepth 100000 in
theorem key_go3 (k m m2 : Nat) (k4 c v r : Int) (xx : Bool) (w : World) (e1 : (k : Int).tdiv 4 = k4) (ew : IntKind.i64.wrap k4 = k4) (e2 : k4.tmod 7 = m) (e3 : (k : Int).tmod 4 = r) (hr : (r == 0) = false ∧ (r == 1) = false ∧ (r == 2) = false)
    (e4 : (m : Int).tmod 2 = m2) (hx : ((m2 : Int) == 1) = xx) (e5 : IntKind.i64.wrap (97 + (m : Int)) = c) (e6 : IntKind.u8.wrap c = c) (c0 : Hid (0 ≤ c ∧ c ≤ 255)) (e7 : IntKind.i64.wrap ((m : Int) * 32768) = v) (hk : k < 256) :
    Calls Try.prog 35 #[.int .i64 k, zeroOb] w fun e w' => e = .returned (obV 2 false m2 0 0 ⟨#[]⟩) ∧ Below w.heap.size w w' := by
  obtain ⟨q0, q1, q2⟩ := hr
  have t0 : decide ((k : Int) < 0) = false := decide_eq_false (by omega)
  have t1 : decide (k < 0) = false := decide_eq_false (by omega)
  go_enter Try.func35, Try.ntmps35
  go_upto_region 1 with fail
  obtain ⟨wb, eb, kb, zb, oa, ob⟩ := ob_zero w 0 0 0 0 false ⟨#[]⟩
  rw [eb]
  have KB := Lib.hid kb
  have OB := Lib.hid ob
  obtain ⟨a0, a1, a2, a3, a4, a5⟩ := ob_cells oa
  obtain ⟨⟨o0, o1, o2, o3, o4, o5⟩, f0, f1, f2, f3, f4, f5⟩ := cells6 ob
  clear eb kb zb oa ob
  go_wp2
  (try simp only [Exit.inBlock, Exit.then])
  refine bodyPost_ret (results_cell_row rfl _ _ _ _ _ _ _ rfl (set6 OB.out _ _ _ _ _ _) Try.underlying26 rfl (by kernel_rfl)) rfl ⟨rfl, set6_below KB.out (Nat.le_succ _) _ _ _ _ _ _⟩

set_option maxHeartbeats 2000000 in
set_option maxRecDepth 100000 in
theorem key_go0 (k m m2 : Nat) (k4 c v r : Int) (xx : Bool) (w : World) (e1 : (k : Int).tdiv 4 = k4) (ew : IntKind.i64.wrap k4 = k4) (e2 : k4.tmod 7 = m) (e3 : (k : Int).tmod 4 = r) (hr : (r == 0) = true)
    (e4 : (m : Int).tmod 2 = m2) (hx : ((m2 : Int) == 1) = xx) (e5 : IntKind.i64.wrap (97 + (m : Int)) = c) (e6 : IntKind.u8.wrap c = c) (c0 : Hid (0 ≤ c ∧ c ≤ 255)) (e7 : IntKind.i64.wrap ((m : Int) * 32768) = v) (hk : k < 256) :
    Calls Try.prog 35 #[.int .i64 k, zeroOb] w fun e w' => e = .returned (obV 5 xx 0 0 0 ⟨#[UInt8.ofNat c.toNat]⟩) ∧ Below w.heap.size w w' := by
  have q0 := hr
  have t0 : decide ((k : Int) < 0) = false := decide_eq_false (by omega)
  have t1 : decide (k < 0) = false := decide_eq_false (by omega)
  go_enter Try.func35, Try.ntmps35
  go_upto_region 1 with fail
  obtain ⟨wb, eb, kb, zb, oa, ob⟩ := ob_zero w 0 0 0 0 false ⟨#[]⟩
  rw [eb]
  have hcv := kconv1 wb c c0.out.1 c0.out.2
  obtain ⟨a0, a1, a2, a3, a4, a5⟩ := ob_cells oa
  obtain ⟨⟨o0, o1, o2, o3, o4, o5⟩, f0, f1, f2, f3, f4, f5⟩ := cells6 ob
  have KB := Lib.hid kb
  have OB := Lib.hid ob
  have ZB := Lib.hid zb
  clear eb kb zb oa ob
  clear a0 a1 a2 a3 a4 a5 o0 o1 o2 o3 o4 o5 f0 f1 f2 f3 f4 f5
  go_upto_region 5 with fail
  have hB : Below wb.heap.size wb (wb.alloc (.cells #[.int .u8 c] 5)) := (Below.refl _ wb).alloc (Nat.le_refl _) _
  have ob' := (hB.block _ (blk_lt OB.out)).trans OB.out
  have KC := Lib.hid (below_and KB.out hB)
  have OC := Lib.hid ob'
  obtain ⟨⟨o0, o1, o2, o3, o4, o5⟩, f0, f1, f2, f3, f4, f5⟩ := cells6 ob'
  clear hB ob'
  go_wp2_with fail
  (try simp only [Exit.inBlock, Exit.then])
  refine bodyPost_ret (results_cell_row rfl _ _ _ _ _ _ _ rfl (set6 OC.out _ _ _ _ _ _) Try.underlying26 rfl (by kernel_rfl)) rfl ⟨rfl, set6_below KC.out (Nat.le_succ _) _ _ _ _ _ _⟩

theorem key_num (k : Nat) (hk : k < 256) (w : World) : Calls Try.prog 35 #[.int .i64 k, zeroOb] w fun e w' => e = .returned (kNum k).val ∧ Below w.heap.size w w' := by
  obtain ⟨m, hm⟩ : ∃ m, k / 4 % 7 = m := ⟨_, rfl⟩
  have e1 : (k : Int).tdiv 4 = ((k / 4 : Nat) : Int) := by rw [Int.tdiv_eq_ediv_of_nonneg (by omega)]; omega
  have ew : IntKind.i64.wrap ((k / 4 : Nat) : Int) = ((k / 4 : Nat) : Int) := wrapi_in _ (by omega) (by omega)
  have e2 : ((k / 4 : Nat) : Int).tmod 7 = (m : Int) := by rw [Int.tmod_eq_emod_of_nonneg (by omega)]; omega
  have e3 : ∀ b : Nat, k % 4 = b → (k : Int).tmod 4 = (b : Int) := fun b hb => by rw [Int.tmod_eq_emod_of_nonneg (by omega)]; omega
  have e4 : (m : Int).tmod 2 = ((m % 2 : Nat) : Int) := by rw [Int.tmod_eq_emod_of_nonneg (by omega)]; omega
  have hx : ((((m % 2 : Nat) : Int)) == 1) = decide (m % 2 = 1) := by
    rw [Bool.eq_iff_iff, beq_iff_eq, decide_eq_true_iff]
    omega
  have e5 : IntKind.i64.wrap (97 + (m : Int)) = ((97 + m : Nat) : Int) := by rw [wrapi_in _ (by omega) (by omega)]; omega
  have e6 : IntKind.u8.wrap ((97 + m : Nat) : Int) = ((97 + m : Nat) : Int) := by
    show ((97 + m : Nat) : Int) % 256 = _
    omega
  have e7 : IntKind.i64.wrap ((m : Int) * 32768) = ((m * 32768 : Nat) : Int) := by rw [wrapi_in _ (by omega) (by omega)]; omega
  have hb : k % 4 = 0 ∨ k % 4 = 1 ∨ k % 4 = 2 ∨ k % 4 = 3 := by omega
  have hv : ∀ b, k % 4 = b → kNum k = kRaw m b (decide (m % 2 = 1)) := fun b hb => by unfold kNum; rw [hm, hb]
  rcases hb with hb | hb | hb | hb <;> rw [hv _ hb]
  · exact key_go0 k m (m % 2) _ _ _ _ _ w e1 ew e2 (e3 _ hb) rfl e4 hx e5 e6 (Lib.hid (by omega)) e7 hk
  · exact key_go1 k m (m % 2) _ _ _ _ _ w e1 ew e2 (e3 _ hb) ⟨rfl, rfl⟩ e4 hx e5 e6 (Lib.hid (by omega)) e7 hk
  · exact key_go2 k m (m % 2) _ _ _ _ _ w e1 ew e2 (e3 _ hb) ⟨rfl, rfl, rfl⟩ e4 hx e5 e6 (Lib.hid (by omega)) e7 hk
  · exact key_go3 k m (m % 2) _ _ _ _ _ w e1 ew e2 (e3 _ hb) ⟨rfl, rfl, rfl⟩ e4 hx e5 e6 (Lib.hid (by omega)) e7 hk
end Go.Proofs.Ytigboibcgpfphaa
