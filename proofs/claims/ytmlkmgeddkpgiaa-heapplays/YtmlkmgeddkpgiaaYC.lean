/- YC: U17, U18, U19, U20, U21, U22, U23, U24, U25, U26. -/
import Derived.Test.YtmlkmgeddkpgiaaYB
import Derived.Test.YtmlkmgeddkpgiaaK29
import Derived.Test.YtmlkmgeddkpgiaaXB
import Derived.BigQuiet
/- Walks of tympanref11: Put. -/
namespace Go.Proofs.Ytmlkmgeddkpgiaa
open Go.RowKit
set_option linter.unusedVariables false
set_option linter.unusedSimpArgs false

set_option maxHeartbeats 2000000 in
set_option maxRecDepth 100000 in
theorem rput_err1 (rb : Nat) (n n2 u z E i : Int) (o q : Ob) (w : World) (hE : (E != 0) = true) (hr : Hid (∀ wx, Below w.heap.size w wx → Calls Try.prog 73 #[ptr rb, obV o.k o.x n o.a o.l o.s] wx fun e w' => e = .returned (.tuple #[.int .i64 u, .int .i64 z, .int .i64 E]) ∧ Below wx.heap.size wx w')) :
    Calls Try.prog 17 #[ptr rb, obV o.k o.x n o.a o.l o.s, .int .i64 i, obV q.k q.x n2 q.a q.l q.s] w fun e w' => e = .returned (.int .i64 E) ∧ Below w.heap.size w w' := by
  go_enter Try.func17, Try.ntmps17
  go_upto_region 1 with fail
  obtain ⟨wb, eb, kb, oa, ob⟩ := two_box w o.k n o.a o.l q.k n2 q.a q.l o.x q.x o.s q.s
  rw [eb]
  have OA := Lib.hid oa
  have OB := Lib.hid ob
  have KB := Lib.hid kb
  obtain ⟨c0, c1, c2, c3, c4, c5⟩ := oa
  clear eb kb ob
  go_wp2_with fail
  refine (hr.out _ KB.out).mono ?_
  rintro e wc ⟨rfl, kc⟩
  have KC := Lib.hid (below_and KB.out kc)
  have OC := Lib.hid (OA.out.later kc)
  have PC := Lib.hid (OB.out.later kc)
  clear kc c0 c1 c2 c3 c4 c5 OA OB KB
  go_wp2
  go_ret
  exact ⟨rfl, KC.out⟩
set_option maxHeartbeats 2000000 in
set_option maxRecDepth 100000 in
theorem rput_err2 (rb : Nat) (n n2 u z u2 z2 E i : Int) (o q : Ob) (w : World) (hE : (E != 0) = true) (hr : Hid (∀ wx, Below w.heap.size w wx → Calls Try.prog 73 #[ptr rb, obV o.k o.x n o.a o.l o.s] wx fun e w' => e = .returned (.tuple #[.int .i64 u, .int .i64 z, .int .i64 0]) ∧ Below wx.heap.size wx w')) (hr2 : Hid (∀ wx, Below w.heap.size w wx → Calls Try.prog 73 #[ptr rb, obV q.k q.x n2 q.a q.l q.s] wx fun e w' => e = .returned (.tuple #[.int .i64 u2, .int .i64 z2, .int .i64 E]) ∧ Below wx.heap.size wx w')) :
    Calls Try.prog 17 #[ptr rb, obV o.k o.x n o.a o.l o.s, .int .i64 i, obV q.k q.x n2 q.a q.l q.s] w fun e w' => e = .returned (.int .i64 E) ∧ Below w.heap.size w w' := by
  go_enter Try.func17, Try.ntmps17
  go_upto_region 1 with fail
  obtain ⟨wb, eb, kb, oa, ob⟩ := two_box w o.k n o.a o.l q.k n2 q.a q.l o.x q.x o.s q.s
  rw [eb]
  have OA := Lib.hid oa
  have OB := Lib.hid ob
  have KB := Lib.hid kb
  obtain ⟨c0, c1, c2, c3, c4, c5⟩ := oa
  clear eb kb ob
  go_wp2_with fail
  refine (hr.out _ KB.out).mono ?_
  rintro e wc ⟨rfl, kc⟩
  have KC := Lib.hid (below_and KB.out kc)
  have OC := Lib.hid (OA.out.later kc)
  have PC := Lib.hid (OB.out.later kc)
  clear kc c0 c1 c2 c3 c4 c5 OA OB KB
  obtain ⟨q0, q1, q2, q3, q4, q5⟩ := PC.out
  go_wp2_with fail
  refine (hr2.out _ KC.out).mono ?_
  rintro e wd ⟨rfl, kd⟩
  have KD := Lib.hid (below_and KC.out kd)
  have OD := Lib.hid (OC.out.later kd)
  have PD := Lib.hid (PC.out.later kd)
  clear kd q0 q1 q2 q3 q4 q5 OC PC KC
  go_wp2
  go_ret
  exact ⟨rfl, KD.out⟩
set_option maxHeartbeats 2000000 in
set_option maxRecDepth 100000 in
theorem rput_no (rb : Nat) (n n2 u z u2 z2 E i d : Int) (o q : Ob) (w : World)
    (hE : ((o.k == 10) = true ∧ E = 6) ∨ ((o.k == 10) = false ∧ (o.k != q.k) = true ∧ E = 6) ∨ ((o.k == 10) = false ∧ (o.k != q.k) = false ∧ E = 12 ∧ (decide (i < 0) = true ∨ (decide (i < 0) = false ∧ decide (i > z) = true) ∨ (decide (i < 0) = false ∧ decide (i > z) = false ∧ IntKind.i64.wrap (z - i) = d ∧ decide (z2 > d) = true))))
    (hr : Hid (∀ wx, Below w.heap.size w wx → Calls Try.prog 73 #[ptr rb, obV o.k o.x n o.a o.l o.s] wx fun e w' => e = .returned (.tuple #[.int .i64 u, .int .i64 z, .int .i64 0]) ∧ Below wx.heap.size wx w')) (hr2 : Hid (∀ wx, Below w.heap.size w wx → Calls Try.prog 73 #[ptr rb, obV q.k q.x n2 q.a q.l q.s] wx fun e w' => e = .returned (.tuple #[.int .i64 u2, .int .i64 z2, .int .i64 0]) ∧ Below wx.heap.size wx w')) :
    Calls Try.prog 17 #[ptr rb, obV o.k o.x n o.a o.l o.s, .int .i64 i, obV q.k q.x n2 q.a q.l q.s] w fun e w' => e = .returned (.int .i64 E) ∧ Below w.heap.size w w' := by
  rcases hE with ⟨h1, rfl⟩ | ⟨h1, h2, rfl⟩ | ⟨h1, h2, rfl, h3 | ⟨h3, h4⟩ | ⟨h3, h4, e5, h5⟩⟩
  all_goals
    go_enter Try.func17, Try.ntmps17
    go_upto_region 1 with fail
    obtain ⟨wb, eb, kb, oa, ob⟩ := two_box w o.k n o.a o.l q.k n2 q.a q.l o.x q.x o.s q.s
    rw [eb]
    have OA := Lib.hid oa
    have OB := Lib.hid ob
    have KB := Lib.hid kb
    obtain ⟨c0, c1, c2, c3, c4, c5⟩ := oa
    clear eb kb ob
    go_wp2_with fail
    refine (hr.out _ KB.out).mono ?_
    rintro e wc ⟨rfl, kc⟩
    have KC := Lib.hid (below_and KB.out kc)
    have OC := Lib.hid (OA.out.later kc)
    have PC := Lib.hid (OB.out.later kc)
    clear kc c0 c1 c2 c3 c4 c5 OA OB KB
    obtain ⟨q0, q1, q2, q3, q4, q5⟩ := PC.out
    go_wp2_with fail
    refine (hr2.out _ KC.out).mono ?_
    rintro e wd ⟨rfl, kd⟩
    have KD := Lib.hid (below_and KC.out kd)
    have OD := Lib.hid (OC.out.later kd)
    have PD := Lib.hid (PC.out.later kd)
    clear kd q0 q1 q2 q3 q4 q5 OC PC KC
    obtain ⟨c0, c1, c2, c3, c4, c5⟩ := OD.out
    obtain ⟨q0, q1, q2, q3, q4, q5⟩ := PD.out
    go_wp2
    go_ret
    exact ⟨rfl, KD.out⟩
set_option maxHeartbeats 2000000 in
set_option maxRecDepth 100000 in
theorem rput_locked (rb g zc cap n n2 : Nat) (u z u2 z2 i d : Int) (o q : Ob) (w : World) (hn : n < zc) (h0 : w.cell? ⟨rb, 0, none⟩ = some (.slice (some ⟨g, 0, none⟩) zc cap)) (d3 : w.cell? ⟨g, n * 4 + 3, none⟩ = some (.bool true)) (h1 : (o.k == 10) = false) (h2 : (o.k != q.k) = false) (h3 : decide (i < 0) = false) (h4 : decide (i > z) = false) (e5 : IntKind.i64.wrap (z - i) = d) (h5 : decide (z2 > d) = false)
    (hr : Hid (∀ wx, Below w.heap.size w wx → Calls Try.prog 73 #[ptr rb, obV o.k o.x n o.a o.l o.s] wx fun e w' => e = .returned (.tuple #[.int .i64 u, .int .i64 z, .int .i64 0]) ∧ Below wx.heap.size wx w')) (hr2 : Hid (∀ wx, Below w.heap.size w wx → Calls Try.prog 73 #[ptr rb, obV q.k q.x n2 q.a q.l q.s] wx fun e w' => e = .returned (.tuple #[.int .i64 u2, .int .i64 z2, .int .i64 0]) ∧ Below wx.heap.size wx w')) :
    Calls Try.prog 17 #[ptr rb, obV o.k o.x n o.a o.l o.s, .int .i64 i, obV q.k q.x n2 q.a q.l q.s] w fun e w' => e = .returned (.int .i64 1) ∧ Below w.heap.size w w' := by
  have t0 : (0 : Int) ≤ n := by omega
  have t1 : (n : Int) < zc := by omega
  have DD : Hid (w.cell? ⟨rb, 0, none⟩ = some (.slice (some ⟨g, 0, none⟩) zc cap) ∧ w.cell? ⟨g, n * 4 + 3, none⟩ = some (.bool true)) := Lib.hid ⟨h0, d3⟩
  clear h0 d3 hn
  go_enter Try.func17, Try.ntmps17
  go_upto_region 1 with fail
  obtain ⟨wb, eb, kb, oa, ob⟩ := two_box w o.k n o.a o.l q.k n2 q.a q.l o.x q.x o.s q.s
  rw [eb]
  have OA := Lib.hid oa
  have OB := Lib.hid ob
  have KB := Lib.hid kb
  obtain ⟨c0, c1, c2, c3, c4, c5⟩ := oa
  clear eb kb ob
  go_wp2_with fail
  refine (hr.out _ KB.out).mono ?_
  rintro e wc ⟨rfl, kc⟩
  have KC := Lib.hid (below_and KB.out kc)
  have OC := Lib.hid (OA.out.later kc)
  have PC := Lib.hid (OB.out.later kc)
  clear kc c0 c1 c2 c3 c4 c5 OA OB KB
  obtain ⟨q0, q1, q2, q3, q4, q5⟩ := PC.out
  go_wp2_with fail
  refine (hr2.out _ KC.out).mono ?_
  rintro e wd ⟨rfl, kd⟩
  have KD := Lib.hid (below_and KC.out kd)
  have OD := Lib.hid (OC.out.later kd)
  have PD := Lib.hid (PC.out.later kd)
  clear kd q0 q1 q2 q3 q4 q5 OC PC KC
  obtain ⟨c0, c1, c2, c3, c4, c5⟩ := OD.out
  obtain ⟨q0, q1, q2, q3, q4, q5⟩ := PD.out
  have e0 := cell_later KD.out DD.out.1
  have e3 := cell_later KD.out DD.out.2
  go_upto_region 11 with fail
  go_quiet (fail)
  go_wp2
  go_ret
  exact ⟨rfl, below_and KD.out (below_drewN _ _)⟩
set_option maxHeartbeats 2000000 in
set_option maxRecDepth 100000 in
theorem rput_items (rb g zc cap n n2 : Nat) (u z u2 z2 i d : Int) (o q : Ob) (w : World) (hn : n < zc) (h0 : w.cell? ⟨rb, 0, none⟩ = some (.slice (some ⟨g, 0, none⟩) zc cap)) (d3 : w.cell? ⟨g, n * 4 + 3, none⟩ = some (.bool false)) (h1 : (o.k == 10) = false) (h2 : (o.k != q.k) = false) (h3 : decide (i < 0) = false) (h4 : decide (i > z) = false) (e5 : IntKind.i64.wrap (z - i) = d) (h5 : decide (z2 > d) = false)
    (hk8 : (o.k == 8) = false) (hgl : g < w.heap.size) (n2lt : n2 < zc) (its its2 : List Ob) (it it2 V2 : Value) (j hi : Int) (d1 : w.cell? ⟨g, n * 4 + 1, none⟩ = some it) (d2 : w.cell? ⟨g, n2 * 4 + 1, none⟩ = some it2) (f1 : w.frozen? ⟨g, n * 4 + 1, none⟩ = false) (e6 : IntKind.i64.wrap (u + i) = j) (e7 : IntKind.i64.wrap (u2 + z2) = hi)
    (hsl : ∀ w : World, (Instr.slice 33 it2 (some (.int .i64 u2)) (some (.int .i64 hi)) none).run Try.prog w = .ok V2 w)
    (happ : Hid (∀ wx ty, Below w.heap.size w wx → ∃ v' w', (Builtin.append_ #[33, 33] ty #[.slice none 0 0, it]).run Try.prog wx = .ok v' w' ∧ ItemsOf wx its v' w'))
    (hcp : Hid (∀ wx v1 w1 ty, Below w.heap.size w wx → ItemsOf wx its v1 w1 → ∃ V1 cnt w2, (∀ w', (Instr.slice 33 v1 (some (.int .i64 j)) none none).run Try.prog w' = .ok V1 w') ∧ (Builtin.copy_ #[33, 33] ty #[V1, V2]).run Try.prog w1.drew = .ok cnt w2 ∧ ItemsOf wx its2 v1 w2))
    (hr : Hid (∀ wx, Below w.heap.size w wx → Calls Try.prog 73 #[ptr rb, obV o.k o.x n o.a o.l o.s] wx fun e w' => e = .returned (.tuple #[.int .i64 u, .int .i64 z, .int .i64 0]) ∧ Below wx.heap.size wx w')) (hr2 : Hid (∀ wx, Below w.heap.size w wx → Calls Try.prog 73 #[ptr rb, obV q.k q.x n2 q.a q.l q.s] wx fun e w' => e = .returned (.tuple #[.int .i64 u2, .int .i64 z2, .int .i64 0]) ∧ Below wx.heap.size wx w')) :
    Calls Try.prog 17 #[ptr rb, obV o.k o.x n o.a o.l o.s, .int .i64 i, obV q.k q.x n2 q.a q.l q.s] w fun e w' => e = .returned (.int .i64 0) ∧ ∃ wx v1 w2, Below w.heap.size w wx ∧ ItemsOf wx its2 v1 w2 ∧ w' = w2.drew.setCell ⟨g, n * 4 + 1, none⟩ v1 := by
  have s0 : (0 : Int) ≤ n2 := by omega
  have s1 : (n2 : Int) < zc := by omega
  have D1 := Lib.hid d1
  have D2 := Lib.hid d2
  have F1 := Lib.hid f1
  clear d1 d2 f1 n2lt
  have t0 : (0 : Int) ≤ n := by omega
  have t1 : (n : Int) < zc := by omega
  have DD : Hid (w.cell? ⟨rb, 0, none⟩ = some (.slice (some ⟨g, 0, none⟩) zc cap) ∧ w.cell? ⟨g, n * 4 + 3, none⟩ = some (.bool false)) := Lib.hid ⟨h0, d3⟩
  clear h0 d3 hn
  go_enter Try.func17, Try.ntmps17
  go_upto_region 1 with fail
  obtain ⟨wb, eb, kb, oa, ob⟩ := two_box w o.k n o.a o.l q.k n2 q.a q.l o.x q.x o.s q.s
  rw [eb]
  have OA := Lib.hid oa
  have OB := Lib.hid ob
  have KB := Lib.hid kb
  obtain ⟨c0, c1, c2, c3, c4, c5⟩ := oa
  clear eb kb ob
  go_wp2_with fail
  refine (hr.out _ KB.out).mono ?_
  rintro e wc ⟨rfl, kc⟩
  have KC := Lib.hid (below_and KB.out kc)
  have OC := Lib.hid (OA.out.later kc)
  have PC := Lib.hid (OB.out.later kc)
  clear kc c0 c1 c2 c3 c4 c5 OA OB KB
  obtain ⟨q0, q1, q2, q3, q4, q5⟩ := PC.out
  go_wp2_with fail
  refine (hr2.out _ KC.out).mono ?_
  rintro e wd ⟨rfl, kd⟩
  have KD := Lib.hid (below_and KC.out kd)
  have OD := Lib.hid (OC.out.later kd)
  have PD := Lib.hid (PC.out.later kd)
  clear kd q0 q1 q2 q3 q4 q5 OC PC KC
  obtain ⟨c0, c1, c2, c3, c4, c5⟩ := OD.out
  obtain ⟨q0, q1, q2, q3, q4, q5⟩ := PD.out
  have e0 := cell_later KD.out DD.out.1
  have e3 := cell_later KD.out DD.out.2
  go_upto_region 11 with fail
  go_quiet (fail)
  go_upto_region 18 with fail
  have KE : Hid (Below w.heap.size w (wd.drewN nq)) := Lib.hid (below_and KD.out (below_drewN _ _))
  have OE := Lib.hid (OD.out.later (below_drewN wd nq))
  have PE := Lib.hid (PD.out.later (below_drewN wd nq))
  clear c0 c1 c2 c3 c4 c5 q0 q1 q2 q3 q4 q5 e0 e3
  generalize wd.drewN nq = we at KE OE PE ⊢
  obtain ⟨c0, c1, c2, c3, c4, c5⟩ := OE.out
  have e0 := cell_later KE.out DD.out.1
  have e1 := cell_later KE.out D1.out
  go_still_tail 9, (by kernel_rfl)
  change wpList _ _ _ _ _ we.drew
  have KF := Lib.hid (KE.out.drew)
  have OF := Lib.hid (OE.out.later (Below.refl _ _).drew)
  have PF := Lib.hid (PE.out.later (Below.refl _ _).drew)
  clear c0 c1 c2 c3 c4 c5 e0 e1 KE OE PE
  generalize we.drew = wf at KF OF PF ⊢
  refine wpList_append_ex rfl _ _ 33 rfl (.slice none 0 0) it rfl rfl _ (happ.out wf _ KF.out) ?_
  intro v1 w1 hI
  obtain ⟨pv, cv, rfl, _⟩ := owns_cap hI.own
  have HI := Lib.hid hI
  clear hI
  obtain ⟨V1, cnt, w2, hs1, hrun, hI2⟩ := hcp.out wf _ w1 3 KF.out HI.out
  have HI2 := Lib.hid hI2
  have HR := Lib.hid hrun
  clear hI2 hrun
  go_wp2_with fail
  have K1 := Lib.hid (below_and KF.out HI.out.below)
  obtain ⟨c0, c1, c2, c3, c4, c5⟩ := OF.out.later HI.out.below
  obtain ⟨q0, q1, q2, q3, q4, q5⟩ := PF.out.later HI.out.below
  have e0 := cell_later K1.out DD.out.1
  have e1 := cell_later K1.out D2.out
  go_still_tail 19, (by kernel_rfl)
  refine wpList_copy_run rfl _ _ 33 33 rfl V1 V2 rfl rfl cnt w2 HR.out ?_
  have K2 := Lib.hid (below_and KF.out HI2.out.below)
  clear c0 c1 c2 c3 c4 c5 q0 q1 q2 q3 q4 q5 e0 e1 hs1
  obtain ⟨c0, c1, c2, c3, c4, c5⟩ := OF.out.later HI2.out.below
  have e0 := cell_later K2.out DD.out.1
  have e1 := cell_later K2.out D1.out
  go_upto_region 20 with fail
  go_still_tail 9, (by kernel_rfl)
  change wpList _ _ _ _ _ w2.drew
  have e2 : w2.drew.cell? ⟨g, n * 4 + 1, none⟩ = some it := e1
  have f2 : w2.drew.frozen? ⟨g, n * 4 + 1, none⟩ = false := by
    show w2.frozen? _ = false
    rw [World.frozen?_of_block (w := w) (a := ⟨g, n * 4 + 1, none⟩) (K2.out.block g hgl)]
    exact F1.out
  clear c0 c1 c2 c3 c4 c5 e0 e1
  obtain ⟨w3, ew3⟩ : ∃ w3, w2.drew = w3 := ⟨_, rfl⟩
  have EW3 := Lib.hid ew3
  rw [ew3] at e2 f2 ⊢
  clear ew3
  go_wp2
  go_ret
  exact ⟨rfl, wf, _, w2, KF.out, HI2.out, by rw [EW3.out]⟩
set_option maxHeartbeats 2000000 in
set_option maxRecDepth 100000 in
theorem rput_bytes (rb g zc cap n n2 : Nat) (u z u2 z2 i d : Int) (o q : Ob) (w : World) (hn : n < zc) (h0 : w.cell? ⟨rb, 0, none⟩ = some (.slice (some ⟨g, 0, none⟩) zc cap)) (d3 : w.cell? ⟨g, n * 4 + 3, none⟩ = some (.bool false)) (h1 : (o.k == 10) = false) (h2 : (o.k != q.k) = false) (h3 : decide (i < 0) = false) (h4 : decide (i > z) = false) (e5 : IntKind.i64.wrap (z - i) = d) (h5 : decide (z2 > d) = false)
    (hk8 : (o.k == 8) = true) (hgl : g < w.heap.size) (n2lt : n2 < zc) (its its2 : List UInt8) (it it2 V2 : Value) (j hi : Int) (d1 : w.cell? ⟨g, n * 4 + 2, none⟩ = some it) (d2 : w.cell? ⟨g, n2 * 4 + 2, none⟩ = some it2) (f1 : w.frozen? ⟨g, n * 4 + 2, none⟩ = false) (e6 : IntKind.i64.wrap (u + i) = j) (e7 : IntKind.i64.wrap (u2 + z2) = hi)
    (hsl : ∀ w : World, (Instr.slice 108 it2 (some (.int .i64 u2)) (some (.int .i64 hi)) none).run Try.prog w = .ok V2 w)
    (happ : Hid (∀ wx ty, Below w.heap.size w wx → ∃ v' w', (Builtin.append_ #[108, 108] ty #[.slice none 0 0, it]).run Try.prog wx = .ok v' w' ∧ CopyB its wx v' w'))
    (hcp : Hid (∀ wx v1 w1 ty, Below w.heap.size w wx → CopyB its wx v1 w1 → ∃ V1 cnt w2, (∀ w', (Instr.slice 108 v1 (some (.int .i64 j)) none none).run Try.prog w' = .ok V1 w') ∧ (Builtin.copy_ #[108, 108] ty #[V1, V2]).run Try.prog w1.drew = .ok cnt w2 ∧ CopyB its2 wx v1 w2))
    (hr : Hid (∀ wx, Below w.heap.size w wx → Calls Try.prog 73 #[ptr rb, obV o.k o.x n o.a o.l o.s] wx fun e w' => e = .returned (.tuple #[.int .i64 u, .int .i64 z, .int .i64 0]) ∧ Below wx.heap.size wx w')) (hr2 : Hid (∀ wx, Below w.heap.size w wx → Calls Try.prog 73 #[ptr rb, obV q.k q.x n2 q.a q.l q.s] wx fun e w' => e = .returned (.tuple #[.int .i64 u2, .int .i64 z2, .int .i64 0]) ∧ Below wx.heap.size wx w')) :
    Calls Try.prog 17 #[ptr rb, obV o.k o.x n o.a o.l o.s, .int .i64 i, obV q.k q.x n2 q.a q.l q.s] w fun e w' => e = .returned (.int .i64 0) ∧ ∃ wx v1 w2, Below w.heap.size w wx ∧ CopyB its2 wx v1 w2 ∧ w' = w2.drew.setCell ⟨g, n * 4 + 2, none⟩ v1 := by
  have s0 : (0 : Int) ≤ n2 := by omega
  have s1 : (n2 : Int) < zc := by omega
  have D1 := Lib.hid d1
  have D2 := Lib.hid d2
  have F1 := Lib.hid f1
  clear d1 d2 f1 n2lt
  have t0 : (0 : Int) ≤ n := by omega
  have t1 : (n : Int) < zc := by omega
  have DD : Hid (w.cell? ⟨rb, 0, none⟩ = some (.slice (some ⟨g, 0, none⟩) zc cap) ∧ w.cell? ⟨g, n * 4 + 3, none⟩ = some (.bool false)) := Lib.hid ⟨h0, d3⟩
  clear h0 d3 hn
  go_enter Try.func17, Try.ntmps17
  go_upto_region 1 with fail
  obtain ⟨wb, eb, kb, oa, ob⟩ := two_box w o.k n o.a o.l q.k n2 q.a q.l o.x q.x o.s q.s
  rw [eb]
  have OA := Lib.hid oa
  have OB := Lib.hid ob
  have KB := Lib.hid kb
  obtain ⟨c0, c1, c2, c3, c4, c5⟩ := oa
  clear eb kb ob
  go_wp2_with fail
  refine (hr.out _ KB.out).mono ?_
  rintro e wc ⟨rfl, kc⟩
  have KC := Lib.hid (below_and KB.out kc)
  have OC := Lib.hid (OA.out.later kc)
  have PC := Lib.hid (OB.out.later kc)
  clear kc c0 c1 c2 c3 c4 c5 OA OB KB
  obtain ⟨q0, q1, q2, q3, q4, q5⟩ := PC.out
  go_wp2_with fail
  refine (hr2.out _ KC.out).mono ?_
  rintro e wd ⟨rfl, kd⟩
  have KD := Lib.hid (below_and KC.out kd)
  have OD := Lib.hid (OC.out.later kd)
  have PD := Lib.hid (PC.out.later kd)
  clear kd q0 q1 q2 q3 q4 q5 OC PC KC
  obtain ⟨c0, c1, c2, c3, c4, c5⟩ := OD.out
  obtain ⟨q0, q1, q2, q3, q4, q5⟩ := PD.out
  have e0 := cell_later KD.out DD.out.1
  have e3 := cell_later KD.out DD.out.2
  go_upto_region 11 with fail
  go_quiet (fail)
  go_upto_region 14 with fail
  have KE : Hid (Below w.heap.size w (wd.drewN nq)) := Lib.hid (below_and KD.out (below_drewN _ _))
  have OE := Lib.hid (OD.out.later (below_drewN wd nq))
  have PE := Lib.hid (PD.out.later (below_drewN wd nq))
  clear c0 c1 c2 c3 c4 c5 q0 q1 q2 q3 q4 q5 e0 e3
  generalize wd.drewN nq = we at KE OE PE ⊢
  obtain ⟨c0, c1, c2, c3, c4, c5⟩ := OE.out
  have e0 := cell_later KE.out DD.out.1
  have e1 := cell_later KE.out D1.out
  go_still_tail 9, (by kernel_rfl)
  change wpList _ _ _ _ _ we.drew
  have KF := Lib.hid (KE.out.drew)
  have OF := Lib.hid (OE.out.later (Below.refl _ _).drew)
  have PF := Lib.hid (PE.out.later (Below.refl _ _).drew)
  clear c0 c1 c2 c3 c4 c5 e0 e1 KE OE PE
  generalize we.drew = wf at KF OF PF ⊢
  refine wpList_append_ex rfl _ _ 108 rfl (.slice none 0 0) it rfl rfl _ (happ.out wf _ KF.out) ?_
  intro v1 w1 hI
  obtain ⟨pv, cv, rfl, _⟩ := owns_cap hI.own
  have HI := Lib.hid hI
  clear hI
  obtain ⟨V1, cnt, w2, hs1, hrun, hI2⟩ := hcp.out wf _ w1 3 KF.out HI.out
  have HI2 := Lib.hid hI2
  have HR := Lib.hid hrun
  clear hI2 hrun
  go_wp2_with fail
  have K1 := Lib.hid (below_and KF.out HI.out.below)
  obtain ⟨c0, c1, c2, c3, c4, c5⟩ := OF.out.later HI.out.below
  obtain ⟨q0, q1, q2, q3, q4, q5⟩ := PF.out.later HI.out.below
  have e0 := cell_later K1.out DD.out.1
  have e1 := cell_later K1.out D2.out
  go_still_tail 19, (by kernel_rfl)
  refine wpList_copy_run rfl _ _ 108 108 rfl V1 V2 rfl rfl cnt w2 HR.out ?_
  have K2 := Lib.hid (below_and KF.out HI2.out.below)
  clear c0 c1 c2 c3 c4 c5 q0 q1 q2 q3 q4 q5 e0 e1 hs1
  obtain ⟨c0, c1, c2, c3, c4, c5⟩ := OF.out.later HI2.out.below
  have e0 := cell_later K2.out DD.out.1
  have e1 := cell_later K2.out D1.out
  go_upto_region 16 with fail
  go_still_tail 9, (by kernel_rfl)
  change wpList _ _ _ _ _ w2.drew
  have e2 : w2.drew.cell? ⟨g, n * 4 + 2, none⟩ = some it := e1
  have f2 : w2.drew.frozen? ⟨g, n * 4 + 2, none⟩ = false := by
    show w2.frozen? _ = false
    rw [World.frozen?_of_block (w := w) (a := ⟨g, n * 4 + 2, none⟩) (K2.out.block g hgl)]
    exact F1.out
  clear c0 c1 c2 c3 c4 c5 e0 e1
  obtain ⟨w3, ew3⟩ : ∃ w3, w2.drew = w3 := ⟨_, rfl⟩
  have EW3 := Lib.hid ew3
  rw [ew3] at e2 f2 ⊢
  clear ew3
  go_wp2
  go_ret
  exact ⟨rfl, wf, _, w2, KF.out, HI2.out, by rw [EW3.out]⟩
end Go.Proofs.Ytmlkmgeddkpgiaa

/- tympanref11: Put, whatever is asked. -/
namespace Go.Proofs.Ytmlkmgeddkpgiaa
open Go.RowKit
set_option linter.unusedVariables false

theorem slice33_l (p : Option Addr) (z cap lo : Nat) (h1 : lo ≤ z) (w : World) :
    (Instr.slice 33 (.slice p z cap) (some (.int .i64 lo)) none none).run Try.prog w = .ok (.slice (if cap = lo then p else p.map (·.add (lo * 6))) (z - lo) (cap - lo)) w := by
  have hs : (sizeOf (Try.prog.elem 33)).run Try.prog w = .ok 6 w := by kernel_rfl
  rw [run_slice_l w 33 p z cap (by kernel_rfl) .i64 lo (by omega) (by omega), hs]
  simp [sliced]
/-- A row has been made anew and laid in the n-th cell. -/
theorem RH.newI {own : Nat → Prop} {rb g cap n base : Nat} {R : List RC} {r : RC} {w w2 : World} {v1 : Value} {its : List Ob} (h : RH own rb (.slice (some ⟨g, 0, none⟩) R.length cap) R w) (ho : ∀ b, own b → b < w.heap.size) (hr : R[n]? = some r) (hg : g ≠ rb) (hl : its.length = r.c.it.length) (hk : r.c.k = 9 ∨ r.c.k = 10) (hb : r.c.bs = [])
    (k2 : Below w.heap.size w w2) (hown : w2.ownsRow base 24 6 v1 its.length (obCells its)) (hbase : w.heap.size ≤ base) :
    RH (Plus own w (w2.drew.setCell ⟨g, n * 4 + 1, none⟩ v1)) rb (.slice (some ⟨g, 0, none⟩) R.length cap) (R.set n ⟨{ r.c with it := its }, v1, r.bs⟩) (w2.drew.setCell ⟨g, n * 4 + 1, none⟩ v1) ∧ Kept (fun b => b < w.heap.size ∧ b ≠ g) w (w2.drew.setCell ⟨g, n * 4 + 1, none⟩ v1) := by
  have hgl : g < w.heap.size := own_lt h rfl
  obtain ⟨w4, ew4⟩ : ∃ w4, w2.drew.setCell ⟨g, n * 4 + 1, none⟩ v1 = w4 := ⟨_, rfl⟩
  have on : Only g w2.drew w4 := by rw [← ew4]; exact (Only.refl _ _).set _ _
  have hs : w.heap.size ≤ w4.heap.size := by rw [on.size]; exact k2.size
  have old : ∀ b, b < w.heap.size → b ≠ g → w4.heap[b]? = w.heap[b]? := fun b hb q => (on.block b q).trans (k2.block b hb)
  obtain ⟨_, _, ev, _, _, _, d0, d1, d2, d3⟩ := h.at hr
  injection ev with ev1 ev2 ev3
  injection ev1 with ev1
  injection ev1 with ev1 _ _
  subst ev1 ev3
  have cg : ∀ t, w2.drew.cell? ⟨g, t, none⟩ = w.cell? ⟨g, t, none⟩ := fun t => World.cell?_of_block (w := w) (a := ⟨g, t, none⟩) (k2.block g hgl)
  have cs : w4.cell? ⟨g, n * 4 + 1, none⟩ = some v1 := by
    rw [← ew4]
    exact World.cell?_setCell_same _ _ _ (by rw [cg]; exact d1)
  have co : ∀ t, t ≠ n * 4 + 1 → w4.cell? ⟨g, t, none⟩ = w.cell? ⟨g, t, none⟩ := fun t ht => by
    rw [← ew4, World.cell?_setCell_other _ _ _ _ (by simp <;> omega)]
    exact cg t
  have fx : ∀ b, Im own rb (.slice (some ⟨g, 0, none⟩) R.length cap) b → b < w.heap.size → Im (Plus own w w4) rb (.slice (some ⟨g, 0, none⟩) R.length cap) b ∧ w4.heap[b]? = w.heap[b]? := fun b q hb => ⟨⟨.inl q.1, q.2.1, q.2.2⟩, old b hb fun e => q.2.2 (by rw [e]; rfl)⟩
  have hown4 : w4.ownsRow base 24 6 v1 its.length (obCells its) := owns_at hown fun b e => by
    have := (hown.lt b e).1
    exact on.block b (by omega)
  have rr : rowC w4 (Im (Plus own w w4) rb (.slice (some ⟨g, 0, none⟩) R.length cap)) v1 its.length (obCells its) := rowC_of_owns hown4 (fun b e => by
    have hb := hown4.lt b e
    exact ⟨.inr ⟨by omega, hb.2⟩, by have := blk_lt h.hdr; omega, fun q => by have := own_eq q; omega⟩) (fun e => by rw [List.eq_nil_of_length_eq_zero e]; rfl)
  rw [ew4]
  refine ⟨h.put ho hr hg _ hs old (fun t ht => ?_) (fun t ht => co t (by omega)) (fun t => ?_) ⟨rr, (h.sub n r hr).2.same hs fx⟩ (by simp [Cel.size, hl]) (.inr ⟨hk, hb⟩), ?_⟩
  · match t, ht with
    | 0, _ => exact (co _ (by omega)).trans d0
    | 1, _ => exact cs
    | 2, _ => exact (co _ (by omega)).trans d2
    | 3, _ => exact (co _ (by omega)).trans d3
  · rw [← ew4, World.frozen?_setCell]
    show w2.frozen? _ = false
    rw [World.frozen?_of_block (w := w) (a := ⟨g, t, none⟩) (k2.block g hgl)]
    exact h.free g rfl t
  · exact ⟨on.os.trans k2.os, on.tape.trans k2.tape, on.output.trans k2.output, hs, fun b q => old b q.1 q.2⟩
/-- A row has been made anew and laid in the n-th cell. -/
theorem RH.newB {own : Nat → Prop} {rb g cap n base : Nat} {R : List RC} {r : RC} {w w2 : World} {v1 : Value} {its : List UInt8} (h : RH own rb (.slice (some ⟨g, 0, none⟩) R.length cap) R w) (ho : ∀ b, own b → b < w.heap.size) (hr : R[n]? = some r) (hg : g ≠ rb) (hl : its.length = r.c.bs.length) (hk : r.c.k = 8) (hb : r.c.it = [])
    (k2 : Below w.heap.size w w2) (hown : w2.ownsRow base 5 1 v1 its.length (byCells its)) (hbase : w.heap.size ≤ base) :
    RH (Plus own w (w2.drew.setCell ⟨g, n * 4 + 2, none⟩ v1)) rb (.slice (some ⟨g, 0, none⟩) R.length cap) (R.set n ⟨{ r.c with bs := its }, r.it, v1⟩) (w2.drew.setCell ⟨g, n * 4 + 2, none⟩ v1) ∧ Kept (fun b => b < w.heap.size ∧ b ≠ g) w (w2.drew.setCell ⟨g, n * 4 + 2, none⟩ v1) := by
  have hgl : g < w.heap.size := own_lt h rfl
  obtain ⟨w4, ew4⟩ : ∃ w4, w2.drew.setCell ⟨g, n * 4 + 2, none⟩ v1 = w4 := ⟨_, rfl⟩
  have on : Only g w2.drew w4 := by rw [← ew4]; exact (Only.refl _ _).set _ _
  have hs : w.heap.size ≤ w4.heap.size := by rw [on.size]; exact k2.size
  have old : ∀ b, b < w.heap.size → b ≠ g → w4.heap[b]? = w.heap[b]? := fun b hb q => (on.block b q).trans (k2.block b hb)
  obtain ⟨_, _, ev, _, _, _, d0, d1, d2, d3⟩ := h.at hr
  injection ev with ev1 ev2 ev3
  injection ev1 with ev1
  injection ev1 with ev1 _ _
  subst ev1 ev3
  have cg : ∀ t, w2.drew.cell? ⟨g, t, none⟩ = w.cell? ⟨g, t, none⟩ := fun t => World.cell?_of_block (w := w) (a := ⟨g, t, none⟩) (k2.block g hgl)
  have cs : w4.cell? ⟨g, n * 4 + 2, none⟩ = some v1 := by
    rw [← ew4]
    exact World.cell?_setCell_same _ _ _ (by rw [cg]; exact d2)
  have co : ∀ t, t ≠ n * 4 + 2 → w4.cell? ⟨g, t, none⟩ = w.cell? ⟨g, t, none⟩ := fun t ht => by
    rw [← ew4, World.cell?_setCell_other _ _ _ _ (by simp <;> omega)]
    exact cg t
  have fx : ∀ b, Im own rb (.slice (some ⟨g, 0, none⟩) R.length cap) b → b < w.heap.size → Im (Plus own w w4) rb (.slice (some ⟨g, 0, none⟩) R.length cap) b ∧ w4.heap[b]? = w.heap[b]? := fun b q hb => ⟨⟨.inl q.1, q.2.1, q.2.2⟩, old b hb fun e => q.2.2 (by rw [e]; rfl)⟩
  have hown4 : w4.ownsRow base 5 1 v1 its.length (byCells its) := owns_at hown fun b e => by
    have := (hown.lt b e).1
    exact on.block b (by omega)
  have rr : rowC w4 (Im (Plus own w w4) rb (.slice (some ⟨g, 0, none⟩) R.length cap)) v1 its.length (byCells its) := rowC_of_owns hown4 (fun b e => by
    have hb := hown4.lt b e
    exact ⟨.inr ⟨by omega, hb.2⟩, by have := blk_lt h.hdr; omega, fun q => by have := own_eq q; omega⟩) (fun e => by rw [List.eq_nil_of_length_eq_zero e]; rfl)
  rw [ew4]
  refine ⟨h.put ho hr hg _ hs old (fun t ht => ?_) (fun t ht => co t (by omega)) (fun t => ?_) ⟨(h.sub n r hr).1.same hs fx, rr⟩ (by simp [Cel.size, hl]) (.inl ⟨hk, hb⟩), ?_⟩
  · match t, ht with
    | 0, _ => exact (co _ (by omega)).trans d0
    | 1, _ => exact (co _ (by omega)).trans d1
    | 2, _ => exact cs
    | 3, _ => exact (co _ (by omega)).trans d3
  · rw [← ew4, World.frozen?_setCell]
    show w2.frozen? _ = false
    rw [World.frozen?_of_block (w := w) (a := ⟨g, t, none⟩) (k2.block g hgl)]
    exact h.free g rfl t
  · exact ⟨on.os.trans k2.os, on.tape.trans k2.tape, on.output.trans k2.output, hs, fun b q => old b q.1 q.2⟩
section
variable {own : Nat → Prop} {rb : Nat} {v : Value} {R : List RC} {w : World}
/-- copy into a new row of objects. -/
theorem copy_into {wx w1 : World} {v1 : Value} {its : List Ob} {I : Nat → Prop} {p2 : Option Addr} {z2 c2 : Nat} {its2 : List Ob} (hI : ItemsOf wx its v1 w1) (j lo m : Nat) (hj : j + m ≤ its.length) (hz : its2.length = z2) (hlm : lo + m ≤ z2) (hrow : rowC w1.drew I (.slice p2 z2 c2) z2 (obCells its2)) (ty : TypeId) :
    ∃ V1 cnt w2, (∀ w', (Instr.slice 33 v1 (some (.int .i64 j)) none none).run Try.prog w' = .ok V1 w') ∧ (Builtin.copy_ #[33, 33] ty #[V1, .slice (if c2 = lo then p2 else p2.map (·.add (lo * 6))) m (c2 - lo)]).run Try.prog w1.drew = .ok cnt w2 ∧ ItemsOf wx (putI its j ((its2.drop lo).take m)) v1 w2 := by
  obtain ⟨p1, c1, rfl, hc1⟩ := owns_cap hI.own
  have hlen : ((its2.drop lo).take m).length = m := by simp; omega
  by_cases hm : m = 0
  · subst hm
    refine ⟨_, _, _, slice33_l p1 its.length c1 j (by omega), copy0O _ _ _ _ _ _ _ ?_, ?_⟩
    · by_cases hz0 : its.length = 0
      · exact .inl (by omega)
      · obtain ⟨g, cap, e, _⟩ := hI.own.form (by omega)
        injection e with e1 _ _
        subst e1
        right
        split
        · exact ⟨_, rfl⟩
        · exact ⟨_, rfl⟩
    · rw [show (its2.drop lo).take 0 = [] from List.take_zero, putI]
      exact ⟨owns_at hI.own fun b _ => rfl, hI.below.drew⟩
  · obtain ⟨g, cap, e, hgx, hgl⟩ := hI.own.form (by omega)
    injection e with e1 _ e3
    subst e1
    rcases hrow with ⟨q, q2, _⟩ | ⟨g3, cap3, q, q2, _, _, hc⟩
    · omega
    · injection q with w1' w2' w3'
      subst w1' w3'
      have hown : w1.drew.ownsRow wx.heap.size 24 6 (.slice (some ⟨g, 0, none⟩) its.length c1) its.length (obCells its) := owns_at hI.own fun b _ => rfl
      have E0 := owns_put (obCells ((its2.drop lo).take m)) (j * 6) w1.drew _ hown
      have hcell : ∀ t, t < its.length * 6 → ∃ u, w1.drew.cell? ⟨g, t, none⟩ = some u := fun t ht => by
        obtain ⟨u, hu⟩ : ∃ u, (obCells its)[t]? = some u := ⟨_, List.getElem?_eq_getElem (by rw [obCells_length]; exact ht)⟩
        have := hown.cells rfl t u hu
        rw [Addr.add_mid, Nat.zero_add] at this
        exact ⟨u, this⟩
      refine ⟨_, goInt m, w1.drew.setCells g (j * 6) (obCells ((its2.drop lo).take m)), slice33_l (some ⟨g, 0, none⟩) its.length c1 j (by omega), ?_, ?_⟩
      · rw [if_neg (by omega), if_neg (by omega)]
        simp only [Option.map_some, Addr.add_mid, Nat.zero_add]
        exact run_copyO w1.drew ty g (j * 6) _ _ ⟨g3, lo * 6, none⟩ m _ ((its2.drop lo).take m) hlen (by omega) (fun t u ht => by rw [Addr.add_mid]; exact hc _ _ (obCells_mid ht)) (fun t ht => ⟨by
          obtain ⟨u, hu⟩ := hcell (j * 6 + t) (by omega)
          rw [hu]
          rfl, hown.frozenAt _⟩)
      · rw [obCells_putI _ _ _ (by rw [hlen]; exact hj)] at E0
        exact ⟨by rw [putI_length]; exact E0.1, E0.2.below hI.below.drew hgx⟩
theorem copy_intoB {wx w1 : World} {v1 : Value} {its : List UInt8} {I : Nat → Prop} {p2 : Option Addr} {z2 c2 : Nat} {its2 : List UInt8} (hI : CopyB its wx v1 w1) (j lo m : Nat) (hj : j + m ≤ its.length) (hz : its2.length = z2) (hlm : lo + m ≤ z2) (hrow : rowC w1.drew I (.slice p2 z2 c2) z2 (byCells its2)) (ty : TypeId) :
    ∃ V1 cnt w2, (∀ w', (Instr.slice 108 v1 (some (.int .i64 j)) none none).run Try.prog w' = .ok V1 w') ∧ (Builtin.copy_ #[108, 108] ty #[V1, .slice (if c2 = lo then p2 else p2.map (·.add lo)) m (c2 - lo)]).run Try.prog w1.drew = .ok cnt w2 ∧ CopyB (putB its j ((its2.drop lo).take m)) wx v1 w2 := by
  obtain ⟨p1, c1, rfl, hc1⟩ := owns_cap hI.own
  have hlen : ((its2.drop lo).take m).length = m := by simp; omega
  by_cases hm : m = 0
  · subst hm
    refine ⟨_, _, _, slice58_l p1 its.length c1 j (by omega), copy0B _ _ _ _ _ _ _ ?_, ?_⟩
    · by_cases hz0 : its.length = 0
      · exact .inl (by omega)
      · obtain ⟨g, cap, e, _⟩ := hI.own.form (by omega)
        injection e with e1 _ _
        subst e1
        right
        split
        · exact ⟨_, rfl⟩
        · exact ⟨_, rfl⟩
    · rw [show (its2.drop lo).take 0 = [] from List.take_zero, putB]
      exact ⟨owns_at hI.own fun b _ => rfl, hI.below.drew⟩
  · obtain ⟨g, cap, e, hgx, hgl⟩ := hI.own.form (by omega)
    injection e with e1 _ e3
    subst e1
    rcases hrow with ⟨q, q2, _⟩ | ⟨g3, cap3, q, q2, _, _, hc⟩
    · omega
    · injection q with w1' w2' w3'
      subst w1' w3'
      have hown : w1.drew.ownsRow wx.heap.size 5 1 (.slice (some ⟨g, 0, none⟩) its.length c1) its.length (byCells its) := owns_at hI.own fun b _ => rfl
      have E0 := owns_put (byCells ((its2.drop lo).take m)) j w1.drew _ hown
      have hcell : ∀ t, t < its.length → ∃ u, w1.drew.cell? ⟨g, t, none⟩ = some u := fun t ht => by
        obtain ⟨u, hu⟩ : ∃ u, (byCells its)[t]? = some u := ⟨_, List.getElem?_eq_getElem (by rw [byCells_length]; exact ht)⟩
        have := hown.cells rfl t u hu
        rw [Addr.add_mid, Nat.zero_add] at this
        exact ⟨u, this⟩
      have hl2 : (byCells ((its2.drop lo).take m)).length = m := by rw [byCells_length, hlen]
      refine ⟨_, goInt m, w1.drew.setCells g j (byCells ((its2.drop lo).take m)), slice58_l (some ⟨g, 0, none⟩) its.length c1 j (by omega), ?_, ?_⟩
      · rw [if_neg (by omega), if_neg (by omega)]
        simp only [Option.map_some, Addr.add_mid, Nat.zero_add]
        have := run_copy_mid w1.drew ty g j (its.length - j) (c1 - j) ⟨g3, lo, none⟩ m (c2 - lo) (byCells ((its2.drop lo).take m)) (by rw [hl2]; exact (Nat.min_eq_left (by omega)).symm) (fun t u ht => by rw [Addr.add_mid]; exact hc _ _ (by_mid ht)) (fun t ht => ⟨by
          obtain ⟨u, hu⟩ := hcell (j + t) (by omega)
          rw [hu]
          rfl, hown.frozenAt _⟩) (byCells_one _)
        rw [hl2] at this
        exact this
      · rw [byCells_putB] at E0
        exact ⟨by rw [putB_length]; exact E0.1, E0.2.below hI.below.drew hgx⟩
theorem rput_tot (h : RH own rb v R w) (ho : ∀ b, own b → b < w.heap.size) (o : Ob) (i : Int) (q : Ob) (hi : i ≤ 9223372036854775807) : Calls Try.prog 17 #[ptr rb, o.val, .int .i64 i, q.val] w fun e w' => e = .returned (.int .i64 (putE (cels R) o i q)) ∧ (∃ R', RH (Plus own w w') rb v R' w' ∧ cels R' = putQ (cels R) o i q) ∧ Kept (fun b => b < w.heap.size ∧ b ≠ rb ∧ v.ownBlock ≠ some b) w w' := by
  have still : ∀ {E : Int}, putE (cels R) o i q = E → E ≠ 0 → Calls Try.prog 17 #[ptr rb, o.val, .int .i64 i, q.val] w (fun e w' => e = .returned (.int .i64 E) ∧ Below w.heap.size w w') → Calls Try.prog 17 #[ptr rb, o.val, .int .i64 i, q.val] w fun e w' => e = .returned (.int .i64 (putE (cels R) o i q)) ∧ (∃ R', RH (Plus own w w') rb v R' w' ∧ cels R' = putQ (cels R) o i q) ∧ Kept (fun b => b < w.heap.size ∧ b ≠ rb ∧ v.ownBlock ≠ some b) w w' := by
    intro E e1 e0 hc
    refine hc.mono ?_
    rintro e w' ⟨rfl, k⟩
    exact ⟨by rw [e1], ⟨R, h.plus k, by rw [putQ, e1, if_neg e0]⟩, ⟨k.os, k.tape, k.output, k.size, fun b q => k.block b q.1⟩⟩
  have hr := Lib.hid (fun wx (kx : Below w.heap.size w wx) => rroom_any (h.below kx) o)
  have hr2 := Lib.hid (fun wx (kx : Below w.heap.size w wx) => rroom_any (h.below kx) q)
  cases hq : okO (cels R) o
  · have hE := errO_no hq
    exact still (by rw [putE, if_neg hE]) hE (rput_err1 rb o.n q.n _ _ _ i o q w (by simpa using hE) hr)
  have e1 := errO_ok hq
  rw [e1] at hr
  cases hq2 : okO (cels R) q
  · have hE := errO_no hq2
    exact still (by rw [putE, if_pos e1, if_neg hE]) hE (rput_err2 rb o.n q.n _ _ _ _ _ i o q w (by simpa using hE) hr hr2)
  have e2 := errO_ok hq2
  rw [e2] at hr2
  obtain ⟨z0, z1⟩ := lenO_bd h.wf o
  obtain ⟨y0, y1⟩ := lenO_bd h.wf q
  by_cases hk : o.k = 10
  · exact still (E := 6) (by rw [putE, if_pos e1, if_pos e2, if_pos (.inl hk)]) (by decide) (rput_no rb o.n q.n _ _ _ _ 6 i 0 o q w (.inl ⟨by simpa using hk, rfl⟩) hr hr2)
  by_cases hkk : o.k = q.k
  case neg => exact still (E := 6) (by rw [putE, if_pos e1, if_pos e2, if_pos (.inr hkk)]) (by decide) (rput_no rb o.n q.n _ _ _ _ 6 i 0 o q w (.inr (.inl ⟨by simpa using hk, by simpa using hkk, rfl⟩)) hr hr2)
  have hno : ¬ (o.k = 10 ∨ o.k ≠ q.k) := fun hh => hh.elim hk fun e => e hkk
  have b1 : (o.k == 10) = false := by simpa using hk
  have b2 : (o.k != q.k) = false := by simpa using hkk
  by_cases hfit : 0 ≤ i ∧ i + lenO (cels R) q ≤ lenO (cels R) o
  case neg =>
    refine still (E := 12) (by rw [putE, if_pos e1, if_pos e2, if_neg hno, if_neg hfit]) (by decide) (rput_no rb o.n q.n _ _ _ _ 12 i (lenO (cels R) o - i) o q w (.inr (.inr ⟨b1, b2, rfl, ?_⟩)) hr hr2)
    by_cases a1 : i < 0
    · exact .inl (decide_eq_true a1)
    · by_cases a2 : i > lenO (cels R) o
      · exact .inr (.inl ⟨decide_eq_false a1, decide_eq_true a2⟩)
      · exact .inr (.inr ⟨decide_eq_false a1, decide_eq_false a2, wrapi_in _ (by omega) (by omega), decide_eq_true (by omega)⟩)
  have f1 : decide (i < 0) = false := decide_eq_false (by omega)
  have f2 : decide (i > lenO (cels R) o) = false := decide_eq_false (by omega)
  have f3 : IntKind.i64.wrap (lenO (cels R) o - i) = lenO (cels R) o - i := wrapi_in _ (by omega) (by omega)
  have f4 : decide (lenO (cels R) q > lenO (cels R) o - i) = false := decide_eq_false (by omega)
  obtain ⟨r, n, lo, m, g, cap, O, og, gr, gl⟩ := h.opened o hq
  obtain ⟨r2, n2, lo2, m2, g2, cap2, O2, _⟩ := h.opened q hq2
  obtain ⟨rfl, rfl⟩ : g2 = g ∧ cap2 = cap := by
    have := O.row.symm.trans O2.row
    injection this with a1 _ a3
    injection a1 with a1
    injection a1 with a1 _ _
    exact ⟨a1.symm, a3.symm⟩
  rw [show o.val = obV o.k o.x n o.a o.l o.s from O.val, show q.val = obV q.k q.x n2 q.a q.l q.s from O2.val] at *
  obtain ⟨i, rfl⟩ := Int.eq_ofNat_of_zero_le hfit.1
  rw [O.at_, O.leno] at hr
  rw [O2.at_, O2.leno] at hr2
  rw [O.leno, O2.leno] at hfit
  rw [O.leno] at f2 f3
  rw [O2.leno, O.leno] at f4
  have hft := O.fits
  have hft2 := O2.fits
  have hsz := O.size
  have hsz2 := O2.size
  cases hlk : r.c.lk
  case true =>
    refine still (E := 1) (by rw [putE, if_pos e1, if_pos e2, if_neg hno, if_pos (by rw [O.leno, O2.leno]; exact hfit), O.cell, hlk]; rfl) (by decide) ?_
    have := O.d3
    rw [hlk] at this
    exact rput_locked rb g2 R.length cap2 n n2 _ _ _ _ _ _ o q w O.lt O.h0 this b1 b2 f1 f2 f3 f4 hr hr2
  have e0 : putE (cels R) o (i : Int) q = 0 := by
    rw [putE, if_pos e1, if_pos e2, if_neg hno, if_pos (by rw [O.leno, O2.leno]; exact hfit), O.cell, hlk]
    rfl
  have hQ : putQ (cels R) o (i : Int) q = (cels R).set n (putC (cels R) o (i : Int) q) := by rw [putQ, if_pos e0, O.nat]
  have od3 := O.d3
  rw [hlk] at od3
  rw [e0]
  by_cases hk8 : o.k = 8
  · have hb := O.str hk8
    have hb2 := O2.str (by rw [← hkk]; exact hk8)
    have hs : r.c.size = r.c.bs.length := by simp [Cel.size, hb]
    have hs2 : r2.c.size = r2.c.bs.length := by simp [Cel.size, hb2]
    obtain ⟨p1, c1, ei, hc1⟩ := (h.sub _ r O.get).2.form
    obtain ⟨p2, c2, ei2, hc2⟩ := (h.sub _ r2 O2.get).2.form
    have hL : bytesL (cels R) q = (r2.c.bs.drop lo2).take m2 := by
      unfold bytesL
      rw [O2.cell, O2.leno, O2.a]
      rfl
    have hC : putC (cels R) o (i : Int) q = { r.c with bs := putB r.c.bs (lo + i) ((r2.c.bs.drop lo2).take m2) } := by
      rw [putC, if_pos hk8, O.cell, O.a, hL, show ((lo : Int) + (i : Int)).toNat = lo + i from by omega]
    have hsl := slice58 p2 r2.c.bs.length c2 lo2 (lo2 + m2) (by omega) (by omega)
    rw [show lo2 + m2 - lo2 = m2 from by omega, ← ei2] at hsl
    have C := rput_bytes rb g2 R.length cap2 n n2 _ _ _ _ (i : Int) _ o q w O.lt O.h0 od3 b1 b2 f1 f2 f3 f4 (by simpa using hk8) gl O2.lt r.c.bs (putB r.c.bs (lo + i) ((r2.c.bs.drop lo2).take m2)) r.bs r2.bs _ ((lo + i : Nat) : Int) ((lo2 + m2 : Nat) : Int) O.d2 O2.d2 (h.free g2 (by rw [O.row]; rfl) _) (by rw [wrapi_in _ (by omega) (by omega)]; omega) (by rw [wrapi_in _ (by omega) (by omega)]; omega) hsl (Lib.hid fun wx ty kx => by rw [ei]; exact bytes_copy (h.below kx) O.get ei (by omega) ty)
      (Lib.hid fun wx v1 w1 ty kx hI => by
        have hrow := ((h.below ((below_and kx hI.below).drew)).sub _ r2 O2.get).2
        rw [ei2] at hrow
        exact copy_intoB hI (lo + i) lo2 m2 (by omega) rfl (by omega) hrow ty) hr hr2
    refine C.mono ?_
    rintro e w' ⟨rfl, wx, v1, w2, kx, HI, rfl⟩
    have hrowv := O.row
    subst hrowv
    have D := h.newB ho O.get gr (by rw [putB_length]) (by rw [O.kind]; exact hk8) hb (below_and kx HI.below) HI.own kx.size
    exact ⟨rfl, ⟨_, D.1, by rw [cels_set, hQ, hC]⟩, D.2.sub fun b q => ⟨q.1, fun e => q.2.2 (by rw [e]; rfl)⟩⟩
  · have hb := O.itm hk8
    have hb2 := O2.itm (by rw [← hkk]; exact hk8)
    have hs : r.c.size = r.c.it.length := by simp [Cel.size, hb]
    have hs2 : r2.c.size = r2.c.it.length := by simp [Cel.size, hb2]
    obtain ⟨p1, c1, ei, hc1⟩ := (h.sub _ r O.get).1.form
    obtain ⟨p2, c2, ei2, hc2⟩ := (h.sub _ r2 O2.get).1.form
    have hL : itemsL (cels R) q = (r2.c.it.drop lo2).take m2 := by
      unfold itemsL
      rw [O2.cell, O2.leno, O2.a]
      rfl
    have hC : putC (cels R) o (i : Int) q = { r.c with it := putI r.c.it (lo + i) ((r2.c.it.drop lo2).take m2) } := by
      rw [putC, if_neg hk8, O.cell, O.a, hL, show ((lo : Int) + (i : Int)).toNat = lo + i from by omega]
    have hsl := slice33 p2 r2.c.it.length c2 lo2 (lo2 + m2) (by omega) (by omega)
    rw [show lo2 + m2 - lo2 = m2 from by omega, ← ei2] at hsl
    have C := rput_items rb g2 R.length cap2 n n2 _ _ _ _ (i : Int) _ o q w O.lt O.h0 od3 b1 b2 f1 f2 f3 f4 (by simpa using hk8) gl O2.lt r.c.it (putI r.c.it (lo + i) ((r2.c.it.drop lo2).take m2)) r.it r2.it _ ((lo + i : Nat) : Int) ((lo2 + m2 : Nat) : Int) O.d1 O2.d1 (h.free g2 (by rw [O.row]; rfl) _) (by rw [wrapi_in _ (by omega) (by omega)]; omega) (by rw [wrapi_in _ (by omega) (by omega)]; omega) hsl (Lib.hid fun wx ty kx => by have hrow := ((h.below kx).sub _ r O.get).1; rw [ei] at hrow ⊢; exact items_copy hrow (by omega) ty)
      (Lib.hid fun wx v1 w1 ty kx hI => by
        have hrow := ((h.below ((below_and kx hI.below).drew)).sub _ r2 O2.get).1
        rw [ei2] at hrow
        exact copy_into hI (lo + i) lo2 m2 (by omega) rfl (by omega) hrow ty) hr hr2
    refine C.mono ?_
    rintro e w' ⟨rfl, wx, v1, w2, kx, HI, rfl⟩
    have hrowv := O.row
    subst hrowv
    have D := h.newI ho O.get gr (by rw [putI_length]) (by have := O.kind; rcases h.wf.kind r.c (cell_mem (cels_get O.get)) with ⟨a, _⟩ | ⟨a, _⟩; omega; exact a) hb (below_and kx HI.below) HI.own kx.size
    exact ⟨rfl, ⟨_, D.1, by rw [cels_set, hQ, hC]⟩, D.2.sub fun b q => ⟨q.1, fun e => q.2.2 (by rw [e]; rfl)⟩⟩
end
end Go.Proofs.Ytmlkmgeddkpgiaa

/- Walks of heap: Put, whatever is asked. -/
namespace Go.Proofs.Ytmlkmgeddkpgiaa
open Go.RowKit
set_option linter.unusedVariables false

set_option maxRecDepth 100000 in
theorem iput_walk (r z cap r2 z2 cap2 d st m hi : Nat) (p p2 : Option Addr) (V1 V2 v : Value) (R : World → Prop) (w : World)
    (h2 : w.cell? ⟨r, 2, none⟩ = some (.slice p z cap)) (h3 : w.cell? ⟨r2, 2, none⟩ = some (.slice p2 z2 cap2)) (e1 : IntKind.i64.wrap ((st : Int) + m) = hi)
    (hs1 : ∀ w : World, (Instr.slice 33 (.slice p z cap) (some (.int .i64 d)) none none).run Try.prog w = .ok V1 w)
    (hs2 : ∀ w : World, (Instr.slice 33 (.slice p2 z2 cap2) (some (.int .i64 st)) (some (.int .i64 hi)) none).run Try.prog w = .ok V2 w)
    (hc : Hid (∃ w', (Builtin.copy_ #[33, 33] 3 #[V1, V2]).run Try.prog w.drew = .ok v w' ∧ R w')) :
    Calls Try.prog 158 #[ptr r, .int .i64 d, .iface 156 (ptr r2), .int .i64 st, .int .i64 m] w fun e w' => e = .returned (.tuple #[]) ∧ R w' := by
  have ha := assert_87_87
  go_enter Try.func158, Try.ntmps158
  go_wp2_with fail
  go_still_tail 15, (by kernel_rfl)
  obtain ⟨w', hrun, hR⟩ := hc.out
  refine wpList_copy_run rfl _ _ 33 33 rfl V1 V2 rfl rfl v w' ?_ ?_
  · exact hrun
  have HR := Lib.hid hR
  clear hR hrun
  go_wp2
  go_end0
  exact ⟨rfl, HR.out⟩
/-- A row that can be read and written. -/
def RowO (w : World) (v : Value) (its : List Ob) : Prop :=
  (v = .slice none 0 0 ∧ its.length = 0) ∨ ∃ g cap, v = .slice (some ⟨g, 0, none⟩) its.length cap ∧ its.length ≤ cap ∧ (∀ t u, (obCells its)[t]? = some u → w.cell? ⟨g, t, none⟩ = some u) ∧ ∀ t, t < its.length * 6 → w.frozen? ⟨g, t, none⟩ = false
theorem copyO_run {wz : World} {v1 v2 : Value} {its its2 : List Ob} (hd : RowO wz v1 its) (hs : RowO wz v2 its2) (j lo m : Nat) (hj : j + m ≤ its.length) (hlm : lo + m ≤ its2.length) (ty : TypeId) :
    ∃ V1 V2 cnt w2, (∀ w', (Instr.slice 33 v1 (some (.int .i64 j)) none none).run Try.prog w' = .ok V1 w') ∧ (∀ w', (Instr.slice 33 v2 (some (.int .i64 lo)) (some (.int .i64 ((lo + m : Nat) : Int))) none).run Try.prog w' = .ok V2 w') ∧ (Builtin.copy_ #[33, 33] ty #[V1, V2]).run Try.prog wz = .ok cnt w2 ∧
      ((m = 0 ∧ w2 = wz) ∨ ∃ g cap, v1 = .slice (some ⟨g, 0, none⟩) its.length cap ∧ w2 = wz.setCells g (j * 6) (obCells ((its2.drop lo).take m))) := by
  have hlen : ((its2.drop lo).take m).length = m := by simp; omega
  obtain ⟨p1, c1, e1, hc1⟩ : ∃ p c, v1 = .slice p its.length c ∧ its.length ≤ c := by
    rcases hd with ⟨q, q2⟩ | ⟨g, cap, q, q2, _⟩
    · exact ⟨none, 0, by rw [q, q2], by omega⟩
    · exact ⟨_, _, q, q2⟩
  obtain ⟨p2, c2, e2, hc2⟩ : ∃ p c, v2 = .slice p its2.length c ∧ its2.length ≤ c := by
    rcases hs with ⟨q, q2⟩ | ⟨g, cap, q, q2, _⟩
    · exact ⟨none, 0, by rw [q, q2], by omega⟩
    · exact ⟨_, _, q, q2⟩
  subst e1 e2
  have hs2 := slice33 p2 its2.length c2 lo (lo + m) (by omega) (by omega)
  rw [show lo + m - lo = m from by omega] at hs2
  by_cases hm : m = 0
  · subst hm
    refine ⟨_, _, _, _, slice33_l p1 its.length c1 j (by omega), hs2, copy0O _ _ _ _ _ _ _ ?_, .inl ⟨rfl, rfl⟩⟩
    rcases hd with ⟨q, q2⟩ | ⟨g, cap, q, _⟩
    · exact .inl (by omega)
    · injection q with e1 _ _
      subst e1
      right
      split
      · exact ⟨_, rfl⟩
      · exact ⟨_, rfl⟩
  · rcases hd with ⟨q, q2⟩ | ⟨g, cap, q, d2, d3, d4⟩
    · omega
    · injection q with e1 _ e3
      subst e1 e3
      rcases hs with ⟨q, q2⟩ | ⟨g3, cap3, q, q2, hc, _⟩
      · omega
      · injection q with w1 w2 w3
        subst w1 w3
        refine ⟨_, _, goInt m, wz.setCells g (j * 6) (obCells ((its2.drop lo).take m)), slice33_l (some ⟨g, 0, none⟩) its.length c1 j (by omega), hs2, ?_, .inr ⟨g, c1, rfl, rfl⟩⟩
        rw [if_neg (by omega), if_neg (by omega)]
        simp only [Option.map_some, Addr.add_mid, Nat.zero_add]
        exact run_copyO wz ty g (j * 6) _ _ ⟨g3, lo * 6, none⟩ m _ ((its2.drop lo).take m) hlen (by omega) (fun t u ht => by rw [Addr.add_mid]; exact hc _ _ (obCells_mid ht)) (fun t ht => ⟨by
          obtain ⟨u, hu⟩ : ∃ u, (obCells its)[j * 6 + t]? = some u := ⟨_, List.getElem?_eq_getElem (by rw [obCells_length]; omega)⟩
          rw [d3 _ _ hu]
          rfl, d4 _ (by omega)⟩)
/-- A row that can be read and written. -/
def RowB (w : World) (v : Value) (its : List UInt8) : Prop :=
  (v = .slice none 0 0 ∧ its.length = 0) ∨ ∃ g cap, v = .slice (some ⟨g, 0, none⟩) its.length cap ∧ its.length ≤ cap ∧ (∀ t u, (byCells its)[t]? = some u → w.cell? ⟨g, t, none⟩ = some u) ∧ ∀ t, t < its.length → w.frozen? ⟨g, t, none⟩ = false
theorem copyB_run {wz : World} {v1 v2 : Value} {its its2 : List UInt8} (hd : RowB wz v1 its) (hs : RowB wz v2 its2) (j lo m : Nat) (hj : j + m ≤ its.length) (hlm : lo + m ≤ its2.length) (ty : TypeId) :
    ∃ V1 V2 cnt w2, (∀ w', (Instr.slice 108 v1 (some (.int .i64 j)) none none).run Try.prog w' = .ok V1 w') ∧ (∀ w', (Instr.slice 108 v2 (some (.int .i64 lo)) (some (.int .i64 ((lo + m : Nat) : Int))) none).run Try.prog w' = .ok V2 w') ∧ (Builtin.copy_ #[108, 108] ty #[V1, V2]).run Try.prog wz = .ok cnt w2 ∧
      ((m = 0 ∧ w2 = wz) ∨ ∃ g cap, v1 = .slice (some ⟨g, 0, none⟩) its.length cap ∧ w2 = wz.setCells g j (byCells ((its2.drop lo).take m))) := by
  have hlen : ((its2.drop lo).take m).length = m := by simp; omega
  obtain ⟨p1, c1, e1, hc1⟩ : ∃ p c, v1 = .slice p its.length c ∧ its.length ≤ c := by
    rcases hd with ⟨q, q2⟩ | ⟨g, cap, q, q2, _⟩
    · exact ⟨none, 0, by rw [q, q2], by omega⟩
    · exact ⟨_, _, q, q2⟩
  obtain ⟨p2, c2, e2, hc2⟩ : ∃ p c, v2 = .slice p its2.length c ∧ its2.length ≤ c := by
    rcases hs with ⟨q, q2⟩ | ⟨g, cap, q, q2, _⟩
    · exact ⟨none, 0, by rw [q, q2], by omega⟩
    · exact ⟨_, _, q, q2⟩
  subst e1 e2
  have hs2 := slice58 p2 its2.length c2 lo (lo + m) (by omega) (by omega)
  rw [show lo + m - lo = m from by omega] at hs2
  by_cases hm : m = 0
  · subst hm
    refine ⟨_, _, _, _, slice58_l p1 its.length c1 j (by omega), hs2, copy0B _ _ _ _ _ _ _ ?_, .inl ⟨rfl, rfl⟩⟩
    rcases hd with ⟨q, q2⟩ | ⟨g, cap, q, _⟩
    · exact .inl (by omega)
    · injection q with e1 _ _
      subst e1
      right
      split
      · exact ⟨_, rfl⟩
      · exact ⟨_, rfl⟩
  · rcases hd with ⟨q, q2⟩ | ⟨g, cap, q, d2, d3, d4⟩
    · omega
    · injection q with e1 _ e3
      subst e1 e3
      rcases hs with ⟨q, q2⟩ | ⟨g3, cap3, q, q2, hc, _⟩
      · omega
      · injection q with w1 w2 w3
        subst w1 w3
        refine ⟨_, _, goInt m, wz.setCells g j (byCells ((its2.drop lo).take m)), slice58_l (some ⟨g, 0, none⟩) its.length c1 j (by omega), hs2, ?_, .inr ⟨g, c1, rfl, rfl⟩⟩
        rw [if_neg (by omega), if_neg (by omega)]
        simp only [Option.map_some, Addr.add_mid, Nat.zero_add]
        have := run_copy_mid wz ty g j (its.length - j) (c1 - j) ⟨g3, lo, none⟩ m (c2 - lo) (byCells ((its2.drop lo).take m)) (by rw [byCells_length, hlen]; exact (Nat.min_eq_left (by omega)).symm) (fun t u ht => by rw [Addr.add_mid]; exact hc _ _ (by_mid ht)) (fun t ht => ⟨by
          rw [byCells_length, hlen] at ht
          obtain ⟨u, hu⟩ : ∃ u, (byCells its)[j + t]? = some u := ⟨_, List.getElem?_eq_getElem (by rw [byCells_length]; omega)⟩
          rw [d3 _ _ hu]
          rfl, d4 _ (by rw [byCells_length, hlen] at ht; omega)⟩) (byCells_one _)
        rw [byCells_length, hlen] at this
        exact this
theorem RowO.of_owns {w : World} {v : Value} {its : List Ob} (h : w.ownsRow 0 24 6 v its.length (obCells its)) : RowO w v its := by
  obtain ⟨p, c, e, hc⟩ := owns_cap h
  by_cases hz : its.length = 0
  · rcases h.2 with ⟨q, _⟩ | ⟨g, cap, cur, q, _, _, q2, _⟩
    · exact .inl ⟨q, hz⟩
    · refine .inr ⟨g, cap, q, q2, fun t u ht => ?_, fun t ht => by omega⟩
      have := (List.getElem?_eq_some_iff.1 ht).1
      rw [obCells_length] at this
      omega
  · obtain ⟨g, cap, e, _, _⟩ := h.form (by omega)
    have h' := h
    rw [e] at h'
    refine .inr ⟨g, cap, e, ?_, fun t u ht => ?_, fun t _ => h'.frozenAt t⟩
    · obtain ⟨_, _, q, q2⟩ := owns_cap h'
      injection q with _ _ q3
      omega
    · have := h'.cells rfl t u ht
      rwa [Addr.add_mid, Nat.zero_add] at this
theorem RowB.of_rowB {w : World} {v : Value} {its : List UInt8} (h : rowB w v its) : RowB w v its := by
  have h' := h
  rcases h with ⟨q, rfl⟩ | ⟨g, cap, cur, fr, q, hg, hfr, hcap, hsz, htk⟩
  · exact .inl ⟨q, rfl⟩
  · rw [q] at h'
    refine .inr ⟨g, cap, q, hcap, fun t u ht => (rowB_cell h' ht).1, fun t ht => ?_⟩
    obtain ⟨u, hu⟩ : ∃ u, (byCells its)[t]? = some u := ⟨_, List.getElem?_eq_getElem (by rw [byCells_length]; exact ht)⟩
    exact (rowB_cell h' hu).2
end Go.Proofs.Ytmlkmgeddkpgiaa

/- heap: Put, whatever is asked. -/
namespace Go.Proofs.Ytmlkmgeddkpgiaa
open Go.RowKit
set_option linter.unusedVariables false

section
variable {role : Nat → Nat × Nat} {c hb : Nat} {vc : Value} {ivs : List Value} {pb : Nat → Nat} {rv : Nat → Value} {P : List Cel} {w w' : World}
theorem put_itemCell (h : PH role c hb vc ivs pb rv P w) (o q : Ob) (i : Int) (ho : okO P o = true) (hq : okO P q = true) (hk8 : o.k ≠ 8) (hk10 : o.k ≠ 10) (hkk : q.k = o.k) (hi : i < 9223372036854775808) (hfit : 0 ≤ i ∧ 0 ≤ lenO P q ∧ i + lenO P q ≤ lenO P o) (hlk : (cellOf P o).lk = false) :
    Calls Try.prog 16 #[ptr hb, o.val, .int .i64 i, q.val] w fun e w' => e = .returned (.int .i64 0) ∧ PH role c hb vc ivs pb rv (P.set o.n.toNat (putC P o i q)) w' ∧ Keep role c w role w' := by
  have hf := fun wx kx => find_ok (h.below (w' := wx) kx) o ho
  have hf2 := fun wx kx => find_ok (h.below (w' := wx) kx) q hq
  obtain ⟨z0, z1⟩ := lenO_bd h.wf o
  obtain ⟨n0, n1⟩ := len_in ho
  obtain ⟨m0, m1⟩ := len_in hq
  obtain ⟨b0, b1, b2, b3, _, _, b6, _⟩ := ok_bd ho
  obtain ⟨a0, a1, a2, a3, _, _, a6, _⟩ := ok_bd hq
  have hc := cellOf_get (P := P) (o := o) b0 b1
  have hc2 := cellOf_get (P := P) (o := q) a0 a1
  have hz := h.wf.size hc
  have hz2 := h.wf.size hc2
  obtain ⟨g0, cap0, evc, _, _, hp⟩ := h.ivAt hc
  obtain ⟨_, _, _, _, _, hp2⟩ := h.ivAt hc2
  obtain ⟨iv, g1, g2, g3, g4⟩ := h.cell o.n.toNat _ hc
  have hp' := hp
  rcases hp with ⟨eT, hC⟩ | ⟨eT, hC⟩
  rotate_left
  · have := hC.kind
    omega
  rcases hp2 with ⟨eT2, hC2⟩ | ⟨eT2, hC2⟩
  rotate_left
  · have := hC2.kind
    omega
  have eT : celT (cellOf P o) = 156 := by injection eT
  have eT2 : celT (cellOf P q) = 156 := by injection eT2
  have hs : (cellOf P o).size = (cellOf P o).it.length := by simp [Cel.size, hC.bs]
  have hs2 : (cellOf P q).size = (cellOf P q).it.length := by simp [Cel.size, hC2.bs]
  rw [eT] at hf hp'
  rw [eT2] at hf2
  have hv : q.val = obV o.k q.x q.n q.a q.l q.s := by
    rw [← hkk]
    rfl
  rw [hv] at hf2 ⊢
  have ed : (((o.a + i).toNat : Nat) : Int) = o.a + i := by omega
  have es : ((q.a.toNat : Nat) : Int) = q.a := by omega
  have em : (((lenO P q).toNat : Nat) : Int) = lenO P q := by omega
  refine put_walk87 hb (pb o.n.toNat) 156 (pb q.n.toNat) o.k o.n o.a o.l i o.a (lenO P o) q.a (lenO P q) (o.a + i) o.x o.s q.n q.a q.l q.x q.s w (fun w' => PH role c hb vc ivs pb rv (P.set o.n.toNat (putC P o i q)) w' ∧ Keep role c w role w') (by simpa using hk10) (wrapi_in _ (by omega) (by omega)) (Lib.hid hf) (Lib.hid hf2) (fits_is _ _ _ _ _ _ true z0 z1 hi (decide_eq_true hfit)) (locked_is (iv := iv) hp' false hlk) (Lib.hid fun wx kx => ?_)
  have hrd := owns_same hC.row (w' := wx.drew) fun r _ hr => kx.block r hr
  have hrd2 := owns_same hC2.row (w' := wx.drew) fun r _ hr => kx.block r hr
  obtain ⟨V1, V2, cnt, w2, s1, s2, hcp, hw2⟩ := copyO_run (RowO.of_owns hrd) (RowO.of_owns hrd2) (o.a + i).toNat q.a.toNat (lenO P q).toNat (by omega) (by omega) 3
  have key : w2.ownsRow 0 24 6 (rv o.n.toNat) (putI (cellOf P o).it (o.a + i).toNat (itemsL P q)).length (obCells (putI (cellOf P o).it (o.a + i).toNat (itemsL P q))) ∧ (∀ k, (rv o.n.toNat).ownBlock ≠ some k → w2.heap[k]? = wx.heap[k]?) ∧ w2.os = wx.os ∧ w2.tape = wx.tape ∧ w2.output = wx.output ∧ w2.heap.size = wx.heap.size := by
    rcases hw2 with ⟨hm, rfl⟩ | ⟨g, cap, eg, rfl⟩
    · refine ⟨?_, fun _ _ => rfl, rfl, rfl, rfl, rfl⟩
      rw [show itemsL P q = [] from List.eq_nil_of_length_eq_zero (by simp [itemsL]; omega), putI]
      exact owns_same hC.row fun r _ hr => kx.block r hr
    · have hL : itemsL P q = ((cellOf P q).it.drop q.a.toNat).take (lenO P q).toNat := rfl
      rw [hL]
      rw [eg] at hrd ⊢
      have E0 := owns_put (obCells (((cellOf P q).it.drop q.a.toNat).take (lenO P q).toNat)) ((o.a + i).toNat * 6) wx.drew _ hrd
      rw [obCells_putI _ _ _ (by simp; omega)] at E0
      rw [putI_length]
      exact ⟨E0.1, fun k hk => E0.2.block k fun e => hk (by rw [e]; rfl), E0.2.os, E0.2.tape, E0.2.output, E0.2.size⟩
  obtain ⟨kr, kb, k1, k2, k3, k4⟩ := key
  obtain ⟨p1, c1, er1, _⟩ : ∃ p c, rv o.n.toNat = .slice p (cellOf P o).it.length c ∧ True := by
    rcases RowO.of_owns hrd with ⟨a, b⟩ | ⟨a, b, d, _⟩
    · exact ⟨none, 0, by rw [a, b], trivial⟩
    · exact ⟨_, _, d, trivial⟩
  obtain ⟨p2, c2, er2, _⟩ : ∃ p c, rv q.n.toNat = .slice p (cellOf P q).it.length c ∧ True := by
    rcases RowO.of_owns hrd2 with ⟨a, b⟩ | ⟨a, b, d, _⟩
    · exact ⟨none, 0, by rw [a, b], trivial⟩
    · exact ⟨_, _, d, trivial⟩
  have h2 : wx.cell? ⟨pb o.n.toNat, 2, none⟩ = some (rv o.n.toNat) := by
    rw [cellAt ((kx.block _ (blk_lt hC.blk)).trans hC.blk)]
    rfl
  have h3 : wx.cell? ⟨pb q.n.toNat, 2, none⟩ = some (rv q.n.toNat) := by
    rw [cellAt ((kx.block _ (blk_lt hC2.blk)).trans hC2.blk)]
    rfl
  rw [er1] at h2 s1
  rw [er2] at h3 s2
  have hne : (rv o.n.toNat).ownBlock ≠ some (pb o.n.toNat) := fun e => by
    have := g4 _ e
    rw [g3] at this
    simp at this
  have hpC : putC P o i q = { cellOf P o with it := putI (cellOf P o).it (o.a + i).toNat (itemsL P q) } := by
    rw [putC, if_neg hk8]
  have := iput_walk (pb o.n.toNat) (cellOf P o).it.length c1 (pb q.n.toNat) (cellOf P q).it.length c2 (o.a + i).toNat q.a.toNat (lenO P q).toNat (q.a.toNat + (lenO P q).toNat) p1 p2 V1 V2 cnt (fun w' => PH role c hb vc ivs pb rv (P.set o.n.toNat (putC P o i q)) w' ∧ Keep role c w role w') wx h2 h3 (by rw [wrapi_in _ (by omega) (by omega)]; omega) s1 s2 (Lib.hid ⟨w2, hcp, ?_⟩)
  · rw [ed, es, em] at this
    exact this
  refine ⟨h.change hc (by rw [hpC]; simp [Cel.size, putI_length]) ?_ ?_, k1.trans kx.os, k2.trans kx.tape, k3.trans kx.output, by rw [k4]; exact kx.size, fun k hk hcc => ?_, fun _ _ => rfl⟩
  · rw [eT, hpC]
    refine .inl ⟨rfl, hC.kind, hC.bs, ?_, ?_⟩
    · rw [kb _ hne, kx.block _ (blk_lt hC.blk)]
      exact hC.blk
    · exact kr
  · intro k hk _ hne2
    rw [kb k hne2]
    exact kx.block k hk
  · rw [kb k (fun e => hcc (by have := g4 k e; rw [this]))]
    exact kx.block k hk
theorem put_byteCell (h : PH role c hb vc ivs pb rv P w) (o q : Ob) (i : Int) (ho : okO P o = true) (hq : okO P q = true) (hk8 : o.k = 8) (hk10 : o.k ≠ 10) (hkk : q.k = o.k) (hi : i < 9223372036854775808) (hfit : 0 ≤ i ∧ 0 ≤ lenO P q ∧ i + lenO P q ≤ lenO P o) (hlk : (cellOf P o).lk = false) :
    Calls Try.prog 16 #[ptr hb, o.val, .int .i64 i, q.val] w fun e w' => e = .returned (.int .i64 0) ∧ PH role c hb vc ivs pb rv (P.set o.n.toNat (putC P o i q)) w' ∧ Keep role c w role w' := by
  have hf := fun wx kx => find_ok (h.below (w' := wx) kx) o ho
  have hf2 := fun wx kx => find_ok (h.below (w' := wx) kx) q hq
  obtain ⟨z0, z1⟩ := lenO_bd h.wf o
  obtain ⟨n0, n1⟩ := len_in ho
  obtain ⟨m0, m1⟩ := len_in hq
  obtain ⟨b0, b1, b2, b3, _, _, b6, _⟩ := ok_bd ho
  obtain ⟨a0, a1, a2, a3, _, _, a6, _⟩ := ok_bd hq
  have hc := cellOf_get (P := P) (o := o) b0 b1
  have hc2 := cellOf_get (P := P) (o := q) a0 a1
  have hz := h.wf.size hc
  have hz2 := h.wf.size hc2
  obtain ⟨g0, cap0, evc, _, _, hp⟩ := h.ivAt hc
  obtain ⟨_, _, _, _, _, hp2⟩ := h.ivAt hc2
  obtain ⟨iv, g1, g2, g3, g4⟩ := h.cell o.n.toNat _ hc
  have hp' := hp
  rcases hp with ⟨eT, hC⟩ | ⟨eT, hC⟩
  · have := hC.kind
    omega
  rcases hp2 with ⟨eT2, hC2⟩ | ⟨eT2, hC2⟩
  · have := hC2.kind
    omega
  have eT : celT (cellOf P o) = 141 := by injection eT
  have eT2 : celT (cellOf P q) = 141 := by injection eT2
  have hs : (cellOf P o).size = (cellOf P o).bs.length := by simp [Cel.size, hC.it]
  have hs2 : (cellOf P q).size = (cellOf P q).bs.length := by simp [Cel.size, hC2.it]
  rw [eT] at hf hp'
  rw [eT2] at hf2
  have hv : q.val = obV o.k q.x q.n q.a q.l q.s := by
    rw [← hkk]
    rfl
  rw [hv] at hf2 ⊢
  have ed : (((o.a + i).toNat : Nat) : Int) = o.a + i := by omega
  have es : ((q.a.toNat : Nat) : Int) = q.a := by omega
  have em : (((lenO P q).toNat : Nat) : Int) = lenO P q := by omega
  refine put_walk95 hb (pb o.n.toNat) 141 (pb q.n.toNat) o.k o.n o.a o.l i o.a (lenO P o) q.a (lenO P q) (o.a + i) o.x o.s q.n q.a q.l q.x q.s w (fun w' => PH role c hb vc ivs pb rv (P.set o.n.toNat (putC P o i q)) w' ∧ Keep role c w role w') (by simpa using hk10) (wrapi_in _ (by omega) (by omega)) (Lib.hid hf) (Lib.hid hf2) (fits_is _ _ _ _ _ _ true z0 z1 hi (decide_eq_true hfit)) (locked_is (iv := iv) hp' false hlk) (Lib.hid fun wx kx => ?_)
  have hrd := rowB_same hC.row (w' := wx.drew) fun r _ hr => kx.block r hr
  have hrd2 := rowB_same hC2.row (w' := wx.drew) fun r _ hr => kx.block r hr
  obtain ⟨V1, V2, cnt, w2, s1, s2, hcp, hw2⟩ := copyB_run (RowB.of_rowB hrd) (RowB.of_rowB hrd2) (o.a + i).toNat q.a.toNat (lenO P q).toNat (by omega) (by omega) 3
  have key : rowB w2 (rv o.n.toNat) (putB (cellOf P o).bs (o.a + i).toNat (bytesL P q)) ∧ (∀ k, (rv o.n.toNat).ownBlock ≠ some k → w2.heap[k]? = wx.heap[k]?) ∧ w2.os = wx.os ∧ w2.tape = wx.tape ∧ w2.output = wx.output ∧ w2.heap.size = wx.heap.size := by
    rcases hw2 with ⟨hm, rfl⟩ | ⟨g, cap, eg, rfl⟩
    · refine ⟨?_, fun _ _ => rfl, rfl, rfl, rfl, rfl⟩
      rw [show bytesL P q = [] from List.eq_nil_of_length_eq_zero (by simp [bytesL]; omega), putB]
      exact rowB_same hC.row fun r _ hr => kx.block r hr
    · have hL : bytesL P q = ((cellOf P q).bs.drop q.a.toNat).take (lenO P q).toNat := rfl
      rw [hL]
      rw [eg] at hrd ⊢
      have E0 := rowB_put (((cellOf P q).bs.drop q.a.toNat).take (lenO P q).toNat) (o.a + i).toNat wx.drew _ hrd rfl (by simp; omega)
      exact ⟨E0.1, fun k hk => E0.2.block k fun e => hk (by rw [e]; rfl), E0.2.os, E0.2.tape, E0.2.output, E0.2.size⟩
  obtain ⟨kr, kb, k1, k2, k3, k4⟩ := key
  obtain ⟨p1, c1, er1, _⟩ : ∃ p c, rv o.n.toNat = .slice p (cellOf P o).bs.length c ∧ True := by
    rcases RowB.of_rowB hrd with ⟨a, b⟩ | ⟨a, b, d, _⟩
    · exact ⟨none, 0, by rw [a, b], trivial⟩
    · exact ⟨_, _, d, trivial⟩
  obtain ⟨p2, c2, er2, _⟩ : ∃ p c, rv q.n.toNat = .slice p (cellOf P q).bs.length c ∧ True := by
    rcases RowB.of_rowB hrd2 with ⟨a, b⟩ | ⟨a, b, d, _⟩
    · exact ⟨none, 0, by rw [a, b], trivial⟩
    · exact ⟨_, _, d, trivial⟩
  have h2 : wx.cell? ⟨pb o.n.toNat, 2, none⟩ = some (rv o.n.toNat) := by
    rw [cellAt ((kx.block _ (blk_lt hC.blk)).trans hC.blk)]
    rfl
  have h3 : wx.cell? ⟨pb q.n.toNat, 2, none⟩ = some (rv q.n.toNat) := by
    rw [cellAt ((kx.block _ (blk_lt hC2.blk)).trans hC2.blk)]
    rfl
  rw [er1] at h2 s1
  rw [er2] at h3 s2
  have hne : (rv o.n.toNat).ownBlock ≠ some (pb o.n.toNat) := fun e => by
    have := g4 _ e
    rw [g3] at this
    simp at this
  have hpC : putC P o i q = { cellOf P o with bs := putB (cellOf P o).bs (o.a + i).toNat (bytesL P q) } := by
    rw [putC, if_pos hk8]
  have := bput_walk (pb o.n.toNat) (cellOf P o).bs.length c1 (pb q.n.toNat) (cellOf P q).bs.length c2 (o.a + i).toNat q.a.toNat (lenO P q).toNat (q.a.toNat + (lenO P q).toNat) p1 p2 V1 V2 cnt (fun w' => PH role c hb vc ivs pb rv (P.set o.n.toNat (putC P o i q)) w' ∧ Keep role c w role w') wx h2 h3 (by rw [wrapi_in _ (by omega) (by omega)]; omega) s1 s2 (Lib.hid ⟨w2, hcp, ?_⟩)
  · rw [ed, es, em] at this
    exact this
  refine ⟨h.change hc (by rw [hpC]; simp [Cel.size, putB_length]) ?_ ?_, k1.trans kx.os, k2.trans kx.tape, k3.trans kx.output, by rw [k4]; exact kx.size, fun k hk hcc => ?_, fun _ _ => rfl⟩
  · rw [eT, hpC]
    refine .inr ⟨rfl, hC.kind, hC.it, ?_, ?_⟩
    · rw [kb _ hne, kx.block _ (blk_lt hC.blk)]
      exact hC.blk
    · exact kr
  · intro k hk _ hne2
    rw [kb k hne2]
    exact kx.block k hk
  · rw [kb k (fun e => hcc (by have := g4 k e; rw [this]))]
    exact kx.block k hk
end
end Go.Proofs.Ytmlkmgeddkpgiaa

/- heap: Put, whatever is asked. -/
namespace Go.Proofs.Ytmlkmgeddkpgiaa
open Go.RowKit
set_option linter.unusedVariables false

section
variable {role : Nat → Nat × Nat} {c hb : Nat} {vc : Value} {ivs : List Value} {pb : Nat → Nat} {rv : Nat → Value} {P : List Cel} {w w' : World}
theorem put_tot (h : PH role c hb vc ivs pb rv P w) (o : Ob) (i : Int) (q : Ob) (hi : i < 9223372036854775808) : Calls Try.prog 16 #[ptr hb, o.val, .int .i64 i, q.val] w fun e w' => e = .returned (.int .i64 (putE P o i q)) ∧ ∃ role', PHeap role' c hb (putQ P o i q) w' ∧ Keep role c w role' w' := by
  have still : ∀ {E : Int}, putE P o i q = E → E ≠ 0 → Calls Try.prog 16 #[ptr hb, o.val, .int .i64 i, q.val] w (fun e w' => e = .returned (.int .i64 E) ∧ Below w.heap.size w w') → Calls Try.prog 16 #[ptr hb, o.val, .int .i64 i, q.val] w fun e w' => e = .returned (.int .i64 (putE P o i q)) ∧ ∃ role', PHeap role' c hb (putQ P o i q) w' ∧ Keep role c w role' w' := by
    intro E e1 e0 hc
    refine hc.mono ?_
    rintro e w' ⟨rfl, k⟩
    rw [e1, putQ, e1, if_neg e0]
    exact ⟨rfl, h.kept k⟩
  cases hq : okO P o
  · have hE := errO_no hq
    exact still (by rw [putE, if_neg hE]) hE (put_err hb o.k o.n o.a o.l i _ o.x o.s q.k q.n q.a q.l q.x q.s w (by simpa using hE) (Lib.hid fun wx kx => find_no (h.below kx) o hq))
  have e1 := errO_ok hq
  have hf := Lib.hid fun wx kx => find_ok (h.below (w' := wx) kx) o hq
  cases hq2 : okO P q
  · have hE := errO_no hq2
    exact still (by rw [putE, if_pos e1, if_neg hE]) hE (put_err2 hb (celT (cellOf P o)) (pb o.n.toNat) o.k o.n o.a o.l i _ _ _ o.x o.s q.k q.n q.a q.l q.x q.s w (by simpa using hE) hf (Lib.hid fun wx kx => find_no (h.below kx) q hq2))
  have e2 := errO_ok hq2
  have hf2 := Lib.hid fun wx kx => find_ok (h.below (w' := wx) kx) q hq2
  obtain ⟨z0, z1⟩ := lenO_bd h.wf o
  obtain ⟨y0, y1⟩ := lenO_bd h.wf q
  by_cases hk : o.k = 10
  · have hv : o.val = obV 10 o.x o.n o.a o.l o.s := by rw [← hk]; rfl
    refine still (E := 6) (by rw [putE, if_pos e1, if_pos e2, if_pos (.inl hk)]) (by decide) ?_
    rw [hv] at hf ⊢
    exact put_dict hb _ _ _ _ o.n o.a o.l i _ _ _ _ o.x o.s q.k q.n q.a q.l q.x q.s w hf hf2
  have b1 : (o.k == 10) = false := by simpa using hk
  by_cases hkk : o.k = q.k
  case neg => exact still (E := 6) (by rw [putE, if_pos e1, if_pos e2, if_pos (.inr hkk)]) (by decide) (put_type hb _ _ _ _ o.k o.n o.a o.l i _ _ _ _ o.x o.s q.k q.n q.a q.l q.x q.s w b1 (by simpa using hkk) hf hf2)
  have hno : ¬ (o.k = 10 ∨ o.k ≠ q.k) := fun hh => hh.elim hk fun e => e hkk
  have hv : q.val = obV o.k q.x q.n q.a q.l q.s := by rw [hkk]; rfl
  by_cases hfit : 0 ≤ i ∧ i + lenO P q ≤ lenO P o
  case neg =>
    refine still (E := 12) (by rw [putE, if_pos e1, if_pos e2, if_neg hno, if_neg hfit]) (by decide) ?_
    rw [hv] at hf2 ⊢
    exact put_index hb _ _ _ _ o.k o.n o.a o.l i _ _ _ _ o.x o.s q.n q.a q.l q.x q.s w b1 hf hf2 (fits_is _ _ _ _ _ _ false z0 z1 hi (decide_eq_false fun hh => hfit ⟨hh.1, hh.2.2⟩))
  cases hlk : (cellOf P o).lk
  case true =>
    refine still (E := 1) (by rw [putE, if_pos e1, if_pos e2, if_neg hno, if_pos hfit, hlk]; rfl) (by decide) ?_
    obtain ⟨b0, b1', _⟩ := ok_bd hq
    have hc := cellOf_get (P := P) (o := o) b0 b1'
    obtain ⟨iv, g1, g2, g3, g4⟩ := h.cell o.n.toNat _ hc
    obtain ⟨_, _, _, _, _, hp⟩ := h.ivAt hc
    rw [hv] at hf2 ⊢
    have hp' := hp
    rcases hp with ⟨eT, hC⟩ | ⟨eT, hC⟩
    · have eT : celT (cellOf P o) = 156 := by injection eT
      rw [eT] at hf hp'
      exact put_locked87 hb _ _ _ o.k o.n o.a o.l i _ _ _ _ o.x o.s q.n q.a q.l q.x q.s w b1 hf hf2 (fits_is _ _ _ _ _ _ true z0 z1 hi (decide_eq_true ⟨hfit.1, y0, hfit.2⟩)) (locked_is (iv := iv) hp' true hlk)
    · have eT : celT (cellOf P o) = 141 := by injection eT
      rw [eT] at hf hp'
      exact put_locked95 hb _ _ _ o.k o.n o.a o.l i _ _ _ _ o.x o.s q.n q.a q.l q.x q.s w b1 hf hf2 (fits_is _ _ _ _ _ _ true z0 z1 hi (decide_eq_true ⟨hfit.1, y0, hfit.2⟩)) (locked_is (iv := iv) hp' true hlk)
  have e0 : putE P o i q = 0 := by rw [putE, if_pos e1, if_pos e2, if_neg hno, if_pos hfit, hlk]; rfl
  rw [e0, putQ, if_pos e0]
  by_cases hk8 : o.k = 8
  · refine (put_byteCell h o q i hq hq2 hk8 hk hkk.symm hi ⟨hfit.1, y0, hfit.2⟩ hlk).mono ?_
    rintro e w' ⟨rfl, k1, k2⟩
    exact ⟨rfl, role, ⟨_, _, _, _, k1⟩, k2⟩
  · refine (put_itemCell h o q i hq hq2 hk8 hk hkk.symm hi ⟨hfit.1, y0, hfit.2⟩ hlk).mono ?_
    rintro e w' ⟨rfl, k1, k2⟩
    exact ⟨rfl, role, ⟨_, _, _, _, k1⟩, k2⟩
end
end Go.Proofs.Ytmlkmgeddkpgiaa

/- Two heaps of the program, side by side. -/
namespace Go.Proofs.Ytmlkmgeddkpgiaa
open Go.RowKit
set_option linter.unusedVariables false

/-- The heaps hb and gb, each of a colour of its own; what is ours has the colour 0. -/
def TwoH (own : Nat → Prop) (hb gb : Nat) (P Q : List Cel) (w : World) : Prop :=
  ∃ role c d, c ≠ d ∧ 0 < c ∧ 0 < d ∧ PHeap role c hb P w ∧ PHeap role d gb Q w ∧ ∀ b, own b → b < w.heap.size ∧ (role b).1 = 0
section
variable {own : Nat → Prop} {hb gb : Nat} {P Q : List Cel} {w w' : World}
theorem TwoH.swap (h : TwoH own hb gb P Q w) : TwoH own gb hb Q P w := by
  obtain ⟨role, c, d, h1, h2, h3, h4, h5, h6⟩ := h
  exact ⟨role, d, c, h1.symm, h3, h2, h5, h4, h6⟩
theorem TwoH.sub {own' : Nat → Prop} (h : TwoH own hb gb P Q w) (k : ∀ b, own' b → own b) : TwoH own' hb gb P Q w := by
  obtain ⟨role, c, d, h1, h2, h3, h4, h5, h6⟩ := h
  exact ⟨role, c, d, h1, h2, h3, h4, h5, fun b q => h6 b (k b q)⟩
theorem TwoH.lt (h : TwoH own hb gb P Q w) {b : Nat} (q : own b) : b < w.heap.size := by
  obtain ⟨_, _, _, _, _, _, _, _, h6⟩ := h
  exact (h6 b q).1
/-- What a call of the first heap leaves. -/
theorem TwoH.op {role role' : Nat → Nat × Nat} {c d : Nat} {P' : List Cel} (h1 : c ≠ d) (h2 : 0 < c) (h3 : 0 < d) (h5 : PHeap role d gb Q w) (h6 : ∀ b, own b → b < w.heap.size ∧ (role b).1 = 0) (h : PHeap role' c hb P' w') (k : Keep role c w role' w') : TwoH own hb gb P' Q w' ∧ Kept own w w' :=
  ⟨⟨role', c, d, h1, h2, h3, h, h5.keep k h1.symm, fun b q => ⟨Nat.lt_of_lt_of_le (h6 b q).1 k.size, by rw [k.same b (h6 b q).1]; exact (h6 b q).2⟩⟩,
    ⟨k.os, k.tape, k.output, k.size, fun b q => k.block b (h6 b q).1 (by rw [(h6 b q).2]; omega)⟩⟩
theorem TwoH.below (h : TwoH own hb gb P Q w) (k : Below w.heap.size w w') : TwoH own hb gb P Q w' ∧ Kept own w w' := by
  obtain ⟨role, c, d, h1, h2, h3, h4, h5, h6⟩ := h
  exact ⟨⟨role, c, d, h1, h2, h3, h4.below k, h5.below k, fun b q => ⟨Nat.lt_of_lt_of_le (h6 b q).1 k.size, (h6 b q).2⟩⟩, k.os, k.tape, k.output, k.size, fun b q => k.block b (h6 b q).1⟩
/-- Our blocks may have changed, and there are new ones. -/
theorem TwoH.mut (h : TwoH own hb gb P Q w) (k : Kept (fun b => b < w.heap.size ∧ ¬ own b) w w') : TwoH (Plus own w w') hb gb P Q w' := by
  obtain ⟨role, c, d, h1, h2, h3, ⟨vc, ivs, pb, rv, h4⟩, ⟨vc', ivs', pb', rv', h5⟩, h6⟩ := h
  have ne : ∀ b, b < w.heap.size → (role b).1 ≠ 0 → w'.heap[b]? = w.heap[b]? := fun b hb hc => k.block b ⟨hb, fun e => hc (h6 b e).2⟩
  refine ⟨paint role w.heap.size fun _ => (0, 0), c, d, h1, h2, h3, ⟨vc, ivs, pb, rv, h4.same fun b hb hc => ⟨ne b hb (by omega), paint_old hb⟩⟩, ⟨vc', ivs', pb', rv', h5.same fun b hb hc => ⟨ne b hb (by omega), paint_old hb⟩⟩, fun b q => ?_⟩
  rcases q with q | q
  · have := h6 b q
    exact ⟨Nat.lt_of_lt_of_le this.1 k.size, by rw [paint_old this.1]; exact this.2⟩
  · exact ⟨q.2, by rw [paint_new q.1]⟩
/-- A box more. -/
theorem TwoH.box (h : TwoH own hb gb P Q w) (o : Obj) : TwoH (fun b => own b ∨ b = w.heap.size) hb gb P Q (w.alloc o) := by
  obtain ⟨role, c, d, h1, h2, h3, ⟨vc, ivs, pb, rv, h4⟩, ⟨vc', ivs', pb', rv', h5⟩, h6⟩ := h
  refine ⟨paint role w.heap.size fun _ => (0, 0), c, d, h1, h2, h3, ⟨vc, ivs, pb, rv, h4.paint (box_below _ _) _⟩, ⟨vc', ivs', pb', rv', h5.paint (box_below _ _) _⟩, fun b q => ?_⟩
  rcases q with q | rfl
  · have := h6 b q
    exact ⟨by simp; omega, by rw [paint_old this.1]; exact this.2⟩
  · exact ⟨by simp, by rw [paint_new (Nat.le_refl _)]⟩
theorem tArray (h : TwoH own hb gb P Q w) (n : Int) : Calls Try.prog 65 #[ptr hb, .int .i64 n] w fun e w' => e = .returned (.tuple #[(arrO P n).val, .int .i64 (arrE P n)]) ∧ TwoH own hb gb (arrP P n) Q w' ∧ Kept own w w' := by
  obtain ⟨role, c, d, h1, h2, h3, ⟨vc, ivs, pb, rv, h4⟩, h5, h6⟩ := h
  refine (array_tot h4 n).mono ?_
  rintro e w' ⟨rfl, role', q1, q2⟩
  exact ⟨rfl, TwoH.op h1 h2 h3 h5 h6 q1 q2⟩
theorem tString (h : TwoH own hb gb P Q w) (s : ByteArray) : Calls Try.prog 49 #[ptr hb, .string s] w fun e w' => e = .returned (.tuple #[(strO P s).val, .int .i64 (strE P s)]) ∧ TwoH own hb gb (strQ P s) Q w' ∧ Kept own w w' := by
  obtain ⟨role, c, d, h1, h2, h3, ⟨vc, ivs, pb, rv, h4⟩, h5, h6⟩ := h
  refine (string_tot h4 s).mono ?_
  rintro e w' ⟨rfl, role', q1, q2⟩
  exact ⟨rfl, TwoH.op h1 h2 h3 h5 h6 q1 q2⟩
theorem tDict (h : TwoH own hb gb P Q w) (n : Int) : Calls Try.prog 69 #[ptr hb, .int .i64 n] w fun e w' => e = .returned (.tuple #[(dicO P n).val, .int .i64 (dicE P n)]) ∧ TwoH own hb gb (dicP P n) Q w' ∧ Kept own w w' := by
  obtain ⟨role, c, d, h1, h2, h3, ⟨vc, ivs, pb, rv, h4⟩, h5, h6⟩ := h
  refine (dict_tot h4 n).mono ?_
  rintro e w' ⟨rfl, role', q1, q2⟩
  exact ⟨rfl, TwoH.op h1 h2 h3 h5 h6 q1 q2⟩
theorem tLock (h : TwoH own hb gb P Q w) (o : Ob) : Calls Try.prog 18 #[ptr hb, o.val] w fun e w' => e = .returned (.int .i64 (errO P o)) ∧ TwoH own hb gb (lokP P o) Q w' ∧ Kept own w w' := by
  obtain ⟨role, c, d, h1, h2, h3, ⟨vc, ivs, pb, rv, h4⟩, h5, h6⟩ := h
  refine (lock_tot h4 o).mono ?_
  rintro e w' ⟨rfl, role', q1, q2⟩
  exact ⟨rfl, TwoH.op h1 h2 h3 h5 h6 q1 q2⟩
theorem tSet (h : TwoH own hb gb P Q w) (o : Ob) (i : Int) (x : Ob) : Calls Try.prog 14 #[ptr hb, o.val, .int .i64 i, x.val] w fun e w' => e = .returned (.int .i64 (setE P o i x)) ∧ TwoH own hb gb (setP P o i x) Q w' ∧ Kept own w w' := by
  obtain ⟨role, c, d, h1, h2, h3, ⟨vc, ivs, pb, rv, h4⟩, h5, h6⟩ := h
  refine (set_is h4 o i x).mono ?_
  rintro e w' ⟨rfl, q1, q2⟩
  exact ⟨rfl, TwoH.op h1 h2 h3 h5 h6 ⟨_, _, _, _, q1⟩ q2⟩
theorem tPut (h : TwoH own hb gb P Q w) (o : Ob) (i : Int) (x : Ob) (hi : i < 9223372036854775808) : Calls Try.prog 16 #[ptr hb, o.val, .int .i64 i, x.val] w fun e w' => e = .returned (.int .i64 (putE P o i x)) ∧ TwoH own hb gb (putQ P o i x) Q w' ∧ Kept own w w' := by
  obtain ⟨role, c, d, h1, h2, h3, ⟨vc, ivs, pb, rv, h4⟩, h5, h6⟩ := h
  refine (put_tot h4 o i x hi).mono ?_
  rintro e w' ⟨rfl, role', q1, q2⟩
  exact ⟨rfl, TwoH.op h1 h2 h3 h5 h6 q1 q2⟩
theorem tPart (h : TwoH own hb gb P Q w) (o : Ob) (i m : Int) (hi : i < 9223372036854775808) : Calls Try.prog 66 #[ptr hb, o.val, .int .i64 i, .int .i64 m] w fun e w' => e = .returned (.tuple #[(partO P o i m).val, .int .i64 (partE P o i m)]) ∧ Below w.heap.size w w' := by
  obtain ⟨role, c, d, h1, h2, h3, ⟨vc, ivs, pb, rv, h4⟩, h5, h6⟩ := h
  exact part_is h4 o i m hi
theorem tSize (h : TwoH own hb gb P Q w) (o : Ob) : Calls Try.prog 76 #[ptr hb, o.val] w fun e w' => e = .returned (.tuple #[.int .i64 (lenO P o), .int .i64 (errO P o)]) ∧ Below w.heap.size w w' := by
  obtain ⟨role, c, d, h1, h2, h3, ⟨vc, ivs, pb, rv, h4⟩, h5, h6⟩ := h
  exact size_is h4 o
theorem tItems (h : TwoH own hb gb P Q w) (o : Ob) : Calls Try.prog 78 #[ptr hb, o.val] w fun e w' => ∃ v, e = .returned (.tuple #[v, .int .i64 (itsE P o)]) ∧ ItemsOf w (itsL P o) v w' := by
  obtain ⟨role, c, d, h1, h2, h3, ⟨vc, ivs, pb, rv, h4⟩, h5, h6⟩ := h
  exact items_tot h4 o
theorem tBytes (h : TwoH own hb gb P Q w) (o : Ob) : Calls Try.prog 51 #[ptr hb, o.val] w fun e w' => e = .returned (.tuple #[.string (bytV P o), .int .i64 (bytE P o)]) ∧ Below w.heap.size w w' := by
  obtain ⟨role, c, d, h1, h2, h3, ⟨vc, ivs, pb, rv, h4⟩, h5, h6⟩ := h
  exact bytes_tot h4 o
theorem tGet (h : TwoH own hb gb P Q w) (o : Ob) (i : Int) : Calls Try.prog 67 #[ptr hb, o.val, .int .i64 i] w fun e w' => e = .returned (.tuple #[(getO P o i).val, .int .i64 (getE P o i)]) ∧ Below w.heap.size w w' := by
  obtain ⟨role, c, d, h1, h2, h3, ⟨vc, ivs, pb, rv, h4⟩, h5, h6⟩ := h
  exact get_is h4 o i
theorem tMay (h : TwoH own hb gb P Q w) (o : Ob) : Calls Try.prog 81 #[ptr hb, o.val] w fun e w' => e = .returned (.bool (mayH P o)) ∧ Below w.heap.size w w' := by
  obtain ⟨role, c, d, h1, h2, h3, ⟨vc, ivs, pb, rv, h4⟩, h5, h6⟩ := h
  exact mayH_is h4 o
theorem tCells (h : TwoH own hb gb P Q w) : Calls Try.prog 23 #[ptr hb] w fun e w' => e = .returned (.int .i64 P.length) ∧ w = w' := by
  obtain ⟨role, c, d, h1, h2, h3, ⟨vc, ivs, pb, rv, h4⟩, h5, h6⟩ := h
  obtain ⟨p, cap, rfl, h0⟩ := h4.cells
  exact cells_any hb p P.length cap w h0
theorem tUsed (h : TwoH own hb gb P Q w) : Calls Try.prog 24 #[ptr hb] w fun e w' => e = .returned (.int .i64 (usedP P)) ∧ w = w' := by
  obtain ⟨role, c, d, h1, h2, h3, ⟨vc, ivs, pb, rv, h4⟩, h5, h6⟩ := h
  exact used_any hb (usedP P) w h4.used
theorem tBecome (h : TwoH own hb gb P Q w) : Calls Try.prog 20 #[ptr hb, ptr gb] w fun e w' => e = .returned (.tuple #[]) ∧ TwoH own hb gb Q Q w' ∧ Kept own w w' := by
  obtain ⟨role, c, d, h1, h2, h3, ⟨vc, ivs, pb, rv, h4⟩, ⟨vc', ivs', pb', rv', h5⟩, h6⟩ := h
  refine (become_any h5 c hb h1.symm _ _ h4.hblk h4.hrole).mono ?_
  rintro e w' ⟨rfl, role', q1, q2⟩
  exact ⟨rfl, TwoH.op h1 h2 h3 ⟨_, _, _, _, h5⟩ h6 q1 q2⟩
theorem tCopy (h : TwoH own hb gb P Q w) : Calls Try.prog 10 #[ptr hb] w fun e w' => ∃ nb, e = .returned (ptr nb) ∧ TwoH own nb hb P P w' ∧ Kept own w w' := by
  obtain ⟨role, c, d, h1, h2, h3, ⟨vc, ivs, pb, rv, h4⟩, h5, h6⟩ := h
  refine copy_walk hb (fun nb w' => TwoH own nb hb P P w' ∧ Kept own w w') w (Lib.hid ?_)
  have hp := h4.paint (box_below w (.cells #[.slice none 0 0, .int .i64 0] 97)) fun _ => (c + d + 1, 0)
  refine (become_any hp (c + d + 1) w.heap.size (by omega) _ _ (heap_alloc_new _ _) (paint_new (Nat.le_refl _))).mono ?_
  rintro e w' ⟨rfl, role', q1, q2⟩
  have hsz : w.heap.size ≤ w'.heap.size := Nat.le_trans (by simp) q2.size
  refine ⟨rfl, ⟨role', c + d + 1, c, by omega, by omega, h2, q1, PHeap.keep (⟨_, _, _, _, hp⟩ : PHeap _ c hb P _) q2 (by omega), fun b q => ?_⟩, q2.os, q2.tape, q2.output, hsz, fun b q => ?_⟩
  · have hl := (h6 b q).1
    refine ⟨Nat.lt_of_lt_of_le hl hsz, ?_⟩
    rw [q2.same b (by simp; omega), paint_old hl]
    exact (h6 b q).2
  · have hl := (h6 b q).1
    rw [q2.block b (by simp; omega) (by rw [paint_old hl, (h6 b q).2]; omega), Below.heap_alloc _ _ _ hl]
end
end Go.Proofs.Ytmlkmgeddkpgiaa

/- HeapPlays: both sides, and what each has kept. -/
namespace Go.Proofs.Ytmlkmgeddkpgiaa
open Go.RowKit
set_option linter.unusedVariables false

/-- The program's heaps hb and gb hold P and Q, the reference's rb and its copy fb A and B; 'out' are blocks of ours that nobody else has. -/
def Play (out : Nat → Prop) (hb gb rb fb : Nat) (P Q A B : List Cel) (w : World) : Prop :=
  ∃ own v R vF F, TwoH (fun b => own b ∨ out b) hb gb P Q w ∧ RH own rb v R w ∧ RH (Im own rb v) fb vF F w ∧ (∀ b, out b → ¬ own b) ∧ cels R = A ∧ cels F = B
section
variable {out : Nat → Prop} {hb gb rb fb : Nat} {P Q A B P' Q' : List Cel} {w w' : World}
theorem Play.lt (h : Play out hb gb rb fb P Q A B w) {b : Nat} (q : out b) : b < w.heap.size := by
  obtain ⟨own, v, R, vF, F, h1, h2, h3, h4, h5, h6⟩ := h
  exact h1.lt (.inr q)
theorem Play.kept (h : Play out hb gb rb fb P Q A B w) (k : Below w.heap.size w w') : Kept out w w' := kept_of k fun b q => h.lt q
theorem Play.sub {out' : Nat → Prop} (h : Play out hb gb rb fb P Q A B w) (k : ∀ b, out' b → out b) : Play out' hb gb rb fb P Q A B w := by
  obtain ⟨own, v, R, vF, F, h1, h2, h3, h4, h5, h6⟩ := h
  exact ⟨own, v, R, vF, F, h1.sub fun b q => q.imp id (k b), h2, h3, fun b q => h4 b (k b q), h5, h6⟩
theorem Play.below (h : Play out hb gb rb fb P Q A B w) (k : Below w.heap.size w w') : Play out hb gb rb fb P Q A B w' := by
  obtain ⟨own, v, R, vF, F, h1, h2, h3, h4, h5, h6⟩ := h
  exact ⟨own, v, R, vF, F, (h1.below k).1, h2.below k, h3.below k, h4, h5, h6⟩
theorem Play.box (h : Play out hb gb rb fb P Q A B w) (o : Obj) : Play (fun b => out b ∨ b = w.heap.size) hb gb rb fb P Q A B (w.alloc o) := by
  obtain ⟨own, v, R, vF, F, h1, h2, h3, h4, h5, h6⟩ := h
  have hl := fun b (q : own b) => h1.lt (.inl q)
  refine ⟨own, v, R, vF, F, (h1.box o).sub ?_, h2.below (box_below _ _), h3.below (box_below _ _), ?_, h5, h6⟩
  · rintro b (q | q | q)
    · exact .inl (.inl q)
    · exact .inl (.inr q)
    · exact .inr q
  · rintro b (q | rfl)
    · exact h4 b q
    · exact fun q => Nat.lt_irrefl _ (hl _ q)
/-- Blocks of ours may have changed, and there are new ones. -/
theorem Play.mine (h : Play out hb gb rb fb P Q A B w) (k : Kept (fun b => b < w.heap.size ∧ ¬ out b) w w') : Play (Plus out w w') hb gb rb fb P Q A B w' := by
  obtain ⟨own, v, R, vF, F, h1, h2, h3, h4, h5, h6⟩ := h
  have hl := fun b (q : own b) => h1.lt (.inl q)
  have kk : ∀ b, own b → b < w.heap.size → w'.heap[b]? = w.heap[b]? := fun b q hb => k.block b ⟨hb, fun e => h4 b e q⟩
  refine ⟨own, v, R, vF, F, (h1.mut (k.sub fun b q => ⟨q.1, fun e => q.2 (.inr e)⟩)).sub ?_, h2.kept (fun b q => q) k.size kk, h3.kept (fun b q => q) k.size fun b q hb => kk b q.1 hb, ?_, h5, h6⟩
  · rintro b (q | q | q)
    · exact .inl (.inl q)
    · exact .inl (.inr q)
    · exact .inr q
  · rintro b (q | q)
    · exact h4 b q
    · exact fun e => by have := hl b e; omega
/-- The program has done something. -/
theorem Play.prog {hb' gb' : Nat} (h : Play out hb gb rb fb P Q A B w) (C : ∀ own, TwoH own hb gb P Q w → TwoH own hb' gb' P' Q' w' ∧ Kept own w w') : Play out hb' gb' rb fb P' Q' A B w' ∧ Kept out w w' := by
  obtain ⟨own, v, R, vF, F, h1, h2, h3, h4, h5, h6⟩ := h
  obtain ⟨c1, k⟩ := C _ h1
  have kk : ∀ b, own b → b < w.heap.size → w'.heap[b]? = w.heap[b]? := fun b q _ => k.block b (.inl q)
  exact ⟨⟨own, v, R, vF, F, c1, h2.kept (fun b q => q) k.size kk, h3.kept (fun b q => q) k.size fun b q hb => kk b q.1 hb, h4, h5, h6⟩, k.sub fun b q => .inr q⟩
end
section
variable {out own : Nat → Prop} {hb gb rb fb : Nat} {P Q A B A' : List Cel} {v vF : Value} {R F : List RC} {w w' : World}
/-- The reference's heap has done something. -/
theorem Play.ref (h1 : TwoH (fun b => own b ∨ out b) hb gb P Q w) (h2 : RH own rb v R w) (h3 : RH (Im own rb v) fb vF F w) (h4 : ∀ b, out b → ¬ own b) (h6 : cels F = B)
    (k : Kept (fun b => b < w.heap.size ∧ b ≠ rb ∧ v.ownBlock ≠ some b) w w') {v' : Value} {R' : List RC} (r : RH (Plus own w w') rb v' R' w') (e : cels R' = A') (hv : v' = v ∨ ∀ g, v'.ownBlock = some g → w.heap.size ≤ g) :
    Play out hb gb rb fb P Q A' B w' ∧ Kept out w w' := by
  have hl := fun b (q : own b) => h1.lt (.inl q)
  have fx : ∀ b, ¬ own b → b ≠ rb ∧ v.ownBlock ≠ some b := fun b q => ⟨fun e => q (e ▸ h2.mine), fun e => q (by
    rcases h2.row with ⟨rfl, _⟩ | ⟨g, cap, rfl, _, q2, _⟩
    · cases e
    · obtain rfl := own_eq e
      exact q2.1)⟩
  refine ⟨⟨Plus own w w', v', R', vF, F, (h1.mut (k.sub fun b q => ⟨q.1, fx b fun e => q.2 (.inl e)⟩)).sub ?_, r, h3.frozen (fun b q => .inl q) k hv hl, ?_, e, h6⟩, k.sub fun b q => ⟨h1.lt (.inr q), fx b (h4 b q)⟩⟩
  · rintro b ((q | q) | q)
    · exact .inl (.inl q)
    · exact .inr q
    · exact .inl (.inr q)
  · rintro b q (q' | q')
    · exact h4 b q q'
    · have := h1.lt (.inr q)
      omega
end
end Go.Proofs.Ytmlkmgeddkpgiaa

/- HeapPlays: each call over the state of both sides. -/
namespace Go.Proofs.Ytmlkmgeddkpgiaa
open Go.RowKit
set_option linter.unusedVariables false
section
variable {out : Nat → Prop} {hb gb rb fb : Nat} {P Q A B : List Cel} {w : World}
theorem pArray (h : Play out hb gb rb fb P Q A B w) (n : Int) : Calls Try.prog 65 #[ptr hb, .int .i64 n] w fun e w' => e = .returned (.tuple #[(arrO P n).val, .int .i64 (arrE P n)]) ∧ Play out hb gb rb fb (arrP P n) Q A B w' ∧ Kept out w w' := by
  obtain ⟨own, v, R, vF, F, h, h2, h3, h4, h5, h6⟩ := h
  refine (tArray h n).mono ?_
  rintro e w' ⟨rfl, c1, k⟩
  have kk : ∀ b, own b → b < w.heap.size → w'.heap[b]? = w.heap[b]? := fun b q _ => k.block b (.inl q)
  exact ⟨rfl, ⟨own, v, R, vF, F, c1, h2.kept (fun b q => q) k.size kk, h3.kept (fun b q => q) k.size fun b q hb => kk b q.1 hb, h4, h5, h6⟩, k.sub fun b q => .inr q⟩
theorem pString (h : Play out hb gb rb fb P Q A B w) (s : ByteArray) : Calls Try.prog 49 #[ptr hb, .string s] w fun e w' => e = .returned (.tuple #[(strO P s).val, .int .i64 (strE P s)]) ∧ Play out hb gb rb fb (strQ P s) Q A B w' ∧ Kept out w w' := by
  obtain ⟨own, v, R, vF, F, h, h2, h3, h4, h5, h6⟩ := h
  refine (tString h s).mono ?_
  rintro e w' ⟨rfl, c1, k⟩
  have kk : ∀ b, own b → b < w.heap.size → w'.heap[b]? = w.heap[b]? := fun b q _ => k.block b (.inl q)
  exact ⟨rfl, ⟨own, v, R, vF, F, c1, h2.kept (fun b q => q) k.size kk, h3.kept (fun b q => q) k.size fun b q hb => kk b q.1 hb, h4, h5, h6⟩, k.sub fun b q => .inr q⟩
theorem pDict (h : Play out hb gb rb fb P Q A B w) (n : Int) : Calls Try.prog 69 #[ptr hb, .int .i64 n] w fun e w' => e = .returned (.tuple #[(dicO P n).val, .int .i64 (dicE P n)]) ∧ Play out hb gb rb fb (dicP P n) Q A B w' ∧ Kept out w w' := by
  obtain ⟨own, v, R, vF, F, h, h2, h3, h4, h5, h6⟩ := h
  refine (tDict h n).mono ?_
  rintro e w' ⟨rfl, c1, k⟩
  have kk : ∀ b, own b → b < w.heap.size → w'.heap[b]? = w.heap[b]? := fun b q _ => k.block b (.inl q)
  exact ⟨rfl, ⟨own, v, R, vF, F, c1, h2.kept (fun b q => q) k.size kk, h3.kept (fun b q => q) k.size fun b q hb => kk b q.1 hb, h4, h5, h6⟩, k.sub fun b q => .inr q⟩
theorem pLock (h : Play out hb gb rb fb P Q A B w) (o : Ob) : Calls Try.prog 18 #[ptr hb, o.val] w fun e w' => e = .returned (.int .i64 (errO P o)) ∧ Play out hb gb rb fb (lokP P o) Q A B w' ∧ Kept out w w' := by
  obtain ⟨own, v, R, vF, F, h, h2, h3, h4, h5, h6⟩ := h
  refine (tLock h o).mono ?_
  rintro e w' ⟨rfl, c1, k⟩
  have kk : ∀ b, own b → b < w.heap.size → w'.heap[b]? = w.heap[b]? := fun b q _ => k.block b (.inl q)
  exact ⟨rfl, ⟨own, v, R, vF, F, c1, h2.kept (fun b q => q) k.size kk, h3.kept (fun b q => q) k.size fun b q hb => kk b q.1 hb, h4, h5, h6⟩, k.sub fun b q => .inr q⟩
theorem pSet (h : Play out hb gb rb fb P Q A B w) (o : Ob) (i : Int) (x : Ob) : Calls Try.prog 14 #[ptr hb, o.val, .int .i64 i, x.val] w fun e w' => e = .returned (.int .i64 (setE P o i x)) ∧ Play out hb gb rb fb (setP P o i x) Q A B w' ∧ Kept out w w' := by
  obtain ⟨own, v, R, vF, F, h, h2, h3, h4, h5, h6⟩ := h
  refine (tSet h o i x).mono ?_
  rintro e w' ⟨rfl, c1, k⟩
  have kk : ∀ b, own b → b < w.heap.size → w'.heap[b]? = w.heap[b]? := fun b q _ => k.block b (.inl q)
  exact ⟨rfl, ⟨own, v, R, vF, F, c1, h2.kept (fun b q => q) k.size kk, h3.kept (fun b q => q) k.size fun b q hb => kk b q.1 hb, h4, h5, h6⟩, k.sub fun b q => .inr q⟩
theorem pPut (h : Play out hb gb rb fb P Q A B w) (o : Ob) (i : Int) (x : Ob) (hi : i < 9223372036854775808) : Calls Try.prog 16 #[ptr hb, o.val, .int .i64 i, x.val] w fun e w' => e = .returned (.int .i64 (putE P o i x)) ∧ Play out hb gb rb fb (putQ P o i x) Q A B w' ∧ Kept out w w' := by
  obtain ⟨own, v, R, vF, F, h, h2, h3, h4, h5, h6⟩ := h
  refine (tPut h o i x hi).mono ?_
  rintro e w' ⟨rfl, c1, k⟩
  have kk : ∀ b, own b → b < w.heap.size → w'.heap[b]? = w.heap[b]? := fun b q _ => k.block b (.inl q)
  exact ⟨rfl, ⟨own, v, R, vF, F, c1, h2.kept (fun b q => q) k.size kk, h3.kept (fun b q => q) k.size fun b q hb => kk b q.1 hb, h4, h5, h6⟩, k.sub fun b q => .inr q⟩
theorem pPart (h : Play out hb gb rb fb P Q A B w) (o : Ob) (i m : Int) (hi : i < 9223372036854775808) : Calls Try.prog 66 #[ptr hb, o.val, .int .i64 i, .int .i64 m] w fun e w' => e = .returned (.tuple #[(partO P o i m).val, .int .i64 (partE P o i m)]) ∧ Below w.heap.size w w' := by
  obtain ⟨own, v, R, vF, F, h, h2, h3, h4, h5, h6⟩ := h
  exact tPart h o i m hi
theorem pSize (h : Play out hb gb rb fb P Q A B w) (o : Ob) : Calls Try.prog 76 #[ptr hb, o.val] w fun e w' => e = .returned (.tuple #[.int .i64 (lenO P o), .int .i64 (errO P o)]) ∧ Below w.heap.size w w' := by
  obtain ⟨own, v, R, vF, F, h, h2, h3, h4, h5, h6⟩ := h
  exact tSize h o
theorem pBytes (h : Play out hb gb rb fb P Q A B w) (o : Ob) : Calls Try.prog 51 #[ptr hb, o.val] w fun e w' => e = .returned (.tuple #[.string (bytV P o), .int .i64 (bytE P o)]) ∧ Below w.heap.size w w' := by
  obtain ⟨own, v, R, vF, F, h, h2, h3, h4, h5, h6⟩ := h
  exact tBytes h o
theorem pGet (h : Play out hb gb rb fb P Q A B w) (o : Ob) (i : Int) : Calls Try.prog 67 #[ptr hb, o.val, .int .i64 i] w fun e w' => e = .returned (.tuple #[(getO P o i).val, .int .i64 (getE P o i)]) ∧ Below w.heap.size w w' := by
  obtain ⟨own, v, R, vF, F, h, h2, h3, h4, h5, h6⟩ := h
  exact tGet h o i
theorem pMay (h : Play out hb gb rb fb P Q A B w) (o : Ob) : Calls Try.prog 81 #[ptr hb, o.val] w fun e w' => e = .returned (.bool (mayH P o)) ∧ Below w.heap.size w w' := by
  obtain ⟨own, v, R, vF, F, h, h2, h3, h4, h5, h6⟩ := h
  exact tMay h o
theorem pItems (h : Play out hb gb rb fb P Q A B w) (o : Ob) : Calls Try.prog 78 #[ptr hb, o.val] w fun e w' => ∃ v, e = .returned (.tuple #[v, .int .i64 (itsE P o)]) ∧ ItemsOf w (itsL P o) v w' := by
  obtain ⟨own, v, R, vF, F, h, h2, h3, h4, h5, h6⟩ := h
  exact tItems h o
theorem pCells (h : Play out hb gb rb fb P Q A B w) : Calls Try.prog 23 #[ptr hb] w fun e w' => e = .returned (.int .i64 P.length) ∧ w = w' := by
  obtain ⟨own, v, R, vF, F, h, h2, h3, h4, h5, h6⟩ := h
  exact tCells h
theorem pUsed (h : Play out hb gb rb fb P Q A B w) : Calls Try.prog 24 #[ptr hb] w fun e w' => e = .returned (.int .i64 (usedP P)) ∧ w = w' := by
  obtain ⟨own, v, R, vF, F, h, h2, h3, h4, h5, h6⟩ := h
  exact tUsed h
theorem gCells (h : Play out hb gb rb fb P Q A B w) : Calls Try.prog 23 #[ptr gb] w fun e w' => e = .returned (.int .i64 Q.length) ∧ w = w' := by
  obtain ⟨own, v, R, vF, F, h, h2, h3, h4, h5, h6⟩ := h
  exact tCells h.swap
theorem gUsed (h : Play out hb gb rb fb P Q A B w) : Calls Try.prog 24 #[ptr gb] w fun e w' => e = .returned (.int .i64 (usedP Q)) ∧ w = w' := by
  obtain ⟨own, v, R, vF, F, h, h2, h3, h4, h5, h6⟩ := h
  exact tUsed h.swap
theorem pBecome (h : Play out hb gb rb fb P Q A B w) : Calls Try.prog 20 #[ptr hb, ptr gb] w fun e w' => e = .returned (.tuple #[]) ∧ Play out hb gb rb fb Q Q A B w' ∧ Kept out w w' := by
  obtain ⟨own, v, R, vF, F, h, h2, h3, h4, h5, h6⟩ := h
  refine (tBecome h).mono ?_
  rintro e w' ⟨rfl, c1, k⟩
  have kk : ∀ b, own b → b < w.heap.size → w'.heap[b]? = w.heap[b]? := fun b q _ => k.block b (.inl q)
  exact ⟨rfl, ⟨own, v, R, vF, F, c1, h2.kept (fun b q => q) k.size kk, h3.kept (fun b q => q) k.size fun b q hb => kk b q.1 hb, h4, h5, h6⟩, k.sub fun b q => .inr q⟩
theorem pCopy (h : Play out hb gb rb fb P Q A B w) : Calls Try.prog 10 #[ptr hb] w fun e w' => ∃ nb, e = .returned (ptr nb) ∧ Play out nb hb rb fb P P A B w' ∧ Kept out w w' := by
  obtain ⟨own, v, R, vF, F, h, h2, h3, h4, h5, h6⟩ := h
  refine (tCopy h).mono ?_
  rintro e w' ⟨nb, rfl, c1, k⟩
  have kk : ∀ b, own b → b < w.heap.size → w'.heap[b]? = w.heap[b]? := fun b q _ => k.block b (.inl q)
  exact ⟨nb, rfl, ⟨own, v, R, vF, F, c1, h2.kept (fun b q => q) k.size kk, h3.kept (fun b q => q) k.size fun b q hb => kk b q.1 hb, h4, h5, h6⟩, k.sub fun b q => .inr q⟩
theorem qArray (h : Play out hb gb rb fb P Q A B w) (n : Int) : Calls Try.prog 68 #[ptr rb, .int .i64 n] w fun e w' => e = .returned (.tuple #[(arrO A n).val, .int .i64 (arrE A n)]) ∧ Play out hb gb rb fb P Q (arrP A n) B w' ∧ Kept out w w' := by
  obtain ⟨own, v, R, vF, F, h1, h2, h3, h4, rfl, h6⟩ := h
  have ho := fun b (q : own b) => h1.lt (.inl q)
  refine (rarray_tot h2 ho n).mono ?_
  rintro e w' ⟨rfl, ⟨v', R', r, e, hv⟩, k⟩
  exact ⟨rfl, Play.ref h1 h2 h3 h4 h6 (k.sub fun b q => ⟨q.1, q.2.1⟩) r e hv⟩
theorem qString (h : Play out hb gb rb fb P Q A B w) (s : ByteArray) : Calls Try.prog 50 #[ptr rb, .string s] w fun e w' => e = .returned (.tuple #[(strO A s).val, .int .i64 (strE A s)]) ∧ Play out hb gb rb fb P Q (strQ A s) B w' ∧ Kept out w w' := by
  obtain ⟨own, v, R, vF, F, h1, h2, h3, h4, rfl, h6⟩ := h
  have ho := fun b (q : own b) => h1.lt (.inl q)
  refine (rstring_tot h2 ho s).mono ?_
  rintro e w' ⟨rfl, ⟨v', R', r, e, hv⟩, k⟩
  exact ⟨rfl, Play.ref h1 h2 h3 h4 h6 (k.sub fun b q => ⟨q.1, q.2.1⟩) r e hv⟩
theorem qDict (h : Play out hb gb rb fb P Q A B w) (n : Int) : Calls Try.prog 28 #[ptr rb, .int .i64 n] w fun e w' => e = .returned (.tuple #[(dicO A n).val, .int .i64 (dicE A n)]) ∧ Play out hb gb rb fb P Q (dicP A n) B w' ∧ Kept out w w' := by
  obtain ⟨own, v, R, vF, F, h1, h2, h3, h4, rfl, h6⟩ := h
  have ho := fun b (q : own b) => h1.lt (.inl q)
  refine (rdict_tot h2 ho n).mono ?_
  rintro e w' ⟨rfl, ⟨v', R', r, e, hv⟩, k⟩
  exact ⟨rfl, Play.ref h1 h2 h3 h4 h6 (k.sub fun b q => ⟨q.1, q.2.1⟩) r e hv⟩
theorem qLock (h : Play out hb gb rb fb P Q A B w) (o : Ob) : Calls Try.prog 19 #[ptr rb, o.val] w fun e w' => e = .returned (.int .i64 (errO A o)) ∧ Play out hb gb rb fb P Q (lokP A o) B w' ∧ Kept out w w' := by
  obtain ⟨own, v, R, vF, F, h1, h2, h3, h4, rfl, h6⟩ := h
  have ho := fun b (q : own b) => h1.lt (.inl q)
  refine (rlock_tot h2 ho o).mono ?_
  rintro e w' ⟨rfl, ⟨R', r, e⟩, k⟩
  exact ⟨rfl, Play.ref h1 h2 h3 h4 h6 k r e (.inl rfl)⟩
theorem qSet (h : Play out hb gb rb fb P Q A B w) (o : Ob) (i : Int) (x : Ob) : Calls Try.prog 15 #[ptr rb, o.val, .int .i64 i, x.val] w fun e w' => e = .returned (.int .i64 (setE A o i x)) ∧ Play out hb gb rb fb P Q (setP A o i x) B w' ∧ Kept out w w' := by
  obtain ⟨own, v, R, vF, F, h1, h2, h3, h4, rfl, h6⟩ := h
  have ho := fun b (q : own b) => h1.lt (.inl q)
  refine (rset_tot h2 ho o i x).mono ?_
  rintro e w' ⟨rfl, ⟨R', r, e⟩, k⟩
  exact ⟨rfl, Play.ref h1 h2 h3 h4 h6 k r e (.inl rfl)⟩
theorem qPut (h : Play out hb gb rb fb P Q A B w) (o : Ob) (i : Int) (x : Ob) (hi : i ≤ 9223372036854775807) : Calls Try.prog 17 #[ptr rb, o.val, .int .i64 i, x.val] w fun e w' => e = .returned (.int .i64 (putE A o i x)) ∧ Play out hb gb rb fb P Q (putQ A o i x) B w' ∧ Kept out w w' := by
  obtain ⟨own, v, R, vF, F, h1, h2, h3, h4, rfl, h6⟩ := h
  have ho := fun b (q : own b) => h1.lt (.inl q)
  refine (rput_tot h2 ho o i x hi).mono ?_
  rintro e w' ⟨rfl, ⟨R', r, e⟩, k⟩
  exact ⟨rfl, Play.ref h1 h2 h3 h4 h6 k r e (.inl rfl)⟩
theorem qPart (h : Play out hb gb rb fb P Q A B w) (o : Ob) (i m : Int) (hm : m ≤ 9223372036854775807) (hi : i ≤ 9223372036854775807) : Calls Try.prog 70 #[ptr rb, o.val, .int .i64 i, .int .i64 m] w fun e w' => e = .returned (.tuple #[(partO A o i m).val, .int .i64 (partE A o i m)]) ∧ Below w.heap.size w w' := by
  obtain ⟨own, v, R, vF, F, h1, h2, h3, h4, rfl, h6⟩ := h
  exact rpart_tot h2 o i m hm hi
theorem qSize (h : Play out hb gb rb fb P Q A B w) (o : Ob) : Calls Try.prog 77 #[ptr rb, o.val] w fun e w' => e = .returned (.tuple #[.int .i64 (lenO A o), .int .i64 (errO A o)]) ∧ Below w.heap.size w w' := by
  obtain ⟨own, v, R, vF, F, h1, h2, h3, h4, rfl, h6⟩ := h
  exact rsize_tot h2 o
theorem qBytes (h : Play out hb gb rb fb P Q A B w) (o : Ob) : Calls Try.prog 52 #[ptr rb, o.val] w fun e w' => e = .returned (.tuple #[.string (bytV A o), .int .i64 (bytE A o)]) ∧ Below w.heap.size w w' := by
  obtain ⟨own, v, R, vF, F, h1, h2, h3, h4, rfl, h6⟩ := h
  exact rbytes_tot h2 o
theorem qGet (h : Play out hb gb rb fb P Q A B w) (o : Ob) (i : Int) : Calls Try.prog 80 #[ptr rb, o.val, .int .i64 i] w fun e w' => e = .returned (.tuple #[(getO A o i).val, .int .i64 (getE A o i)]) ∧ Below w.heap.size w w' := by
  obtain ⟨own, v, R, vF, F, h1, h2, h3, h4, rfl, h6⟩ := h
  exact rget_tot h2 o i
theorem qMay (h : Play out hb gb rb fb P Q A B w) (o : Ob) : Calls Try.prog 74 #[ptr rb, o.val] w fun e w' => e = .returned (.bool (mayH A o)) ∧ Below w.heap.size w w' := by
  obtain ⟨own, v, R, vF, F, h1, h2, h3, h4, rfl, h6⟩ := h
  exact rmayH_any h2 o
theorem qItems (h : Play out hb gb rb fb P Q A B w) (o : Ob) : Calls Try.prog 79 #[ptr rb, o.val] w fun e w' => ∃ v, e = .returned (.tuple #[v, .int .i64 (itsE A o)]) ∧ ItemsOf w (itsL A o) v w' := by
  obtain ⟨own, v, R, vF, F, h1, h2, h3, h4, rfl, h6⟩ := h
  exact ritems_tot h2 o
theorem qUsed (h : Play out hb gb rb fb P Q A B w) : Calls Try.prog 25 #[ptr rb] w fun e w' => e = .returned (.int .i64 (usedP A)) ∧ Below w.heap.size w w' := by
  obtain ⟨own, v, R, vF, F, h1, h2, h3, h4, rfl, h6⟩ := h
  exact rused_any h2
theorem vUsed (h : Play out hb gb rb fb P Q A B w) : Calls Try.prog 25 #[ptr fb] w fun e w' => e = .returned (.int .i64 (usedP B)) ∧ Below w.heap.size w w' := by
  obtain ⟨own, v, R, vF, F, h1, h2, h3, h4, h5, rfl⟩ := h
  exact rused_any h3
theorem Play.len (h : Play out hb gb rb fb P Q A B w) : ∃ p c, w.cell? ⟨rb, 0, none⟩ = some (.slice p A.length c) := by
  obtain ⟨own, v, R, vF, F, h1, h2, h3, h4, rfl, h6⟩ := h
  obtain ⟨p, cap, rfl, _⟩ := h2.row.form
  exact ⟨p, cap, by rw [cels_length]; exact h2.hcell⟩
theorem Play.vlen (h : Play out hb gb rb fb P Q A B w) : ∃ p c, w.cell? ⟨fb, 0, none⟩ = some (.slice p B.length c) := by
  obtain ⟨own, v, R, vF, F, h1, h2, h3, h4, h5, rfl⟩ := h
  obtain ⟨p, cap, rfl, _⟩ := h3.row.form
  exact ⟨p, cap, by rw [cels_length]; exact h3.hcell⟩
theorem qBecome (h : Play out hb gb rb fb P Q A B w) : Calls Try.prog 21 #[ptr rb, ptr fb] w fun e w' => e = .returned (.tuple #[]) ∧ Play out hb gb rb fb P Q B B w' ∧ Kept out w w' := by
  obtain ⟨own, v, R, vF, F, h1, h2, h3, h4, h5, h6⟩ := h
  have ho := fun b (q : own b) => h1.lt (.inl q)
  refine (rbecome_any h2 h3 ho).mono ?_
  rintro e w' ⟨rfl, ⟨v', r, hv⟩, k⟩
  exact ⟨rfl, Play.ref h1 h2 h3 h4 h6 (k.sub fun b q => ⟨q.1, q.2.1⟩) r h6 (.inr hv)⟩
theorem qCopy (h : Play out hb gb rb fb P Q A B w) : Calls Try.prog 11 #[ptr rb] w fun e w' => ∃ nf, e = .returned (ptr nf) ∧ Play out hb gb rb nf P Q A A w' ∧ Kept out w w' := by
  obtain ⟨own, v, R, vF, F, h1, h2, h3, h4, h5, h6⟩ := h
  have ho := fun b (q : own b) => h1.lt (.inl q)
  refine (rcopy_any h2 ho).mono ?_
  rintro e w' ⟨nf, rfl, ⟨vN, r1⟩, r2, k⟩
  refine ⟨nf, rfl, ⟨Plus own w w', v, R, vN, R, ((h1.mut (kept_of k fun b q => q.1)).sub ?_), r2, r1, ?_, h5, h5⟩, kept_of k fun b q => h1.lt (.inr q)⟩
  · rintro b ((q | q) | q)
    · exact .inl (.inl q)
    · exact .inr q
    · exact .inl (.inr q)
  · rintro b q (q' | q')
    · exact h4 b q q'
    · have := h1.lt (.inr q)
      omega
end
end Go.Proofs.Ytmlkmgeddkpgiaa

/- HeapPlays: lists of objects that are read; the helper Same of two that hold the same. -/
namespace Go.Proofs.Ytmlkmgeddkpgiaa
open Go.RowKit
set_option linter.unusedVariables false
set_option linter.unusedSimpArgs false

/-- A slice of objects that is read: its cells are those of L. -/
def Lis (w : World) (vp : Value) (L : List Ob) : Prop := (vp = .slice none 0 0 ∧ L = []) ∨ ∃ ad c, vp = .slice (some ad) L.length c ∧ ∀ j u, (obCells L)[j]? = some u → w.cell? (ad.add j) = some u
section
variable {w w' : World} {v vp : Value} {X L : List Ob}
theorem Lis.later (h : Lis w vp L) (k : Below w.heap.size w w') : Lis w' vp L := by
  rcases h with h | ⟨ad, c, e, hc⟩
  · exact .inl h
  · exact .inr ⟨ad, c, e, fun j u hj => cell_later k (hc j u hj)⟩
theorem Lis.of_owns {base : Nat} (h : w.ownsRow base 24 6 v X.length (obCells X)) : Lis w v X := by
  have hc := fun g e => h.cells (g := g) e
  rcases h.2 with ⟨rfl, h0⟩ | ⟨g, cap, cur, rfl, _⟩
  · exact .inl ⟨rfl, List.eq_nil_of_length_eq_zero h0⟩
  · exact .inr ⟨⟨g, 0, none⟩, cap, rfl, hc g rfl⟩
end
theorem Lis.form {w : World} {va : Value} {L : List Ob} (ha : Lis w va L) : ∃ p c, va = .slice p L.length c := by
  rcases ha with ⟨rfl, rfl⟩ | ⟨ad, c, rfl, _⟩
  · exact ⟨_, _, rfl⟩
  · exact ⟨_, _, rfl⟩
theorem ItemsOf.lis {w w' : World} {l : List Ob} {v : Value} (h : ItemsOf w l v w') : Lis w' v l := Lis.of_owns h.own
/-- The cells of the i-th object of a slice. -/
theorem Lis.item {w : World} {vp : Value} {L : List Ob} (h : Lis w vp L) {i : Nat} {o : Ob} (hi : L[i]? = some o) : ∃ ad c, vp = .slice (some ad) L.length c ∧ ∀ j u, o.cells[j]? = some u → w.cell? ((ad.add (i * 6)).add j) = some u := by
  have hl := (List.getElem?_eq_some_iff.1 hi).1
  rcases h with ⟨_, rfl⟩ | ⟨ad, c, rfl, hc⟩
  · simp at hi
  · refine ⟨ad, c, rfl, fun j u hj => ?_⟩
    have hj6 : j < 6 := by have := (List.getElem?_eq_some_iff.1 hj).1; simpa [Ob.cells] using this
    rw [Addr.add_add]
    exact hc _ _ (by rw [obCells_get hi hj6]; exact hj)
set_option maxHeartbeats 1000000 in
set_option maxRecDepth 100000 in
theorem same_lis {w : World} {va vb : Value} {L : List Ob} (ha : Lis w va L) (hb : Lis w vb L) (hL : L.length ≤ 40000) : Calls Try.prog 42 #[va, vb] w fun e w' => e = .returned (.bool true) ∧ ∃ m, w' = w.drewN m := by
  have HA := Lib.hid ha
  have HB := Lib.hid hb
  have HL := Lib.hid hL
  obtain ⟨pa, ca, rfl⟩ : ∃ p c, va = .slice p L.length c := by
    rcases ha with ⟨rfl, rfl⟩ | ⟨ad, c, rfl, _⟩
    · exact ⟨_, _, rfl⟩
    · exact ⟨_, _, rfl⟩
  obtain ⟨pb, cb, rfl⟩ : ∃ p c, vb = .slice p L.length c := by
    rcases hb with ⟨rfl, rfl⟩ | ⟨ad, c, rfl, _⟩
    · exact ⟨_, _, rfl⟩
    · exact ⟨_, _, rfl⟩
  clear ha hb hL
  go_enter Try.func42, Try.ntmps42
  go_wp2
  go_loopw [5] (fun i wr => ∃ j : Nat, j ≤ L.length ∧ i = .int .i64 j ∧ ∃ q, wr = w.drewN q) (fun i _ => L.length - (intOf i).toNat)
  case atStart => exact ⟨0, Nat.zero_le _, rfl, 0, rfl⟩
  case round =>
    obtain ⟨j, hj, rfl, q, hw⟩ := hrel
    have HW := Lib.hid hw
    have HK : Hid (Below w.heap.size w wr) := Lib.hid (hw ▸ below_drewN w q)
    clear hw
    by_cases hlt : j < L.length
    · have t1 : (j : Int) < L.length := by omega
      have t0 : (0 : Int) ≤ j := by omega
      have HJ := Lib.hid hlt
      have w1 : IntKind.i64.wrap ((j : Int) + 1) = (j : Int) + 1 := IntWalk.i64_in _ (by have := HL.out; omega)
      have w2 : wrap64 ((j : Int) + 1) = (j : Int) + 1 := by rw [← IntWalk.i64_left]; exact w1
      obtain ⟨o, ho⟩ : ∃ o, L[j]? = some o := ⟨_, List.getElem?_eq_getElem hlt⟩
      obtain ⟨ada, ca', ea, cca⟩ := (HA.out.later HK.out).item ho
      obtain ⟨adb, cb', eb, ccb⟩ := (HB.out.later HK.out).item ho
      obtain ⟨rfl, rfl⟩ : pa = some ada ∧ ca = ca' := by simpa using ea
      obtain ⟨rfl, rfl⟩ : pb = some adb ∧ cb = cb' := by simpa using eb
      have c0 : wr.cell? (ada.add (j * 6)) = some _ := cca 0 _ rfl
      have c1 : wr.cell? ⟨(ada.add (j * 6)).block, (ada.add (j * 6)).off + 1, none⟩ = some _ := cca 1 _ rfl
      have c2 : wr.cell? ⟨(ada.add (j * 6)).block, (ada.add (j * 6)).off + 2, none⟩ = some _ := cca 2 _ rfl
      have c3 : wr.cell? ⟨(ada.add (j * 6)).block, (ada.add (j * 6)).off + 3, none⟩ = some _ := cca 3 _ rfl
      have c4 : wr.cell? ⟨(ada.add (j * 6)).block, (ada.add (j * 6)).off + 4, none⟩ = some _ := cca 4 _ rfl
      have c5 : wr.cell? ⟨(ada.add (j * 6)).block, (ada.add (j * 6)).off + 5, none⟩ = some _ := cca 5 _ rfl
      have d0 : wr.cell? (adb.add (j * 6)) = some _ := ccb 0 _ rfl
      have d1 : wr.cell? ⟨(adb.add (j * 6)).block, (adb.add (j * 6)).off + 1, none⟩ = some _ := ccb 1 _ rfl
      have d2 : wr.cell? ⟨(adb.add (j * 6)).block, (adb.add (j * 6)).off + 2, none⟩ = some _ := ccb 2 _ rfl
      have d3 : wr.cell? ⟨(adb.add (j * 6)).block, (adb.add (j * 6)).off + 3, none⟩ = some _ := ccb 3 _ rfl
      have d4 : wr.cell? ⟨(adb.add (j * 6)).block, (adb.add (j * 6)).off + 4, none⟩ = some _ := ccb 4 _ rfl
      have d5 : wr.cell? ⟨(adb.add (j * 6)).block, (adb.add (j * 6)).off + 5, none⟩ = some _ := ccb 5 _ rfl
      have qe : ∀ w, (binOp .eql 24 (.agg #[.int .i64 o.k, .bool o.x, .int .i64 o.n, .int .i64 o.a, .int .i64 o.l, .string o.s]) (.agg #[.int .i64 o.k, .bool o.x, .int .i64 o.n, .int .i64 o.a, .int .i64 o.l, .string o.s])).run Try.prog w = .ok (.bool true) w := fun w => by rw [eqO]; simp
      clear ea eb cca ccb ho
      go_wp2_with fail
      go_quiet (fail)
      go_wp2
      go_roundw
      case rel => exact ⟨j + 1, HJ.out, by go_num, _, by rw [HW.out, World.drewN_drewN]⟩
      case measure => exact measure_up L.length j _ (by go_num) HJ.out
    · have e : j = L.length := by omega
      subst e
      have t1 : ¬ ((L.length : Int) < L.length) := by omega
      go_wp2
      go_ret
      exact ⟨rfl, _, HW.out⟩
theorem same_is {w : World} {va vb : Value} {L : List Ob} (ha : Lis w va L) (hb : Lis w vb L) (hL : L.length ≤ 40000) : Calls Try.prog 42 #[va, vb] w fun e w' => e = .returned (.bool true) ∧ Below w.heap.size w w' := by
  refine (same_lis ha hb hL).mono ?_
  rintro e w' ⟨rfl, m, rfl⟩
  exact ⟨rfl, below_drewN _ _⟩
end Go.Proofs.Ytmlkmgeddkpgiaa

/- HeapPlays: pick of tympanlaw11. -/
namespace Go.Proofs.Ytmlkmgeddkpgiaa
open Go.RowKit
set_option linter.unusedVariables false

/-- What pick picks. -/
def pickO (L : List Ob) (k : Int) (q : Ob) : Ob := if k < 0 ∨ L.length = 0 then q else (L[(Int.tmod k L.length).toNat]?).getD q
set_option maxHeartbeats 1000000 in
set_option maxRecDepth 100000 in
theorem pick_raw (p : Option Addr) (n c : Nat) (k : Int) (q : Ob) (w : World) (hk : k < 0 ∨ n = 0) : Calls Try.prog 12 #[.slice p n c, .int .i64 k, q.val] w fun e w' => e = .returned q.val ∧ Below w.heap.size w w' := by
  obtain ⟨t, hb⟩ : ∃ t, (k < 0 ∧ t = true) ∨ (¬ k < 0 ∧ n = 0 ∧ t = false) := by
    by_cases h : k < 0
    · exact ⟨true, .inl ⟨h, rfl⟩⟩
    · exact ⟨false, .inr ⟨h, hk.resolve_left h, rfl⟩⟩
  clear hk
  unfold Ob.val
  rcases hb with ⟨h, rfl⟩ | ⟨h, rfl, rfl⟩
  all_goals
    go_enter Try.func12, Try.ntmps12
    go_upto_region 1 with fail
    obtain ⟨wb, eb, kb, ob, pb⟩ := get_box w q.k q.n q.a q.l q.x q.s
    rw [eb]
    have OB := Lib.hid ob
    have KB := Lib.hid kb
    have PB := Lib.hid pb
    clear eb kb pb
    obtain ⟨c0, c1, c2, c3, c4, c5⟩ := ob
    obtain ⟨⟨r0, r1, r2, r3, r4, r5⟩, f0, f1, f2, f3, f4, f5⟩ := cells6 PB.out
    go_wp2
    (try simp only [Exit.inBlock, Exit.then])
    exact bodyPost_ret (results_cell_row rfl _ _ _ _ _ _ _ rfl (set6 PB.out _ _ _ _ _ _) Try.underlying24 rfl (by kernel_rfl)) rfl ⟨rfl, set6_below KB.out (by omega) _ _ _ _ _ _⟩
set_option maxHeartbeats 1000000 in
set_option maxRecDepth 100000 in
theorem pick_item (ad : Addr) (n c m : Nat) (k : Int) (q o : Ob) (w : World) (hk : ¬ k < 0) (hm : Int.tmod k (n : Int) = (m : Int)) (hl : m < n)
    (cc : ∀ j u, o.cells[j]? = some u → w.cell? ((ad.add (m * 6)).add j) = some u) : Calls Try.prog 12 #[.slice (some ad) n c, .int .i64 k, q.val] w fun e w' => e = .returned o.val ∧ Below w.heap.size w w' := by
  have CC := Lib.hid cc
  have t0 : ¬ ((n : Int) = 0) := by omega
  have t1 : (0 : Int) ≤ m := by omega
  have t2 : (m : Int) < n := by omega
  clear cc
  unfold Ob.val
  go_enter Try.func12, Try.ntmps12
  go_upto_region 1 with fail
  obtain ⟨wb, eb, kb, ob, pb⟩ := get_box w q.k q.n q.a q.l q.x q.s
  rw [eb]
  have OB := Lib.hid ob
  have KB := Lib.hid kb
  have PB := Lib.hid pb
  have ccb := fun j u h => cell_later kb (CC.out j u h)
  have e0 : wb.cell? (ad.add (m * 6)) = some _ := ccb 0 _ rfl
  have e1 : wb.cell? ⟨(ad.add (m * 6)).block, (ad.add (m * 6)).off + 1, none⟩ = some _ := ccb 1 _ rfl
  have e2 : wb.cell? ⟨(ad.add (m * 6)).block, (ad.add (m * 6)).off + 2, none⟩ = some _ := ccb 2 _ rfl
  have e3 : wb.cell? ⟨(ad.add (m * 6)).block, (ad.add (m * 6)).off + 3, none⟩ = some _ := ccb 3 _ rfl
  have e4 : wb.cell? ⟨(ad.add (m * 6)).block, (ad.add (m * 6)).off + 4, none⟩ = some _ := ccb 4 _ rfl
  have e5 : wb.cell? ⟨(ad.add (m * 6)).block, (ad.add (m * 6)).off + 5, none⟩ = some _ := ccb 5 _ rfl
  clear eb kb pb ccb ob
  obtain ⟨⟨r0, r1, r2, r3, r4, r5⟩, f0, f1, f2, f3, f4, f5⟩ := cells6 PB.out
  go_wp2
  (try simp only [Exit.inBlock, Exit.then])
  exact bodyPost_ret (results_cell_row rfl _ _ _ _ _ _ _ rfl (set6 PB.out _ _ _ _ _ _) Try.underlying24 rfl (by kernel_rfl)) rfl ⟨rfl, set6_below KB.out (by omega) _ _ _ _ _ _⟩
theorem pick_any {w : World} {va : Value} {L : List Ob} (h : Lis w va L) (k : Int) (q : Ob) : Calls Try.prog 12 #[va, .int .i64 k, q.val] w fun e w' => e = .returned (pickO L k q).val ∧ Below w.heap.size w w' := by
  by_cases hk : k < 0 ∨ L.length = 0
  · rw [pickO, if_pos hk]
    obtain ⟨p, c, rfl⟩ := h.form
    exact pick_raw p _ c k q w hk
  · rw [pickO, if_neg hk]
    have h0 : 0 ≤ k := by omega
    have hn : (0 : Int) < L.length := by omega
    obtain ⟨m, hm⟩ : ∃ m : Nat, Int.tmod k L.length = m := ⟨(Int.tmod k L.length).toNat, by have := Int.tmod_nonneg (L.length : Int) h0; omega⟩
    have hl : m < L.length := by have := Int.tmod_lt_of_pos k hn; omega
    rw [hm]
    obtain ⟨o, ho⟩ : ∃ o, L[m]? = some o := ⟨_, List.getElem?_eq_getElem hl⟩
    rw [show ((m : Int).toNat) = m from rfl, ho]
    obtain ⟨ad, c, rfl, cc⟩ := h.item ho
    exact pick_item ad _ c m k q o w (by omega) hm hl cc
end Go.Proofs.Ytmlkmgeddkpgiaa
