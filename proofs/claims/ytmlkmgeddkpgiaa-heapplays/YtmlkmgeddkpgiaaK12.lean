/- Walks of heap: Array. -/
import Derived.Test.YtmlkmgeddkpgiaaK11
import Derived.Test.YtmlkmgeddkpgiaaK5
namespace Go.Proofs.Ytmlkmgeddkpgiaa
open Go.RowKit
set_option linter.unusedVariables false

/-- Only block A may have changed. -/
structure Only (A : Nat) (w w' : World) : Prop where
  os : w'.os = w.os
  tape : w'.tape = w.tape
  output : w'.output = w.output
  size : w'.heap.size = w.heap.size
  block : ∀ k, k ≠ A → w'.heap[k]? = w.heap[k]?
theorem Only.refl (A : Nat) (w : World) : Only A w w := ⟨rfl, rfl, rfl, rfl, fun _ _ => rfl⟩
theorem Only.set {A : Nat} {w w' : World} (h : Only A w w') (i : Nat) (v : Value) : Only A w (w'.setCell ⟨A, i, none⟩ v) :=
  ⟨h.os, h.tape, h.output, by rw [← h.size]; simp [World.setCell], fun k hk => (heap_setCell_other _ _ _ _ hk).trans (h.block k hk)⟩
theorem only6 (A : Nat) (w : World) (v0 v1 v2 v3 v4 v5 : Value) : Only A w ((((((w.setCell ⟨A, 0, none⟩ v0).setCell ⟨A, 1, none⟩ v1).setCell ⟨A, 2, none⟩ v2).setCell ⟨A, 3, none⟩ v3).setCell ⟨A, 4, none⟩ v4).setCell ⟨A, 5, none⟩ v5) :=
  ((((((Only.refl A w).set 0 v0).set 1 v1).set 2 v2).set 3 v3).set 4 v4).set 5 v5
theorem only3 (A : Nat) (w : World) (v0 v1 v2 : Value) : Only A w (((w.setCell ⟨A, 0, none⟩ v0).setCell ⟨A, 1, none⟩ v1).setCell ⟨A, 2, none⟩ v2) := (((Only.refl A w).set 0 v0).set 1 v1).set 2 v2
theorem Only.keep {A : Nat} {w0 w w' : World} {r0 r : Nat → Nat × Nat} {c : Nat} (h : Only A w w') (k : Keep r0 c w0 r w) (hA : w0.heap.size ≤ A) : Keep r0 c w0 r w' :=
  ⟨h.os.trans k.os, h.tape.trans k.tape, h.output.trans k.output, by rw [h.size]; exact k.size, fun i hi hc => (h.block i (by omega)).trans (k.block i hi hc), k.same⟩
theorem PHeap.only {role : Nat → Nat × Nat} {c hb A : Nat} {P : List Cel} {w w' : World} (h : PHeap role c hb P w) (k : Only A w w') (hA : (role A).1 ≠ c) : PHeap role c hb P w' := by
  obtain ⟨vc, ivs, pb, rv, h⟩ := h
  exact ⟨vc, ivs, pb, rv, h.same fun i hi hc => ⟨k.block i (fun e => hA (by rw [← e]; exact hc)), rfl⟩⟩

section
variable {role : Nat → Nat × Nat} {c hb : Nat} {vc : Value} {ivs : List Value} {pb : Nat → Nat} {rv : Nat → Value} {P : List Cel} {w w' : World}
/-- New blocks get whatever roles. -/
theorem PH.paint (h : PH role c hb vc ivs pb rv P w) (k : Below w.heap.size w w') (f : Nat → Nat × Nat) : PH (paint role w.heap.size f) c hb vc ivs pb rv P w' :=
  h.same fun i hi _ => ⟨k.block i hi, paint_old hi⟩
theorem Keep.paint (role : Nat → Nat × Nat) (c : Nat) (k : Below w.heap.size w w') (f : Nat → Nat × Nat) : Keep role c w (paint role w.heap.size f) w' :=
  ⟨k.os, k.tape, k.output, k.size, fun i hi _ => k.block i hi, fun i hi => paint_old hi⟩
theorem PH.used (h : PH role c hb vc ivs pb rv P w) : w.cell? ⟨hb, 1, none⟩ = some (.int .i64 (usedP P)) := by
  rw [cellAt h.hblk]
  rfl
theorem PH.cells (h : PH role c hb vc ivs pb rv P w) : ∃ p cap, vc = .slice p P.length cap ∧ w.cell? ⟨hb, 0, none⟩ = some (.slice p P.length cap) := by
  obtain ⟨p, cap, rfl⟩ := owns_form h.crow
  refine ⟨p, cap, rfl, ?_⟩
  rw [cellAt h.hblk]
  rfl
theorem PH.ne (h : PH role c hb vc ivs pb rv P w) : vc.ownBlock ≠ some hb := fun e => by
  have := h.crole hb e
  rw [h.hrole] at this
  simp at this
theorem hasRoom_is (h : PH role c hb vc ivs pb rv P w) (n : Int) (b : Bool) (hn : decide (P.length < 2000 ∧ n + usedP P ≤ 40000) = b) : Calls Try.prog 98 #[ptr hb, .int .i64 n] w fun e w' => e = .returned (.bool b) ∧ w = w' := by
  obtain ⟨p, cap, rfl, h0⟩ := h.cells
  have hu := h.wf.used
  have := room_any hb p P.length cap (usedP P) n w h0 h.used (by omega) (by omega)
  rw [hn] at this
  exact this

abbrev zeroOb : Value := obV 0 false 0 0 0 ⟨#[]⟩
abbrev emptyOb : Obj := .cells #[.int .i64 0, .bool false, .int .i64 0, .int .i64 0, .int .i64 0, .string ⟨#[]⟩] 24 (0, 0)
theorem zero_box (w : World) : ∃ wb, w.alloc (.cells #[.int .i64 0, .bool false, .int .i64 0, .int .i64 0, .int .i64 0, .string ⟨#[]⟩] 24) = wb ∧ Below w.heap.size w wb ∧ wb.heap.size = w.heap.size + 1 ∧ wb.heap[w.heap.size]? = some emptyOb :=
  ⟨_, rfl, box_below _ _, by simp, heap_alloc_new _ _⟩

theorem array_range (h : PH role c hb vc ivs pb rv P w) (n : Int) (hn : n < 0) : Calls Try.prog 65 #[ptr hb, .int .i64 n] w fun e w' => e = .returned (.tuple #[zeroOb, .int .i64 2]) ∧ Below w.heap.size w w' := by
  clear h
  go_enter Try.func65, Try.ntmps65
  go_wp2
  (try simp only [Exit.inBlock, Exit.then])
  exact bodyPost_ret (ret_cell rfl _ _ _ _ _ _ _ _ rfl rfl (heap_alloc_new _ _) Try.underlying24 rfl (by kernel_rfl)) rfl ⟨rfl, box_below _ _⟩

theorem array_limit (h : PH role c hb vc ivs pb rv P w) (n : Int) (hn : 0 ≤ n) (hl : ¬ (P.length < 2000 ∧ n + usedP P ≤ 40000)) : Calls Try.prog 65 #[ptr hb, .int .i64 n] w fun e w' => e = .returned (.tuple #[zeroOb, .int .i64 5]) ∧ Below w.heap.size w w' := by
  have H := Lib.hid h
  have HL : Hid (decide (P.length < 2000 ∧ n + usedP P ≤ 40000) = false) := Lib.hid (decide_eq_false hl)
  have hd : decide (n < 0) = false := decide_eq_false (by omega)
  clear h hl
  go_enter Try.func65, Try.ntmps65
  go_wp2_with fail
  obtain ⟨wa, ea, ka, za, oa⟩ := zero_box w
  rw [ea]
  refine (hasRoom_is (H.out.below ka) n false HL.out).mono ?_
  rintro e wc ⟨rfl, rfl⟩
  have KA := Lib.hid ka
  have OA := Lib.hid oa
  obtain ⟨⟨c0, c1, c2, c3, c4, c5⟩, f0, f1, f2, f3, f4, f5⟩ := cells6 oa
  clear ea ka za oa
  go_wp2
  (try simp only [Exit.inBlock, Exit.then])
  exact bodyPost_ret (ret_cell rfl _ _ _ _ _ _ _ _ rfl rfl (set6 OA.out _ _ _ _ _ _) Try.underlying24 rfl (by kernel_rfl)) rfl ⟨rfl, set6_below KA.out (Nat.le_refl _) _ _ _ _ _ _⟩

theorem array_ok (h : PH role c hb vc ivs pb rv P w) (n : Nat) (hl : P.length < 2000) (hu : n + usedP P ≤ 40000) :
    Calls Try.prog 65 #[ptr hb, .int .i64 n] w fun e w' => e = .returned (.tuple #[obV 9 false P.length 0 n ⟨#[]⟩, .int .i64 0]) ∧ ∃ role', PHeap role' c hb (P ++ [⟨9, false, List.replicate n Ob.null, []⟩]) w' ∧ Keep role c w role' w' := by
  have H := Lib.hid h
  have HL : Hid (decide (P.length < 2000 ∧ (n : Int) + usedP P ≤ 40000) = true) := Lib.hid (decide_eq_true (by omega))
  have Hl := Lib.hid hl
  have Hu := Lib.hid hu
  clear h hl hu
  go_enter Try.func65, Try.ntmps65
  go_wp2_with fail
  obtain ⟨wa, ea, ka, za, oa⟩ := zero_box w
  rw [ea]
  have HA := Lib.hid (H.out.paint ka fun _ => (c + 1, 0))
  refine (hasRoom_is HA.out n true HL.out).mono ?_
  rintro e wc ⟨rfl, rfl⟩
  have KA := Lib.hid ka
  have OA := Lib.hid oa
  have ZA := Lib.hid za
  clear ea ka za oa
  go_wp2_with fail
  refine (newItems_any 9 n (by have := Hu.out; omega) wa).mono ?_
  rintro e w1 ⟨b, row, rfl, hb1, eblk, erow, ern, k1⟩
  have B1 := Lib.hid hb1
  have B2 := Lib.hid eblk
  have B3 := Lib.hid erow
  have B4 := Lib.hid ern
  have B5 := Lib.hid k1
  have H1 := Lib.hid (HA.out.below k1)
  clear hb1 eblk erow ern k1
  go_wp2_with fail
  refine (cadd_any hb vc ivs P.length (usedP P) n 156 b w1 H1.out.hblk H1.out.crow H1.out.ne (by have := Hl.out; omega) (by omega) (by have := Hu.out; omega) (by omega) (by have := Hu.out; omega)).mono ?_
  rintro e w2 ⟨rfl, g, cap, e1, e2, e3, e4, e5, e6, e7, e8⟩
  have cl : PCell w1 (.iface 156 (ptr b)) b row ⟨9, false, List.replicate n Ob.null, []⟩ := .inl ⟨rfl, .inl rfl, rfl, B2.out, by simpa using B3.out⟩
  have sz : (⟨9, false, List.replicate n Ob.null, []⟩ : Cel).size = n := by simp [Cel.size]
  have AD := Lib.hid (HA.out.added B5.out (Nat.le_of_lt B1.out) cl (fun q hq => by
    rw [B4.out] at hq
    have : wa.heap.size = q := by simpa using hq
    have := B1.out
    omega) Hl.out (by rw [sz]; exact Hu.out) (by rw [sz]; exact e1) e2 e3 e4 e5 e6 e7 e8)
  have O2 : w2.heap[w.heap.size]? = some emptyOb := (AD.out.2.block _ (blk_lt OA.out) (by rw [paint_new (Nat.le_refl _)]; simp)).trans OA.out
  have P2 := Lib.hid O2
  obtain ⟨⟨c0, c1, c2, c3, c4, c5⟩, f0, f1, f2, f3, f4, f5⟩ := cells6 O2
  clear e1 e2 e3 e4 e5 e6 e7 e8 cl sz O2
  go_wp2
  (try simp only [Exit.inBlock, Exit.then])
  refine bodyPost_ret (ret_cell rfl _ _ _ _ _ _ _ _ rfl rfl (set6 P2.out _ _ _ _ _ _) Try.underlying24 rfl (by kernel_rfl)) rfl ⟨rfl, _, AD.out.1.only (only6 _ _ _ _ _ _ _ _) ?_, (only6 _ _ _ _ _ _ _ _).keep ((Keep.paint role c KA.out _).trans AD.out.2) (Nat.le_refl _)⟩
  rw [AD.out.2.same _ (blk_lt OA.out), paint_new (Nat.le_refl _)]
  simp
end
end Go.Proofs.Ytmlkmgeddkpgiaa
