/- Walks of heap: String; what Dict refuses; New. -/
import Derived.Test.YtmlkmgeddkpgiaaK12
namespace Go.Proofs.Ytmlkmgeddkpgiaa
open Go.RowKit
set_option linter.unusedVariables false

theorem bytes_take (w : World) (s : ByteArray) : (Lib.bytesCells w 5 s).toList.take s.data.toList.length = byCells s.data.toList := by
  simp [Lib.bytesCells, byCells]
theorem bytes_size (w : World) (s : ByteArray) (h : s.size ≤ grownCap w s.size 0 5) : (Lib.bytesCells w 5 s).size = grownCap w s.size 0 5 := by
  simp [Lib.bytesCells]
  have : s.data.size = s.size := rfl
  omega

theorem newBytes_any (s : ByteArray) (w : World) :
    Calls Try.prog 100 #[.string s] w fun e w' => ∃ b row, e = .returned (ptr b) ∧ w.heap.size < b ∧ w'.heap[b]? = some (.cells #[.int .i64 8, .bool false, row] 147 (0, 0)) ∧ rowB w' row s.data.toList ∧ row.ownBlock = some w.heap.size ∧ Below w.heap.size w w' := by
  have hcv := fun w => Lib.run_convert_string_bytes (P := Try.prog) w 9 108 5 s Try.underlying9 Try.underlying108 Try.underlying5
  go_enter Try.func100, Try.ntmps100
  go_wp2
  go_ret
  have hsz := Lib.bytesWorld_size w 5 s
  have hcap : s.size ≤ grownCap w s.size 0 5 := grownCap_ge _ _ _ _
  have hk : Below w.heap.size w (Lib.bytesWorld w 5 s) := ⟨rfl, rfl, rfl, by omega, fun k hk => Lib.bytesWorld_at_old w 5 s k hk⟩
  have hnew := Lib.bytesWorld_at_new w 5 s
  refine ⟨(Lib.bytesWorld w 5 s).heap.size, _, rfl, by omega, heap_alloc_new _ _, .inr ⟨w.heap.size, _, _, _, rfl, ?_, .inr rfl, ?_, bytes_size w s hcap, bytes_take w s⟩, rfl, hk.alloc (by omega) _⟩
  · rw [Below.heap_alloc _ _ _ (by omega)]
    exact hnew
  · exact hcap

section
variable {role : Nat → Nat × Nat} {c hb : Nat} {vc : Value} {ivs : List Value} {pb : Nat → Nat} {rv : Nat → Value} {P : List Cel} {w w' : World}

theorem string_limit (h : PH role c hb vc ivs pb rv P w) (s : ByteArray) (hl : ¬ (P.length < 2000 ∧ s.size + usedP P ≤ 40000)) : Calls Try.prog 49 #[ptr hb, .string s] w fun e w' => e = .returned (.tuple #[zeroOb, .int .i64 5]) ∧ Below w.heap.size w w' := by
  have H := Lib.hid h
  have HL : Hid (decide (P.length < 2000 ∧ (s.size : Int) + usedP P ≤ 40000) = false) := Lib.hid (decide_eq_false (by omega))
  clear h hl
  go_enter Try.func49, Try.ntmps49
  go_wp2_with fail
  obtain ⟨wa, ea, ka, za, oa⟩ := zero_box w
  rw [ea]
  refine (hasRoom_is (H.out.below ka) s.size false HL.out).mono ?_
  rintro e wc ⟨rfl, rfl⟩
  have KA := Lib.hid ka
  have OA := Lib.hid oa
  obtain ⟨⟨c0, c1, c2, c3, c4, c5⟩, f0, f1, f2, f3, f4, f5⟩ := cells6 oa
  clear ea ka za oa
  go_wp2
  (try simp only [Exit.inBlock, Exit.then])
  exact bodyPost_ret (ret_cell rfl _ _ _ _ _ _ _ _ rfl rfl (set6 OA.out _ _ _ _ _ _) Try.underlying24 rfl (by kernel_rfl)) rfl ⟨rfl, set6_below KA.out (Nat.le_refl _) _ _ _ _ _ _⟩

theorem string_ok (h : PH role c hb vc ivs pb rv P w) (s : ByteArray) (hl : P.length < 2000) (hu : s.size + usedP P ≤ 40000) :
    Calls Try.prog 49 #[ptr hb, .string s] w fun e w' => e = .returned (.tuple #[obV 8 false P.length 0 s.size ⟨#[]⟩, .int .i64 0]) ∧ ∃ role', PHeap role' c hb (P ++ [⟨8, false, [], s.data.toList⟩]) w' ∧ Keep role c w role' w' := by
  have H := Lib.hid h
  have HL : Hid (decide (P.length < 2000 ∧ (s.size : Int) + usedP P ≤ 40000) = true) := Lib.hid (decide_eq_true (by omega))
  have Hl := Lib.hid hl
  have Hu := Lib.hid hu
  clear h hl hu
  go_enter Try.func49, Try.ntmps49
  go_wp2_with fail
  obtain ⟨wa, ea, ka, za, oa⟩ := zero_box w
  rw [ea]
  have HA := Lib.hid (H.out.paint ka fun _ => (c + 1, 0))
  refine (hasRoom_is HA.out s.size true HL.out).mono ?_
  rintro e wc ⟨rfl, rfl⟩
  have KA := Lib.hid ka
  have OA := Lib.hid oa
  have ZA := Lib.hid za
  clear ea ka za oa
  go_wp2_with fail
  refine (newBytes_any s wa).mono ?_
  rintro e w1 ⟨b, row, rfl, hb1, eblk, erow, ern, k1⟩
  have B1 := Lib.hid hb1
  have B2 := Lib.hid eblk
  have B3 := Lib.hid erow
  have B4 := Lib.hid ern
  have B5 := Lib.hid k1
  have H1 := Lib.hid (HA.out.below k1)
  clear hb1 eblk erow ern k1
  go_wp2_with fail
  refine (cadd_any hb vc ivs P.length (usedP P) s.size 141 b w1 H1.out.hblk H1.out.crow H1.out.ne (by have := Hl.out; omega) (by omega) (by have := Hu.out; omega) (by omega) (by have := Hu.out; omega)).mono ?_
  rintro e w2 ⟨rfl, g, cap, e1, e2, e3, e4, e5, e6, e7, e8⟩
  have cl : PCell w1 (.iface 141 (ptr b)) b row ⟨8, false, [], s.data.toList⟩ := .inr ⟨rfl, rfl, rfl, B2.out, B3.out⟩
  have sz : (⟨8, false, [], s.data.toList⟩ : Cel).size = s.size := by
    simp [Cel.size]
  have AD := Lib.hid (HA.out.added B5.out (Nat.le_of_lt B1.out) cl (fun q hq => by
    rw [B4.out] at hq
    have : wa.heap.size = q := by simpa using hq
    have := B1.out
    omega) Hl.out (by rw [sz]; exact Hu.out) (by rw [sz]; exact e1) e2 e3 e4 e5 e6 e7 e8)
  have O2 : w2.heap[w.heap.size]? = some emptyOb := (AD.out.2.block _ (blk_lt OA.out) (by rw [paint_new (Nat.le_refl _)]; simp)).trans OA.out
  have P2 := Lib.hid O2
  obtain ⟨⟨c0, c1, c2, c3, c4, c5⟩, f0, f1, f2, f3, f4, f5⟩ := cells6 O2
  clear e1 e2 e3 e4 e5 e6 e7 e8 cl sz O2
  go_wp2
  (try simp only [Exit.inBlock, Exit.then])
  refine bodyPost_ret (ret_cell rfl _ _ _ _ _ _ _ _ rfl rfl (set6 P2.out _ _ _ _ _ _) Try.underlying24 rfl (by kernel_rfl)) rfl ⟨rfl, _, AD.out.1.only (only6 _ _ _ _ _ _ _ _) ?_, (only6 _ _ _ _ _ _ _ _).keep ((Keep.paint role c KA.out _).trans AD.out.2) (Nat.le_refl _)⟩
  rw [AD.out.2.same _ (blk_lt OA.out), paint_new (Nat.le_refl _)]
  simp

theorem dict_range (h : PH role c hb vc ivs pb rv P w) (n : Int) (hn : n < 0 ∨ 1000 < n) : Calls Try.prog 69 #[ptr hb, .int .i64 n] w fun e w' => e = .returned (.tuple #[zeroOb, .int .i64 2]) ∧ Below w.heap.size w w' := by
  clear h
  have H : (decide (n < 0) || decide (n > 1000)) = true := by
    simp
    omega
  rcases hn with hn | hn
  · go_enter Try.func69, Try.ntmps69
    go_wp2
    (try simp only [Exit.inBlock, Exit.then])
    exact bodyPost_ret (ret_cell rfl _ _ _ _ _ _ _ _ rfl rfl (heap_alloc_new _ _) Try.underlying24 rfl (by kernel_rfl)) rfl ⟨rfl, box_below _ _⟩
  · have h1 : decide (n < 0) = false := decide_eq_false (by omega)
    clear H
    go_enter Try.func69, Try.ntmps69
    go_wp2
    (try simp only [Exit.inBlock, Exit.then])
    exact bodyPost_ret (ret_cell rfl _ _ _ _ _ _ _ _ rfl rfl (heap_alloc_new _ _) Try.underlying24 rfl (by kernel_rfl)) rfl ⟨rfl, box_below _ _⟩

theorem dict_limit (h : PH role c hb vc ivs pb rv P w) (n : Int) (hn : 0 ≤ n) (hn' : n ≤ 1000) (hl : ¬ (P.length < 2000 ∧ 2 * n + 1 + usedP P ≤ 40000)) : Calls Try.prog 69 #[ptr hb, .int .i64 n] w fun e w' => e = .returned (.tuple #[zeroOb, .int .i64 5]) ∧ Below w.heap.size w w' := by
  obtain ⟨m, hm⟩ : ∃ m, m = 2 * n := ⟨_, rfl⟩
  have H := Lib.hid h
  have HL : Hid (decide (P.length < 2000 ∧ (m + 1) + usedP P ≤ 40000) = false) := Lib.hid (decide_eq_false (by omega))
  have h1 : decide (n < 0) = false := decide_eq_false (by omega)
  have h2 : decide (n > 1000) = false := decide_eq_false (by omega)
  have e1 : IntKind.i64.wrap (2 * n) = m := by rw [hm]; exact wrapi_in _ (by omega) (by omega)
  have e2 : IntKind.i64.wrap (m + 1) = m + 1 := wrapi_in _ (by omega) (by omega)
  clear h hl hm
  go_enter Try.func69, Try.ntmps69
  go_wp2_with fail
  obtain ⟨wa, ea, ka, za, oa⟩ := zero_box w
  rw [ea]
  refine (hasRoom_is (H.out.below ka) (m + 1) false HL.out).mono ?_
  rintro e wc ⟨rfl, rfl⟩
  have KA := Lib.hid ka
  have OA := Lib.hid oa
  obtain ⟨⟨c0, c1, c2, c3, c4, c5⟩, f0, f1, f2, f3, f4, f5⟩ := cells6 oa
  clear ea ka za oa
  go_wp2
  (try simp only [Exit.inBlock, Exit.then])
  exact bodyPost_ret (ret_cell rfl _ _ _ _ _ _ _ _ rfl rfl (set6 OA.out _ _ _ _ _ _) Try.underlying24 rfl (by kernel_rfl)) rfl ⟨rfl, set6_below KA.out (Nat.le_refl _) _ _ _ _ _ _⟩

/-- A new heap. -/
theorem newHeap (role : Nat → Nat × Nat) (c : Nat) (w : World) : PHeap (Go.Proofs.Ytmlkmgeddkpgiaa.paint role w.heap.size fun _ => (c, 0)) c w.heap.size [] (w.alloc (.cells #[.slice none 0 0, .int .i64 0] 97)) :=
  ⟨.slice none 0 0, [], fun _ => 0, fun _ => .slice none 0 0, ⟨by simp, by simp [usedP], by simp⟩, paint_new (Nat.le_refl _), heap_alloc_new _ _, World.ownsRow_nil _ _ _ _, (fun g e => by cases e), (fun i cl hi => by simp at hi)⟩
end
end Go.Proofs.Ytmlkmgeddkpgiaa
