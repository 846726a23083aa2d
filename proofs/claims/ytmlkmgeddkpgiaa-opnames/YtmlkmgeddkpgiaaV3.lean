/- Walks of op: find, for any function that is asked of each operator. -/
import Derived.Test.YtmlkmgeddkpgiaaV2
import Derived.WalkSmall
namespace Go.Proofs.Ytmlkmgeddkpgiaa
open Go.RowKit
set_option linter.unusedVariables false

theorem startW {t : TypeId} {V : Int → Value} {b : Nat} (w : World) (hb : b < w.heap.size) (hV : w.heap[b]? = some (.cells #[V 0] t (0, 0))) :
    OpW t V b w (((w.alloc (.cells #[.int .i64 0, .int .i64 0, .string ⟨#[]⟩] 149)).alloc (.cells #[.int .i64 1, .int .i64 1, .string ⟨#[]⟩] 149)).iter nm 0) 0 1 1 ⟨#[]⟩ (1 - 1) := by
  obtain ⟨w1, e1, k1, z1, o1⟩ : ∃ w1, w.alloc (.cells #[.int .i64 0, .int .i64 0, .string ⟨#[]⟩] 149) = w1 ∧ Below w.heap.size w w1 ∧ w1.heap.size = w.heap.size + 1 ∧ w1.heap[w.heap.size]? = some (opObj 0 0 ⟨#[]⟩) := ⟨_, rfl, box_below _ _, by simp, heap_alloc_new _ _⟩
  rw [e1]
  obtain ⟨w2, e2, k2, z2, o2⟩ : ∃ w2, w1.alloc (.cells #[.int .i64 1, .int .i64 1, .string ⟨#[]⟩] 149) = w2 ∧ Below w1.heap.size w1 w2 ∧ w2.heap.size = w1.heap.size + 1 ∧ w2.heap[w1.heap.size]? = some (opObj 1 1 ⟨#[]⟩) := ⟨_, rfl, box_below _ _, by simp, heap_alloc_new _ _⟩
  rw [e2]
  obtain ⟨w3, e3, k3, z3, o3⟩ : ∃ w3, w2.iter nm 0 = w3 ∧ Below w2.heap.size w2 w3 ∧ w3.heap.size = w2.heap.size + 1 ∧ w3.heap[w2.heap.size]? = some (.stringIter nm 0) := ⟨_, rfl, box_below _ _, by simp [World.iter], heap_alloc_new _ _⟩
  rw [e3]
  have K := below_and (below_and k1 k2) k3
  rw [z1] at o2 z2
  rw [z2] at o3
  refine ⟨(k3.block _ (by omega)).trans o2, (k3.block _ (by omega)).trans ((k2.block _ (by omega)).trans o1), o3, ?_, ⟨K.os, K.tape, K.output, K.size, fun i hi _ => K.block i hi⟩, hb⟩
  exact (K.block _ hb).trans hV

set_option maxHeartbeats 2000000 in
set_option maxRecDepth 100000 in
theorem find_any (k b : Nat) (hk : Hid (EntersF k)) (p : Int × Int × ByteArray → Bool) (t : TypeId) (V : Int → Value) (w : World) (hb : b < w.heap.size) (hV : w.heap[b]? = some (.cells #[V 0] t (0, 0)))
    (hc : Hid (∀ n f s w1, 1 ≤ n → n ≤ 162 → w.heap.size ≤ w1.heap.size → w1.heap[b]? = some (.cells #[V (n - 1)] t (0, 0)) →
      Calls Try.prog k #[opV (n, f, s), ptrv b] w1 fun e w2 => e = .returned (.bool (p (n, f, s))) ∧ w2.heap[b]? = some (.cells #[V n] t (0, 0)) ∧ Sole b w1 w2)) :
    Calls Try.prog 102 #[.func (.func k) #[] #[ptrv b]] w fun e w' => e = .returned (opV ((tab.find? p).getD (0, 0, ⟨#[]⟩))) ∧ (tab.find? p = none → w'.heap[b]? = some (.cells #[V 162] t (0, 0))) ∧ Sole b w w' := by
  go_enter Try.func102, Try.ntmps102
  rw [nm_def]
  go_wp2_with fail
  go_loopw [4] (fun v wr => ∃ (pos st : Nat) (n f : Int) (s : ByteArray), v = .int .i64 st ∧ OpP p pos st n f ∧ OpW t V b w wr pos n f s (n - 1)) (fun _ wr => 1158 - wr.iterPos (w.heap.size + 2))
  case atStart => 
    exact ⟨0, 0, 1, 1, ⟨#[]⟩, rfl, OpP.start, startW w hb hV⟩
  case round =>
    obtain ⟨pos, st, n, f, s, rfl, hP, hW⟩ := hrel
    by_cases hp : pos < nm.size
    · have hnx : ∀ ty, (Instr.next (.pointer (some ⟨w.heap.size + 2, 0, none⟩)) true ty).run Try.prog wr = _ := fun ty => Lib.run_next_ascii_at wr _ nm pos ty hW.it hp (nm_byte hp)
      have W1 := hW.next (pos + 1)
      have hm0 : wr.iterPos (w.heap.size + 2) = pos := iterPos_of hW.it
      generalize hx : (nm[pos]).toNat = x at hnx
      generalize hw1 : wr.iterAt (w.heap.size + 2) nm (pos + 1) = wi at hnx W1
      have hst : st ≤ pos := hP.hst
      have hpz : pos ≤ nm.size := Nat.le_of_lt hp
      have hs := nm_size
      obtain ⟨c0, c1, c2, f0, f1, f2⟩ := cells3 W1.ob
      by_cases h32 : x = 32
      · subst h32
        have HP := Lib.hid hP
        have HW := Lib.hid W1
        have HX := Lib.hid hx
        clear hP W1 hx hW
        go_upto_region 8 with fail
        have HW2 := Lib.hid (HW.out.name (nm.extract st pos))
        generalize wi.setCell ⟨w.heap.size + 1, 2, none⟩ (.string (nm.extract st pos)) = w2 at HW2
        clear c0 c1 c2 f0 f1 f2 hw1
        obtain ⟨c0, c1, c2, f0, f1, f2⟩ := cells3 HW2.out.ob
        go_wp2_with fail
        rw [hk.out, Oper.upon_enter]
        have hcc := hc.out n f (nm.extract st pos) w2 HP.out.hn (HP.out.most hp (.inl HX.out)) HW2.out.sole.size HW2.out.cell
        refine hcc.mono ?_
        clear hcc
        rintro e w3 ⟨rfl, hv3, hs3⟩
        have HW3 := Lib.hid (HW2.out.call hs3 hv3)
        clear hv3 hs3 c0 c1 c2 f0 f1 f2
        obtain ⟨c0, c1, c2, f0, f1, f2⟩ := cells3 HW3.out.ob
        obtain ⟨r0, r1, r2, q0, q1, q2⟩ := cells3 HW3.out.res
        have hB : Hid (b ≠ w.heap.size) := Lib.hid (by have := HW3.out.hb; omega)
        cases hpp : p (n, f, nm.extract st pos)
        · have HN := Lib.hid (HP.out.sp hp HX.out hpp)
          have HPP := Lib.hid hpp
          have n1 : IntKind.i64.wrap (n + 1) = n + 1 := IntWalk.i64_in _ (by have := HP.out.hn; have := HP.out.most hp (.inl HX.out); omega)
          have n2 : IntKind.i64.wrap ((pos : Int) + 1) = (pos : Int) + 1 := IntWalk.i64_in _ (by omega)
          clear hpp
          go_upto_region 12 with fail
          have HW4 := Lib.hid (HW3.out.num (n + 1))
          generalize w3.setCell ⟨w.heap.size + 1, 0, none⟩ (.int .i64 (n + 1)) = w4 at HW4
          clear c0 c1 c2 f0 f1 f2 r0 r1 r2 q0 q1 q2
          obtain ⟨c0, c1, c2, f0, f1, f2⟩ := cells3 HW4.out.ob
          go_wp2
          go_roundw
          case rel => exact ⟨pos + 1, pos + 1, n + 1, f, _, by simp, HN.out, by have := HW4.out; rwa [show n + 1 - 1 = n from by omega]⟩
          case measure => rw [iterPos_of HW4.out.it, hm0]; omega
        · have HF := Lib.hid (HP.out.found hp (.inl HX.out) hpp)
          clear hpp
          go_wp2
          (try simp only [Exit.inBlock, Exit.then])
          exact bodyPost_ret (results_cell_row rfl _ _ _ _ _ _ _ rfl (set3 HW3.out.res _ _ _) Try.underlying149 rfl (by kernel_rfl)) rfl
            ⟨by rw [HF.out]; rfl, fun h => absurd (HF.out.symm.trans h) (by simp), HW3.out.sole.of_only (only3 _ _ _ _ _) (Nat.le_refl _)⟩
      · by_cases h10 : x = 10
        · subst h10
          have HP := Lib.hid hP
          have HW := Lib.hid W1
          have HX := Lib.hid hx
          clear hP W1 hx hW
          go_upto_region 8 with fail
          have HW2 := Lib.hid (HW.out.name (nm.extract st pos))
          generalize wi.setCell ⟨w.heap.size + 1, 2, none⟩ (.string (nm.extract st pos)) = w2 at HW2
          clear c0 c1 c2 f0 f1 f2 hw1
          obtain ⟨c0, c1, c2, f0, f1, f2⟩ := cells3 HW2.out.ob
          go_wp2_with fail
          rw [hk.out, Oper.upon_enter]
          have hcc := hc.out n f (nm.extract st pos) w2 HP.out.hn (HP.out.most hp (.inr HX.out)) HW2.out.sole.size HW2.out.cell
          refine hcc.mono ?_
          clear hcc
          rintro e w3 ⟨rfl, hv3, hs3⟩
          have HW3 := Lib.hid (HW2.out.call hs3 hv3)
          clear hv3 hs3 c0 c1 c2 f0 f1 f2
          obtain ⟨c0, c1, c2, f0, f1, f2⟩ := cells3 HW3.out.ob
          obtain ⟨r0, r1, r2, q0, q1, q2⟩ := cells3 HW3.out.res
          have hB : Hid (b ≠ w.heap.size) := Lib.hid (by have := HW3.out.hb; omega)
          cases hpp : p (n, f, nm.extract st pos)
          · have HN := Lib.hid (HP.out.nl hp HX.out hpp)
            have HPP := Lib.hid hpp
            have n1 : IntKind.i64.wrap (n + 1) = n + 1 := IntWalk.i64_in _ (by have := HP.out.hn; have := HP.out.most hp (.inr HX.out); omega)
            have n2 : IntKind.i64.wrap ((pos : Int) + 1) = (pos : Int) + 1 := IntWalk.i64_in _ (by omega)
            have n3 : IntKind.i64.wrap (f + 1) = f + 1 := IntWalk.i64_in _ (by have := HP.out.hf; have := HP.out.most hp (.inr HX.out); have := HP.out.hf2; omega)
            clear hpp
            go_upto_region 12 with fail
            have HW4 := Lib.hid (HW3.out.num (n + 1))
            generalize w3.setCell ⟨w.heap.size + 1, 0, none⟩ (.int .i64 (n + 1)) = w4 at HW4
            clear c0 c1 c2 f0 f1 f2 r0 r1 r2 q0 q1 q2
            obtain ⟨c0, c1, c2, f0, f1, f2⟩ := cells3 HW4.out.ob
            go_wp2
            have HW5 := Lib.hid (HW4.out.fam (f + 1))
            go_roundw
            case rel => exact ⟨pos + 1, pos + 1, n + 1, f + 1, _, by simp, HN.out, by have := HW5.out; rwa [show n + 1 - 1 = n from by omega]⟩
            case measure => rw [iterPos_of HW5.out.it, hm0]; omega
          · have HF := Lib.hid (HP.out.found hp (.inr HX.out) hpp)
            clear hpp
            go_wp2
            (try simp only [Exit.inBlock, Exit.then])
            exact bodyPost_ret (results_cell_row rfl _ _ _ _ _ _ _ rfl (set3 HW3.out.res _ _ _) Try.underlying149 rfl (by kernel_rfl)) rfl
              ⟨by rw [HF.out]; rfl, fun h => absurd (HF.out.symm.trans h) (by simp), HW3.out.sole.of_only (only3 _ _ _ _ _) (Nat.le_refl _)⟩
        · have b1 : ((x : Int) != 32) = true := by simp; omega
          have b2 : ((x : Int) != 10) = true := by simp; omega
          go_wp2
          go_roundw
          case rel => exact ⟨pos + 1, st, n, f, s, rfl, hP.other hp (by omega) (by omega), W1⟩
          case measure => rw [iterPos_of W1.it, hm0]; omega
    · have hnx : ∀ ty, (Instr.next (.pointer (some ⟨w.heap.size + 2, 0, none⟩)) true ty).run Try.prog wr = _ := fun ty => Lib.run_next_end_at wr _ nm pos ty hW.it hp
      have HW := Lib.hid hW
      have HD := Lib.hid (hP.done hp)
      obtain ⟨r0, r1, r2, q0, q1, q2⟩ := cells3 HW.out.res
      clear hW hP
      go_wp2
      (try simp only [Exit.inBlock, Exit.then])
      exact bodyPost_ret (results_cell_row rfl _ _ _ _ _ _ _ rfl (set3 HW.out.res _ _ _) Try.underlying149 rfl (by kernel_rfl)) rfl
        ⟨by rw [HD.out.1]; rfl, fun _ => by rw [(only3 _ _ _ _ _).block _ (by have := HW.out.hb; omega), HW.out.cell, HD.out.2], HW.out.sole.of_only (only3 _ _ _ _ _) (Nat.le_refl _)⟩
end Go.Proofs.Ytmlkmgeddkpgiaa
