/- Walks of tympanref15: all. -/
import Derived.Test.YtmlkmgeddkpgiaaV5
import Derived.Test.YtmlkmgeddkpgiaaK10
import Derived.Deep.AppendLies
namespace Go.Proofs.Ytmlkmgeddkpgiaa
open Go.RowKit
set_option linter.unusedVariables false

theorem infoS : (Try.prog.info? 9).map (fun i => (i.zero, i.size, i.bytes)) = some (some (.string ⟨#[]⟩), 1, 16) := by kernel_rfl
def strsV (L : List ByteArray) : List Value := L.map Value.string
def uptoR : Nat → List ByteArray
  | 0 => []
  | k + 1 => uptoR k ++ refN ((k : Int) + 1)
theorem upto_all : uptoR 6 = refAll := by kernel_rfl
theorem upto_len (k : Nat) (h : k ≤ 6) : (uptoR k).length ≤ 162 := by
  have : ∀ k, k ≤ 6 → (uptoR k).length ≤ 162 := by decide +kernel
  exact this k h
theorem refN_len (k : Nat) (h : k < 6) : 0 < (refN ((k : Int) + 1)).length ∧ (refN ((k : Int) + 1)).length ≤ 61 := by
  have : ∀ k : Nat, k < 6 → 0 < (refN ((k : Int) + 1)).length ∧ (refN ((k : Int) + 1)).length ≤ 61 := by decide +kernel
  exact this k h
/-- append at a plain region's list, where it is known what it gives. -/
theorem wpList_append_eq {P : Program} {w w' : World} {v : Value} {ops : Array Oper} {rest : List Oper} {o : Oper} {a : Act} {Q : Exit → Act → World → Prop} (hgd : o.guard = none) (s x : Operand) (t : TypeId)
    (ho : o.op = .call { callee := .builtin .append, args := #[s, x], argTypes := #[t, t] }) (V1 V2 : Value) (hs : a.eval s = V1) (hx : a.eval x = V2) (hr : (Builtin.append_ #[t, t] o.type #[V1, V2]).run P w = .ok v w')
    (h : wpList P ops Q rest (a.put o.dst v) w') : wpList P ops Q (o :: rest) a w := by
  refine wpList_plain hgd fun K hK => ?_
  unfold Oper.wp
  simp [execOp, ho, resolve, invoke, builtin, hs, hx, hr, Result.andThen]
  exact hK _ _ h
set_option maxHeartbeats 2000000 in
set_option maxRecDepth 100000 in
theorem all_any (w : World) : Calls Try.prog 104 #[] w fun e w' => ∃ v, e = .returned v ∧ w'.ownsRow w.heap.size 9 1 v 162 (strsV refAll) ∧ Below w.heap.size w w' := by
  go_enter Try.func104, Try.ntmps104
  go_wp2_with fail
  go_loopw [1, 2] (fun l f wr => ∃ k : Nat, k ≤ 6 ∧ f = .int .i64 ((k : Int) + 1) ∧ ((k = 0 ∧ l = .slice none 0 0) ∨ ∃ g cap, l = .slice (some ⟨g, 0, none⟩) (uptoR k).length cap) ∧ wr.ownsRow w.heap.size 9 1 l (uptoR k).length (strsV (uptoR k)) ∧ Below w.heap.size w wr) (fun _ f _ => (7 - intOf f).toNat)
  case atStart => exact ⟨0, by omega, rfl, .inl ⟨rfl, rfl⟩, World.ownsRow_nil _ _ _ _, Below.refl _ _⟩
  case round =>
    obtain ⟨k, hk, rfl, ⟨rfl, rfl⟩ | ⟨g0, cap0, rfl⟩, ho, hB⟩ := hrel
    · have h6 : 0 < 6 := by decide
      have l1 : (((0 : Nat) : Int) + 1 ≤ 6) := by omega
      have e1 : IntKind.i64.wrap (((0 : Nat) : Int) + 1 + 1) = ((0 : Nat) : Int) + 1 + 1 := IntWalk.i64_in _ (by omega)
      have HO := Lib.hid ho
      have HB := Lib.hid hB
      clear ho hB
      go_wp2_with fail
      refine (names_any (((0 : Nat) : Int) + 1) (by omega) l1 wr).mono ?_
      rintro e w1 ⟨rfl, rfl⟩
      have K1 := Lib.hid (box_below wr (.cells ((refN (((0 : Nat) : Int) + 1)).map Value.string).toArray 9))
      have hnew := Lib.hid (heap_alloc_new wr (.cells ((refN (((0 : Nat) : Int) + 1)).map Value.string).toArray 9))
      obtain ⟨m1, m2⟩ := refN_len 0 h6
      have hl := upto_len 0 hk
      obtain ⟨i0, hi, hz0, hz1, hz2⟩ := info_parts infoS
      obtain ⟨g, cap, w2, hr, hown, hgrow, hat, hlt⟩ := run_append_lies (P := Try.prog) (wr.alloc (.cells ((refN (((0 : Nat) : Int) + 1)).map Value.string).toArray 9)) 152 152 w.heap.size 9 i0 _ 1 16 Try.underlying152 hi hz0 hz1 hz2 rfl (by decide) (.slice none 0 0) (uptoR 0).length (strsV (uptoR 0)) (World.ownsRow.alloc HO.out _) ⟨wr.heap.size, 0, none⟩ (refN (((0 : Nat) : Int) + 1)).length (refN (((0 : Nat) : Int) + 1)).length
        (strsV (refN (((0 : Nat) : Int) + 1))) (by simp [strsV]) (fun j u hj => by rw [Addr.add_mid, Nat.zero_add, cellAt hnew.out]; simpa [strsV] using hj) (fun u hu => by obtain ⟨s, _, rfl⟩ := List.mem_map.1 hu; rfl) m1 (by unfold maxLen; omega) (by omega) (by have := HB.out.size; simp; omega) _ rfl
      have HG := Lib.hid ((HB.out.alloc HB.out.size (.cells ((refN (((0 : Nat) : Int) + 1)).map Value.string).toArray 9)).grown hgrow (by have := HB.out.size; simp; omega) (fun b hb => (HO.out.lt b hb).1))
      have HN := Lib.hid hown
      clear hown hgrow hat hlt
      go_wp2_with (first | (at_builtin; refine wpList_append_eq rfl _ _ 152 rfl (.slice none 0 0) (.slice (some ⟨wr.heap.size, 0, none⟩) (refN (((0 : Nat) : Int) + 1)).length (refN (((0 : Nat) : Int) + 1)).length) rfl rfl hr ?_))
      go_roundw
      case rel =>
        refine ⟨0 + 1, by omega, by simp, .inr ⟨g, cap, by simp [uptoR]⟩, ?_, HG.out⟩
        have := HN.out
        simpa [uptoR, strsV] using this
      case measure => simp [intOf]
    · by_cases h6 : k < 6
      · have l1 : ((k : Int) + 1 ≤ 6) := by omega
        have e1 : IntKind.i64.wrap ((k : Int) + 1 + 1) = (k : Int) + 1 + 1 := IntWalk.i64_in _ (by omega)
        have HO := Lib.hid ho
        have HB := Lib.hid hB
        clear ho hB
        go_wp2_with fail
        refine (names_any ((k : Int) + 1) (by omega) l1 wr).mono ?_
        rintro e w1 ⟨rfl, rfl⟩
        have K1 := Lib.hid (box_below wr (.cells ((refN ((k : Int) + 1)).map Value.string).toArray 9))
        have hnew := Lib.hid (heap_alloc_new wr (.cells ((refN ((k : Int) + 1)).map Value.string).toArray 9))
        obtain ⟨m1, m2⟩ := refN_len k h6
        have hl := upto_len k hk
        obtain ⟨i0, hi, hz0, hz1, hz2⟩ := info_parts infoS
        obtain ⟨g, cap, w2, hr, hown, hgrow, hat, hlt⟩ := run_append_lies (P := Try.prog) (wr.alloc (.cells ((refN ((k : Int) + 1)).map Value.string).toArray 9)) 152 152 w.heap.size 9 i0 _ 1 16 Try.underlying152 hi hz0 hz1 hz2 rfl (by decide) (.slice (some ⟨g0, 0, none⟩) (uptoR k).length cap0) (uptoR k).length (strsV (uptoR k)) (World.ownsRow.alloc HO.out _) ⟨wr.heap.size, 0, none⟩ (refN ((k : Int) + 1)).length (refN ((k : Int) + 1)).length
          (strsV (refN ((k : Int) + 1))) (by simp [strsV]) (fun j u hj => by rw [Addr.add_mid, Nat.zero_add, cellAt hnew.out]; simpa [strsV] using hj) (fun u hu => by obtain ⟨s, _, rfl⟩ := List.mem_map.1 hu; rfl) m1 (by unfold maxLen; omega) (by omega) (by have := HB.out.size; simp; omega) _ rfl
        have HG := Lib.hid ((HB.out.alloc HB.out.size (.cells ((refN ((k : Int) + 1)).map Value.string).toArray 9)).grown hgrow (by have := HB.out.size; simp; omega) (fun b hb => (HO.out.lt b hb).1))
        have HN := Lib.hid hown
        clear hown hgrow hat hlt
        go_wp2_with (first | (at_builtin; refine wpList_append_eq rfl _ _ 152 rfl (.slice (some ⟨g0, 0, none⟩) (uptoR k).length cap0) (.slice (some ⟨wr.heap.size, 0, none⟩) (refN ((k : Int) + 1)).length (refN ((k : Int) + 1)).length) rfl rfl hr ?_))
        go_roundw
        case rel =>
          refine ⟨k + 1, by omega, by simp, .inr ⟨g, cap, by simp [uptoR]⟩, ?_, HG.out⟩
          have := HN.out
          simpa [uptoR, strsV] using this
        case measure => simp [intOf]; omega
      · have l1 : ¬ ((k : Int) + 1 ≤ 6) := by omega
        go_wp2
        go_ret
        have : k = 6 := by omega
        subst this
        exact ⟨_, rfl, by rw [upto_all] at ho; exact ho, hB⟩
end Go.Proofs.Ytmlkmgeddkpgiaa
