/- The laws' known case of layer 12. -/
import Derived.Test.YtigboibcgpfphaaD14
namespace Go.Proofs.Ytigboibcgpfphaa
open Go.RowKit Go.Maps
set_option linter.unusedVariables false

theorem Sep.lt {own : Nat → Prop} {hb : Nat} {P : List Cel} {w : World} (h : Sep own hb P w) : ∀ b, own b → b < w.heap.size := by
  obtain ⟨role, h1, h2⟩ := h
  exact fun b hb => (h2 b hb).1
section
variable {own : Nat → Prop} {hb : Nat} {P : List Cel} {w : World} {d k v : Ob} {ps : List (Ob × Ob)} {room : Nat} {lk : Bool}
theorem sDictGet (h : Sep own hb P w) (D : DictC P d ps room lk) (hf : keyE P k = 0 → (keyO P k).Fine) (E : Int) (kv : Int) (xv : Bool) (nv av lv : Int) (sv : ByteArray) (hE : dgetE P ps k = E) (hO : dgetO P ps k = ⟨kv, xv, nv, av, lv, sv⟩) :
    Calls Try.prog 42 #[ptr hb, d.val, k.val] w fun e w' => e = .returned (.tuple #[obV kv xv nv av lv sv, .int .i64 E]) ∧ Sep own hb P w' ∧ Kept own w w' := by
  have h0 := h
  obtain ⟨role, ⟨vc, ivs, pb, rv, h1⟩, h2⟩ := h
  refine (dictGet_is h1 D k hf).mono ?_
  rintro e w' ⟨rfl, kk⟩
  rw [hE, hO]
  exact ⟨rfl, h0.below kk⟩
theorem sDictPut (h : Sep own hb P w) (D : DictC P d ps room lk) (hf : keyE P k = 0 → (keyO P k).Fine) (hmq : keyE P k = 0 → mayH P (keyO P k) = true) (E : Int) (hE : dsetE P ps room lk k v = E) :
    Calls Try.prog 38 #[ptr hb, d.val, k.val, v.val] w fun e w' => e = .returned (.int .i64 E) ∧ Sep own hb (if E = 0 then P.set d.n.toNat ⟨10, false, itemsD (dsetL ps (keyO P k) v) room, []⟩ else P) w' ∧ Kept own w w' := by
  have := sDictSet h D h.lt hf hmq (v := v)
  rw [hE] at this
  exact this
theorem sKey (h : Sep own hb P w) (E : Int) (kv : Int) (xv : Bool) (nv av lv : Int) (sv : ByteArray) (hE : keyE P k = E) (hO : keyO P k = ⟨kv, xv, nv, av, lv, sv⟩) :
    Calls Try.prog 36 #[ptr hb, k.val] w fun e w' => e = .returned (.tuple #[obV kv xv nv av lv sv, .int .i64 E]) ∧ Sep own hb P w' ∧ Kept own w w' := by
  have h0 := h
  obtain ⟨role, ⟨vc, ivs, pb, rv, h1⟩, h2⟩ := h
  refine (key_is h1 k).mono ?_
  rintro e w' ⟨rfl, kk⟩
  rw [hE, hO]
  exact ⟨rfl, h0.below kk⟩
end

def qD : Ob := ⟨10, false, 0, 0, 0, ⟨#[]⟩⟩
def qS : Ob := ⟨8, false, 1, 0, 1, ⟨#[]⟩⟩
def qA : Ob := ⟨5, false, 0, 0, 0, ⟨#[97]⟩⟩
def qP (ps : List (Ob × Ob)) : List Cel := [⟨10, false, itemsD ps 1, []⟩, ⟨8, false, [], [97]⟩]
theorem fineA : qA.Fine := ⟨rfl, rfl, rfl, rfl, by decide⟩
theorem fineN (v : Int) (h : -9223372036854775808 ≤ v ∧ v ≤ 9223372036854775807) : (Ob.num v).Fine := ⟨rfl, WalkArith.wf_i64 h, rfl, rfl, Nat.zero_le _⟩
theorem qC0 : DictC (qP []) qD [] 1 false := ⟨by kernel_rfl, rfl, rfl, by decide, by decide, by simp⟩
theorem qC1 : DictC (qP [(qA, Ob.num 5)]) qD [(qA, Ob.num 5)] 1 false := ⟨by kernel_rfl, rfl, rfl, by decide, by decide, by
  intro p hp
  simp at hp
  subst hp
  exact fineA⟩
theorem q1 : keyE (qP []) qS = 0 ∧ keyO (qP []) qS = qA ∧ dsetE (qP []) [] 1 false qS (Ob.num 5) = 0 ∧ mayH (qP []) qA = true := ⟨by kernel_rfl, by kernel_rfl, by kernel_rfl, by kernel_rfl⟩
theorem q2 : keyE (qP [(qA, Ob.num 5)]) qA = 0 ∧ keyO (qP [(qA, Ob.num 5)]) qA = qA ∧ dgetE (qP [(qA, Ob.num 5)]) [(qA, Ob.num 5)] qA = 0 ∧ dgetO (qP [(qA, Ob.num 5)]) [(qA, Ob.num 5)] qA = Ob.num 5 := ⟨by kernel_rfl, by kernel_rfl, by kernel_rfl, by kernel_rfl⟩
theorem q3 : keyE (qP [(qA, Ob.num 5)]) (Ob.num 5) = 0 ∧ keyO (qP [(qA, Ob.num 5)]) (Ob.num 5) = Ob.num 5 ∧ dsetE (qP [(qA, Ob.num 5)]) [(qA, Ob.num 5)] 1 false (Ob.num 5) (Ob.num 5) = 20 ∧ mayH (qP [(qA, Ob.num 5)]) (Ob.num 5) = true := ⟨by kernel_rfl, by kernel_rfl, by kernel_rfl, by kernel_rfl⟩

set_option maxHeartbeats 1000000 in
theorem dknown_any (w : World) : Calls Try.prog 32 #[] w fun e w' => e = .returned (.bool true) ∧ Below w.heap.size w w' := by
  go_enter Try.func32, Try.ntmps32
  go_wp2_with fail
  refine (new_any w).mono ?_
  rintro e w1 ⟨rfl, rfl⟩
  obtain ⟨w1, e1, s1, b1⟩ : ∃ w1, w.alloc (.cells #[.slice none 0 0, .int .i64 0] 86) = w1 ∧ Sep (fun b => b < w.heap.size) w.heap.size [] w1 ∧ Below w.heap.size w w1 := ⟨_, rfl, Sep.new w, box_below _ _⟩
  rw [e1]
  have S1 := Lib.hid s1
  have B1 := Lib.hid b1
  clear e1 s1 b1
  go_wp2_with fail
  refine (sNewDict S1.out S1.out.lt 1 (by decide) (by decide) (by simp [usedP])).mono ?_
  rintro e w2 ⟨rfl, s2, k2⟩
  have S2 := Lib.hid s2
  have B2 : Hid (Below w.heap.size w w2) := Lib.hid (B1.out.trans (k2.below fun _ h => h))
  clear s2 k2
  go_upto_region 3 with fail
  obtain ⟨w3, e3, s3, k3, o3⟩ := S2.out.box_ob 10 false 0 0 0 ⟨#[]⟩
  rw [e3]
  have S3 := Lib.hid s3
  have B3 : Hid (Below w.heap.size w w3) := Lib.hid (B2.out.trans (k3.below fun _ h => h))
  have O3 := Lib.hid o3
  clear e3 s3 k3 o3
  go_wp2_with fail
  refine (sString_ok S3.out ⟨#[97]⟩ (by decide) (by decide)).mono ?_
  rintro e w4 ⟨rfl, s4, k4⟩
  have S4 : Hid (Sep _ w.heap.size (qP []) w4) := Lib.hid s4
  have B4 : Hid (Below w.heap.size w w4) := Lib.hid (B3.out.trans (k4.below fun _ h => .inl h))
  have O4 := Lib.hid ((k4.block _ (.inr rfl)).trans O3.out)
  clear s4 k4
  go_upto_region 4 with fail
  obtain ⟨w5, e5, s5, k5, o5⟩ := S4.out.box_ob 8 false 1 0 1 ⟨#[]⟩
  rw [e5]
  have S5 := Lib.hid s5
  have B5 : Hid (Below w.heap.size w w5) := Lib.hid (B4.out.trans (k5.below fun _ h => .inl h))
  have O5 := Lib.hid ((k5.block _ (.inr rfl)).trans O4.out)
  have R5 := Lib.hid o5
  clear e5 s5 k5 o5
  obtain ⟨c0, c1, c2, c3, c4, c5⟩ := ob_cells O5.out
  obtain ⟨d0, d1, d2, d3, d4, d5⟩ := ob_cells R5.out
  go_wp2_with fail
  refine (sDictPut (d := qD) (k := qS) (v := Ob.num 5) S5.out qC0 (fun _ => by rw [q1.2.1]; exact fineA) (fun _ => by rw [q1.2.1]; exact q1.2.2.2) 0 q1.2.2.1).mono ?_
  rintro e w6 ⟨rfl, s6, k6⟩
  rw [if_pos rfl, q1.2.1] at s6
  have S6 : Hid (Sep _ w.heap.size (qP [(qA, Ob.num 5)]) w6) := Lib.hid s6
  have B6 : Hid (Below w.heap.size w w6) := Lib.hid (B5.out.trans (k6.below fun _ h => .inl (.inl h)))
  have O6 := Lib.hid ((k6.block _ (.inl (.inr rfl))).trans O5.out)
  clear s6 k6 c0 c1 c2 c3 c4 c5 d0 d1 d2 d3 d4 d5
  obtain ⟨c0, c1, c2, c3, c4, c5⟩ := ob_cells O6.out
  go_wp2_with fail
  refine (sDictGet (d := qD) (k := qA) S6.out qC1 (fun _ => by rw [q2.2.1]; exact fineA) 0 3 false 5 0 0 ⟨#[]⟩ q2.2.2.1 q2.2.2.2).mono ?_
  rintro e w7 ⟨rfl, s7, k7⟩
  have S7 := Lib.hid s7
  have B7 : Hid (Below w.heap.size w w7) := Lib.hid (B6.out.trans (k7.below fun _ h => .inl (.inl h)))
  have O7 := Lib.hid ((k7.block _ (.inl (.inr rfl))).trans O6.out)
  clear s7 k7 c0 c1 c2 c3 c4 c5
  go_upto_region 6 with fail
  obtain ⟨w8, e8, s8, k8, o8⟩ := S7.out.box_ob 3 false 5 0 0 ⟨#[]⟩
  rw [e8]
  have S8 := Lib.hid s8
  have B8 : Hid (Below w.heap.size w w8) := Lib.hid (B7.out.trans (k8.below fun _ h => .inl (.inl h)))
  have O8 := Lib.hid ((k8.block _ (.inl (.inr rfl))).trans O7.out)
  have R8 := Lib.hid o8
  clear e8 s8 k8 o8
  obtain ⟨c0, c1, c2, c3, c4, c5⟩ := ob_cells O8.out
  obtain ⟨d0, d1, d2, d3, d4, d5⟩ := ob_cells R8.out
  go_wp2_with fail
  refine (sDictPut (d := qD) (k := Ob.num 5) (v := Ob.num 5) S8.out qC1 (fun _ => by rw [q3.2.1]; exact fineN 5 (by decide)) (fun _ => by rw [q3.2.1]; exact q3.2.2.2) 20 q3.2.2.1).mono ?_
  rintro e w9 ⟨rfl, s9, k9⟩
  have B9 : Hid (Below w.heap.size w w9) := Lib.hid (B8.out.trans (k9.below fun _ h => .inl (.inl (.inl h))))
  clear s9 k9 c0 c1 c2 c3 c4 c5 d0 d1 d2 d3 d4 d5
  go_wp2
  go_ret
  exact ⟨ret_bool (by decide), B9.out⟩
end Go.Proofs.Ytigboibcgpfphaa
