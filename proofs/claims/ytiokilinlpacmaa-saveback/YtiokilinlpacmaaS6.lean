/- What the heap's calls do beside the saves; the known case of layer 13's laws. -/
import Derived.Test.YtiokilinlpacmaaS5
import Derived.Test.YtiokilinlpacmaaK26
import Derived.Test.YtiokilinlpacmaaK30
namespace Go.Proofs.Ytiokilinlpacmaa
open Go.RowKit
set_option linter.unusedVariables false

section
variable {own : Nat → Prop} {hb sb last : Nat} {P P' : List Cel} {L : List Sv} {w w' : World}
theorem shArray (h : SH own hb P sb L last w) (n : Nat) (hl : P.length < 2000) (hu : n + usedP P ≤ 40000) :
    Calls Try.prog 15 #[ptr hb, .int .i64 n] w fun e w' => e = .returned (.tuple #[obV 9 false P.length 0 n ⟨#[]⟩, .int .i64 0]) ∧ SH own hb (P ++ [⟨9, false, List.replicate n Ob.null, []⟩]) sb L last w' ∧ Kept own w w' := by
  obtain ⟨own', s, ho, hc⟩ := h.lift
  refine (sArray_ok s n hl hu).mono ?_
  rintro e w' ⟨rfl, q, k⟩
  exact ⟨rfl, hc _ _ q k, k.sub ho⟩
theorem shString (h : SH own hb P sb L last w) (s : ByteArray) (hl : P.length < 2000) (hu : s.size + usedP P ≤ 40000) :
    Calls Try.prog 18 #[ptr hb, .string s] w fun e w' => e = .returned (.tuple #[obV 8 false P.length 0 s.size ⟨#[]⟩, .int .i64 0]) ∧ SH own hb (P ++ [⟨8, false, [], s.data.toList⟩]) sb L last w' ∧ Kept own w w' := by
  obtain ⟨own', q, ho, hc⟩ := h.lift
  refine (sString_ok q s hl hu).mono ?_
  rintro e w' ⟨rfl, q, k⟩
  exact ⟨rfl, hc _ _ q k, k.sub ho⟩
theorem shDict (h : SH own hb P sb L last w) (n : Nat) (hn : n ≤ 1000) (hl : P.length < 2000) (hu : 2 * n + 1 + usedP P ≤ 40000) :
    Calls Try.prog 16 #[ptr hb, .int .i64 n] w fun e w' => e = .returned (.tuple #[obV 10 false P.length 0 0 ⟨#[]⟩, .int .i64 0]) ∧ SH own hb (P ++ [⟨10, false, emptyD n, []⟩]) sb L last w' ∧ Kept own w w' := by
  obtain ⟨own', ⟨role, ⟨vc, ivs, pb, rv, h1⟩, h2⟩, ho, hc⟩ := h.lift
  refine (dict_ok h1 n (2 * n) rfl hn hl hu).mono ?_
  rintro e w' ⟨rfl, role', q1, q2⟩
  have := Sep.of_keep h2 q1 q2
  exact ⟨rfl, hc _ _ this.1 this.2, this.2.sub ho⟩
theorem shSet (h : SH own hb P sb L last w) (o : Ob) (i : Int) (x : Ob) (E : Int) (P' : List Cel) (hE : setE P o i x = E) (hP : setP P o i x = P') :
    Calls Try.prog 19 #[ptr hb, o.val, .int .i64 i, x.val] w fun e w' => e = .returned (.int .i64 E) ∧ SH own hb P' sb L last w' ∧ Kept own w w' := by
  obtain ⟨own', q, ho, hc⟩ := h.lift
  refine (sSet q o i x E P' hE hP).mono ?_
  rintro e w' ⟨rfl, q, k⟩
  exact ⟨rfl, hc _ _ q k, k.sub ho⟩
theorem shBytes (h : SH own hb P sb L last w) (o : Ob) (M : List UInt8) (ho : okO P o = true) (hk : o.k = 8) (hpos : 0 < (cellOf P o).bs.length) (hL : bytesL P o = M) :
    Calls Try.prog 20 #[ptr hb, o.val] w fun e w' => e = .returned (.tuple #[.string ⟨M.toArray⟩, .int .i64 0]) ∧ SH own hb P sb L last w' ∧ Kept own w w' := by
  obtain ⟨own', q, hq, hc⟩ := h.lift
  refine (sBytes q o M ho hk hpos hL).mono ?_
  rintro e w' ⟨rfl, q, k⟩
  exact ⟨rfl, hc _ _ q k, k.sub hq⟩
theorem shCells (h : SH own hb P sb L last w) : Calls Try.prog 21 #[ptr hb] w fun e w' => e = .returned (.int .i64 P.length) ∧ w = w' := sCells h.many.sep
/-- A slice of ours has grown. -/
theorem SH.grow {q : Option Nat} (h : SH own hb P sb L last w) (k : w.grownBy w' q) (hq : ∀ g, q = some g → own g) : SH (fun b => own b ∨ (w.heap.size ≤ b ∧ b < w'.heap.size)) hb P sb L last w' := by
  obtain ⟨role, h1, h2, h3⟩ := h.many
  have ne : ∀ b, (role b).1 ≠ 0 → some b ≠ q := fun b hc e => hc (h3 b (.inl (hq b e.symm))).2
  have hs : sb < w.heap.size := h.sat.lt
  refine ⟨⟨paint role w.heap.size fun _ => (0, 0), h1.same fun b hb hc => ⟨k.block b hb (ne b (by omega)), paint_old hb⟩, fun i g hg => (h2 i g hg).same fun b hb hc => ⟨k.block b hb (ne b (by omega)), paint_old hb⟩, fun b hb => ?_⟩, h.sat.same (k.block _ hs fun e => h.nown (hq _ e.symm)) k.size, fun e => ?_⟩
  · by_cases hl : b < w.heap.size
    · have hown : own b ∨ b = sb := by
        rcases hb with (hb | hb) | hb
        · exact .inl hb
        · omega
        · exact .inr hb
      refine ⟨Nat.lt_of_lt_of_le hl k.size, ?_⟩
      rw [paint_old hl]
      exact (h3 b hown).2
    · have : b < w'.heap.size := by
        rcases hb with (hb | hb) | hb
        · exact absurd (h3 b (.inl hb)).1 hl
        · exact hb.2
        · omega
      exact ⟨this, by rw [paint_new (by omega)]⟩
  · rcases e with e | e
    · exact h.nown e
    · omega
theorem kept_grown {q : Option Nat} (k : w.grownBy w' q) (hq : ∀ g, q = some g → ¬ own g) (ho : ∀ b, own b → b < w.heap.size) : Kept own w w' :=
  ⟨k.os, k.tape, k.output, k.size, fun b hb => k.block b (ho b hb) fun e => hq b e.symm hb⟩
end
/-- Save, its number by names. -/
theorem svSave {own : Nat → Prop} {hb sb last : Nat} {P : List Cel} {L : List Sv} {w : World} (h : SH own hb P sb L last w) (hl : L.length < 10) (hL : last < 4611686018427387904) (M : Nat) (v : Int) (hM : last + 1 = M) (hv : (M : Int) = v) :
    Calls Try.prog 12 #[ptr sb, ptr hb] w fun e w' => e = .returned (.tuple #[obV 11 false v 0 0 ⟨#[]⟩, .int .i64 0]) ∧ (∃ g, SH own hb P sb (L ++ [⟨M, g, P⟩]) M w') ∧ Kept own w w' := by
  subst hM hv
  exact svSave_ok h hl hL
/-- Which open save the object of number n is. -/
theorem atS_num (L : List Sv) (n : Nat) (x : Bool) : atS L ⟨11, x, n, 0, 0, ⟨#[]⟩⟩ = L.findIdx? fun s => decide (s.n = n) := by
  unfold atS
  congr 1
  funext s
  rw [same_sv s.n ⟨11, x, n, 0, 0, ⟨#[]⟩⟩]
  apply decide_eq_decide.2
  simp
  omega
/-- The numbers of the open saves are 1, 2, .., j; the heap was empty at each. -/
def Nums (L : List Sv) (j : Nat) : Prop := L.length = j ∧ ∀ (i : Nat) (s : Sv), L[i]? = some s → s.n = i + 1
theorem Nums.at {L : List Sv} {j : Nat} (h : Nums L j) {k : Nat} (hk : k < j) (x : Bool) : atS L ⟨11, x, ((k + 1 : Nat) : Int), 0, 0, ⟨#[]⟩⟩ = some k := by
  rw [atS_num, List.findIdx?_eq_some_iff_getElem]
  refine ⟨by rw [h.1]; exact hk, ?_, fun i hi => ?_⟩
  · have := h.2 k _ (List.getElem?_eq_getElem (by rw [h.1]; exact hk))
    simpa using this
  · have := h.2 i _ (List.getElem?_eq_getElem (by rw [h.1]; omega))
    simp
    omega
theorem Nums.none {L : List Sv} {j : Nat} (h : Nums L j) {k : Nat} (hk : j ≤ k) (x : Bool) : atS L ⟨11, x, ((k + 1 : Nat) : Int), 0, 0, ⟨#[]⟩⟩ = .none := by
  rw [atS_num, List.findIdx?_eq_none_iff]
  intro s hs
  obtain ⟨i, hi⟩ := List.mem_iff_getElem?.1 hs
  have := h.2 i s hi
  have := (List.getElem?_eq_some_iff.1 hi).1
  have := h.1
  simp
  omega
theorem Nums.zero : Nums [] 0 := ⟨rfl, fun i s h => by simp at h⟩
theorem Nums.push {L : List Sv} {j : Nat} (h : Nums L j) (g : Nat) (q : List Cel) : Nums (L ++ [⟨j + 1, g, q⟩]) (j + 1) := by
  refine ⟨by simp [h.1], fun i s hi => ?_⟩
  rw [List.getElem?_append] at hi
  split at hi
  · exact h.2 i s hi
  · next hl =>
    have e : i = j := by
      have := (List.getElem?_eq_some_iff.1 hi).1
      have := h.1
      simp at *
      omega
    subst e
    have := h.1
    simp [this] at hi
    subst hi
    rfl
theorem Nums.take {L : List Sv} {j : Nat} (h : Nums L j) {k : Nat} (hk : k ≤ j) : Nums (L.take k) k := by
  refine ⟨by rw [List.length_take, h.1]; omega, fun i s hi => ?_⟩
  rw [List.getElem?_take] at hi
  split at hi
  · exact h.2 i s hi
  · cases hi

set_option maxHeartbeats 1000000 in
set_option maxRecDepth 100000 in
theorem sknown_any (w : World) : Calls Try.prog 9 #[] w fun e w' => e = .returned (.bool true) ∧ Below w.heap.size w w' := by
  go_enter Try.func9, Try.ntmps9
  go_wp2_with fail
  refine (new_any w).mono ?_
  rintro e w1 ⟨rfl, rfl⟩
  obtain ⟨w1, e1, s1, b1⟩ : ∃ w1, w.alloc (.cells #[.slice none 0 0, .int .i64 0] 92) = w1 ∧ Sep (fun b => b < w.heap.size) w.heap.size [] w1 ∧ Below w.heap.size w w1 := ⟨_, rfl, Sep.new w, box_below _ _⟩
  rw [e1]
  have S1 := Lib.hid s1
  have B1 := Lib.hid b1
  clear e1 s1 b1
  go_wp2_with fail
  refine (svNew S1.out).mono ?_
  rintro e w2 ⟨rfl, s2, k2⟩
  have S2 := Lib.hid s2
  have B2 : Hid (Below w.heap.size w w2) := Lib.hid (B1.out.trans (k2.below fun _ h => h))
  clear s2 k2
  go_wp2_with fail
  refine (svSave S2.out (by decide) (by decide) 1 1 rfl rfl).mono ?_
  rintro e w3 ⟨rfl, ⟨g, s3⟩, k3⟩
  have S3 : Hid (SH (fun b => b < w.heap.size) w.heap.size [] w1.heap.size [⟨1, g, []⟩] 1 w3) := Lib.hid s3
  have B3 : Hid (Below w.heap.size w w3) := Lib.hid (B2.out.trans (k3.below fun _ h => h))
  clear s3 k3
  go_upto_region 5 with fail
  obtain ⟨w4, e4, s4, k4, o4⟩ := S3.out.box_ob 11 false 1 0 0 ⟨#[]⟩
  rw [e4]
  have S4 := Lib.hid s4
  have B4 : Hid (Below w.heap.size w w4) := Lib.hid (B3.out.trans (k4.below fun _ h => h))
  have O4 := Lib.hid o4
  clear e4 s4 k4 o4
  go_wp2_with fail
  refine (shArray S4.out 3 (by decide) (by decide)).mono ?_
  rintro e w5 ⟨rfl, s5, k5⟩
  have S5 : Hid (SH (fun b => b < w.heap.size ∨ b = w3.heap.size) w.heap.size [⟨9, false, [Ob.null, Ob.null, Ob.null], []⟩] w1.heap.size [⟨1, g, []⟩] 1 w5) := Lib.hid s5
  have B5 : Hid (Below w.heap.size w w5) := Lib.hid (B4.out.trans (k5.below fun _ h => .inl h))
  have O5 := Lib.hid ((k5.block _ (.inr rfl)).trans O4.out)
  clear s5 k5
  go_upto_region 6 with fail
  obtain ⟨w6, e6, s6, k6, o6⟩ := S5.out.box_ob 9 false 0 0 3 ⟨#[]⟩
  rw [e6]
  have S6 := Lib.hid s6
  have B6 : Hid (Below w.heap.size w w6) := Lib.hid (B5.out.trans (k6.below fun _ h => .inl h))
  have O6 := Lib.hid ((k6.block _ (.inr rfl)).trans O5.out)
  have A6 := Lib.hid o6
  clear e6 s6 k6 o6
  have nm : Nums [⟨1, g, []⟩] 1 := Nums.zero.push g []
  have ha : atS [⟨1, g, []⟩] ⟨11, false, 1, 0, 0, ⟨#[]⟩⟩ = some 0 := nm.at (by decide) false
  have hnew : newS [⟨1, g, []⟩] ⟨11, false, 1, 0, 0, ⟨#[]⟩⟩ ⟨9, false, 0, 0, 3, ⟨#[]⟩⟩ = true := by simp [newS, ha]
  have HA := Lib.hid ha
  have HN := Lib.hid hnew
  clear nm ha hnew
  obtain ⟨c0, c1, c2, c3, c4, c5⟩ := ob_cells O6.out
  obtain ⟨d0, d1, d2, d3, d4, d5⟩ := ob_cells A6.out
  go_wp2_with fail
  refine (svNewer S6.out ⟨11, false, 1, 0, 0, ⟨#[]⟩⟩ ⟨9, false, 0, 0, 3, ⟨#[]⟩⟩).mono ?_
  rintro e w7 ⟨rfl, s7, k7⟩
  rw [HN.out]
  have S7 := Lib.hid s7
  have B7 : Hid (Below w.heap.size w w7) := Lib.hid (B6.out.trans (k7.below fun _ h => .inl (.inl h)))
  have O7 := Lib.hid ((k7.block _ (.inl (.inr rfl))).trans O6.out)
  clear s7 k7 c0 c1 c2 c3 c4 c5 d0 d1 d2 d3 d4 d5
  obtain ⟨c0, c1, c2, c3, c4, c5⟩ := ob_cells O7.out
  go_wp2_with fail
  refine (svBack_ok S7.out ⟨11, false, 1, 0, 0, ⟨#[]⟩⟩ HA.out rfl).mono ?_
  rintro e w8 ⟨rfl, s8, k8⟩
  have S8 : Hid (SH (fun b => (b < w.heap.size ∨ b = w3.heap.size) ∨ b = w5.heap.size) w.heap.size [] w1.heap.size [] 1 w8) := Lib.hid s8
  have B8 : Hid (Below w.heap.size w w8) := Lib.hid (B7.out.trans (k8.below fun _ h => .inl (.inl h)))
  clear s8 k8 c0 c1 c2 c3 c4 c5
  go_wp2_with fail
  refine (shCells S8.out).mono ?_
  rintro e w9 ⟨rfl, rfl⟩
  go_wp2_with fail
  refine (svLen S8.out.sat).mono ?_
  rintro e w9 ⟨rfl, rfl⟩
  go_wp2
  go_ret
  exact ⟨rfl, B8.out⟩
end Go.Proofs.Ytiokilinlpacmaa
