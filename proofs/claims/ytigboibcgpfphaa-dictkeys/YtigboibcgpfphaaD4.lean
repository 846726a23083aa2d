/- Walks of dict: others; what a map of the keys says of a key. -/
import Derived.Test.YtigboibcgpfphaaD3
namespace Go.Proofs.Ytigboibcgpfphaa
open Go.RowKit Go.Maps
set_option linter.unusedVariables false

set_option maxHeartbeats 1000000 in
set_option maxRecDepth 100000 in
theorem others_walk (hb n N2 : Nat) (k nn a l r : Int) (x : Bool) (s : ByteArray) (key : Nat → Ob) (ls : Nat → Option Lit) (w : World) (hn : n ≤ 1000) (hN2 : N2 = 2 * n + 1) (hs : Hid (∀ j, j < n → (key j).Fine))
    (hls : Hid (∀ j, j < n → ls j = if (key j).k = 5 then none else keyOf Try.prog 26 (plainO (key j)).val))
    (hg : Hid (∀ j A : Nat, j < n → A = 2 * j + 1 → ∀ wx, Below w.heap.size w wx → Calls Try.prog 50 #[ptr hb, obV k x nn a l s, .int .i64 A] wx fun e w' => e = .returned (.tuple #[(key j).val, .int .i64 0]) ∧ Below wx.heap.size wx w')) :
    Calls Try.prog 93 #[dcV hb k x nn a l s n r] w fun e w' => e = .returned (.map (some (w.heap.size + 1))) ∧ Round (plainElem Try.prog 3) 26 w hb k x nn a l s n r ls n w' := by
  have hmm := @run_makeMap Try.prog
  have HN := Lib.hid hn
  have HN2 := Lib.hid hN2
  clear hn hN2
  go_enter Try.func93, Try.ntmps93
  go_wp2
  go_loopw [4] (fun at_ wr => ∃ j A : Nat, j ≤ n ∧ A = 2 * j + 1 ∧ at_ = .int .i64 A ∧ Round (plainElem Try.prog 3) 26 w hb k x nn a l s n r ls j wr) (fun at_ _ => N2 - (intOf at_).toNat)
  case atStart => exact ⟨0, 1, Nat.zero_le _, rfl, rfl, Round.start w⟩
  case round =>
    obtain ⟨j, A, hj, hA, rfl, hr⟩ := hrel
    have HR := Lib.hid hr
    have HA := Lib.hid hA
    clear hr hA hmm
    obtain ⟨c0, c1, c2, c3, c4, c5, c6, c7, c8⟩ := dc_cells HR.out.blk
    go_wp2_with fail
    refine (end_is hb k nn a l r x s n N2 HN2.out HN.out wr).mono ?_
    rintro e w1 ⟨rfl, k1⟩
    have R1 := Lib.hid (HR.out.later k1)
    clear k1 c0 c1 c2 c3 c4 c5 c6 c7 c8
    by_cases hlt : j < n
    · have t1 : (A : Int) < N2 := by have := HA.out; have := HN2.out; omega
      obtain ⟨c0, c1, c2, c3, c4, c5, c6, c7, c8⟩ := dc_cells R1.out.blk
      go_wp2_with fail
      have HS := hs.out j hlt
      have HLS := hls.out j hlt
      have hgj := hg.out j A hlt HA.out w1 R1.out.below
      obtain ⟨o, ho⟩ : ∃ o, key j = o := ⟨_, rfl⟩
      rw [ho] at HS HLS hgj
      have hpl := Lib.hid (plain_any o)
      have HF := plain_fine HS
      obtain ⟨q, hq⟩ : ∃ q, plainO o = q := ⟨_, rfl⟩
      rw [hq] at HLS hpl HF
      obtain ⟨kl, hkl⟩ := key26 q HF
      rw [hkl] at HLS
      obtain ⟨k', x', n', a', l', s'⟩ := o
      obtain ⟨kq, xq, nq, aq, lq, sq⟩ := q
      simp only [Ob.val] at hgj hpl hkl
      have HLS := Lib.hid HLS
      have HK := Lib.hid hkl
      refine hgj.mono ?_
      rintro e w2 ⟨rfl, k2⟩
      clear hgj ho hq hkl HF c0 c1 c2 c3 c4 c5 c6 c7 c8
      go_upto_region 6 with fail
      obtain ⟨w3, e3, k3, z3, o3⟩ := ob_box w2 k' n' a' l' x' s'
      rw [e3]
      have R3 := Lib.hid (R1.out.later (below_and k2 k3))
      obtain ⟨d0, d1, d2, d3, d4, d5⟩ := o3
      have HW := Lib.hid (wrap64_two (A := A) (by have := HA.out; have := HN.out; omega))
      clear e3 k2 k3 z3
      by_cases h5 : k' = 5
      · subst h5
        have R4 := Lib.hid (R3.out.skip (by rw [HLS.out]; simp))
        go_wp2
        go_roundw
        case rel => exact ⟨j + 1, A + 2, hlt, by have := HA.out; omega, congrArg (Value.int .i64) HW.out, R4.out⟩
        case measure => exact measure_two N2 A _ HW.out (by omega)
      · have h5' : (k' != 5) = true := by simpa using h5
        have HLS' : Hid (ls j = some kl) := Lib.hid (by rw [HLS.out]; simp [h5])
        go_wp2_with fail
        refine (hpl.out w3).mono ?_
        rintro e w4 ⟨rfl, k4⟩
        have R4 := Lib.hid (R3.out.later k4)
        obtain ⟨M, hown, hM⟩ := R4.out.map
        have hMM := Lib.hid hM
        have hkey := HK.out
        have hwf : (Lit.int .i64 (A : Int)).wf = true := WalkArith.wf_i64 (by have := HA.out; have := HN.out; omega)
        clear hM h5 k4 d0 d1 d2 d3 d4 d5
        go_wp2_with (first
          | (at_mapUpdate; refine wpList_mapUpdate_own _ rfl _ _ _ 141 rfl 26 3 law26 Try.underlying141 _ (w.heap.size + 1) j _ rfl hown (by unfold maxLen; have := HN.out; omega) _ _ _ rfl rfl hkey _ [] (plainElem_int Try.underlying3 hwf) ?_))
        intro w5 hown1 hgrow1
        have R5 := Lib.hid (R4.out.put (kl := kl) hMM.out HLS'.out (law26.key HK.out) (by have e := HA.out; rw [show (2 * (j : Int) + 1) = (A : Int) from by omega]; exact hown1) hgrow1)
        clear hown hown1 hgrow1
        go_wp2
        go_roundw
        case rel => exact ⟨j + 1, A + 2, hlt, by have := HA.out; omega, congrArg (Value.int .i64) HW.out, R5.out⟩
        case measure => exact measure_two N2 A _ HW.out (by omega)
    · have t0 := HA.out
      have t2 := HN2.out
      have t1 : decide (A < N2) = false := decide_eq_false (by omega)
      clear t0 t2
      have e : j = n := by omega
      subst e
      go_wp2
      go_ret
      exact ⟨rfl, R1.out⟩

section
variable {role : Nat → Nat × Nat} {c hb : Nat} {vc : Value} {ivs : List Value} {pb : Nat → Nat} {rv : Nat → Value} {P : List Cel} {w w' : World} {d : Ob} {ps : List (Ob × Ob)} {room : Nat} {lk : Bool}
theorem dget_is (h : PH role c hb vc ivs pb rv P w) (D : DictC P d ps room lk) {i : Nat} {o : Ob} (hi : (itemsD ps room)[i]? = some o) :
    Calls Try.prog 50 #[ptr hb, d.val, .int .i64 i] w fun e w' => e = .returned (.tuple #[o.val, .int .i64 0]) ∧ Below w.heap.size w w' := by
  have := get_is h d i
  rw [(D.get hi).1, (D.get hi).2] at this
  exact this
theorem pair_at {j : Nat} (hj : j < ps.length) : ps[j]? = some ps[j] := List.getElem?_eq_getElem hj
theorem names_is (h : PH role c hb vc ivs pb rv P w) (D : DictC P d ps room lk) :
    Calls Try.prog 92 #[dcV hb d.k d.x d.n d.a d.l d.s ps.length room] w fun e w' => e = .returned (.map (some (w.heap.size + 1))) ∧ Round (plainElem Try.prog 3) 9 w hb d.k d.x d.n d.a d.l d.s ps.length room (nameLit ps) ps.length w' := by
  refine names_walk hb ps.length _ d.k d.n d.a d.l room d.x d.s (fun j => (ps.getD j (Ob.zero, Ob.zero)).1) (nameLit ps) w (Nat.le_trans D.le D.most) rfl (Lib.hid fun j hj => ?_) (Lib.hid fun j hj => ?_) (Lib.hid fun j A hj hA wx kx => ?_)
  · rw [List.getD_eq_getElem?_getD, pair_at hj]
    exact (D.fine _ (List.getElem_mem hj)).s
  · rw [List.getD_eq_getElem?_getD, nameLit, pair_at hj]
    rfl
  · rw [List.getD_eq_getElem?_getD, pair_at hj, hA]
    exact dget_is (h.below kx) D (itemsD_key (pair_at hj)).1
theorem others_is (h : PH role c hb vc ivs pb rv P w) (D : DictC P d ps room lk) :
    Calls Try.prog 93 #[dcV hb d.k d.x d.n d.a d.l d.s ps.length room] w fun e w' => e = .returned (.map (some (w.heap.size + 1))) ∧ Round (plainElem Try.prog 3) 26 w hb d.k d.x d.n d.a d.l d.s ps.length room (otherLit ps) ps.length w' := by
  refine others_walk hb ps.length _ d.k d.n d.a d.l room d.x d.s (fun j => (ps.getD j (Ob.zero, Ob.zero)).1) (otherLit ps) w (Nat.le_trans D.le D.most) rfl (Lib.hid fun j hj => ?_) (Lib.hid fun j hj => ?_) (Lib.hid fun j A hj hA wx kx => ?_)
  · rw [List.getD_eq_getElem?_getD, pair_at hj]
    exact D.fine _ (List.getElem_mem hj)
  · rw [List.getD_eq_getElem?_getD, otherLit, pair_at hj]
    rfl
  · rw [List.getD_eq_getElem?_getD, pair_at hj, hA]
    exact dget_is (h.below kx) D (itemsD_key (pair_at hj)).1
end
end Go.Proofs.Ytigboibcgpfphaa
