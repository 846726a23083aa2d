/- Y22: D3, D4, D5, D6. -/
import Derived.Test.YtlkbnldpecolbaaY21
import Derived.Deep.RegionHeldLaw
/- Walks of dict: names and others, the maps of the keys. -/
namespace Go.Proofs.Ytlkbnldpecolbaa
open Go.RowKit Go.Maps
set_option linter.unusedVariables false

theorem makeMap_some (v : Int) (w : World) : (Instr.makeMap 124 (some (.int .i64 v))).run Try.prog w = .ok (.map (some w.heap.size)) (w.alloc (.map #[] 0)) := by
  simp [Instr.makeMap, run_underlying Try.underlying124, asInt, asIntOf]
theorem end_is (hb : Nat) (k n a l r : Int) (x : Bool) (s : ByteArray) (p q : Nat) (hq : q = 2 * p + 1) (hp : p ≤ 1000) (w : World) : Calls Try.prog 60 #[dcV hb k x n a l s p r] w fun e w' => e = .returned (.int .i64 q) ∧ Below w.heap.size w w' := by
  subst hq
  exact end_any hb k n a l r x s p hp w
theorem wrap64_two {A : Nat} (h : A ≤ 3000) : wrap64 ((A : Int) + 2) = ((A + 2 : Nat) : Int) := by
  unfold wrap64
  omega
theorem measure_two (K A : Nat) (q : Int) (h : q = ((A + 2 : Nat) : Int)) (hx : A < K) : K - (intOf (.int .i64 q)).toNat < K - (intOf (.int .i64 (A : Int))).toNat := by
  subst h
  simp [intOf]
  omega
theorem zero3 (w : World) : (zeroValue 3).run Try.prog w = .ok (.int .i64 0) w := by kernel_rfl

/-- What a round of names and others keeps. -/
structure Round (R : Value → Option (DataW Unit × List MemPlace)) (T : TypeId) (w : World) (hb : Nat) (k : Int) (x : Bool) (nn a l : Int) (s : ByteArray) (n : Int) (r : Int) (ls : Nat → Option Lit) (j : Nat) (wr : World) : Prop where
  below : Below w.heap.size w wr
  blk : wr.heap[w.heap.size]? = some (dcObj hb k x nn a l s n r)
  map : ∃ M : DataW Unit, wr.ownsMap Try.prog T R (w.heap.size + 1) j M ∧ MapIs M j ls
section
variable {R : Value → Option (DataW Unit × List MemPlace)} {T : TypeId} {w : World} {hb : Nat} {k : Int} {x : Bool} {nn a l : Int} {s : ByteArray} {n r : Int} {ls : Nat → Option Lit} {j : Nat} {wr wx : World}
theorem Round.later (h : Round R T w hb k x nn a l s n r ls j wr) (kx : Below wr.heap.size wr wx) : Round R T w hb k x nn a l s n r ls j wx := by
  obtain ⟨M, h1, h2⟩ := h.map
  exact ⟨below_and h.below kx, (kx.block _ (blk_lt h.blk)).trans h.blk, M, owns_block h1 (kx.block _ h1.lt), h2⟩
theorem Round.skip (h : Round R T w hb k x nn a l s n r ls j wr) (hn : ls j = none) : Round R T w hb k x nn a l s n r ls (j + 1) wr := by
  obtain ⟨M, h1, h2⟩ := h.map
  exact ⟨h.below, h.blk, M, h1.mono (Nat.le_succ _), h2.skip hn⟩
theorem Round.put (h : Round R T w hb k x nn a l s n r ls j wr) {M : DataW Unit} {kl : Lit} (h2 : MapIs M j ls) (hn : ls j = some kl) (hk : WideAt.IsKeyLit kl) (hown : wx.ownsMap Try.prog T R (w.heap.size + 1) (j + 1) (M.put kl (.lit (.int .i64 (2 * j + 1))))) (hg : wr.grownBy wx (some (w.heap.size + 1))) : Round R T w hb k x nn a l s n r ls (j + 1) wx :=
  ⟨h.below.grown hg h.below.size (fun j hj => by cases hj; exact Nat.le_succ _), (hg.block _ (blk_lt h.blk) (by simp)).trans h.blk, _, hown, h2.put hn hk⟩
theorem Round.start (w : World) : Round R T w hb k x nn a l s n r ls 0 ((w.alloc (.cells #[ptr hb, .int .i64 k, .bool x, .int .i64 nn, .int .i64 a, .int .i64 l, .string s, .int .i64 n, .int .i64 r] 86)).alloc (.map #[] 0)) := by
  refine ⟨below_and (box_below _ _) (box_below _ _), ?_, .map [], ?_, MapIs.zero _⟩
  · rw [Below.heap_alloc _ _ _ (by simp)]
    exact heap_alloc_new _ _
  · have := World.ownsMap_made (w.alloc (.cells #[ptr hb, .int .i64 k, .bool x, .int .i64 nn, .int .i64 a, .int .i64 l, .string s, .int .i64 n, .int .i64 r] 86)) Try.prog T R
    simpa using this
end

set_option maxHeartbeats 1000000 in
set_option maxRecDepth 100000 in
theorem names_walk (hb n N2 : Nat) (k nn a l r : Int) (x : Bool) (s : ByteArray) (key : Nat → Ob) (ls : Nat → Option Lit) (w : World) (hn : n ≤ 1000) (hN2 : N2 = 2 * n + 1) (hs : Hid (∀ j, j < n → (key j).s.size ≤ maxLen))
    (hls : Hid (∀ j, j < n → ls j = if (key j).k = 5 then some (.string (key j).s.data.toList) else none))
    (hg : Hid (∀ j A : Nat, j < n → A = 2 * j + 1 → ∀ wx, Below w.heap.size w wx → Calls Try.prog 71 #[ptr hb, obV k x nn a l s, .int .i64 A] wx fun e w' => e = .returned (.tuple #[(key j).val, .int .i64 0]) ∧ Below wx.heap.size wx w')) :
    Calls Try.prog 82 #[dcV hb k x nn a l s n r] w fun e w' => e = .returned (.map (some (w.heap.size + 1))) ∧ Round (plainElem Try.prog 3) 9 w hb k x nn a l s n r ls n w' := by
  have hmm := makeMap_some
  have HN := Lib.hid hn
  have HN2 := Lib.hid hN2
  clear hn hN2
  go_enter Try.func82, Try.ntmps82
  go_wp2
  go_loopw [4] (fun at_ wr => ∃ j A : Nat, j ≤ n ∧ A = 2 * j + 1 ∧ at_ = .int .i64 A ∧ Round (plainElem Try.prog 3) 9 w hb k x nn a l s n r ls j wr) (fun at_ _ => N2 - (intOf at_).toNat)
  case atStart => exact ⟨0, 1, Nat.zero_le _, rfl, rfl, Round.start w⟩
  case round =>
    obtain ⟨j, A, hj, hA, rfl, hr⟩ := hrel
    have HR := Lib.hid hr
    have HA := Lib.hid hA
    clear hr hA hmm
    obtain ⟨c0, c1, c2, c3, c4, c5, c6, c7, c8⟩ := dc_cells HR.out.blk
    go_wp2_with fail
    refine (end_is hb k nn a l r x s n N2 HN2.out HN.out wr).mono ?_
    rintro e w1 ⟨rfl, k1⟩
    have R1 := Lib.hid (HR.out.later k1)
    clear k1 c0 c1 c2 c3 c4 c5 c6 c7 c8
    by_cases hlt : j < n
    · have t1 : (A : Int) < N2 := by have := HA.out; have := HN2.out; omega
      obtain ⟨c0, c1, c2, c3, c4, c5, c6, c7, c8⟩ := dc_cells R1.out.blk
      go_wp2_with fail
      have HS := hs.out j hlt
      have HLS := hls.out j hlt
      have hgj := hg.out j A hlt HA.out w1 R1.out.below
      obtain ⟨o, ho⟩ : ∃ o, key j = o := ⟨_, rfl⟩
      rw [ho] at HS HLS hgj
      obtain ⟨k', x', n', a', l', s'⟩ := o
      simp only [Ob.val] at hgj
      have HLS := Lib.hid HLS
      have HS := Lib.hid HS
      refine hgj.mono ?_
      rintro e w2 ⟨rfl, k2⟩
      clear hgj ho c0 c1 c2 c3 c4 c5 c6 c7 c8
      go_upto_region 6 with fail
      obtain ⟨w3, e3, k3, z3, o3⟩ := ob_box w2 k' n' a' l' x' s'
      rw [e3]
      have R3 := Lib.hid (R1.out.later (below_and k2 k3))
      obtain ⟨d0, d1, d2, d3, d4, d5⟩ := o3
      have hwr := wrap64_two (A := A) (by have := HA.out; have := HN.out; omega)
      have HW := Lib.hid hwr
      clear hwr e3 k2 k3 z3
      by_cases h5 : k' = 5
      · subst h5
        obtain ⟨M, hown, hM⟩ := R3.out.map
        have hMM := Lib.hid hM
        have hkey : keyOf Try.prog 9 (.string s') = some (.string s'.data.toList) := WideMaps.keyOf_string_mk Try.underlying9 HS.out
        have hwf : (Lit.int .i64 (A : Int)).wf = true := WalkArith.wf_i64 (by have := HA.out; have := HN.out; omega)
        clear hM
        go_wp2_with (first
          | (at_mapUpdate; refine wpList_mapUpdate_own _ rfl _ _ _ 124 rfl 9 3 law9 Try.underlying124 _ (w.heap.size + 1) j _ rfl hown (by unfold maxLen; have := HN.out; omega) _ _ _ rfl rfl hkey _ [] (plainElem_int Try.underlying3 hwf) ?_))
        intro w4 hown1 hgrow1
        have R4 := Lib.hid (R3.out.put (kl := .string s'.data.toList) hMM.out (by simpa using HLS.out) trivial (by have e := HA.out; rw [show (2 * (j : Int) + 1) = (A : Int) from by omega]; exact hown1) hgrow1)
        clear hown hown1 hgrow1 d0 d1 d2 d3 d4 d5
        go_wp2
        go_roundw
        case rel => exact ⟨j + 1, A + 2, hlt, by have := HA.out; omega, congrArg (Value.int .i64) HW.out, R4.out⟩
        case measure => exact measure_two N2 A _ HW.out (by omega)
      · have h5' : (k' == 5) = false := by simpa using h5
        have R4 := Lib.hid (R3.out.skip (by rw [HLS.out]; simp [h5]))
        clear h5
        go_wp2
        go_roundw
        case rel => exact ⟨j + 1, A + 2, hlt, by have := HA.out; omega, congrArg (Value.int .i64) HW.out, R4.out⟩
        case measure => exact measure_two N2 A _ HW.out (by omega)
    · have t0 := HA.out
      have t2 := HN2.out
      have t1 : decide (A < N2) = false := decide_eq_false (by omega)
      clear t0 t2
      have e : j = n := by omega
      subst e
      go_wp2
      go_ret
      exact ⟨rfl, R1.out⟩
end Go.Proofs.Ytlkbnldpecolbaa

/- Walks of dict: others; what a map of the keys says of a key. -/
namespace Go.Proofs.Ytlkbnldpecolbaa
open Go.RowKit Go.Maps
set_option linter.unusedVariables false

set_option maxHeartbeats 1000000 in
set_option maxRecDepth 100000 in
theorem others_walk (hb n N2 : Nat) (k nn a l r : Int) (x : Bool) (s : ByteArray) (key : Nat → Ob) (ls : Nat → Option Lit) (w : World) (hn : n ≤ 1000) (hN2 : N2 = 2 * n + 1) (hs : Hid (∀ j, j < n → (key j).Fine))
    (hls : Hid (∀ j, j < n → ls j = if (key j).k = 5 then none else keyOf Try.prog 30 (plainO (key j)).val))
    (hg : Hid (∀ j A : Nat, j < n → A = 2 * j + 1 → ∀ wx, Below w.heap.size w wx → Calls Try.prog 71 #[ptr hb, obV k x nn a l s, .int .i64 A] wx fun e w' => e = .returned (.tuple #[(key j).val, .int .i64 0]) ∧ Below wx.heap.size wx w')) :
    Calls Try.prog 83 #[dcV hb k x nn a l s n r] w fun e w' => e = .returned (.map (some (w.heap.size + 1))) ∧ Round (plainElem Try.prog 3) 30 w hb k x nn a l s n r ls n w' := by
  have hmm := @run_makeMap Try.prog
  have HN := Lib.hid hn
  have HN2 := Lib.hid hN2
  clear hn hN2
  go_enter Try.func83, Try.ntmps83
  go_wp2
  go_loopw [4] (fun at_ wr => ∃ j A : Nat, j ≤ n ∧ A = 2 * j + 1 ∧ at_ = .int .i64 A ∧ Round (plainElem Try.prog 3) 30 w hb k x nn a l s n r ls j wr) (fun at_ _ => N2 - (intOf at_).toNat)
  case atStart => exact ⟨0, 1, Nat.zero_le _, rfl, rfl, Round.start w⟩
  case round =>
    obtain ⟨j, A, hj, hA, rfl, hr⟩ := hrel
    have HR := Lib.hid hr
    have HA := Lib.hid hA
    clear hr hA hmm
    obtain ⟨c0, c1, c2, c3, c4, c5, c6, c7, c8⟩ := dc_cells HR.out.blk
    go_wp2_with fail
    refine (end_is hb k nn a l r x s n N2 HN2.out HN.out wr).mono ?_
    rintro e w1 ⟨rfl, k1⟩
    have R1 := Lib.hid (HR.out.later k1)
    clear k1 c0 c1 c2 c3 c4 c5 c6 c7 c8
    by_cases hlt : j < n
    · have t1 : (A : Int) < N2 := by have := HA.out; have := HN2.out; omega
      obtain ⟨c0, c1, c2, c3, c4, c5, c6, c7, c8⟩ := dc_cells R1.out.blk
      go_wp2_with fail
      have HS := hs.out j hlt
      have HLS := hls.out j hlt
      have hgj := hg.out j A hlt HA.out w1 R1.out.below
      obtain ⟨o, ho⟩ : ∃ o, key j = o := ⟨_, rfl⟩
      rw [ho] at HS HLS hgj
      have hpl := Lib.hid (plain_any o)
      have HF := plain_fine HS
      obtain ⟨q, hq⟩ : ∃ q, plainO o = q := ⟨_, rfl⟩
      rw [hq] at HLS hpl HF
      obtain ⟨kl, hkl⟩ := key26 q HF
      rw [hkl] at HLS
      obtain ⟨k', x', n', a', l', s'⟩ := o
      obtain ⟨kq, xq, nq, aq, lq, sq⟩ := q
      simp only [Ob.val] at hgj hpl hkl
      have HLS := Lib.hid HLS
      have HK := Lib.hid hkl
      refine hgj.mono ?_
      rintro e w2 ⟨rfl, k2⟩
      clear hgj ho hq hkl HF c0 c1 c2 c3 c4 c5 c6 c7 c8
      go_upto_region 6 with fail
      obtain ⟨w3, e3, k3, z3, o3⟩ := ob_box w2 k' n' a' l' x' s'
      rw [e3]
      have R3 := Lib.hid (R1.out.later (below_and k2 k3))
      obtain ⟨d0, d1, d2, d3, d4, d5⟩ := o3
      have HW := Lib.hid (wrap64_two (A := A) (by have := HA.out; have := HN.out; omega))
      clear e3 k2 k3 z3
      by_cases h5 : k' = 5
      · subst h5
        have R4 := Lib.hid (R3.out.skip (by rw [HLS.out]; simp))
        go_wp2
        go_roundw
        case rel => exact ⟨j + 1, A + 2, hlt, by have := HA.out; omega, congrArg (Value.int .i64) HW.out, R4.out⟩
        case measure => exact measure_two N2 A _ HW.out (by omega)
      · have h5' : (k' != 5) = true := by simpa using h5
        have HLS' : Hid (ls j = some kl) := Lib.hid (by rw [HLS.out]; simp [h5])
        go_wp2_with fail
        refine (hpl.out w3).mono ?_
        rintro e w4 ⟨rfl, k4⟩
        have R4 := Lib.hid (R3.out.later k4)
        obtain ⟨M, hown, hM⟩ := R4.out.map
        have hMM := Lib.hid hM
        have hkey := HK.out
        have hwf : (Lit.int .i64 (A : Int)).wf = true := WalkArith.wf_i64 (by have := HA.out; have := HN.out; omega)
        clear hM h5 k4 d0 d1 d2 d3 d4 d5
        go_wp2_with (first
          | (at_mapUpdate; refine wpList_mapUpdate_own _ rfl _ _ _ 126 rfl 30 3 law26 Try.underlying126 _ (w.heap.size + 1) j _ rfl hown (by unfold maxLen; have := HN.out; omega) _ _ _ rfl rfl hkey _ [] (plainElem_int Try.underlying3 hwf) ?_))
        intro w5 hown1 hgrow1
        have R5 := Lib.hid (R4.out.put (kl := kl) hMM.out HLS'.out (law26.key HK.out) (by have e := HA.out; rw [show (2 * (j : Int) + 1) = (A : Int) from by omega]; exact hown1) hgrow1)
        clear hown hown1 hgrow1
        go_wp2
        go_roundw
        case rel => exact ⟨j + 1, A + 2, hlt, by have := HA.out; omega, congrArg (Value.int .i64) HW.out, R5.out⟩
        case measure => exact measure_two N2 A _ HW.out (by omega)
    · have t0 := HA.out
      have t2 := HN2.out
      have t1 : decide (A < N2) = false := decide_eq_false (by omega)
      clear t0 t2
      have e : j = n := by omega
      subst e
      go_wp2
      go_ret
      exact ⟨rfl, R1.out⟩

section
variable {role : Nat → Nat × Nat} {c hb : Nat} {vc : Value} {ivs : List Value} {pb : Nat → Nat} {rv : Nat → Value} {P : List Cel} {w w' : World} {d : Ob} {ps : List (Ob × Ob)} {room : Nat} {lk : Bool}
theorem dget_is (h : PH role c hb vc ivs pb rv P w) (D : DictC P d ps room lk) {i : Nat} {o : Ob} (hi : (itemsD ps room)[i]? = some o) :
    Calls Try.prog 71 #[ptr hb, d.val, .int .i64 i] w fun e w' => e = .returned (.tuple #[o.val, .int .i64 0]) ∧ Below w.heap.size w w' := by
  have := get_is h d i
  rw [(D.get hi).1, (D.get hi).2] at this
  exact this
theorem pair_at {j : Nat} (hj : j < ps.length) : ps[j]? = some ps[j] := List.getElem?_eq_getElem hj
theorem names_is (h : PH role c hb vc ivs pb rv P w) (D : DictC P d ps room lk) :
    Calls Try.prog 82 #[dcV hb d.k d.x d.n d.a d.l d.s ps.length room] w fun e w' => e = .returned (.map (some (w.heap.size + 1))) ∧ Round (plainElem Try.prog 3) 9 w hb d.k d.x d.n d.a d.l d.s ps.length room (nameLit ps) ps.length w' := by
  refine names_walk hb ps.length _ d.k d.n d.a d.l room d.x d.s (fun j => (ps.getD j (Ob.zero, Ob.zero)).1) (nameLit ps) w (Nat.le_trans D.le D.most) rfl (Lib.hid fun j hj => ?_) (Lib.hid fun j hj => ?_) (Lib.hid fun j A hj hA wx kx => ?_)
  · rw [List.getD_eq_getElem?_getD, pair_at hj]
    exact (D.fine _ (List.getElem_mem hj)).s
  · rw [List.getD_eq_getElem?_getD, nameLit, pair_at hj]
    rfl
  · rw [List.getD_eq_getElem?_getD, pair_at hj, hA]
    exact dget_is (h.below kx) D (itemsD_key (pair_at hj)).1
theorem others_is (h : PH role c hb vc ivs pb rv P w) (D : DictC P d ps room lk) :
    Calls Try.prog 83 #[dcV hb d.k d.x d.n d.a d.l d.s ps.length room] w fun e w' => e = .returned (.map (some (w.heap.size + 1))) ∧ Round (plainElem Try.prog 3) 30 w hb d.k d.x d.n d.a d.l d.s ps.length room (otherLit ps) ps.length w' := by
  refine others_walk hb ps.length _ d.k d.n d.a d.l room d.x d.s (fun j => (ps.getD j (Ob.zero, Ob.zero)).1) (otherLit ps) w (Nat.le_trans D.le D.most) rfl (Lib.hid fun j hj => ?_) (Lib.hid fun j hj => ?_) (Lib.hid fun j A hj hA wx kx => ?_)
  · rw [List.getD_eq_getElem?_getD, pair_at hj]
    exact D.fine _ (List.getElem_mem hj)
  · rw [List.getD_eq_getElem?_getD, otherLit, pair_at hj]
    rfl
  · rw [List.getD_eq_getElem?_getD, pair_at hj, hA]
    exact dget_is (h.below kx) D (itemsD_key (pair_at hj)).1
end
end Go.Proofs.Ytlkbnldpecolbaa

/- Walks of dict: find. -/
namespace Go.Proofs.Ytlkbnldpecolbaa
open Go.RowKit Go.Maps
set_option linter.unusedVariables false

theorem look_is {w : World} {T t : TypeId} {B n j : Nat} {M : DataW Unit} {ls : Nat → Option Lit} {key : Value} {kl : Lit} (law : Keyed Try.prog T) (ht : Try.prog.underlying t = some (.map T 3)) (hown : w.ownsMap Try.prog T (plainElem Try.prog 3) B n M) (hM : MapIs M j ls) (hkey : keyOf Try.prog T key = some kl) :
    (Instr.lookup t (.map (some B)) key true).run Try.prog w = .ok (.tuple #[.int .i64 (atI (ixL ls kl j)), .bool (ixL ls kl j).isSome]) w := by
  obtain ⟨v, ps, hrun, hv⟩ := hown.look_ok law ht (zero3 w) (plainElem_int Try.underlying3 rfl) hkey
  have q := hM.2 kl (law.key hkey)
  rw [q.2] at hv
  obtain ⟨c, rfl, hz, _⟩ := plainElem_int_inv Try.underlying3 hv
  rw [hrun, q.1]
  have : c = atI (ixL ls kl j) := by
    have := congrArg Prod.fst hz
    simpa using this.symm
  rw [this]

def FindAt (w : World) (A B hb : Nat) (k : Int) (x : Bool) (n a l : Int) (s : ByteArray) (p r : Int) (k' : Int) (x' : Bool) (n' a' l' : Int) (s' : ByteArray) : Prop := DcAt w A hb k x n a l s p r ∧ ObAt w B k' x' n' a' l' s'
theorem FindAt.later {w wx : World} {A B hb : Nat} {k : Int} {x : Bool} {n a l : Int} {s : ByteArray} {p r : Int} {k' : Int} {x' : Bool} {n' a' l' : Int} {s' : ByteArray} (h : FindAt w A B hb k x n a l s p r k' x' n' a' l' s') (kc : Below w.heap.size w wx) : FindAt wx A B hb k x n a l s p r k' x' n' a' l' s' := ⟨h.1.later kc, h.2.later kc⟩
theorem dc_ob (w : World) (hb : Nat) (k n a l p r : Int) (x : Bool) (s : ByteArray) (k' n' a' l' : Int) (x' : Bool) (s' : ByteArray) :
    ∃ wb, (w.alloc (.cells #[ptr hb, .int .i64 k, .bool x, .int .i64 n, .int .i64 a, .int .i64 l, .string s, .int .i64 p, .int .i64 r] 86)).alloc (.cells #[.int .i64 k', .bool x', .int .i64 n', .int .i64 a', .int .i64 l', .string s'] 30) = wb ∧ Below w.heap.size w wb ∧ wb.heap.size = w.heap.size + 2 ∧ FindAt wb w.heap.size (w.heap.size + 1) hb k x n a l s p r k' x' n' a' l' s' := by
  refine ⟨_, rfl, below_and (box_below _ _) (box_below _ _), by simp, (dc_cells (heap_alloc_new _ _)).later (box_below _ _), ?_⟩
  have := heap_alloc_new (w.alloc (.cells #[ptr hb, .int .i64 k, .bool x, .int .i64 n, .int .i64 a, .int .i64 l, .string s, .int .i64 p, .int .i64 r] 86)) (obObj k' x' n' a' l' s')
  exact ob_cells (by simpa using this)

set_option maxHeartbeats 1000000 in
set_option maxRecDepth 100000 in
theorem find_name (hb n : Nat) (k nn a l r v : Int) (y : Bool) (x : Bool) (s : ByteArray) (x' : Bool) (n' a' l' : Int) (s' : ByteArray) (w : World)
    (hm : Hid (∀ wx, Below w.heap.size w wx → Calls Try.prog 82 #[dcV hb k x nn a l s n r] wx fun e w' => ∃ B, e = .returned (.map (some B)) ∧ (Instr.lookup 124 (.map (some B)) (.string s') true).run Try.prog w' = .ok (.tuple #[.int .i64 v, .bool y]) w' ∧ Below wx.heap.size wx w')) :
    Calls Try.prog 54 #[dcV hb k x nn a l s n r, obV 5 x' n' a' l' s'] w fun e w' => e = .returned (.tuple #[.int .i64 v, .bool y]) ∧ Below w.heap.size w w' := by
  go_enter Try.func54, Try.ntmps54
  go_wp2_with fail
  obtain ⟨wb, eb, kb, zb, fb⟩ := dc_ob w hb k nn a l n r x s 5 n' a' l' x' s'
  rw [eb]
  have gb := Lib.hid kb
  have go := Lib.hid fb
  obtain ⟨⟨c0, c1, c2, c3, c4, c5, c6, c7, c8⟩, d0, d1, d2, d3, d4, d5⟩ := fb
  clear eb kb zb
  go_wp2_with fail
  replace gb : Hid (Below w.heap.size w wb.drew) := Lib.hid gb.out.drew
  replace go : Hid (FindAt wb.drew w.heap.size (w.heap.size + 1) hb k x nn a l s n r 5 x' n' a' l' s') := Lib.hid go.out
  go_region_held3 (fun wx => wx.cell? ⟨w.heap.size, 0, none⟩ = some (ptr hb) ∧ wx.cell? ⟨w.heap.size, 1, none⟩ = some (.int .i64 k) ∧ wx.cell? ⟨w.heap.size, 2, none⟩ = some (.bool x) ∧ wx.cell? ⟨w.heap.size, 3, none⟩ = some (.int .i64 nn) ∧ wx.cell? ⟨w.heap.size, 4, none⟩ = some (.int .i64 a) ∧ wx.cell? ⟨w.heap.size, 5, none⟩ = some (.int .i64 l) ∧ wx.cell? ⟨w.heap.size, 6, none⟩ = some (.string s) ∧ wx.cell? ⟨w.heap.size, 7, none⟩ = some (.int .i64 n) ∧ wx.cell? ⟨w.heap.size, 8, none⟩ = some (.int .i64 r) ∧ wx.cell? ⟨w.heap.size + 1, 5, none⟩ = some (.string s'))
    (first | exact ⟨go.out.1.1, go.out.1.2.1, go.out.1.2.2.1, go.out.1.2.2.2.1, go.out.1.2.2.2.2.1, go.out.1.2.2.2.2.2.1, go.out.1.2.2.2.2.2.2.1, go.out.1.2.2.2.2.2.2.2.1, go.out.1.2.2.2.2.2.2.2.2, go.out.2.2.2.2.2.2⟩ | go_keep)
    (first | (go_at_call 82; refine (hm.out _ gb.out).mono ?_; rintro e wc ⟨B, rfl, hlk, kc⟩; replace gb := Lib.hid (below_and gb.out kc); replace go := Lib.hid (go.out.later kc)))
  go_wp2
  go_ret2
  exact ⟨rfl, gb.out⟩

set_option maxHeartbeats 1000000 in
set_option maxRecDepth 100000 in
theorem find_other (hb n : Nat) (k nn a l r v : Int) (y : Bool) (x : Bool) (s : ByteArray) (k' : Int) (x' : Bool) (n' a' l' : Int) (s' : ByteArray) (kq nq aq lq : Int) (xq : Bool) (sq : ByteArray) (w : World) (h5 : (k' == 5) = false)
    (hm : Hid (∀ wx, Below w.heap.size w wx → Calls Try.prog 83 #[dcV hb k x nn a l s n r] wx fun e w' => ∃ B, e = .returned (.map (some B)) ∧ (∀ wy, Below w'.heap.size w' wy → (Instr.lookup 126 (.map (some B)) (obV kq xq nq aq lq sq) true).run Try.prog wy = .ok (.tuple #[.int .i64 v, .bool y]) wy) ∧ Below wx.heap.size wx w'))
    (hp : Hid (∀ wx, Calls Try.prog 84 #[obV k' x' n' a' l' s'] wx fun e w' => e = .returned (obV kq xq nq aq lq sq) ∧ Below wx.heap.size wx w')) :
    Calls Try.prog 54 #[dcV hb k x nn a l s n r, obV k' x' n' a' l' s'] w fun e w' => e = .returned (.tuple #[.int .i64 v, .bool y]) ∧ Below w.heap.size w w' := by
  go_enter Try.func54, Try.ntmps54
  go_wp2_with fail
  obtain ⟨wb, eb, kb, zb, fb⟩ := dc_ob w hb k nn a l n r x s k' n' a' l' x' s'
  rw [eb]
  have gb := Lib.hid kb
  have go := Lib.hid fb
  obtain ⟨⟨c0, c1, c2, c3, c4, c5, c6, c7, c8⟩, d0, d1, d2, d3, d4, d5⟩ := fb
  clear eb kb zb
  go_wp2_with fail
  replace gb : Hid (Below w.heap.size w wb.drew) := Lib.hid gb.out.drew
  replace go : Hid (FindAt wb.drew w.heap.size (w.heap.size + 1) hb k x nn a l s n r k' x' n' a' l' s') := Lib.hid go.out
  go_region_held3 (fun wx => wx.cell? ⟨w.heap.size, 0, none⟩ = some (ptr hb) ∧ wx.cell? ⟨w.heap.size, 1, none⟩ = some (.int .i64 k) ∧ wx.cell? ⟨w.heap.size, 2, none⟩ = some (.bool x) ∧ wx.cell? ⟨w.heap.size, 3, none⟩ = some (.int .i64 nn) ∧ wx.cell? ⟨w.heap.size, 4, none⟩ = some (.int .i64 a) ∧ wx.cell? ⟨w.heap.size, 5, none⟩ = some (.int .i64 l) ∧ wx.cell? ⟨w.heap.size, 6, none⟩ = some (.string s) ∧ wx.cell? ⟨w.heap.size, 7, none⟩ = some (.int .i64 n) ∧ wx.cell? ⟨w.heap.size, 8, none⟩ = some (.int .i64 r) ∧
      wx.cell? ⟨w.heap.size + 1, 0, none⟩ = some (.int .i64 k') ∧ wx.cell? ⟨w.heap.size + 1, 1, none⟩ = some (.bool x') ∧ wx.cell? ⟨w.heap.size + 1, 2, none⟩ = some (.int .i64 n') ∧ wx.cell? ⟨w.heap.size + 1, 3, none⟩ = some (.int .i64 a') ∧ wx.cell? ⟨w.heap.size + 1, 4, none⟩ = some (.int .i64 l') ∧ wx.cell? ⟨w.heap.size + 1, 5, none⟩ = some (.string s'))
    (first | exact ⟨go.out.1.1, go.out.1.2.1, go.out.1.2.2.1, go.out.1.2.2.2.1, go.out.1.2.2.2.2.1, go.out.1.2.2.2.2.2.1, go.out.1.2.2.2.2.2.2.1, go.out.1.2.2.2.2.2.2.2.1, go.out.1.2.2.2.2.2.2.2.2, go.out.2⟩ | go_keep)
    (first | (go_at_call 83; refine (hm.out _ gb.out).mono ?_; rintro e wc ⟨B, rfl, hl, kc⟩; have HL := Lib.hid hl; replace gb := Lib.hid (below_and gb.out kc); replace go := Lib.hid (go.out.later kc); clear hl kc) | (go_at_call 84; refine (hp.out _).mono ?_; rintro e wd ⟨rfl, kd⟩; have hlk := HL.out _ kd; replace gb := Lib.hid (below_and gb.out kd); replace go := Lib.hid (go.out.later kd); clear kd))
  go_wp2
  go_ret2
  exact ⟨rfl, gb.out⟩

section
variable {role : Nat → Nat × Nat} {c hb : Nat} {vc : Value} {ivs : List Value} {pb : Nat → Nat} {rv : Nat → Value} {P : List Cel} {w w' : World} {d : Ob} {ps : List (Ob × Ob)} {room : Nat} {lk : Bool}
/-- Where the key is, and whether it is there. -/
theorem find_is (h : PH role c hb vc ivs pb rv P w) (D : DictC P d ps room lk) (k : Ob) (hk : k.Fine) :
    Calls Try.prog 54 #[dcV hb d.k d.x d.n d.a d.l d.s ps.length room, k.val] w fun e w' => e = .returned (.tuple #[.int .i64 (atI (ixD ps k ps.length)), .bool (ixD ps k ps.length).isSome]) ∧ Below w.heap.size w w' := by
  by_cases h5 : k.k = 5
  · have hv : k.val = obV 5 k.x k.n k.a k.l k.s := by
      rw [← h5]
      rfl
    rw [hv]
    refine find_name hb ps.length d.k d.n d.a d.l room _ _ d.x d.s k.x k.n k.a k.l k.s w (Lib.hid fun wx kx => ?_)
    refine (names_is (h.below kx) D).mono ?_
    rintro e w' ⟨rfl, R⟩
    obtain ⟨M, m1, m2⟩ := R.map
    have := look_is law9 Try.underlying124 m1 m2 (key9 k hk.s)
    rw [ix_names h5] at this
    exact ⟨_, rfl, this, R.below⟩
  · obtain ⟨kl, hkl⟩ := key26 (plainO k) (plain_fine hk)
    refine find_other hb ps.length d.k d.n d.a d.l room _ _ d.x d.s k.k k.x k.n k.a k.l k.s (plainO k).k (plainO k).n (plainO k).a (plainO k).l (plainO k).x (plainO k).s w (by simpa using h5) (Lib.hid fun wx kx => ?_) (Lib.hid fun wx => plain_any k wx)
    refine (others_is (h.below kx) D).mono ?_
    rintro e w' ⟨rfl, R⟩
    obtain ⟨M, m1, m2⟩ := R.map
    refine ⟨_, rfl, fun wy ky => ?_, R.below⟩
    have := look_is law26 Try.underlying126 (owns_block m1 (ky.block _ m1.lt)) m2 hkl
    rw [ix_others h5 hkl] at this
    exact this
end
end Go.Proofs.Ytlkbnldpecolbaa

/- Walks of dict: open. -/
namespace Go.Proofs.Ytlkbnldpecolbaa
open Go.RowKit Go.Maps
set_option linter.unusedVariables false

abbrev zeroDc : Obj := .cells #[.pointer none, .int .i64 0, .bool false, .int .i64 0, .int .i64 0, .int .i64 0, .string ⟨#[]⟩, .int .i64 0, .int .i64 0] 86 (0, 0)
theorem cells9 {w : World} {A : Nat} {c0 c1 c2 c3 c4 c5 c6 c7 c8 : Value} {t : TypeId} (h : w.heap[A]? = some (.cells #[c0, c1, c2, c3, c4, c5, c6, c7, c8] t (0, 0))) :
    (w.cell? ⟨A, 0, none⟩ = some c0 ∧ w.cell? ⟨A, 1, none⟩ = some c1 ∧ w.cell? ⟨A, 2, none⟩ = some c2 ∧ w.cell? ⟨A, 3, none⟩ = some c3 ∧ w.cell? ⟨A, 4, none⟩ = some c4 ∧ w.cell? ⟨A, 5, none⟩ = some c5 ∧ w.cell? ⟨A, 6, none⟩ = some c6 ∧ w.cell? ⟨A, 7, none⟩ = some c7 ∧ w.cell? ⟨A, 8, none⟩ = some c8) ∧
    w.frozen? ⟨A, 0, none⟩ = false ∧ w.frozen? ⟨A, 1, none⟩ = false ∧ w.frozen? ⟨A, 2, none⟩ = false ∧ w.frozen? ⟨A, 3, none⟩ = false ∧ w.frozen? ⟨A, 4, none⟩ = false ∧ w.frozen? ⟨A, 5, none⟩ = false ∧ w.frozen? ⟨A, 6, none⟩ = false ∧ w.frozen? ⟨A, 7, none⟩ = false ∧ w.frozen? ⟨A, 8, none⟩ = false :=
  ⟨⟨cellAt h 0, cellAt h 1, cellAt h 2, cellAt h 3, cellAt h 4, cellAt h 5, cellAt h 6, cellAt h 7, cellAt h 8⟩, freeAt h 0, freeAt h 1, freeAt h 2, freeAt h 3, freeAt h 4, freeAt h 5, freeAt h 6, freeAt h 7, freeAt h 8⟩
abbrev put9 (w : World) (A : Nat) (v0 v1 v2 v3 v4 v5 v6 v7 v8 : Value) : World := ((((((((w.setCell ⟨A, 0, none⟩ v0).setCell ⟨A, 1, none⟩ v1).setCell ⟨A, 2, none⟩ v2).setCell ⟨A, 3, none⟩ v3).setCell ⟨A, 4, none⟩ v4).setCell ⟨A, 5, none⟩ v5).setCell ⟨A, 6, none⟩ v6).setCell ⟨A, 7, none⟩ v7).setCell ⟨A, 8, none⟩ v8
theorem set9 {w : World} {A : Nat} {c0 c1 c2 c3 c4 c5 c6 c7 c8 : Value} {t : TypeId} (h : w.heap[A]? = some (.cells #[c0, c1, c2, c3, c4, c5, c6, c7, c8] t (0, 0))) (v0 v1 v2 v3 v4 v5 v6 v7 v8 : Value) :
    (put9 w A v0 v1 v2 v3 v4 v5 v6 v7 v8).heap[A]? = some (.cells #[v0, v1, v2, v3, v4, v5, v6, v7, v8] t (0, 0)) := by
  have h0 := heap_setCell_same w A 0 _ t v0 h
  simp only [List.setIfInBounds_toArray, List.set_cons_zero] at h0
  have h1 := heap_setCell_same _ A 1 _ t v1 h0
  simp only [List.setIfInBounds_toArray, List.set_cons_zero, List.set_cons_succ] at h1
  have h2 := heap_setCell_same _ A 2 _ t v2 h1
  simp only [List.setIfInBounds_toArray, List.set_cons_zero, List.set_cons_succ] at h2
  have h3 := heap_setCell_same _ A 3 _ t v3 h2
  simp only [List.setIfInBounds_toArray, List.set_cons_zero, List.set_cons_succ] at h3
  have h4 := heap_setCell_same _ A 4 _ t v4 h3
  simp only [List.setIfInBounds_toArray, List.set_cons_zero, List.set_cons_succ] at h4
  have h5 := heap_setCell_same _ A 5 _ t v5 h4
  simp only [List.setIfInBounds_toArray, List.set_cons_zero, List.set_cons_succ] at h5
  have h6 := heap_setCell_same _ A 6 _ t v6 h5
  simp only [List.setIfInBounds_toArray, List.set_cons_zero, List.set_cons_succ] at h6
  have h7 := heap_setCell_same _ A 7 _ t v7 h6
  simp only [List.setIfInBounds_toArray, List.set_cons_zero, List.set_cons_succ] at h7
  have h8 := heap_setCell_same _ A 8 _ t v8 h7
  simp only [List.setIfInBounds_toArray, List.set_cons_zero, List.set_cons_succ] at h8
  exact h8
theorem only9 (A : Nat) (w : World) (v0 v1 v2 v3 v4 v5 v6 v7 v8 : Value) : Only A w (put9 w A v0 v1 v2 v3 v4 v5 v6 v7 v8) :=
  ((((((((((Only.refl A w).set 0 v0).set 1 v1).set 2 v2).set 3 v3).set 4 v4).set 5 v5).set 6 v6).set 7 v7).set 8 v8)
theorem only_below {A n : Nat} {w w1 w2 : World} (h : Only A w1 w2) (k : Below n w w1) (hA : n ≤ A) : Below n w w2 :=
  ⟨h.os.trans k.os, h.tape.trans k.tape, h.output.trans k.output, by rw [h.size]; exact k.size, fun i hi => (h.block i (by omega)).trans (k.block i hi)⟩
theorem ob_zdc (w : World) (k n a l : Int) (x : Bool) (s : ByteArray) : ∃ wb, (w.alloc (.cells #[.int .i64 k, .bool x, .int .i64 n, .int .i64 a, .int .i64 l, .string s] 30)).alloc zeroDc = wb ∧ Below w.heap.size w wb ∧ wb.heap.size = w.heap.size + 2 ∧ wb.heap[w.heap.size]? = some (obObj k x n a l s) ∧ wb.heap[w.heap.size + 1]? = some zeroDc := by
  refine ⟨_, rfl, below_and (box_below _ _) (box_below _ _), by simp, ?_, ?_⟩
  · rw [Below.heap_alloc _ _ _ (by simp)]
    exact heap_alloc_new _ _
  · have := heap_alloc_new (w.alloc (.cells #[.int .i64 k, .bool x, .int .i64 n, .int .i64 a, .int .i64 l, .string s] 30)) zeroDc
    simpa using this

set_option maxHeartbeats 1000000 in
set_option maxRecDepth 100000 in
theorem open_walk (hb z q p room : Nat) (n a l : Int) (x : Bool) (s : ByteArray) (w : World) (hz : z = q + 1) (hq : q = 2 * room) (hp : p ≤ room) (hr : room ≤ 1000)
    (hs : Hid (∀ wx, Below w.heap.size w wx → Calls Try.prog 88 #[ptr hb, obV 10 x n a l s] wx fun e w' => e = .returned (.tuple #[.int .i64 z, .int .i64 0]) ∧ Below wx.heap.size wx w'))
    (hg : Hid (∀ wx, Below w.heap.size w wx → Calls Try.prog 71 #[ptr hb, obV 10 x n a l s, .int .i64 0] wx fun e w' => e = .returned (.tuple #[obV 3 false p 0 0 ⟨#[]⟩, .int .i64 0]) ∧ Below wx.heap.size wx w')) :
    Calls Try.prog 58 #[ptr hb, obV 10 x n a l s] w fun e w' => e = .returned (.tuple #[dcV hb 10 x n a l s p room, .int .i64 0]) ∧ Below w.heap.size w w' := by
  have e1 : IntKind.i64.wrap ((z : Int) - 1) = q := by rw [wrapi_in _ (by omega) (by omega)]; omega
  have e2 : wrap64 ((q : Int) / 2) = room := by unfold wrap64; omega
  have HP : Hid (p ≤ room) := Lib.hid hp
  clear hz hq hp hr
  go_enter Try.func58, Try.ntmps58
  go_wp2_with fail
  obtain ⟨wb, eb, kb, zb, ob, db⟩ := ob_zdc w 10 n a l x s
  rw [eb]
  refine (hs.out wb kb).mono ?_
  rintro e w1 ⟨rfl, k1⟩
  have K1 := Lib.hid (below_and kb k1)
  have O1 := Lib.hid ((k1.block _ (blk_lt ob)).trans ob)
  have D1 := Lib.hid ((k1.block _ (blk_lt db)).trans db)
  obtain ⟨o0, o1, o2, o3, o4, o5⟩ := ob_cells O1.out
  clear eb kb zb ob db k1
  go_wp2_with fail
  refine (hg.out w1 K1.out).mono ?_
  rintro e w2 ⟨rfl, k2⟩
  have K2 := Lib.hid (below_and K1.out k2)
  have O2 := Lib.hid ((k2.block _ (blk_lt O1.out)).trans O1.out)
  have D2 := Lib.hid ((k2.block _ (blk_lt D1.out)).trans D1.out)
  clear k2 o0 o1 o2 o3 o4 o5
  go_upto_region 9 with fail
  obtain ⟨w3, e3, k3, z3, b3⟩ := ob_box w2 3 p 0 0 false ⟨#[]⟩
  rw [e3]
  have K3 := Lib.hid (below_and K2.out k3)
  have O3 := Lib.hid ((k3.block _ (blk_lt O2.out)).trans O2.out)
  have D3 := Lib.hid ((k3.block _ (blk_lt D2.out)).trans D2.out)
  obtain ⟨b0, b1, b2, b3, b4, b5⟩ := b3
  obtain ⟨o0, o1, o2, o3, o4, o5⟩ := ob_cells O3.out
  obtain ⟨⟨c0, c1, c2, c3, c4, c5, c6, c7, c8⟩, f0, f1, f2, f3, f4, f5, f6, f7, f8⟩ := cells9 D3.out
  have m2 : (p : Int) ≤ room := by have := HP.out; omega
  have m3 : ¬ ((room : Int) < p) := by have := HP.out; omega
  have m4 : ¬ (room < p) := by have := HP.out; omega
  clear e3 k3 z3
  go_wp2
  (try simp only [Exit.inBlock, Exit.then])
  exact bodyPost_ret (ret_cell rfl _ _ _ _ _ _ _ _ rfl rfl (set9 D3.out _ _ _ _ _ _ _ _ _) Try.underlying86 rfl (by kernel_rfl)) rfl ⟨rfl, only_below (only9 _ _ _ _ _ _ _ _ _ _ _) K3.out (Nat.le_succ _)⟩
end Go.Proofs.Ytlkbnldpecolbaa
