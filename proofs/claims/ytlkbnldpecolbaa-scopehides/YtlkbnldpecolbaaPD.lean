/- ScopeHides: the walk. -/
import Derived.Test.YtlkbnldpecolbaaPC
namespace Go.Proofs.Ytlkbnldpecolbaa
open Go.RowKit
set_option linter.unusedVariables false
set_option linter.unusedSimpArgs false
set_option maxRecDepth 1000000
set_option maxHeartbeats 4000000

/-- The j-th dictionary that begins; what it has; all of them; the scope. -/
def dO (j : Nat) : Ob := ⟨10, false, (j : Int) + 2, 0, 0, ⟨#[]⟩⟩
def cntO (j : Nat) : Ob := ⟨3, false, (j : Int), 0, 0, ⟨#[]⟩⟩
def cH (nm : ByteArray) (p j : Nat) : Dc := if j % 2 = p then oneD nm (cntO j) 3 else newD 3
def dsH (nm : ByteArray) (p : Nat) : Nat → List Dc
  | 0 => ds0
  | j + 1 => dsH nm p j ++ [cH nm p j]
def LH : Nat → List Ob
  | 0 => [sysO, usrO]
  | j + 1 => LH j ++ [dO j]
section
variable {nm : ByteArray} {p : Nat}
theorem dsH_len (m : Nat) : (dsH nm p m).length = m + 2 := by
  induction m with
  | zero => rfl
  | succ m ih => rw [dsH, List.length_append, ih]; simp
theorem LH_len (m : Nat) : (LH m).length = m + 2 := by
  induction m with
  | zero => rfl
  | succ m ih => rw [LH, List.length_append, ih]; simp
theorem dsH_sum (m : Nat) : ((dsH nm p m).map fun c => 2 * c.rm + 1).sum = 726 + 7 * m := by
  induction m with
  | zero => rfl
  | succ m ih =>
    have hc : 2 * (cH nm p m).rm + 1 = 7 := by
      unfold cH
      split <;> rfl
    rw [dsH, List.map_append, List.sum_append, ih]
    simp [hc]
    omega
theorem dsH_old {m j : Nat} {c : Dc} (h : ds0[j]? = some c) : (dsH nm p m)[j]? = some c := by
  induction m with
  | zero => exact h
  | succ m ih =>
    rw [dsH, List.getElem?_append_left (List.getElem?_eq_some_iff.1 ih).1]
    exact ih
theorem dsH_new {m j : Nat} (h : j < m) : (dsH nm p m)[j + 2]? = some (cH nm p j) := by
  induction m with
  | zero => omega
  | succ m ih =>
    rw [dsH]
    by_cases e : j = m
    · subst e
      rw [List.getElem?_append_right (by rw [dsH_len]; exact Nat.le_refl _), dsH_len, Nat.sub_self]
      rfl
    · rw [List.getElem?_append_left (by rw [dsH_len]; omega)]
      exact ih (by omega)
theorem dO_nat (j : Nat) : (dO j).n.toNat = j + 2 := by
  show ((j : Int) + 2).toNat = _
  omega
theorem dcOf_some {ds : List Dc} {d : Ob} {c : Dc} (h : ds[d.n.toNat]? = some c) : dcOf ds d = c := by
  rw [dcOf, List.getD_eq_getElem?_getD, h]
  rfl
theorem dc_new {m j : Nat} (h : j < m) : dcOf (dsH nm p m) (dO j) = cH nm p j := dcOf_some (by rw [dO_nat]; exact dsH_new h)
theorem hide_yes (hs : nm.size ≤ 100) {m j : Nat} (h : j < m) (hp : j % 2 = p) : fndE (dsH nm p m) (LH (j + 1)) (nmO nm) = 0 ∧ fndO (dsH nm p m) (LH (j + 1)) (nmO nm) = dO j ∧ fndV (dsH nm p m) (LH (j + 1)) (nmO nm) = cntO j := by
  have hc : dcOf (dsH nm p m) (dO j) = oneD nm (cntO j) 3 := by rw [dc_new h, cH, if_pos hp]
  have := fnd_yes (L := LH j) hs (hasN_one hc)
  rw [atN_one hc] at this
  exact this
theorem hide_no (hs : nm.size ≤ 100) {m j : Nat} (h : j < m) (hp : ¬ j % 2 = p) : fndE (dsH nm p m) (LH (j + 1)) (nmO nm) = fndE (dsH nm p m) (LH j) (nmO nm) ∧ fndO (dsH nm p m) (LH (j + 1)) (nmO nm) = fndO (dsH nm p m) (LH j) (nmO nm) ∧ fndV (dsH nm p m) (LH (j + 1)) (nmO nm) = fndV (dsH nm p m) (LH j) (nmO nm) := by
  have hc : dcOf (dsH nm p m) (dO j) = newD 3 := by rw [dc_new h, cH, if_neg hp]
  exact fnd_no (L := LH j) hs (hasN_new hc)
theorem hide_was (hs : nm.size ≤ 100) (m : Nat) : fndE (dsH nm p m) (LH 0) (nmO nm) = fndE ds0 [sysO, usrO] (nmO nm) ∧ fndO (dsH nm p m) (LH 0) (nmO nm) = fndO ds0 [sysO, usrO] (nmO nm) ∧ fndV (dsH nm p m) (LH 0) (nmO nm) = fndV ds0 [sysO, usrO] (nmO nm) :=
  fnd_same hs fun d hd => by
    rcases List.mem_cons.1 hd with rfl | hd
    · rw [dcOf_some (c := sysL) (dsH_old (j := 0) rfl)]
      rfl
    · obtain rfl : d = usrO := by simpa using hd
      rw [dcOf_some (c := newD 200) (dsH_old (j := 1) rfl)]
      rfl
theorem isD_dO {n j : Nat} (h : j + 2 < n) (h2 : j ≤ 30000) : IsD n (dO j) := ⟨rfl, by show (0 : Int) ≤ (j : Int) + 2; omega, by show (j : Int) + 2 ≤ 40000; omega, by show (j : Int) + 2 < n; omega, rfl, rfl, rfl⟩
variable {out : Nat → Prop} {hb sb : Nat} {w : World} {ds : List Dc} {L : List Ob}
theorem xNewH {j : Nat} (h : SC out hb sb (dsH nm p j) L w) (hj : j ≤ 10) : Calls Try.prog 12 #[ptr hb, .int .i64 3] w fun e w' => e = .returned (.tuple #[obV 10 false ((j : Int) + 2) 0 0 ⟨#[]⟩, .int .i64 0]) ∧ SC out hb sb (dsH nm p j ++ [newD 3]) L w' ∧ Kept out w w' := by
  have := xNew h 3 (by decide) (by rw [dsH_len]; omega) (by rw [used_hd h.ok, dsH_sum]; omega)
  rw [dsH_len, show ((j + 2 : Nat) : Int) = (j : Int) + 2 from by omega] at this
  exact this
theorem xBeginH {j : Nat} (h : SC out hb sb (dsH nm p j ++ [newD 3]) (LH j) w) (hj : j ≤ 10) : Calls Try.prog 13 #[ptr sb, obV 10 false ((j : Int) + 2) 0 0 ⟨#[]⟩] w fun e w' => e = .returned (.int .i64 0) ∧ SC out hb sb (dsH nm p j ++ [newD 3]) (LH (j + 1)) w' ∧ Kept out w w' :=
  xBegin h (d := dO j) (isD_dO (by rw [List.length_append, dsH_len]; simp) (by omega)) (by rw [LH_len]; omega)
theorem LH_top (j : Nat) : (LH (j + 1))[j + 2]? = some (dO j) := by
  rw [LH, List.getElem?_append_right (by rw [LH_len]; exact Nat.le_refl _), LH_len, Nat.sub_self]
  rfl
theorem xDefH {j : Nat} (h : SC out hb sb (dsH nm p j ++ [newD 3]) (LH (j + 1)) w) (hs : nm.size ≤ 100) (hj : j ≤ 10) (hp : j % 2 = p) : Calls Try.prog 14 #[ptr sb, obV 5 false 0 0 0 nm, obV 3 false j 0 0 ⟨#[]⟩] w fun e w' => e = .returned (.int .i64 0) ∧ SC out hb sb (dsH nm p (j + 1)) (LH (j + 1)) w' ∧ Kept out w w' := by
  have hset := set_new (P := HD (dsH nm p j ++ [newD 3])) (n := 3) (v := cntO j) hs (may_z (by omega) (by omega)) (by decide)
  have hc : (dsH nm p j ++ [newD 3])[(dO j).n.toNat]? = some (newD 3) := by
    rw [dO_nat, List.getElem?_append_right (by rw [dsH_len]; exact Nat.le_refl _), dsH_len, Nat.sub_self]
    rfl
  have e1 : setD (dsH nm p j ++ [newD 3]) (newD 3) (dO j) (nmO nm) (cntO j) = dsH nm p (j + 1) := by
    rw [setD, show (newD 3).ps = [] from rfl, show (newD 3).rm = 3 from rfl, show (newD 3).lk = false from rfl, if_pos hset.1, hset.2, dsH, cH, if_pos hp, dO_nat, List.set_append_right _ _ (by rw [dsH_len]; exact Nat.le_refl _), dsH_len, Nat.sub_self]
    rfl
  have := xDef h (m := j + 2) (d := dO j) (c := newD 3) (by rw [LH_len]) (LH_top j) hc (nmO nm) (cntO j)
  rw [e1, show dsetE (HD (dsH nm p j ++ [newD 3])) (newD 3).ps (newD 3).rm (newD 3).lk (nmO nm) (cntO j) = 0 from hset.1] at this
  exact this
theorem dsH_no {j : Nat} (hp : ¬ j % 2 = p) : dsH nm p (j + 1) = dsH nm p j ++ [newD 3] := by rw [dsH, cH, if_neg hp]
theorem xEndH {j : Nat} (h : SC out hb sb ds (LH (j + 1)) w) : Calls Try.prog 15 #[ptr sb] w fun e w' => e = .returned (.int .i64 0) ∧ SC out hb sb ds (LH j) w' ∧ Kept out w w' := by
  have := xEnd h (j + 2) (LH_len _) (by omega)
  rwa [show (LH (j + 1)).take (j + 2) = LH j from by rw [LH, ← LH_len j, List.take_left]] at this
end
end Go.Proofs.Ytlkbnldpecolbaa
