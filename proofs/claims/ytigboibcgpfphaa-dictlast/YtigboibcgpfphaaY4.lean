/- DictOrder: plain answers. -/
import Derived.Test.YtigboibcgpfphaaDD
namespace Go.Proofs.Ytigboibcgpfphaa
open Go.RowKit Go.Maps
set_option linter.unusedVariables false

def fixO (v : Int) : Ob := ⟨4, false, v, 0, 0, ⟨#[]⟩⟩
theorem plain_num (a : Int) (h : -16000 ≤ a ∧ a ≤ 16000) : plainO (Ob.num a) = fixO (a * 65536) := by
  have hk : numOk 3 a = true := by
    simp [numOk, mayF]
    omega
  have hv : numV 3 a = a * 65536 := by
    unfold numV
    rw [hk]
    simp [gate, sizeO]
  show (if numOk 3 a = true then (⟨4, false, numV 3 a, 0, 0, ⟨#[]⟩⟩ : Ob) else _) = _
  rw [if_pos hk, hv]
  rfl
theorem plain_fix (v : Int) (h : -1073741823 ≤ v ∧ v ≤ 1073741823) : plainO (fixO v) = fixO v := by
  have hk : numOk 4 v = true := by
    simp [numOk, mayF]
    omega
  have hv : numV 4 v = v := by
    unfold numV
    rw [hk]
    simp [gate, sizeO]
  show (if numOk 4 v = true then (⟨4, false, numV 4 v, 0, 0, ⟨#[]⟩⟩ : Ob) else _) = _
  rw [if_pos hk, hv]
  rfl
theorem is_num (a b : Int) (ha : -16000 ≤ a ∧ a ≤ 16000) (hb : -16000 ≤ b ∧ b ≤ 16000) : isKey (Ob.num a) (Ob.num b) ↔ b = a := by
  unfold isKey
  rw [if_neg (show ¬ (Ob.num a).k = 5 by simp [Ob.num]), plain_num a ha, plain_num b hb]
  constructor
  · rintro ⟨_, h⟩
    simp [fixO] at h
    omega
  · rintro rfl
    exact ⟨by simp [Ob.num], rfl⟩
theorem is_fix (a b : Int) (ha : -16000 ≤ a ∧ a ≤ 16000) (hb : -16000 ≤ b ∧ b ≤ 16000) : isKey (fixO (a * 65536)) (Ob.num b) ↔ b = a := by
  unfold isKey
  rw [if_neg (show ¬ (fixO (a * 65536)).k = 5 by simp [fixO]), plain_fix _ (by omega), plain_num b hb]
  constructor
  · rintro ⟨_, h⟩
    simp [fixO] at h
    omega
  · rintro rfl
    exact ⟨by simp [Ob.num], rfl⟩
/-- A key that stands at one place at most. -/
theorem ixD_at {ps : List (Ob × Ob)} {k : Ob} {n t0 : Nat} (H : ∀ t, t < n → ∃ p, ps[t]? = some p ∧ (isKey k p.1 ↔ t = t0)) : ∀ j, j ≤ n → ixD ps k j = if t0 < j then some t0 else none
  | 0, _ => by simp [ixD]
  | j + 1, hj => by
    obtain ⟨p, hp, hi⟩ := H j (by omega)
    unfold ixD
    by_cases e : j = t0
    · subst e
      rw [if_pos ⟨p, hp, hi.2 rfl⟩, if_pos (Nat.lt_succ_self _)]
    · rw [if_neg ?_, ixD_at H j (by omega)]
      · by_cases h2 : t0 < j
        · rw [if_pos h2, if_pos (by omega)]
        · rw [if_neg h2, if_neg (by omega)]
      · rintro ⟨q, hq, hk⟩
        rw [hp] at hq
        have : p = q := by simpa using hq
        subst this
        exact e (hi.1 hk)
/-- Keys of Ints and Fixes. -/
theorem keyNum {P : List Cel} {a : Int} (h : -2147483647 ≤ a ∧ a ≤ 2147483647) : keyE P (Ob.num a) = 0 ∧ keyO P (Ob.num a) = Ob.num a ∧ mayH P (Ob.num a) = true := by
  have hm : mayH P (Ob.num a) = true := by
    simp [mayH, Ob.may, Ob.num, mayO, comp, onlyP]
    omega
  have e : keyE P (Ob.num a) = 0 := by
    unfold keyE
    rw [hm]
    simp [Ob.num]
  refine ⟨e, ?_, hm⟩
  unfold keyO
  rw [e]
  simp [Ob.num]
theorem keyFix {P : List Cel} {a : Int} (h : -1073741823 ≤ a ∧ a ≤ 1073741823) : keyE P (fixO a) = 0 ∧ keyO P (fixO a) = fixO a := by
  have hm : mayH P (fixO a) = true := by
    simp [mayH, Ob.may, fixO, mayO, comp, onlyP]
    omega
  have e : keyE P (fixO a) = 0 := by
    unfold keyE
    rw [hm]
    simp [fixO]
  refine ⟨e, ?_⟩
  unfold keyO
  rw [e]
  simp [fixO]
theorem may_null (P : List Cel) : mayH P Ob.null = true := rfl
theorem fineF (v : Int) (h : -9223372036854775808 ≤ v ∧ v ≤ 9223372036854775807) : (fixO v).Fine := ⟨rfl, WalkArith.wf_i64 h, rfl, rfl, Nat.zero_le _⟩

/-- The heap of one dictionary. -/
def oD : Ob := ⟨10, false, 0, 0, 0, ⟨#[]⟩⟩
def oP (ps : List (Ob × Ob)) (room : Nat) : List Cel := [⟨10, false, itemsD ps room, []⟩]
theorem oP_c {ps : List (Ob × Ob)} {room : Nat} (hl : ps.length ≤ room) (hr : room ≤ 1000) (hf : ∀ p ∈ ps, p.1.Fine) : DictC (oP ps room) oD ps room false := ⟨by
  rw [okO_iff]
  exact ⟨rfl, rfl, by simp [inCell, oP, oD, cellOf, Cel.size]⟩, rfl, rfl, hl, hr, hf⟩
theorem oP_set {ps qs : List (Ob × Ob)} {room : Nat} : (oP ps room).set oD.n.toNat ⟨10, false, itemsD qs room, []⟩ = oP qs room := rfl
/-- The pairs of DictOrder: keys F 0, F 1, .. -/
def prs (F : Nat → Nat) (V : Nat → Ob) (n : Nat) : List (Ob × Ob) := (List.range n).map fun t => (Ob.num (F t), V t)
theorem prs_len (F : Nat → Nat) (V : Nat → Ob) (n : Nat) : (prs F V n).length = n := by simp [prs]
theorem prs_get (F : Nat → Nat) (V : Nat → Ob) {n t : Nat} (h : t < n) : (prs F V n)[t]? = some (Ob.num (F t), V t) := by simp [prs, h]
theorem prs_fine {F : Nat → Nat} {V : Nat → Ob} {n : Nat} (hF : ∀ t, t < n → F t ≤ 10000) : ∀ p ∈ prs F V n, p.1.Fine := by
  intro p hp
  obtain ⟨t, ht, rfl⟩ := List.mem_map.1 hp
  exact fineN _ (by have := hF t (List.mem_range.1 ht); omega)
theorem prs_succ (F : Nat → Nat) (V : Nat → Ob) (n : Nat) : prs F V (n + 1) = prs F V n ++ [(Ob.num (F n), V n)] := by simp [prs, List.range_succ]
theorem prs_congr {F G : Nat → Nat} {V U : Nat → Ob} {n : Nat} (h : ∀ t, t < n → F t = G t ∧ V t = U t) : prs F V n = prs G U n := by
  unfold prs
  refine List.map_congr_left fun t ht => ?_
  rw [(h t (List.mem_range.1 ht)).1, (h t (List.mem_range.1 ht)).2]
theorem prs_ix {F : Nat → Nat} {V : Nat → Ob} {n t0 : Nat} {k : Ob} (H : ∀ t, t < n → (isKey k (Ob.num (F t)) ↔ t = t0)) : ixD (prs F V n) k (prs F V n).length = if t0 < n then some t0 else none := by
  rw [prs_len]
  exact ixD_at (fun t ht => ⟨_, prs_get F V ht, H t ht⟩) n (Nat.le_refl _)
theorem prs_set (F : Nat → Nat) (V : Nat → Ob) {n t0 : Nat} (h : t0 < n) (v : Ob) : (prs F V n).set t0 (Ob.num (F t0), v) = prs F (fun t => if t = t0 then v else V t) n := by
  refine List.ext_getElem? fun t => ?_
  rw [List.getElem?_set, prs_len]
  by_cases ht : t < n
  · rw [prs_get F _ ht, prs_get F _ ht]
    by_cases e : t0 = t
    · subst e
      rw [if_pos rfl, if_pos h, if_pos rfl]
    · rw [if_neg e, if_neg (Ne.symm e)]
  · rw [if_neg (by omega), List.getElem?_eq_none (by rw [prs_len]; omega), List.getElem?_eq_none (by rw [prs_len]; omega)]
theorem prs_erase (F : Nat → Nat) (V : Nat → Ob) {n t0 : Nat} (h : t0 < n) : (prs F V n).eraseIdx t0 = prs (fun t => if t < t0 then F t else F (t + 1)) (fun t => if t < t0 then V t else V (t + 1)) (n - 1) := by
  refine List.ext_getElem? fun t => ?_
  rw [List.getElem?_eraseIdx]
  by_cases ht : t < n - 1
  · rw [prs_get _ _ ht]
    by_cases e : t < t0
    · rw [if_pos e, if_pos e, if_pos e, prs_get F V (by omega)]
    · rw [if_neg e, if_neg e, if_neg e, prs_get F V (by omega)]
  · have : (prs (fun t => if t < t0 then F t else F (t + 1)) (fun t => if t < t0 then V t else V (t + 1)) (n - 1))[t]? = none := List.getElem?_eq_none (by rw [prs_len]; omega)
    rw [this]
    split
    · rw [List.getElem?_eq_none (by rw [prs_len]; omega)]
    · rw [List.getElem?_eq_none (by rw [prs_len]; omega)]
theorem prs_valid {P : List Cel} {F : Nat → Nat} {V : Nat → Ob} {n room : Nat} (hF : ∀ t, t < n → F t ≤ 10000) (hV : ∀ t, t < n → mayH P (V t) = true) (hn : n ≤ 1000) : ∀ x ∈ itemsD (prs F V n) room, mayH P x = true := by
  intro x hx
  rcases List.mem_cons.1 hx with rfl | hx
  · rw [prs_len]
    exact (keyNum (by omega)).2.2
  rcases List.mem_append.1 hx with hx | hx
  · obtain ⟨p, hp, hx⟩ := List.mem_flatMap.1 hx
    obtain ⟨t, ht, rfl⟩ := List.mem_map.1 hp
    have ht := List.mem_range.1 ht
    simp at hx
    rcases hx with rfl | rfl
    · exact (keyNum (by have := hF t ht; omega)).2.2
    · exact hV t ht
  · rw [(List.mem_replicate.1 hx).2]
    exact may_null P
end Go.Proofs.Ytigboibcgpfphaa
