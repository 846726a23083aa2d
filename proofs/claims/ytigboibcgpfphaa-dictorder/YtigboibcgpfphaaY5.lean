/- DictOrder: what each call does to the heap of one dictionary. -/
import Derived.Test.YtigboibcgpfphaaY4
namespace Go.Proofs.Ytigboibcgpfphaa
open Go.RowKit Go.Maps
set_option linter.unusedVariables false

def hund (t : Nat) : Ob := Ob.num (100 + t)
/-- The keys behind Drop of the key O. -/
def F1 (O t : Nat) : Nat := if t < O then t else t + 1
/-- The keys behind all. -/
def F2 (k O t : Nat) : Nat := if t < k - 1 then F1 O t else O
def V2 (k O S t : Nat) : Ob := if F2 k O t = S then Ob.null else hund (F2 k O t)
def count2 (k O S : Nat) : Nat := if S = O then k else k - 1
section
variable {own : Nat → Prop} {hb : Nat} {w : World} {k : Nat}
theorem oNew (h : Sep own hb [] w) (hk : k ≤ 1000) : Calls Try.prog 33 #[ptr hb, .int .i64 k] w fun e w' => e = .returned (.tuple #[obV 10 false 0 0 0 ⟨#[]⟩, .int .i64 0]) ∧ Sep own hb (oP (prs id hund 0) k) w' ∧ Kept own w w' := by
  refine (sNewDict h h.lt k hk (by decide) (by simp [usedP]; omega)).mono ?_
  rintro e w' ⟨rfl, s, q⟩
  refine ⟨rfl, ?_, q⟩
  have : ([] ++ [⟨10, false, emptyD k, []⟩] : List Cel) = oP (prs id hund 0) k := by
    simp [oP, itemsD, prs, flatD, emptyD]
  rw [← this]
  exact s
theorem o1 {i : Nat} (h : Sep own hb (oP (prs id hund i) k) w) (hi : i < k) (hk : k ≤ 100) :
    Calls Try.prog 38 #[ptr hb, obV 10 false 0 0 0 ⟨#[]⟩, obV 3 false i 0 0 ⟨#[]⟩, obV 3 false ((100 + i : Nat) : Int) 0 0 ⟨#[]⟩] w fun e w' => e = .returned (.int .i64 0) ∧ Sep own hb (oP (prs id hund (i + 1)) k) w' ∧ Kept own w w' := by
  have hc : DictC (oP (prs id hund i) k) oD (prs id hund i) k false := oP_c (by rw [prs_len]; omega) (by omega) (prs_fine fun t ht => by show t ≤ 10000; omega)
  have hkey := keyNum (P := oP (prs id hund i) k) (a := (i : Int)) (by omega)
  have hix : ixD (prs id hund i) (Ob.num i) (prs id hund i).length = none := by
    rw [prs_ix (t0 := i) fun t ht => by rw [is_num _ _ (by omega) (by simp; omega)]; simp; omega]
    simp
  have hE : dsetE (oP (prs id hund i) k) (prs id hund i) k false (Ob.num i) (Ob.num ((100 + i : Nat) : Int)) = 0 := by
    unfold dsetE
    rw [if_pos hkey.1, if_pos ⟨(keyNum (by omega)).2.2, rfl⟩, hkey.2.1, hix]
    simp only [prs_len]
    rw [if_neg (by omega)]
  refine (sDictPut (d := oD) (k := Ob.num i) (v := Ob.num ((100 + i : Nat) : Int)) h hc (fun _ => by rw [hkey.2.1]; exact fineN _ (by omega)) (fun _ => by rw [hkey.2.1]; exact hkey.2.2) 0 hE).mono ?_
  rintro e w' ⟨rfl, s, q⟩
  rw [if_pos rfl, hkey.2.1, oP_set, show dsetL (prs id hund i) (Ob.num i) (Ob.num ((100 + i : Nat) : Int)) = prs id hund (i + 1) from by rw [prs_succ]; simp [dsetL, hix, hund]] at s
  exact ⟨rfl, s, q⟩
theorem oOver (h : Sep own hb (oP (prs id hund k) k) w) (hk : k ≤ 100) :
    Calls Try.prog 38 #[ptr hb, obV 10 false 0 0 0 ⟨#[]⟩, obV 3 false (-1) 0 0 ⟨#[]⟩, obV 1 false 0 0 0 ⟨#[]⟩] w fun e w' => e = .returned (.int .i64 20) ∧ Sep own hb (oP (prs id hund k) k) w' ∧ Kept own w w' := by
  have hc : DictC (oP (prs id hund k) k) oD (prs id hund k) k false := oP_c (by rw [prs_len]; omega) (by omega) (prs_fine fun t ht => by show t ≤ 10000; omega)
  have hkey := keyNum (P := oP (prs id hund k) k) (a := -1) (by omega)
  have hix : ixD (prs id hund k) (Ob.num (-1)) (prs id hund k).length = none := by
    rw [prs_ix (t0 := k) fun t ht => by rw [is_num _ _ (by omega) (by simp; omega)]; simp; omega]
    simp
  have hE : dsetE (oP (prs id hund k) k) (prs id hund k) k false (Ob.num (-1)) Ob.null = 20 := by
    unfold dsetE
    rw [if_pos hkey.1, if_pos ⟨rfl, rfl⟩, hkey.2.1, hix]
    simp only [prs_len]
    exact if_pos trivial
  refine (sDictPut (d := oD) (k := Ob.num (-1)) (v := Ob.null) h hc (fun _ => by rw [hkey.2.1]; exact fineN _ (by omega)) (fun _ => by rw [hkey.2.1]; exact hkey.2.2) 20 hE).mono ?_
  rintro e w' ⟨rfl, s, q⟩
  exact ⟨rfl, s, q⟩
theorem oDrop {O : Nat} (h : Sep own hb (oP (prs id hund k) k) w) (hO : O < k) (hk : k ≤ 100) (v : Int) (hv : v = (O : Int) * 65536) :
    Calls Try.prog 40 #[ptr hb, obV 10 false 0 0 0 ⟨#[]⟩, obV 4 false v 0 0 ⟨#[]⟩] w fun e w' => e = .returned (.int .i64 0) ∧ Sep own hb (oP (prs (F1 O) (fun t => hund (F1 O t)) (k - 1)) k) w' ∧ Kept own w w' := by
  subst hv
  have hc : DictC (oP (prs id hund k) k) oD (prs id hund k) k false := oP_c (by rw [prs_len]; omega) (by omega) (prs_fine fun t ht => by show t ≤ 10000; omega)
  have hkey := keyFix (P := oP (prs id hund k) k) (a := (O : Int) * 65536) (by omega)
  have hix : ixD (prs id hund k) (fixO ((O : Int) * 65536)) (prs id hund k).length = some O := by
    rw [prs_ix (t0 := O) fun t ht => by rw [is_fix _ _ (by omega) (by simp; omega)]; simp; omega]
    rw [if_pos hO]
  have hE : dropE (oP (prs id hund k) k) (prs id hund k) false (fixO ((O : Int) * 65536)) = 0 := by simp [dropE, hkey.1]
  refine (show Calls Try.prog 40 #[ptr hb, oD.val, (fixO ((O : Int) * 65536)).val] w _ from sDictDrop h hc (fun _ => by rw [hkey.2]; exact fineF _ (by omega)) (prs_valid (fun t ht => by show t ≤ 10000; omega) (fun t ht => (keyNum (by omega)).2.2) (by omega))).mono ?_
  rintro e w' ⟨rfl, s, q⟩
  rw [hE, if_pos rfl, hkey.2, oP_set, show dropL (prs id hund k) (fixO ((O : Int) * 65536)) = (prs id hund k).eraseIdx O from by simp [dropL, hix], prs_erase _ _ hO] at s
  rw [hE]
  refine ⟨rfl, ?_, q⟩
  rw [prs_congr (G := F1 O) (U := fun t => hund (F1 O t)) fun t ht => ⟨by simp [F1], by unfold F1; split <;> rfl⟩] at s
  exact s
theorem oSet2 {O S : Nat} (h : Sep own hb (oP (prs (F1 O) (fun t => hund (F1 O t)) (k - 1)) k) w) (hO : O < k) (hS : S < k) (hk : k ≤ 100) :
    Calls Try.prog 38 #[ptr hb, obV 10 false 0 0 0 ⟨#[]⟩, obV 3 false S 0 0 ⟨#[]⟩, obV 1 false 0 0 0 ⟨#[]⟩] w fun e w' => e = .returned (.int .i64 0) ∧ Sep own hb (oP (prs (F2 k O) (V2 k O S) (count2 k O S)) k) w' ∧ Kept own w w' := by
  have hF : ∀ t, t < k - 1 → F1 O t ≤ 100 := fun t ht => by unfold F1; split <;> omega
  have hc : DictC (oP (prs (F1 O) (fun t => hund (F1 O t)) (k - 1)) k) oD (prs (F1 O) (fun t => hund (F1 O t)) (k - 1)) k false := oP_c (by rw [prs_len]; omega) (by omega) (prs_fine fun t ht => by have := hF t ht; omega)
  have hkey := keyNum (P := oP (prs (F1 O) (fun t => hund (F1 O t)) (k - 1)) k) (a := (S : Int)) (by omega)
  by_cases hSO : S = O
  · subst hSO
    have hix : ixD (prs (F1 S) (fun t => hund (F1 S t)) (k - 1)) (Ob.num S) (prs (F1 S) (fun t => hund (F1 S t)) (k - 1)).length = none := by
      rw [prs_ix (t0 := k) fun t ht => by
        have := hF t ht
        rw [is_num _ _ (by omega) (by omega)]
        unfold F1
        split <;> omega]
      rw [if_neg (by omega)]
    have hE : dsetE (oP (prs (F1 S) (fun t => hund (F1 S t)) (k - 1)) k) (prs (F1 S) (fun t => hund (F1 S t)) (k - 1)) k false (Ob.num S) Ob.null = 0 := by
      unfold dsetE
      rw [if_pos hkey.1, if_pos ⟨rfl, rfl⟩, hkey.2.1, hix]
      simp only [prs_len]
      rw [if_neg (by omega)]
    refine (sDictPut (d := oD) (k := Ob.num S) (v := Ob.null) h hc (fun _ => by rw [hkey.2.1]; exact fineN _ (by omega)) (fun _ => by rw [hkey.2.1]; exact hkey.2.2) 0 hE).mono ?_
    rintro e w' ⟨rfl, s, q⟩
    rw [if_pos rfl, hkey.2.1, oP_set, show dsetL (prs (F1 S) (fun t => hund (F1 S t)) (k - 1)) (Ob.num S) Ob.null = prs (F2 k S) (V2 k S S) (count2 k S S) from ?_] at s
    · exact ⟨rfl, s, q⟩
    · have e1 : dsetL (prs (F1 S) (fun t => hund (F1 S t)) (k - 1)) (Ob.num S) Ob.null = prs (F1 S) (fun t => hund (F1 S t)) (k - 1) ++ [(Ob.num S, Ob.null)] := by simp [dsetL, hix]
      have e2 : count2 k S S = (k - 1) + 1 := by simp [count2]; omega
      rw [e1, e2, prs_succ]
      congr 1
      · refine prs_congr fun t ht => ⟨by simp [F2, ht], ?_⟩
        unfold V2
        rw [show F2 k S t = F1 S t from by simp [F2, ht], if_neg (by unfold F1; split <;> omega)]
      · simp [F2, V2]
  · obtain ⟨t0, ht0⟩ : ∃ t0, t0 = if S < O then S else S - 1 := ⟨_, rfl⟩
    have hl : t0 < k - 1 := by rw [ht0]; split <;> omega
    have hft : F1 O t0 = S := by
      unfold F1
      by_cases q : S < O
      · rw [if_pos q] at ht0
        rw [ht0, if_pos q]
      · rw [if_neg q] at ht0
        rw [ht0, if_neg (by omega)]
        omega
    have hinj : ∀ t, F1 O t = S ↔ t = t0 := fun t => by
      unfold F1
      by_cases q : S < O
      · rw [if_pos q] at ht0
        split <;> omega
      · rw [if_neg q] at ht0
        split <;> omega
    have hix : ixD (prs (F1 O) (fun t => hund (F1 O t)) (k - 1)) (Ob.num S) (prs (F1 O) (fun t => hund (F1 O t)) (k - 1)).length = some t0 := by
      rw [prs_ix (t0 := t0) fun t ht => by
        have := hF t ht
        rw [is_num _ _ (by omega) (by omega), ← hinj t]
        omega]
      rw [if_pos hl]
    have hE : dsetE (oP (prs (F1 O) (fun t => hund (F1 O t)) (k - 1)) k) (prs (F1 O) (fun t => hund (F1 O t)) (k - 1)) k false (Ob.num S) Ob.null = 0 := by
      unfold dsetE
      rw [if_pos hkey.1, if_pos ⟨rfl, rfl⟩, hkey.2.1, hix]
    refine (sDictPut (d := oD) (k := Ob.num S) (v := Ob.null) h hc (fun _ => by rw [hkey.2.1]; exact fineN _ (by omega)) (fun _ => by rw [hkey.2.1]; exact hkey.2.2) 0 hE).mono ?_
    rintro e w' ⟨rfl, s, q⟩
    rw [if_pos rfl, hkey.2.1, oP_set, show dsetL (prs (F1 O) (fun t => hund (F1 O t)) (k - 1)) (Ob.num S) Ob.null = prs (F2 k O) (V2 k O S) (count2 k O S) from ?_] at s
    · exact ⟨rfl, s, q⟩
    · have e1 : dsetL (prs (F1 O) (fun t => hund (F1 O t)) (k - 1)) (Ob.num S) Ob.null = (prs (F1 O) (fun t => hund (F1 O t)) (k - 1)).set t0 (Ob.num (F1 O t0), Ob.null) := by
        simp [dsetL, hix, List.getD_eq_getElem?_getD, prs_get _ _ hl]
      have e2 : count2 k O S = k - 1 := by simp [count2, hSO]
      rw [e1, e2, prs_set _ _ hl]
      refine prs_congr fun t ht => ⟨by simp [F2, ht], ?_⟩
      unfold V2
      rw [show F2 k O t = F1 O t from by simp [F2, ht]]
      by_cases e : t = t0
      · rw [if_pos e, if_pos ((hinj t).2 e)]
      · rw [if_neg e, if_neg (fun q => e ((hinj t).1 q))]
end
end Go.Proofs.Ytigboibcgpfphaa
