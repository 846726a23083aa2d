/- DictLast: keys by a number; what Sets and Drops do to the pairs: plain. -/
import Derived.Test.YtigboibcgpfphaaY4
namespace Go.Proofs.Ytigboibcgpfphaa
open Go.RowKit
set_option linter.unusedVariables false

/-- The key of a number: of m below 7 and b below 4. -/
def kRaw (m b : Nat) (x : Bool) : Ob :=
  if b = 0 then ⟨5, x, 0, 0, 0, ⟨#[UInt8.ofNat (97 + m)]⟩⟩ else if b = 1 then ⟨3, false, m, 0, 0, ⟨#[]⟩⟩ else if b = 2 then ⟨4, false, ((m * 32768 : Nat) : Int), 0, 0, ⟨#[]⟩⟩ else ⟨2, false, ((m % 2 : Nat) : Int), 0, 0, ⟨#[]⟩⟩
def kNum (n : Nat) : Ob := kRaw (n / 4 % 7) (n % 4) (decide (n / 4 % 7 % 2 = 1))
def kKey (n : Nat) : Ob := kRaw (n / 4 % 7) (n % 4) false
theorem raw_facts {m b : Nat} (hm : m < 7) (hb : b < 4) (x : Bool) (P : List Cel) :
    keyE P (kRaw m b x) = 0 ∧ keyO P (kRaw m b x) = kRaw m b false ∧ mayH P (kRaw m b false) = true ∧ (kRaw m b false).Fine := by
  have h1 : m = 0 ∨ m = 1 ∨ m = 2 ∨ m = 3 ∨ m = 4 ∨ m = 5 ∨ m = 6 := by omega
  have h2 : b = 0 ∨ b = 1 ∨ b = 2 ∨ b = 3 := by omega
  rcases h1 with rfl | rfl | rfl | rfl | rfl | rfl | rfl <;> rcases h2 with rfl | rfl | rfl | rfl <;> cases x <;>
    exact ⟨rfl, rfl, rfl, ⟨rfl, WalkArith.wf_i64 (by decide), rfl, rfl, by decide⟩⟩
theorem kNum_facts (n : Nat) (P : List Cel) : keyE P (kNum n) = 0 ∧ keyO P (kNum n) = kKey n ∧ mayH P (kKey n) = true ∧ (kKey n).Fine :=
  raw_facts (Nat.mod_lt _ (by omega)) (Nat.mod_lt _ (by omega)) _ P
theorem kKey_facts (n : Nat) (P : List Cel) : keyE P (kKey n) = 0 ∧ keyO P (kKey n) = kKey n :=
  ⟨(raw_facts (Nat.mod_lt _ (by omega)) (Nat.mod_lt _ (by omega)) _ P).1, (raw_facts (Nat.mod_lt _ (by omega)) (Nat.mod_lt _ (by omega)) _ P).2.1⟩

theorem isKey_refl (k : Ob) : isKey k k := by unfold isKey; split <;> simp_all
theorem isKey_symm {k p : Ob} (h : isKey k p) : isKey p k := by
  unfold isKey at *
  split at h
  · next e => rw [if_pos h.1]; exact ⟨e, h.2.symm⟩
  · next e => rw [if_neg h.1]; exact ⟨e, h.2.symm⟩
theorem isKey_euc {k p q : Ob} (h : isKey k p) : isKey q p ↔ isKey q k := by
  unfold isKey at *
  split at h
  · next e => simp [h, e]
  · next e => simp [h, e]

def Apart (ps : List (Ob × Ob)) : Prop := ps.Pairwise fun p r => ¬ isKey p.1 r.1
theorem ixD_none {ps : List (Ob × Ob)} {k : Ob} : ∀ {j : Nat}, ixD ps k j = none → ∀ i p, i < j → ps[i]? = some p → ¬ isKey k p.1
  | 0, _, _, _, hi, _ => by omega
  | j + 1, h, i, p, hi, hp => by
    unfold ixD at h
    split at h
    · cases h
    · next q =>
      rcases Nat.lt_succ_iff_lt_or_eq.1 hi with hi | rfl
      · exact ixD_none h i p hi hp
      · exact fun hk => q ⟨p, hp, hk⟩
theorem ixD_miss {ps : List (Ob × Ob)} {k : Ob} (h : ixD ps k ps.length = none) : ∀ p ∈ ps, ¬ isKey k p.1 := fun p hp => by
  obtain ⟨i, hi, rfl⟩ := List.getElem_of_mem hp
  exact ixD_none h i _ hi (List.getElem?_eq_getElem hi)
theorem map_same {f : Ob × Ob → Ob × Ob} : ∀ {l : List (Ob × Ob)}, (∀ x ∈ l, f x = x) → l = l.map f
  | [], _ => rfl
  | x :: t, h => by
    rw [List.map_cons, h x List.mem_cons_self, ← map_same fun y hy => h y (List.mem_cons_of_mem _ hy)]
theorem set_map {k v : Ob} : ∀ {ps : List (Ob × Ob)} {i : Nat} {p : Ob × Ob}, Apart ps → ps[i]? = some p → isKey k p.1 → ps.set i (p.1, v) = ps.map fun r => if isKey k r.1 then (r.1, v) else r
  | [], _, _, _, h, _ => by simp at h
  | r :: t, 0, p, ha, h, hk => by
    obtain rfl : r = p := by simpa using h
    have q := (List.pairwise_cons.1 ha).1
    simp only [List.set_cons_zero, List.map_cons, if_pos hk]
    exact congrArg _ (map_same fun x hx => if_neg fun e => q x hx ((isKey_euc hk).2 (isKey_symm e) |> fun z => isKey_symm z))
  | r :: t, i + 1, p, ha, h, hk => by
    have h' : t[i]? = some p := by simpa using h
    have q : ¬ isKey k r.1 := fun e => (List.pairwise_cons.1 ha).1 p (List.mem_of_getElem? h') (isKey_symm ((isKey_euc e).2 (isKey_symm hk)))
    simp only [List.set_cons_succ, List.map_cons, if_neg q]
    rw [set_map (List.pairwise_cons.1 ha).2 h' hk]
theorem erase_filter {k : Ob} : ∀ {ps : List (Ob × Ob)} {i : Nat} {p : Ob × Ob}, Apart ps → ps[i]? = some p → isKey k p.1 → ps.eraseIdx i = ps.filter fun r => !decide (isKey k r.1)
  | [], _, _, _, h, _ => by simp at h
  | r :: t, 0, p, ha, h, hk => by
    obtain rfl : r = p := by simpa using h
    have q := (List.pairwise_cons.1 ha).1
    rw [List.filter_cons_of_neg (by simp [hk])]
    exact (List.filter_eq_self.2 fun x hx => by
      simp only [Bool.not_eq_true', decide_eq_false_iff_not]
      exact fun e => q x hx (isKey_symm ((isKey_euc hk).2 (isKey_symm e)))).symm
  | r :: t, i + 1, p, ha, h, hk => by
    have h' : t[i]? = some p := by simpa using h
    have q : ¬ isKey k r.1 := fun e => (List.pairwise_cons.1 ha).1 p (List.mem_of_getElem? h') (isKey_symm ((isKey_euc e).2 (isKey_symm hk)))
    rw [List.filter_cons_of_pos (by simp [q]), List.eraseIdx_cons_succ, erase_filter (List.pairwise_cons.1 ha).2 h' hk]

/-- The pairs after n steps, and what the key q has. -/
structure LastS (q : Ob) (want : Option Ob) (n : Nat) (ps : List (Ob × Ob)) : Prop where
  len : ps.length ≤ n
  apart : Apart ps
  key : ∀ p ∈ ps, ∃ a, p.1 = kKey a
  val : ∀ p ∈ ps, ∃ v : Int, -32768 ≤ v ∧ v ≤ 32767 ∧ p.2 = Ob.num v
  has : ∀ v, want = some v ↔ ∃ p ∈ ps, isKey q p.1 ∧ p.2 = v
theorem LastS.zero (q : Ob) : LastS q none 0 [] := ⟨Nat.le_refl _, List.Pairwise.nil, by simp, by simp, by simp⟩
theorem LastS.set {q : Ob} {want : Option Ob} {n : Nat} {ps : List (Ob × Ob)} (h : LastS q want n ps) (a : Nat) (v : Int) (hv : -32768 ≤ v ∧ v ≤ 32767) :
    LastS q (if isKey q (kKey a) then some (Ob.num v) else want) (n + 1) (dsetL ps (kKey a) (Ob.num v)) := by
  unfold dsetL
  cases hi : ixD ps (kKey a) ps.length with
  | some i =>
    obtain ⟨hl, p, hp, hk⟩ := ixD_some hi
    have e : ps.getD i (Ob.zero, Ob.zero) = p := by rw [List.getD_eq_getElem?_getD, hp]; rfl
    have hm : p ∈ ps := List.mem_of_getElem? hp
    dsimp only
    rw [e, set_map h.apart hp hk]
    refine ⟨by rw [List.length_map]; have := h.len; omega, ?_, ?_, ?_, ?_⟩
    · refine (List.pairwise_map).2 (h.apart.imp fun {x y} r => ?_)
      have e1 : ∀ x : Ob × Ob, (if isKey (kKey a) x.1 then (x.1, Ob.num v) else x).1 = x.1 := fun x => by split <;> rfl
      rw [e1, e1]
      exact r
    · intro x hx
      obtain ⟨y, hy, rfl⟩ := List.mem_map.1 hx
      obtain ⟨b, hb⟩ := h.key y hy
      exact ⟨b, by split <;> exact hb⟩
    · intro x hx
      obtain ⟨y, hy, rfl⟩ := List.mem_map.1 hx
      split
      · exact ⟨v, hv.1, hv.2, rfl⟩
      · exact h.val y hy
    · intro z
      by_cases hq : isKey q (kKey a)
      · rw [if_pos hq]
        constructor
        · intro ez
          obtain rfl : Ob.num v = z := by simpa using ez
          exact ⟨(p.1, Ob.num v), List.mem_map.2 ⟨p, hm, if_pos hk⟩, (isKey_euc hk).2 hq, rfl⟩
        · rintro ⟨x, hx, hx1, rfl⟩
          obtain ⟨y, hy, rfl⟩ := List.mem_map.1 hx
          split at hx1
          · next g => rw [if_pos g]
          · next g => exact absurd ((isKey_euc hx1).2 (isKey_symm hq)) g
      · rw [if_neg hq, h.has z]
        constructor
        · rintro ⟨y, hy, hy1, hy2⟩
          have g : ¬ isKey (kKey a) y.1 := fun g => hq ((isKey_euc g).1 hy1)
          exact ⟨y, List.mem_map.2 ⟨y, hy, if_neg g⟩, hy1, hy2⟩
        · rintro ⟨x, hx, hx1, hx2⟩
          obtain ⟨y, hy, rfl⟩ := List.mem_map.1 hx
          split at hx1
          · next g => exact absurd ((isKey_euc g).1 hx1) hq
          · next g => rw [if_neg g] at hx2; exact ⟨y, hy, hx1, hx2⟩
  | none =>
    have hn := ixD_miss hi
    dsimp only
    refine ⟨by simp; exact h.len, ?_, ?_, ?_, ?_⟩
    · refine List.pairwise_append.2 ⟨h.apart, by simp [List.Pairwise.nil], fun x hx y hy => ?_⟩
      obtain rfl : y = (kKey a, Ob.num v) := by simpa using hy
      exact fun r => hn x hx (isKey_symm r)
    · intro x hx
      rcases List.mem_append.1 hx with hx | hx
      · exact h.key x hx
      · obtain rfl : x = (kKey a, Ob.num v) := by simpa using hx
        exact ⟨a, rfl⟩
    · intro x hx
      rcases List.mem_append.1 hx with hx | hx
      · exact h.val x hx
      · obtain rfl : x = (kKey a, Ob.num v) := by simpa using hx
        exact ⟨v, hv.1, hv.2, rfl⟩
    · intro z
      by_cases hq : isKey q (kKey a)
      · rw [if_pos hq]
        constructor
        · intro ez
          obtain rfl : Ob.num v = z := by simpa using ez
          exact ⟨(kKey a, Ob.num v), by simp, hq, rfl⟩
        · rintro ⟨x, hx, hx1, rfl⟩
          rcases List.mem_append.1 hx with hx | hx
          · exact absurd ((isKey_euc hx1).2 (isKey_symm hq)) (hn x hx)
          · obtain rfl : x = (kKey a, Ob.num v) := by simpa using hx
            rfl
      · rw [if_neg hq, h.has z]
        constructor
        · rintro ⟨y, hy, r⟩
          exact ⟨y, by simp [hy], r⟩
        · rintro ⟨x, hx, hx1, hx2⟩
          rcases List.mem_append.1 hx with hx | hx
          · exact ⟨x, hx, hx1, hx2⟩
          · obtain rfl : x = (kKey a, Ob.num v) := by simpa using hx
            exact absurd hx1 hq
theorem LastS.drop {q : Ob} {want : Option Ob} {n : Nat} {ps : List (Ob × Ob)} (h : LastS q want n ps) (a : Nat) :
    LastS q (if isKey q (kKey a) then none else want) (n + 1) (dropL ps (kKey a)) := by
  have e : dropL ps (kKey a) = ps.filter fun r => !decide (isKey (kKey a) r.1) := by
    unfold dropL
    cases hi : ixD ps (kKey a) ps.length with
    | some i =>
      obtain ⟨hl, p, hp, hk⟩ := ixD_some hi
      exact erase_filter h.apart hp hk
    | none => exact (List.filter_eq_self.2 fun x hx => by simp [ixD_miss hi x hx]).symm
  rw [e]
  refine ⟨Nat.le_trans (List.length_filter_le _ _) (Nat.le_succ_of_le h.len), h.apart.filter _, fun x hx => h.key x (List.mem_filter.1 hx).1, fun x hx => h.val x (List.mem_filter.1 hx).1, fun z => ?_⟩
  by_cases hq : isKey q (kKey a)
  · rw [if_pos hq]
    constructor
    · intro ez
      cases ez
    · rintro ⟨x, hx, hx1, hx2⟩
      have g := (List.mem_filter.1 hx).2
      simp only [Bool.not_eq_true', decide_eq_false_iff_not] at g
      exact absurd ((isKey_euc hx1).2 (isKey_symm hq)) g
  · rw [if_neg hq, h.has z]
    constructor
    · rintro ⟨y, hy, hy1, hy2⟩
      exact ⟨y, List.mem_filter.2 ⟨hy, by simp only [Bool.not_eq_true', decide_eq_false_iff_not]; exact fun g => hq ((isKey_euc g).1 hy1)⟩, hy1, hy2⟩
    · rintro ⟨y, hy, r⟩
      exact ⟨y, (List.mem_filter.1 hy).1, r⟩
theorem LastS.get {want : Option Ob} {n a : Nat} {ps : List (Ob × Ob)} (h : LastS (kKey a) want n ps) (P : List Cel) :
    dgetE P ps (kKey a) = (if want.isSome then 0 else 9) ∧ dgetO P ps (kKey a) = want.getD Ob.zero := by
  have f := kKey_facts a P
  unfold dgetE dgetO
  rw [f.1, f.2, if_pos rfl, if_pos rfl]
  cases hi : ixD ps (kKey a) ps.length with
  | some i =>
    obtain ⟨hl, p, hp, hk⟩ := ixD_some hi
    have e : ps.getD i (Ob.zero, Ob.zero) = p := by rw [List.getD_eq_getElem?_getD, hp]; rfl
    have w := (h.has p.2).2 ⟨p, List.mem_of_getElem? hp, hk, rfl⟩
    rw [w]
    dsimp only
    rw [e]
    exact ⟨rfl, rfl⟩
  | none =>
    have w : want = none := by
      cases hw : want with
      | none => rfl
      | some z =>
        obtain ⟨p, hp, hk, _⟩ := (h.has z).1 hw
        exact absurd hk (ixD_miss hi p hp)
    rw [w]
    exact ⟨rfl, rfl⟩
theorem LastS.setE {q : Ob} {want : Option Ob} {n : Nat} {ps : List (Ob × Ob)} (h : LastS q want n ps) (hn : n < 40) (a : Nat) (v : Int) (hv : -32768 ≤ v ∧ v ≤ 32767) (P : List Cel) :
    dsetE P ps 40 false (kNum a) (Ob.num v) = 0 := by
  have f := kNum_facts a P
  have := h.len
  have m : mayH P (Ob.num v) = true := (keyNum (by omega)).2.2
  unfold dsetE
  rw [f.1, if_pos rfl, if_pos ⟨m, rfl⟩]
  split
  · rfl
  · rw [if_neg (by omega)]
theorem LastS.dropE {q : Ob} {want : Option Ob} {n : Nat} {ps : List (Ob × Ob)} (h : LastS q want n ps) (a : Nat) (P : List Cel) : dropE P ps false (kNum a) = 0 := by
  have f := kNum_facts a P
  unfold Go.Proofs.Ytigboibcgpfphaa.dropE
  rw [f.1, if_pos rfl, if_neg (by simp)]
theorem LastS.fine {q : Ob} {want : Option Ob} {n : Nat} {ps : List (Ob × Ob)} (h : LastS q want n ps) : ∀ p ∈ ps, p.1.Fine := fun p hp => by
  obtain ⟨a, e⟩ := h.key p hp
  rw [e]
  exact (kNum_facts a []).2.2.2
theorem LastS.valid {q : Ob} {want : Option Ob} {n : Nat} {ps : List (Ob × Ob)} (h : LastS q want n ps) (hn : n ≤ 1000) {P : List Cel} {room : Nat} : ∀ x ∈ itemsD ps room, mayH P x = true := by
  intro x hx
  rcases List.mem_cons.1 hx with rfl | hx
  · exact (keyNum (by have := h.len; omega)).2.2
  rcases List.mem_append.1 hx with hx | hx
  · obtain ⟨p, hp, hx⟩ := List.mem_flatMap.1 hx
    simp at hx
    rcases hx with rfl | rfl
    · obtain ⟨a, e⟩ := h.key p hp
      rw [e]
      exact (kNum_facts a P).2.2.1
    · obtain ⟨v, v1, v2, e⟩ := h.val p hp
      rw [e]
      exact (keyNum (by omega)).2.2
  · rw [(List.mem_replicate.1 hx).2]
    exact may_null P
/-- Same over two keys of numbers says isKey. -/
theorem raw_same {m b m' b' : Nat} (hm : m < 7) (hb : b < 4) (hm' : m' < 7) (hb' : b' < 4) :
    (fun o q : Ob => sameO o.k o.n o.a o.l o.s q.k q.n q.a q.l q.s) (kRaw m b false) (kRaw m' b' false) = decide (isKey (kRaw m' b' false) (kRaw m b false)) := by
  have q : ∀ m < 7, ∀ b < 4, ∀ m' < 7, ∀ b' < 4, (fun o q : Ob => sameO o.k o.n o.a o.l o.s q.k q.n q.a q.l q.s) (kRaw m b false) (kRaw m' b' false) = decide (isKey (kRaw m' b' false) (kRaw m b false)) := by decide +kernel
  exact q m hm b hb m' hm' b' hb'
theorem sSame (n ask : Nat) (w : World) : Calls Try.prog 49 #[(kKey n).val, (kKey ask).val] w fun e w' => e = .returned (.bool (decide (isKey (kKey ask) (kKey n)))) ∧ Below w.heap.size w w' := by
  refine (same_any (kKey n).k (kKey n).n (kKey n).a (kKey n).l (kKey ask).k (kKey ask).n (kKey ask).a (kKey ask).l (kKey n).x (kKey ask).x (kKey n).s (kKey ask).s w).mono ?_
  rintro e w' ⟨rfl, h⟩
  exact ⟨ret_bool (raw_same (Nat.mod_lt _ (by omega)) (Nat.mod_lt _ (by omega)) (Nat.mod_lt _ (by omega)) (Nat.mod_lt _ (by omega))), h⟩
end Go.Proofs.Ytigboibcgpfphaa
