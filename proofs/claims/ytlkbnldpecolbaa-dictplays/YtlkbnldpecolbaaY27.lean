/- Y27: E5, E6, E7, G1. -/
import Derived.Test.YtlkbnldpecolbaaY26
import Derived.Test.YtlkbnldpecolbaaY15
import Derived.BigQuiet
/- DictPlays: plain: the same key, the first and the only one; what stays of the pairs. -/
namespace Go.Proofs.Ytlkbnldpecolbaa
open Go.RowKit
set_option linter.unusedVariables false
set_option linter.unusedSimpArgs false

theorem may_int {o : Ob} (h : o.may = true) (hk : o.k = 3) : -2147483647 ≤ o.n ∧ o.n ≤ 2147483647 ∧ o.a = 0 ∧ o.l = 0 ∧ o.s = ⟨#[]⟩ := by
  simpa [Ob.may, mayO, hk, onlyP] using h
theorem may_fix {o : Ob} (h : o.may = true) (hk : o.k = 4) : -1073741823 ≤ o.n ∧ o.n ≤ 1073741823 ∧ o.a = 0 ∧ o.l = 0 ∧ o.s = ⟨#[]⟩ := by
  simpa [Ob.may, mayO, hk, onlyP] using h
theorem may_name {o : Ob} (h : o.may = true) (hk : o.k = 5) : o.s.size ≤ 100 ∧ o.n = 0 ∧ o.a = 0 ∧ o.l = 0 := by
  simpa [Ob.may, mayO, hk, nameP] using h
theorem numO_may {o : Ob} (h : o.may = true) : numO o.k o.n o.a o.l o.s = decide (o.k = 3 ∨ o.k = 4) := by
  have h' : mayO o.k o.n o.a o.l o.s = true := h
  rw [numO, h', Bool.and_true]
theorem plain_num {o : Ob} (h : o.may = true) (hk : o.k = 3 ∨ o.k = 4) : plainO o = if mayF (sizeO o.k o.n) = true then ⟨4, false, sizeO o.k o.n, 0, 0, ⟨#[]⟩⟩ else o := by
  rcases hk with hk | hk
  · simp only [plainO, numOk, numV, gate, sizeO, hk, if_true, if_pos]
    split <;> rename_i g <;> simp [g]
  · have h4 : ¬ (4 : Int) = 3 := by decide
    simp only [plainO, numOk, numV, gate, sizeO, hk, if_neg h4, if_true]
    split <;> rename_i g <;> simp [g]
theorem plain_else {o : Ob} (hk : ¬ (o.k = 3 ∨ o.k = 4)) : plainO o = o := by
  have h3 : ¬ o.k = 3 := fun e => hk (.inl e)
  have h4 : ¬ o.k = 4 := fun e => hk (.inr e)
  simp [plainO, numOk, h3, h4]
theorem plain_kind {o : Ob} (h : o.may = true) (hk : o.k = 3 ∨ o.k = 4) : (plainO o).k = 3 ∨ (plainO o).k = 4 := by
  rw [plain_num h hk]
  split
  · exact .inr rfl
  · exact hk
theorem ob_eq {p k : Ob} (xp : p.x = false) (xk : k.x = false) : p = k ↔ (p.k = k.k ∧ p.n = k.n ∧ p.a = k.a ∧ p.l = k.l ∧ p.s = k.s) := by
  obtain ⟨a1, a2, a3, a4, a5, a6⟩ := p
  obtain ⟨b1, b2, b3, b4, b5, b6⟩ := k
  simp only at xp xk
  subst xp xk
  simp
theorem same_key {p k : Ob} (hp : p.may = true) (hk : k.may = true) (xp : p.x = false) (xk : k.x = false) :
    sameO p.k p.n p.a p.l p.s k.k k.n k.a k.l k.s = decide (isKey k p) := by
  rw [sameO, numO_may hp, numO_may hk]
  by_cases np : p.k = 3 ∨ p.k = 4 <;> by_cases nk : k.k = 3 ∨ k.k = 4
  · rw [if_pos ⟨decide_eq_true np, decide_eq_true nk⟩]
    have k5 : ¬ k.k = 5 := by omega
    have p5 : p.k ≠ 5 := by omega
    refine decide_eq_decide.2 ?_
    rw [isKey, if_neg k5, plain_num hp np, plain_num hk nk]
    have fix : ∀ {o : Ob}, o.may = true → o.k = 4 → mayF (sizeO o.k o.n) = true := fun {o} ho h4 => by
      have := may_fix ho h4
      simp [sizeO, h4, mayF, this.1, this.2.1]
    by_cases gp : mayF (sizeO p.k p.n) = true <;> by_cases gk : mayF (sizeO k.k k.n) = true
    · rw [if_pos gp, if_pos gk]
      exact ⟨fun e => ⟨p5, by rw [e]⟩, fun e => by simpa using e.2⟩
    · rw [if_pos gp, if_neg gk]
      refine ⟨fun e => absurd (e ▸ gp) gk, fun e => ?_⟩
      have : k.k = 4 := (congrArg Ob.k e.2).symm
      exact absurd (fix hk this) gk
    · rw [if_neg gp, if_pos gk]
      refine ⟨fun e => absurd (e ▸ gk) gp, fun e => ?_⟩
      have : p.k = 4 := congrArg Ob.k e.2
      exact absurd (fix hp this) gp
    · rw [if_neg gp, if_neg gk]
      have p3 : p.k = 3 := np.resolve_right fun e => gp (fix hp e)
      have k3 : k.k = 3 := nk.resolve_right fun e => gk (fix hk e)
      have ip := may_int hp p3
      have ik := may_int hk k3
      rw [sizeO, sizeO, if_pos p3, if_pos k3, ob_eq xp xk, p3, k3, ip.2.2.1, ik.2.2.1, ip.2.2.2.1, ik.2.2.2.1, ip.2.2.2.2, ik.2.2.2.2]
      constructor
      · intro e
        exact ⟨by decide, rfl, by omega, rfl, rfl, rfl⟩
      · rintro ⟨_, _, e, _⟩
        rw [e]
  · rw [if_neg (fun e => nk (of_decide_eq_true e.2))]
    refine decide_eq_decide.2 ⟨fun e => absurd (e.1 ▸ np) nk, fun e => ?_⟩
    unfold isKey at e
    split at e
    · have := e.1
      omega
    · rw [plain_else nk] at e
      have := plain_kind hp np
      rw [e.2] at this
      exact absurd this nk
  · rw [if_neg (fun e => np (of_decide_eq_true e.1))]
    refine decide_eq_decide.2 ⟨fun e => absurd (e.1 ▸ nk) np, fun e => ?_⟩
    unfold isKey at e
    split at e
    · omega
    · rw [plain_else np] at e
      have := plain_kind hk nk
      rw [← e.2] at this
      exact absurd this np
  · rw [if_neg (fun e => nk (of_decide_eq_true e.2))]
    refine decide_eq_decide.2 ?_
    rw [isKey, plain_else np, plain_else nk]
    by_cases k5 : k.k = 5
    · rw [if_pos k5]
      constructor
      · exact fun e => ⟨e.1.trans k5, e.2.2.2.2⟩
      · intro e
        have a := may_name hp e.1
        have b := may_name hk k5
        exact ⟨e.1.trans k5.symm, a.2.1.trans b.2.1.symm, a.2.2.1.trans b.2.2.1.symm, a.2.2.2.trans b.2.2.2.symm, e.2⟩
    · rw [if_neg k5, ob_eq xp xk]
      exact ⟨fun e => ⟨fun q => k5 (e.1 ▸ q), e⟩, fun e => e.2⟩

theorem isKey_symm {k p : Ob} (h : isKey k p) : isKey p k := by
  unfold isKey at *
  split at h
  · next e => rw [if_pos h.1]; exact ⟨e, h.2.symm⟩
  · next e => rw [if_neg h.1]; exact ⟨e, h.2.symm⟩
theorem isKey_euc {k p q : Ob} (h : isKey k p) : isKey q p ↔ isKey q k := by
  unfold isKey at *
  split at h
  · next e => simp [h, e]
  · next e => simp [h, e]
def Apart (ps : List (Ob × Ob)) : Prop := ps.Pairwise fun p r => ¬ isKey p.1 r.1
theorem ixD_none {ps : List (Ob × Ob)} {k : Ob} : ∀ {j : Nat}, ixD ps k j = none → ∀ i p, i < j → ps[i]? = some p → ¬ isKey k p.1
  | 0, _, _, _, hi, _ => by omega
  | j + 1, h, i, p, hi, hp => by
    unfold ixD at h
    split at h
    · cases h
    · next q =>
      rcases Nat.lt_succ_iff_lt_or_eq.1 hi with hi | rfl
      · exact ixD_none h i p hi hp
      · exact fun hk => q ⟨p, hp, hk⟩
theorem ixD_miss {ps : List (Ob × Ob)} {k : Ob} (h : ixD ps k ps.length = none) : ∀ p ∈ ps, ¬ isKey k p.1 := fun p hp => by
  obtain ⟨i, hi, rfl⟩ := List.getElem_of_mem hp
  exact ixD_none h i _ hi (List.getElem?_eq_getElem hi)
theorem ixD_no {ps : List (Ob × Ob)} {k : Ob} (h : ∀ (i : Nat) (p : Ob × Ob), ps[i]? = some p → ¬ isKey k p.1) : ∀ j, ixD ps k j = none
  | 0 => rfl
  | j + 1 => by
    rw [ixD, if_neg (fun ⟨p, hp, q⟩ => h j p hp q)]
    exact ixD_no h j
/-- The one that is found is the only one. -/
theorem ixD_only {ps : List (Ob × Ob)} {k : Ob} {i : Nat} {p : Ob × Ob} (ha : Apart ps) (hp : ps[i]? = some p) (hk : isKey k p.1) : ixD ps k ps.length = some i := by
  cases h : ixD ps k ps.length with
  | none => exact absurd hk (ixD_miss h p (List.mem_of_getElem? hp))
  | some j =>
    obtain ⟨hj, q, hq, hkq⟩ := ixD_some h
    congr 1
    have hi := (List.getElem?_eq_some_iff.1 hp).1
    have e1 : ps[i] = p := (List.getElem?_eq_some_iff.1 hp).2
    have e2 : ps[j] = q := (List.getElem?_eq_some_iff.1 hq).2
    have := List.pairwise_iff_getElem.1 ha
    rcases Nat.lt_trichotomy i j with l | l | l
    · exact absurd (by rw [e1, e2]; exact (isKey_euc hkq).2 (isKey_symm hk)) (this i j hi hj l)
    · exact l.symm
    · exact absurd (by rw [e1, e2]; exact (isKey_euc hk).2 (isKey_symm hkq)) (this j i hj hi l)

/-- What holds of the pairs of the dictionary. -/
structure Good (rm : Nat) (ps : List (Ob × Ob)) : Prop where
  le : ps.length ≤ rm
  most : rm ≤ 1000
  apart : Apart ps
  key : ∀ p ∈ ps, mayH (HD [newD rm]) p.1 = true ∧ p.1.x = false
  val : ∀ p ∈ ps, mayH (HD [newD rm]) p.2 = true
/-- The heap of one dictionary. -/
abbrev H1 (ps : List (Ob × Ob)) (rm : Nat) : List Cel := HD [⟨ps, rm, false⟩]
section
variable {rm : Nat} {ps : List (Ob × Ob)}
theorem mayH_one (h : ps.length ≤ rm) (o : Ob) : mayH (H1 ps rm) o = mayH (HD [newD rm]) o := by
  have e : ∀ n : Nat, ((H1 ps rm).getD n Cel.none).k = ((HD [newD rm]).getD n Cel.none).k ∧ ((H1 ps rm).getD n Cel.none).size = ((HD [newD rm]).getD n Cel.none).size := fun n => by
    cases n with
    | zero => exact ⟨rfl, by simp [HD, Dc.cel, newD, Cel.size, itemsD_length h, itemsD_length (ps := []) (room := rm) (Nat.zero_le rm)]⟩
    | succ n => exact ⟨rfl, rfl⟩
  rw [mayH, mayH, inCell, inCell]
  have l : (H1 ps rm).length = (HD [newD rm]).length := rfl
  rw [l]
  have := e o.n.toNat
  unfold cellOf
  rw [this.1, this.2]
theorem Good.ok (h : Good rm ps) : DsOk [⟨ps, rm, false⟩] := fun c hc => by
  obtain rfl : c = ⟨ps, rm, false⟩ := by simpa using hc
  exact ⟨h.le, h.most, fun p hp => fine_may (may_of_mayH (h.key p hp).1)⟩
def dO0 : Ob := ⟨10, false, 0, 0, 0, ⟨#[]⟩⟩
theorem isD0 (c : Dc) : IsD [c].length dO0 := ⟨rfl, by decide, by decide, by show (0 : Int) < ((1 : Nat) : Int); decide, rfl, rfl, rfl⟩
theorem Good.dc (h : Good rm ps) : DictC (H1 ps rm) dO0 ps rm false := (isD0 _).dc h.ok rfl
theorem Good.zero (h : rm ≤ 1000) : Good rm [] := ⟨Nat.zero_le _, h, List.Pairwise.nil, fun p hp => (by cases hp), fun p hp => (by cases hp)⟩
theorem Good.same (h : Good rm ps) {k : Ob} (hk : keyE (H1 ps rm) k = 0) {p : Ob × Ob} (hp : p ∈ ps) :
    sameO p.1.k p.1.n p.1.a p.1.l p.1.s (keyO (H1 ps rm) k).k (keyO (H1 ps rm) k).n (keyO (H1 ps rm) k).a (keyO (H1 ps rm) k).l (keyO (H1 ps rm) k).s = decide (isKey (keyO (H1 ps rm) k) p.1) :=
  same_key (may_of_mayH (h.key p hp).1) (may_of_mayH (key_may hk)) (h.key p hp).2 (by
    rw [keyO, if_pos hk]
    split <;> rfl)
theorem Good.all (h : Good rm ps) : ∀ x ∈ itemsD ps rm, mayH (H1 ps rm) x = true := by
  intro x hx
  rw [mayH_one h.le]
  unfold itemsD at hx
  rcases List.mem_cons.1 hx with rfl | hx
  · exact may_num _ _ (by have := h.le; have := h.most; omega)
  rcases List.mem_append.1 hx with hx | hx
  · unfold flatD at hx
    obtain ⟨p, hp, hq⟩ := List.mem_flatMap.1 hx
    have : x = p.1 ∨ x = p.2 := by simpa using hq
    rcases this with rfl | rfl
    · exact (h.key p hp).1
    · exact h.val p hp
  · obtain ⟨_, rfl⟩ := List.mem_replicate.1 hx
    rfl
theorem Good.set (h : Good rm ps) {k v : Ob} (hE : dsetE (H1 ps rm) ps rm false k v = 0) : Good rm (dsetL ps (keyO (H1 ps rm) k) v) := by
  have h1 := dset_ok h.le (fun p hp => fine_may (may_of_mayH (h.key p hp).1)) hE
  have hk : keyE (H1 ps rm) k = 0 := by
    unfold dsetE at hE
    split at hE
    · assumption
    · rename_i g
      exact absurd hE g
  have hv : mayH (HD [newD rm]) v = true := by
    rw [← mayH_one h.le]
    unfold dsetE at hE
    rw [if_pos hk] at hE
    split at hE
    · rename_i g
      exact g.1
    · cases hE
  have hkm : mayH (HD [newD rm]) (keyO (H1 ps rm) k) = true ∧ (keyO (H1 ps rm) k).x = false := ⟨by rw [← mayH_one h.le]; exact key_may hk, by
    rw [keyO, if_pos hk]
    split <;> rfl⟩
  refine ⟨h1.1, h.most, ?_, ?_, ?_⟩
  · unfold dsetL
    cases hi : ixD ps (keyO (H1 ps rm) k) ps.length with
    | some i =>
      obtain ⟨hl, p, hp, hkp⟩ := ixD_some hi
      have e : ps.getD i (Ob.zero, Ob.zero) = p := by rw [List.getD_eq_getElem?_getD, hp]; rfl
      dsimp only
      rw [e]
      have e2 : (ps.set i (p.1, v)).map (·.1) = ps.map (·.1) := by
        rw [List.map_set]
        exact List.ext_getElem? fun j => by
          rw [List.getElem?_set]
          split
          · next e => subst e; rw [if_pos (by simpa using hl), List.getElem?_map, hp]; rfl
          · rfl
      have q : ∀ l : List (Ob × Ob), Apart l ↔ (l.map (·.1)).Pairwise fun a b => ¬ isKey a b := fun l => (List.pairwise_map (f := fun x : Ob × Ob => x.1) (R := fun a b => ¬ isKey a b)).symm
      rw [q, e2, ← q]
      exact h.apart
    | none =>
      have hn := ixD_miss hi
      dsimp only
      refine List.pairwise_append.2 ⟨h.apart, by simp [List.Pairwise.nil], fun x hx y hy => ?_⟩
      obtain rfl : y = (keyO (H1 ps rm) k, v) := by simpa using hy
      exact fun r => hn x hx (isKey_symm r)
  · intro x hx
    unfold dsetL at hx
    cases hi : ixD ps (keyO (H1 ps rm) k) ps.length with
    | some i =>
      rw [hi] at hx
      dsimp only at hx
      rcases List.mem_or_eq_of_mem_set hx with hx | rfl
      · exact h.key x hx
      · have hlt := (ixD_some hi).1
        show mayH _ ((ps.getD i (Ob.zero, Ob.zero)).1) = true ∧ ((ps.getD i (Ob.zero, Ob.zero)).1).x = false
        rw [List.getD_eq_getElem?_getD, List.getElem?_eq_getElem hlt]
        exact h.key _ (List.getElem_mem hlt)
    | none =>
      rw [hi] at hx
      dsimp only at hx
      rcases List.mem_append.1 hx with hx | hx
      · exact h.key x hx
      · obtain rfl : x = (keyO (H1 ps rm) k, v) := by simpa using hx
        exact hkm
  · intro x hx
    unfold dsetL at hx
    cases hi : ixD ps (keyO (H1 ps rm) k) ps.length with
    | some i =>
      rw [hi] at hx
      dsimp only at hx
      rcases List.mem_or_eq_of_mem_set hx with hx | rfl
      · exact h.val x hx
      · exact hv
    | none =>
      rw [hi] at hx
      dsimp only at hx
      rcases List.mem_append.1 hx with hx | hx
      · exact h.val x hx
      · obtain rfl : x = (keyO (H1 ps rm) k, v) := by simpa using hx
        exact hv
theorem Good.drop (h : Good rm ps) (k : Ob) : Good rm (dropL ps k) := by
  unfold dropL
  cases hi : ixD ps k ps.length with
  | none => exact h
  | some i =>
    have hs : (ps.eraseIdx i).Sublist ps := List.eraseIdx_sublist ..
    exact ⟨Nat.le_trans hs.length_le h.le, h.most, h.apart.sublist hs, fun p hp => h.key p (hs.subset hp), fun p hp => h.val p (hs.subset hp)⟩
end
end Go.Proofs.Ytlkbnldpecolbaa

/- Walks of tympanref12: find. -/
namespace Go.Proofs.Ytlkbnldpecolbaa
open Go.RowKit
set_option linter.unusedVariables false
set_option linter.unusedSimpArgs false

theorem ret_cell4 {P : Program} {fn : Func} {p u1 u2 u3 : Tmp} {ty : TypeId} (h : fn.results = #[.cell p ty, .tmp u1, .tmp u2, .tmp u3]) (tmps : Array Value) (w : World) (g : Nat) (t : TypeId) (cs : Array Value) (fr : Nat × Nat) (d : TypeDesc) (v1 v2 v3 : Value)
    (hp : tmps.getD p undef = .pointer (some ⟨g, 0, none⟩)) (hv1 : tmps.getD u1 undef = v1) (hv2 : tmps.getD u2 undef = v2) (hv3 : tmps.getD u3 undef = v3) (hg : w.heap[g]? = some (.cells cs t fr))
    (hu : P.underlying ty = some d) (hd : (match d with | .struct _ | .array _ _ => true | _ => false) = true) (hi : (P.info? ty).map (·.size) = some cs.size) :
    (results fn tmps).run P w = .ok (.tuple #[.agg cs, v1, v2, v3]) w := by
  have hp' : tmps[p]?.getD undef = .pointer (some ⟨g, 0, none⟩) := by simpa using hp
  have h1 : tmps[u1]?.getD undef = v1 := by simpa using hv1
  have h2 : tmps[u2]?.getD undef = v2 := by simpa using hv2
  have h3 : tmps[u3]?.getD undef = v3 := by simpa using hv3
  simp only [results, h]
  simp [Sem.run_bind, Result.andThen, hp', h1, h2, h3, asAddr, run_loadVar_row w g t ty cs fr d hg hu hd hi]
/-- Three boxes of a call: two objects, and the result. -/
structure F3 (w wr : World) (d q z : Ob) : Prop where
  below : Below w.heap.size w wr
  b0 : wr.heap[w.heap.size]? = some (obObj d.k d.x d.n d.a d.l d.s)
  b1 : wr.heap[w.heap.size + 1]? = some (obObj q.k q.x q.n q.a q.l q.s)
  b2 : wr.heap[w.heap.size + 2]? = some (obObj z.k z.x z.n z.a z.l z.s)
section
variable {w wr wx : World} {d q z : Ob}
theorem F3.later (h : F3 w wr d q z) (k : Below wr.heap.size wr wx) : F3 w wx d q z :=
  ⟨below_and h.below k, (k.block _ (blk_lt h.b0)).trans h.b0, (k.block _ (blk_lt h.b1)).trans h.b1, (k.block _ (blk_lt h.b2)).trans h.b2⟩
theorem F3.start (w : World) (d q z : Ob) : ∃ wb, (((w.alloc (.cells #[.int .i64 d.k, .bool d.x, .int .i64 d.n, .int .i64 d.a, .int .i64 d.l, .string d.s] 30)).alloc (.cells #[.int .i64 q.k, .bool q.x, .int .i64 q.n, .int .i64 q.a, .int .i64 q.l, .string q.s] 30)).alloc (.cells #[.int .i64 z.k, .bool z.x, .int .i64 z.n, .int .i64 z.a, .int .i64 z.l, .string z.s] 30)) = wb ∧ F3 w wb d q z := by
  obtain ⟨w1, e1⟩ : ∃ w1, w.alloc (.cells #[.int .i64 d.k, .bool d.x, .int .i64 d.n, .int .i64 d.a, .int .i64 d.l, .string d.s] 30) = w1 := ⟨_, rfl⟩
  obtain ⟨w2, e2⟩ : ∃ w2, w1.alloc (.cells #[.int .i64 q.k, .bool q.x, .int .i64 q.n, .int .i64 q.a, .int .i64 q.l, .string q.s] 30) = w2 := ⟨_, rfl⟩
  obtain ⟨w3, e3⟩ : ∃ w3, w2.alloc (.cells #[.int .i64 z.k, .bool z.x, .int .i64 z.n, .int .i64 z.a, .int .i64 z.l, .string z.s] 30) = w3 := ⟨_, rfl⟩
  have z1 : w1.heap.size = w.heap.size + 1 := by rw [← e1]; exact World.size_alloc _ _
  have z2 : w2.heap.size = w.heap.size + 2 := by rw [← e2, World.size_alloc, z1]
  have k1 : Below w.heap.size w w1 := e1 ▸ box_below _ _
  have k2 : Below w1.heap.size w1 w2 := e2 ▸ box_below _ _
  have k3 : Below w2.heap.size w2 w3 := e3 ▸ box_below _ _
  have h1 : w1.heap[w.heap.size]? = some (obObj d.k d.x d.n d.a d.l d.s) := e1 ▸ heap_alloc_new _ _
  have h2 : w2.heap[w.heap.size + 1]? = some (obObj q.k q.x q.n q.a q.l q.s) := by rw [← z1]; exact e2 ▸ heap_alloc_new _ _
  have h3 : w3.heap[w.heap.size + 2]? = some (obObj z.k z.x z.n z.a z.l z.s) := by rw [← z2]; exact e3 ▸ heap_alloc_new _ _
  exact ⟨w3, by rw [e1, e2, e3], below_and (below_and k1 k2) k3, (k3.block _ (by omega)).trans ((k2.block _ (by omega)).trans h1), (k3.block _ (by omega)).trans h2, h3⟩
theorem F3.put1 (h : F3 w wr d q z) (v : Ob) : F3 w (put6 wr (w.heap.size + 1) (.int .i64 v.k) (.bool v.x) (.int .i64 v.n) (.int .i64 v.a) (.int .i64 v.l) (.string v.s)) d v z := by
  have on : Only (w.heap.size + 1) wr (put6 wr (w.heap.size + 1) (.int .i64 v.k) (.bool v.x) (.int .i64 v.n) (.int .i64 v.a) (.int .i64 v.l) (.string v.s)) := only6 _ _ _ _ _ _ _ _
  exact ⟨only_below on h.below (Nat.le_succ _), (on.block _ (by omega)).trans h.b0, set6 h.b1 _ _ _ _ _ _, (on.block _ (by omega)).trans h.b2⟩
end
set_option maxHeartbeats 1000000 in
set_option maxRecDepth 100000 in
theorem rfind_err (E : Int) (hE : (E != 0) = true) (rb n : Nat) (hn : n ≤ 1000) (d k q : Ob) (w : World)
    (C1 : Hid (∀ wx, Below w.heap.size w wx → Calls Try.prog 72 #[ptr rb, d.val] wx fun e w' => e = .returned (.tuple #[.int .i64 n, .int .i64 0]) ∧ Below wx.heap.size wx w'))
    (C2 : Hid (∀ wx, Below w.heap.size w wx → Calls Try.prog 28 #[ptr rb, k.val] wx fun e w' => e = .returned (.tuple #[q.val, .int .i64 E]) ∧ Below wx.heap.size wx w')) :
    Calls Try.prog 67 #[ptr rb, d.val, k.val] w fun e w' => e = .returned (.tuple #[Ob.zero.val, .int .i64 0, .int .i64 0, .int .i64 E]) ∧ Below w.heap.size w w' := by
  simp only [Ob.val] at C1 C2 ⊢
  go_enter Try.func67, Try.ntmps67
  go_upto_region 1 with fail
  obtain ⟨wb, eb, rb'⟩ := F3.start w d k Ob.zero
  simp only [Ob.zero] at eb
  rw [eb]
  have R := Lib.hid rb'
  clear eb rb'
  obtain ⟨⟨o0, o1, o2, o3, o4, o5⟩, _⟩ := cells6 R.out.b0
  obtain ⟨⟨p0, p1, p2, p3, p4, p5⟩, _⟩ := cells6 R.out.b1
  obtain ⟨⟨c0, c1, c2, c3, c4, c5⟩, f0, f1, f2, f3, f4, f5⟩ := cells6 R.out.b2
  go_wp2_with fail
  refine (C1.out _ R.out.below).mono ?_
  rintro e wc ⟨rfl, kc⟩
  replace R := Lib.hid (R.out.later kc)
  clear kc o0 o1 o2 o3 o4 o5 p0 p1 p2 p3 p4 p5 c0 c1 c2 c3 c4 c5 f0 f1 f2 f3 f4 f5
  obtain ⟨⟨o0, o1, o2, o3, o4, o5⟩, _⟩ := cells6 R.out.b0
  obtain ⟨⟨p0, p1, p2, p3, p4, p5⟩, _⟩ := cells6 R.out.b1
  obtain ⟨⟨c0, c1, c2, c3, c4, c5⟩, f0, f1, f2, f3, f4, f5⟩ := cells6 R.out.b2
  go_wp2_with fail
  refine (C2.out _ R.out.below).mono ?_
  rintro e wc ⟨rfl, kc⟩
  replace R := Lib.hid (R.out.later kc)
  clear kc o0 o1 o2 o3 o4 o5 p0 p1 p2 p3 p4 p5 c0 c1 c2 c3 c4 c5 f0 f1 f2 f3 f4 f5
  obtain ⟨⟨o0, o1, o2, o3, o4, o5⟩, _⟩ := cells6 R.out.b0
  obtain ⟨⟨p0, p1, p2, p3, p4, p5⟩, _⟩ := cells6 R.out.b1
  obtain ⟨⟨c0, c1, c2, c3, c4, c5⟩, f0, f1, f2, f3, f4, f5⟩ := cells6 R.out.b2
  go_upto_region 5 with fail
  obtain ⟨w3, e3⟩ : ∃ w3, put6 wc (w.heap.size + 1) (.int .i64 q.k) (.bool q.x) (.int .i64 q.n) (.int .i64 q.a) (.int .i64 q.l) (.string q.s) = w3 := ⟨_, rfl⟩
  have go := R.out.put1 q
  rw [e3] at go
  unfold put6 at e3
  rw [e3]
  replace R := Lib.hid go
  clear go e3 o0 o1 o2 o3 o4 o5 p0 p1 p2 p3 p4 p5 c0 c1 c2 c3 c4 c5 f0 f1 f2 f3 f4 f5
  obtain ⟨⟨o0, o1, o2, o3, o4, o5⟩, _⟩ := cells6 R.out.b0
  obtain ⟨⟨p0, p1, p2, p3, p4, p5⟩, _⟩ := cells6 R.out.b1
  obtain ⟨⟨c0, c1, c2, c3, c4, c5⟩, f0, f1, f2, f3, f4, f5⟩ := cells6 R.out.b2
  go_wp2
  (try simp only [Exit.inBlock, Exit.then])
  exact bodyPost_ret (ret_cell4 rfl _ _ _ _ _ _ _ _ _ _ rfl rfl rfl rfl (set6 R.out.b2 _ _ _ _ _ _) Try.underlying30 rfl (by kernel_rfl)) rfl ⟨rfl, set6_below R.out.below (by omega) _ _ _ _ _ _⟩
set_option maxHeartbeats 2000000 in
set_option maxRecDepth 100000 in
theorem rfind_walk (F : Nat → Ob) (S : Nat → Bool) (rb n : Nat) (hn : n ≤ 1000) (d k q : Ob) (w : World)
    (C1 : Hid (∀ wx, Below w.heap.size w wx → Calls Try.prog 72 #[ptr rb, d.val] wx fun e w' => e = .returned (.tuple #[.int .i64 n, .int .i64 0]) ∧ Below wx.heap.size wx w'))
    (C2 : Hid (∀ wx, Below w.heap.size w wx → Calls Try.prog 28 #[ptr rb, k.val] wx fun e w' => e = .returned (.tuple #[q.val, .int .i64 0]) ∧ Below wx.heap.size wx w'))
    (C3 : Hid (∀ (j m : Nat) wx, j < n → m = 2 * j → Below w.heap.size w wx → Calls Try.prog 70 #[ptr rb, d.val, .int .i64 ((m + 1 : Nat) : Int)] wx fun e w' => e = .returned (.tuple #[(F j).val, .int .i64 0]) ∧ Below wx.heap.size wx w'))
    (C4 : Hid (∀ (j : Nat) wx, j < n → Calls Try.prog 95 #[(F j).val, q.val] wx fun e w' => e = .returned (.bool (S j)) ∧ Below wx.heap.size wx w')) :
    Calls Try.prog 67 #[ptr rb, d.val, k.val] w fun e w' => (∃ i : Nat, i ≤ n ∧ (∀ j, j < i → S j = false) ∧ (i < n → S i = true) ∧ e = .returned (.tuple #[q.val, .int .i64 i, .int .i64 n, .int .i64 0])) ∧ Below w.heap.size w w' := by
  simp only [Ob.val] at C1 C2 C3 C4 ⊢
  go_enter Try.func67, Try.ntmps67
  go_upto_region 1 with fail
  obtain ⟨wb, eb, rb'⟩ := F3.start w d k Ob.zero
  simp only [Ob.zero] at eb
  rw [eb]
  have R := Lib.hid rb'
  clear eb rb'
  obtain ⟨⟨o0, o1, o2, o3, o4, o5⟩, _⟩ := cells6 R.out.b0
  obtain ⟨⟨p0, p1, p2, p3, p4, p5⟩, _⟩ := cells6 R.out.b1
  obtain ⟨⟨c0, c1, c2, c3, c4, c5⟩, f0, f1, f2, f3, f4, f5⟩ := cells6 R.out.b2
  go_wp2_with fail
  refine (C1.out _ R.out.below).mono ?_
  rintro e wc ⟨rfl, kc⟩
  replace R := Lib.hid (R.out.later kc)
  clear kc o0 o1 o2 o3 o4 o5 p0 p1 p2 p3 p4 p5 c0 c1 c2 c3 c4 c5 f0 f1 f2 f3 f4 f5
  obtain ⟨⟨o0, o1, o2, o3, o4, o5⟩, _⟩ := cells6 R.out.b0
  obtain ⟨⟨p0, p1, p2, p3, p4, p5⟩, _⟩ := cells6 R.out.b1
  obtain ⟨⟨c0, c1, c2, c3, c4, c5⟩, f0, f1, f2, f3, f4, f5⟩ := cells6 R.out.b2
  go_wp2_with fail
  refine (C2.out _ R.out.below).mono ?_
  rintro e wc ⟨rfl, kc⟩
  replace R := Lib.hid (R.out.later kc)
  clear kc o0 o1 o2 o3 o4 o5 p0 p1 p2 p3 p4 p5 c0 c1 c2 c3 c4 c5 f0 f1 f2 f3 f4 f5
  obtain ⟨⟨o0, o1, o2, o3, o4, o5⟩, _⟩ := cells6 R.out.b0
  obtain ⟨⟨p0, p1, p2, p3, p4, p5⟩, _⟩ := cells6 R.out.b1
  obtain ⟨⟨c0, c1, c2, c3, c4, c5⟩, f0, f1, f2, f3, f4, f5⟩ := cells6 R.out.b2
  go_upto_region 5 with fail
  obtain ⟨w3, e3⟩ : ∃ w3, put6 wc (w.heap.size + 1) (.int .i64 q.k) (.bool q.x) (.int .i64 q.n) (.int .i64 q.a) (.int .i64 q.l) (.string q.s) = w3 := ⟨_, rfl⟩
  have go := R.out.put1 q
  rw [e3] at go
  unfold put6 at e3
  rw [e3]
  replace R := Lib.hid go
  clear go e3 o0 o1 o2 o3 o4 o5 p0 p1 p2 p3 p4 p5 c0 c1 c2 c3 c4 c5 f0 f1 f2 f3 f4 f5
  go_wp2
  go_loopw [12] (fun x wr => ∃ j : Nat, j ≤ n ∧ (∀ i, i < j → S i = false) ∧ x = .int .i64 j ∧ F3 w wr d q Ob.zero) (fun x _ => n - (intOf x).toNat)
  case atStart => exact ⟨0, Nat.zero_le _, fun i hi => absurd hi (Nat.not_lt_zero _), rfl, R.out⟩
  case round =>
    obtain ⟨j, hj, hS, rfl, hr⟩ := hrel
    clear R
    have R := Lib.hid hr
    have HS := Lib.hid hS
    clear hr hS
    by_cases hlt : j < n
    · have t1 : (j : Int) < n := by omega
      obtain ⟨m, hm⟩ : ∃ m, m = 2 * j := ⟨_, rfl⟩
      have v1 : IntKind.i64.wrap (2 * (j : Int)) = m := by rw [IntWalk.i64_in _ (by omega)]; omega
      have v2 : wrap64 (2 * (j : Int)) = m := by rw [← IntWalk.i64_left]; exact v1
      have v3 : IntKind.i64.wrap ((m : Int) + 1) = ((m + 1 : Nat) : Int) := by rw [IntWalk.i64_in _ (by omega)]; omega
      have v4 : wrap64 ((m : Int) + 1) = ((m + 1 : Nat) : Int) := by rw [← IntWalk.i64_left]; exact v3
      have v5 : IntKind.i64.wrap ((j : Int) + 1) = (j : Int) + 1 := IntWalk.i64_in _ (by omega)
      have v6 : wrap64 ((j : Int) + 1) = (j : Int) + 1 := by rw [← IntWalk.i64_left]; exact v5
      have HJ := Lib.hid hlt
      have HM := Lib.hid hm
      clear hj hlt hm
      obtain ⟨⟨o0, o1, o2, o3, o4, o5⟩, _⟩ := cells6 R.out.b0
      obtain ⟨⟨p0, p1, p2, p3, p4, p5⟩, _⟩ := cells6 R.out.b1
      obtain ⟨⟨c0, c1, c2, c3, c4, c5⟩, f0, f1, f2, f3, f4, f5⟩ := cells6 R.out.b2
      go_wp2_with fail
      refine (C3.out j m _ HJ.out HM.out R.out.below).mono ?_
      rintro e wc ⟨rfl, kc⟩
      replace R := Lib.hid (R.out.later kc)
      clear kc o0 o1 o2 o3 o4 o5 p0 p1 p2 p3 p4 p5 c0 c1 c2 c3 c4 c5 f0 f1 f2 f3 f4 f5
      go_upto_region 11 with fail
      obtain ⟨wd, ed, kd, zd, od⟩ := ob_box wc (F j).k (F j).n (F j).a (F j).l (F j).x (F j).s
      rw [ed]
      replace R := Lib.hid (R.out.later kd)
      obtain ⟨g0, g1, g2, g3, g4, g5⟩ := od
      clear ed kd zd
      obtain ⟨⟨o0, o1, o2, o3, o4, o5⟩, _⟩ := cells6 R.out.b0
      obtain ⟨⟨p0, p1, p2, p3, p4, p5⟩, _⟩ := cells6 R.out.b1
      obtain ⟨⟨c0, c1, c2, c3, c4, c5⟩, f0, f1, f2, f3, f4, f5⟩ := cells6 R.out.b2
      go_wp2_with fail
      refine (C4.out j _ HJ.out).mono ?_
      rintro e we ⟨rfl, kc⟩
      replace R := Lib.hid (R.out.later kc)
      clear kc g0 g1 g2 g3 g4 g5 o0 o1 o2 o3 o4 o5 p0 p1 p2 p3 p4 p5 c0 c1 c2 c3 c4 c5 f0 f1 f2 f3 f4 f5
      cases hs : S j with
      | false =>
        have HF := Lib.hid hs
        clear hs
        go_wp2
        go_roundw
        case rel =>
          refine ⟨j + 1, HJ.out, fun i hi => ?_, by simp, R.out⟩
          rcases Nat.lt_succ_iff_lt_or_eq.1 hi with hi | rfl
          · exact HS.out i hi
          · exact HF.out
        case measure => simp [intOf]; have := HJ.out; omega
      | true =>
        have HF := Lib.hid hs
        clear hs
        obtain ⟨⟨o0, o1, o2, o3, o4, o5⟩, _⟩ := cells6 R.out.b0
        obtain ⟨⟨p0, p1, p2, p3, p4, p5⟩, _⟩ := cells6 R.out.b1
        obtain ⟨⟨c0, c1, c2, c3, c4, c5⟩, f0, f1, f2, f3, f4, f5⟩ := cells6 R.out.b2
        go_wp2
        (try simp only [Exit.inBlock, Exit.then])
        exact bodyPost_ret (ret_cell4 rfl _ _ _ _ _ _ _ _ _ _ rfl rfl rfl rfl (set6 R.out.b2 _ _ _ _ _ _) Try.underlying30 rfl (by kernel_rfl)) rfl ⟨⟨j, Nat.le_of_lt HJ.out, HS.out, fun _ => HF.out, rfl⟩, set6_below R.out.below (by omega) _ _ _ _ _ _⟩
    · obtain rfl : j = n := by omega
      clear hlt hj
      obtain ⟨⟨o0, o1, o2, o3, o4, o5⟩, _⟩ := cells6 R.out.b0
      obtain ⟨⟨p0, p1, p2, p3, p4, p5⟩, _⟩ := cells6 R.out.b1
      obtain ⟨⟨c0, c1, c2, c3, c4, c5⟩, f0, f1, f2, f3, f4, f5⟩ := cells6 R.out.b2
      go_wp2
      (try simp only [Exit.inBlock, Exit.then])
      exact bodyPost_ret (ret_cell4 rfl _ _ _ _ _ _ _ _ _ _ rfl rfl rfl rfl (set6 R.out.b2 _ _ _ _ _ _) Try.underlying30 rfl (by kernel_rfl)) rfl ⟨⟨j, Nat.le_refl _, HS.out, fun h => absurd h (Nat.lt_irrefl _), rfl⟩, set6_below R.out.below (by omega) _ _ _ _ _ _⟩
/-- The place of a key, or the number of pairs. -/
def atD (ps : List (Ob × Ob)) (k : Ob) : Nat := (ixD ps k ps.length).getD ps.length
section
variable {out : Nat → Prop} {hb rb rm : Nat} {P : List Cel} {ps : List (Ob × Ob)} {w : World}
theorem DictC.drE {P : List Cel} {d : Ob} {lk : Bool} {room : Nat} (D : DictC P d ps room lk) : drE P d = 0 := by
  rw [Go.Proofs.Ytlkbnldpecolbaa.drE, if_neg (fun e => e D.k), if_pos]
  obtain ⟨_, h2, h3⟩ := okO_iff.1 D.ok
  simp [mayH, h2, h3]
theorem DictC.drN {P : List Cel} {d : Ob} {lk : Bool} {room : Nat} (D : DictC P d ps room lk) : drN P d = room := by
  rw [Go.Proofs.Ytlkbnldpecolbaa.drN, if_pos D.drE, D.len, Int.tdiv_eq_ediv_of_nonneg (by omega)]
  omega
theorem DictC.dlN {P : List Cel} {d : Ob} {lk : Bool} {room : Nat} (D : DictC P d ps room lk) : dlN P d = ps.length := by
  have h0 : (itemsD ps room)[0]? = some (Ob.num ps.length) := rfl
  have hg : (getO P d 0).n = ps.length := by
    rw [show (0 : Int) = ((0 : Nat) : Int) from rfl, (D.get h0).2]
    rfl
  rw [Go.Proofs.Ytlkbnldpecolbaa.dlN, if_pos D.drE, D.drN, hg]
  have := D.le
  omega
theorem qfind (h : DP out hb rb P (H1 ps rm) w) (G : Good rm ps) (k : Ob) :
    Calls Try.prog 67 #[ptr rb, dO0.val, k.val] w fun e w' => e = .returned (.tuple #[(keyO (H1 ps rm) k).val, .int .i64 (if keyE (H1 ps rm) k = 0 then (atD ps (keyO (H1 ps rm) k) : Int) else 0), .int .i64 (if keyE (H1 ps rm) k = 0 then (ps.length : Int) else 0), .int .i64 (keyE (H1 ps rm) k)]) ∧ Below w.heap.size w w' := by
  have C1 : Hid (∀ wx, Below w.heap.size w wx → Calls Try.prog 72 #[ptr rb, dO0.val] wx fun e w' => e = .returned (.tuple #[.int .i64 (ps.length : Nat), .int .i64 0]) ∧ Below wx.heap.size wx w') := Lib.hid fun wx kx => (h.below kx).refLeaf fun own u R r e => by
    have := rlenD_tot r dO0
    rw [e, G.dc.dlN, G.dc.drE] at this
    exact this
  have C2 : Hid (∀ wx, Below w.heap.size w wx → Calls Try.prog 28 #[ptr rb, k.val] wx fun e w' => e = .returned (.tuple #[(keyO (H1 ps rm) k).val, .int .i64 (keyE (H1 ps rm) k)]) ∧ Below wx.heap.size wx w') := Lib.hid fun wx kx => (h.below kx).refLeaf fun own u R r e => by
    have := rkey_tot r k
    rw [e] at this
    exact this
  have hn : ps.length ≤ 1000 := Nat.le_trans G.le G.most
  by_cases hk : keyE (H1 ps rm) k = 0
  · rw [hk] at C2
    rw [hk, if_pos rfl, if_pos rfl]
    have hg : ∀ j, j < ps.length → ps[j]? = some (ps.getD j (Ob.zero, Ob.zero)) := fun j hj => by rw [List.getD_eq_getElem?_getD, List.getElem?_eq_getElem hj]; rfl
    refine (rfind_walk (fun j => (ps.getD j (Ob.zero, Ob.zero)).1) (fun j => decide (isKey (keyO (H1 ps rm) k) (ps.getD j (Ob.zero, Ob.zero)).1)) rb ps.length hn dO0 k (keyO (H1 ps rm) k) w C1 C2 (Lib.hid fun j m wx hj hm kx => (h.below kx).refLeaf fun own u R r e => ?_) (Lib.hid fun j wx hj => ?_)).mono ?_
    · have q := G.dc.get (itemsD_key (room := rm) (hg j hj)).1
      have := rget_tot r dO0 ((m + 1 : Nat) : Int)
      rw [e, hm, q.1, q.2] at this
      rw [hm]
      exact this
    · have q := G.same hk (List.mem_of_getElem? (hg j hj))
      have := rsame_any (ps.getD j (Ob.zero, Ob.zero)).1.k (ps.getD j (Ob.zero, Ob.zero)).1.n (ps.getD j (Ob.zero, Ob.zero)).1.a (ps.getD j (Ob.zero, Ob.zero)).1.l (keyO (H1 ps rm) k).k (keyO (H1 ps rm) k).n (keyO (H1 ps rm) k).a (keyO (H1 ps rm) k).l (ps.getD j (Ob.zero, Ob.zero)).1.x (keyO (H1 ps rm) k).x (ps.getD j (Ob.zero, Ob.zero)).1.s (keyO (H1 ps rm) k).s wx
      rw [q] at this
      exact this
    · rintro e w' ⟨⟨i, hi, h1, h2, rfl⟩, kb⟩
      refine ⟨?_, kb⟩
      have : atD ps (keyO (H1 ps rm) k) = i := by
        unfold atD
        by_cases hlt : i < ps.length
        · rw [ixD_only G.apart (hg i hlt) (of_decide_eq_true (h2 hlt))]
          rfl
        · obtain rfl : i = ps.length := by omega
          rw [ixD_no (fun j p hp hq => ?_)]
          · rfl
          · have hj := (List.getElem?_eq_some_iff.1 hp).1
            have := of_decide_eq_false (h1 j hj)
            rw [List.getD_eq_getElem?_getD, hp] at this
            exact this hq
      rw [this]
  · rw [if_neg hk, if_neg hk, show keyO (H1 ps rm) k = Ob.zero from by simp [keyO, hk]]
    exact rfind_err _ (by simpa using hk) rb ps.length hn dO0 k _ w C1 C2
end
end Go.Proofs.Ytlkbnldpecolbaa

/- Walks of tympanref12: Get. -/
namespace Go.Proofs.Ytlkbnldpecolbaa
open Go.RowKit
set_option linter.unusedVariables false
set_option linter.unusedSimpArgs false

set_option maxHeartbeats 1000000 in
set_option maxRecDepth 100000 in
theorem rget12_err (rb : Nat) (d k q : Ob) (E : Int) (hE : (E != 0) = true) (w : World)
    (C1 : Hid (∀ wx, Below w.heap.size w wx → Calls Try.prog 67 #[ptr rb, d.val, k.val] wx fun e w' => e = .returned (.tuple #[q.val, .int .i64 0, .int .i64 0, .int .i64 E]) ∧ Below wx.heap.size wx w')) :
    Calls Try.prog 32 #[ptr rb, d.val, k.val] w fun e w' => e = .returned (.tuple #[Ob.zero.val, .int .i64 E]) ∧ Below w.heap.size w w' := by
  simp only [Ob.val] at C1 ⊢
  go_enter Try.func32, Try.ntmps32
  go_upto_region 1 with fail
  obtain ⟨wb, eb, rb'⟩ := F3.start w d k Ob.zero
  simp only [Ob.zero] at eb
  rw [eb]
  have R := Lib.hid rb'
  clear eb rb'
  obtain ⟨⟨o0, o1, o2, o3, o4, o5⟩, _⟩ := cells6 R.out.b0
  obtain ⟨⟨p0, p1, p2, p3, p4, p5⟩, _⟩ := cells6 R.out.b1
  obtain ⟨⟨c0, c1, c2, c3, c4, c5⟩, f0, f1, f2, f3, f4, f5⟩ := cells6 R.out.b2
  go_wp2_with fail
  refine (C1.out _ R.out.below).mono ?_
  rintro e wc ⟨rfl, kc⟩
  replace R := Lib.hid (R.out.later kc)
  clear kc o0 o1 o2 o3 o4 o5 p0 p1 p2 p3 p4 p5 c0 c1 c2 c3 c4 c5 f0 f1 f2 f3 f4 f5
  go_upto_region 2 with fail
  obtain ⟨wd, ed, kd, zd, od⟩ := ob_box wc q.k q.n q.a q.l q.x q.s
  rw [ed]
  replace R := Lib.hid (R.out.later kd)
  clear ed kd zd od
  obtain ⟨⟨o0, o1, o2, o3, o4, o5⟩, _⟩ := cells6 R.out.b0
  obtain ⟨⟨p0, p1, p2, p3, p4, p5⟩, _⟩ := cells6 R.out.b1
  obtain ⟨⟨c0, c1, c2, c3, c4, c5⟩, f0, f1, f2, f3, f4, f5⟩ := cells6 R.out.b2
  go_wp2
  (try simp only [Exit.inBlock, Exit.then])
  exact bodyPost_ret (ret_cell rfl _ _ _ _ _ _ _ _ rfl rfl (set6 R.out.b2 _ _ _ _ _ _) Try.underlying30 rfl (by kernel_rfl)) rfl ⟨rfl, set6_below R.out.below (by omega) _ _ _ _ _ _⟩
set_option maxHeartbeats 1000000 in
set_option maxRecDepth 100000 in
theorem rget12_none (rb : Nat) (d k q : Ob) (n : Nat) (w : World)
    (C1 : Hid (∀ wx, Below w.heap.size w wx → Calls Try.prog 67 #[ptr rb, d.val, k.val] wx fun e w' => e = .returned (.tuple #[q.val, .int .i64 n, .int .i64 n, .int .i64 0]) ∧ Below wx.heap.size wx w')) :
    Calls Try.prog 32 #[ptr rb, d.val, k.val] w fun e w' => e = .returned (.tuple #[Ob.zero.val, .int .i64 9]) ∧ Below w.heap.size w w' := by
  simp only [Ob.val] at C1 ⊢
  go_enter Try.func32, Try.ntmps32
  go_upto_region 1 with fail
  obtain ⟨wb, eb, rb'⟩ := F3.start w d k Ob.zero
  simp only [Ob.zero] at eb
  rw [eb]
  have R := Lib.hid rb'
  clear eb rb'
  obtain ⟨⟨o0, o1, o2, o3, o4, o5⟩, _⟩ := cells6 R.out.b0
  obtain ⟨⟨p0, p1, p2, p3, p4, p5⟩, _⟩ := cells6 R.out.b1
  obtain ⟨⟨c0, c1, c2, c3, c4, c5⟩, f0, f1, f2, f3, f4, f5⟩ := cells6 R.out.b2
  go_wp2_with fail
  refine (C1.out _ R.out.below).mono ?_
  rintro e wc ⟨rfl, kc⟩
  replace R := Lib.hid (R.out.later kc)
  clear kc o0 o1 o2 o3 o4 o5 p0 p1 p2 p3 p4 p5 c0 c1 c2 c3 c4 c5 f0 f1 f2 f3 f4 f5
  go_upto_region 2 with fail
  obtain ⟨wd, ed, kd, zd, od⟩ := ob_box wc q.k q.n q.a q.l q.x q.s
  rw [ed]
  replace R := Lib.hid (R.out.later kd)
  clear ed kd zd od
  obtain ⟨⟨o0, o1, o2, o3, o4, o5⟩, _⟩ := cells6 R.out.b0
  obtain ⟨⟨p0, p1, p2, p3, p4, p5⟩, _⟩ := cells6 R.out.b1
  obtain ⟨⟨c0, c1, c2, c3, c4, c5⟩, f0, f1, f2, f3, f4, f5⟩ := cells6 R.out.b2
  go_wp2
  (try simp only [Exit.inBlock, Exit.then])
  exact bodyPost_ret (ret_cell rfl _ _ _ _ _ _ _ _ rfl rfl (set6 R.out.b2 _ _ _ _ _ _) Try.underlying30 rfl (by kernel_rfl)) rfl ⟨rfl, set6_below R.out.below (by omega) _ _ _ _ _ _⟩
set_option maxHeartbeats 1000000 in
set_option maxRecDepth 100000 in
theorem rget12_some (rb : Nat) (d k q : Ob) (x : Ob) (i n m : Nat) (hi : i < n) (hn : n ≤ 1000) (hm : m = 2 * i) (w : World)
    (C1 : Hid (∀ wx, Below w.heap.size w wx → Calls Try.prog 67 #[ptr rb, d.val, k.val] wx fun e w' => e = .returned (.tuple #[q.val, .int .i64 i, .int .i64 n, .int .i64 0]) ∧ Below wx.heap.size wx w'))
    (C2 : Hid (∀ wx, Below w.heap.size w wx → Calls Try.prog 70 #[ptr rb, d.val, .int .i64 ((m + 2 : Nat) : Int)] wx fun e w' => e = .returned (.tuple #[x.val, .int .i64 0]) ∧ Below wx.heap.size wx w')) :
    Calls Try.prog 32 #[ptr rb, d.val, k.val] w fun e w' => e = .returned (.tuple #[x.val, .int .i64 0]) ∧ Below w.heap.size w w' := by
  simp only [Ob.val] at C1 C2 ⊢
  have t1 : ((i : Int) == n) = false := by simp; omega
  have t2 : ¬ (i : Int) = n := by omega
  have t3 : ¬ i = n := by omega
  have v1 : IntKind.i64.wrap (2 * (i : Int)) = m := by rw [IntWalk.i64_in _ (by omega)]; omega
  have v2 : wrap64 (2 * (i : Int)) = m := by rw [← IntWalk.i64_left]; exact v1
  have v3 : IntKind.i64.wrap ((m : Int) + 2) = ((m + 2 : Nat) : Int) := by rw [IntWalk.i64_in _ (by omega)]; omega
  have v4 : wrap64 ((m : Int) + 2) = ((m + 2 : Nat) : Int) := by rw [← IntWalk.i64_left]; exact v3
  clear hi hn hm
  go_enter Try.func32, Try.ntmps32
  go_upto_region 1 with fail
  obtain ⟨wb, eb, rb'⟩ := F3.start w d k Ob.zero
  simp only [Ob.zero] at eb
  rw [eb]
  have R := Lib.hid rb'
  clear eb rb'
  obtain ⟨⟨o0, o1, o2, o3, o4, o5⟩, _⟩ := cells6 R.out.b0
  obtain ⟨⟨p0, p1, p2, p3, p4, p5⟩, _⟩ := cells6 R.out.b1
  obtain ⟨⟨c0, c1, c2, c3, c4, c5⟩, f0, f1, f2, f3, f4, f5⟩ := cells6 R.out.b2
  go_wp2_with fail
  refine (C1.out _ R.out.below).mono ?_
  rintro e wc ⟨rfl, kc⟩
  replace R := Lib.hid (R.out.later kc)
  clear kc o0 o1 o2 o3 o4 o5 p0 p1 p2 p3 p4 p5 c0 c1 c2 c3 c4 c5 f0 f1 f2 f3 f4 f5
  go_upto_region 2 with fail
  obtain ⟨wd, ed, kd, zd, od⟩ := ob_box wc q.k q.n q.a q.l q.x q.s
  rw [ed]
  replace R := Lib.hid (R.out.later kd)
  clear ed kd zd od
  obtain ⟨⟨o0, o1, o2, o3, o4, o5⟩, _⟩ := cells6 R.out.b0
  obtain ⟨⟨p0, p1, p2, p3, p4, p5⟩, _⟩ := cells6 R.out.b1
  obtain ⟨⟨c0, c1, c2, c3, c4, c5⟩, f0, f1, f2, f3, f4, f5⟩ := cells6 R.out.b2
  go_wp2_with fail
  refine (C2.out _ R.out.below).mono ?_
  rintro e wc ⟨rfl, kc⟩
  replace R := Lib.hid (R.out.later kc)
  clear kc o0 o1 o2 o3 o4 o5 p0 p1 p2 p3 p4 p5 c0 c1 c2 c3 c4 c5 f0 f1 f2 f3 f4 f5
  obtain ⟨⟨o0, o1, o2, o3, o4, o5⟩, _⟩ := cells6 R.out.b0
  obtain ⟨⟨p0, p1, p2, p3, p4, p5⟩, _⟩ := cells6 R.out.b1
  obtain ⟨⟨c0, c1, c2, c3, c4, c5⟩, f0, f1, f2, f3, f4, f5⟩ := cells6 R.out.b2
  go_wp2
  (try simp only [Exit.inBlock, Exit.then])
  exact bodyPost_ret (ret_cell rfl _ _ _ _ _ _ _ _ rfl rfl (set6 R.out.b2 _ _ _ _ _ _) Try.underlying30 rfl (by kernel_rfl)) rfl ⟨rfl, set6_below R.out.below (by omega) _ _ _ _ _ _⟩
section
variable {out : Nat → Prop} {hb rb rm : Nat} {P : List Cel} {ps : List (Ob × Ob)} {w : World}
theorem atD_some {k : Ob} {i : Nat} (h : ixD ps k ps.length = some i) : atD ps k = i := by rw [atD, h]; rfl
theorem atD_none {k : Ob} (h : ixD ps k ps.length = none) : atD ps k = ps.length := by rw [atD, h]; rfl
theorem qget12 (h : DP out hb rb P (H1 ps rm) w) (G : Good rm ps) (k : Ob) :
    Calls Try.prog 32 #[ptr rb, dO0.val, k.val] w fun e w' => e = .returned (.tuple #[(dgetO (H1 ps rm) ps k).val, .int .i64 (dgetE (H1 ps rm) ps k)]) ∧ Below w.heap.size w w' := by
  have C1 : Hid (∀ wx, Below w.heap.size w wx → _) := Lib.hid fun wx kx => qfind (h.below kx) G k
  by_cases hk : keyE (H1 ps rm) k = 0
  · simp only [hk, if_true] at C1
    rw [dgetO, dgetE, if_pos hk, if_pos hk]
    cases hi : ixD ps (keyO (H1 ps rm) k) ps.length with
    | none =>
      rw [atD_none hi] at C1
      exact rget12_none rb dO0 k _ ps.length w C1
    | some i =>
      rw [atD_some hi] at C1
      obtain ⟨hl, p, hp, _⟩ := ixD_some hi
      have e : ps.getD i (Ob.zero, Ob.zero) = p := by rw [List.getD_eq_getElem?_getD, hp]; rfl
      refine rget12_some rb dO0 k _ _ i ps.length (2 * i) hl (Nat.le_trans G.le G.most) rfl w C1 (Lib.hid fun wx kx => (h.below kx).refLeaf fun own u R r e2 => ?_)
      have q := G.dc.get (itemsD_key (room := rm) hp).2
      have := rget_tot r dO0 ((2 * i + 2 : Nat) : Int)
      rw [e2, q.1, q.2] at this
      simp only [e]
      exact this
  · simp only [hk, if_false] at C1
    rw [dgetO, dgetE, if_neg hk, if_neg hk]
    exact rget12_err rb dO0 k _ _ (by simpa using hk) w C1
end
end Go.Proofs.Ytlkbnldpecolbaa

/- How a stack of layer 14 lies in memory (the program's and the reference's alike); walks of New, Len, Clear, Peek. -/
namespace Go.Proofs.Ytlkbnldpecolbaa
open Go.RowKit
set_option linter.unusedVariables false
set_option linter.unusedSimpArgs false
set_option maxHeartbeats 1000000
set_option maxRecDepth 100000

/-- A stack of type T: its block sb, the slice v in it, its operands X. -/
structure Stk (T : TypeId) (sb : Nat) (v : Value) (X : List Ob) (w : World) : Prop where
  hdr : w.heap[sb]? = some (.cells #[v] T (0, 0))
  row : w.ownsRow 0 30 6 v X.length (obCells X)
  ne : v.ownBlock ≠ some sb
  len : X.length ≤ 200
/-- What a call has done to a stack: it has the operands X', and no other block has changed. -/
structure Did (T : TypeId) (sb : Nat) (v : Value) (w : World) (X' : List Ob) (w' : World) : Prop where
  ex : ∃ v', Stk T sb v' X' w' ∧ ∀ g, v'.ownBlock = some g → v.ownBlock = some g ∨ w.heap.size ≤ g
  kept : Kept (fun b => b < w.heap.size ∧ b ≠ sb ∧ v.ownBlock ≠ some b) w w'
section
variable {T : TypeId} {sb : Nat} {v : Value} {X : List Ob} {w w' : World}
theorem Stk.cell (h : Stk T sb v X w) : w.cell? ⟨sb, 0, none⟩ = some v := by
  rw [cellAt h.hdr]
  rfl
theorem Stk.free (h : Stk T sb v X w) : w.frozen? ⟨sb, 0, none⟩ = false := freeAt h.hdr 0
theorem Stk.lt (h : Stk T sb v X w) : sb < w.heap.size := blk_lt h.hdr
theorem Stk.form (h : Stk T sb v X w) : ∃ p cap, v = .slice p X.length cap := by
  obtain ⟨p, cap, e⟩ := owns_form h.row
  exact ⟨p, cap, e⟩
theorem Stk.same (h : Stk T sb v X w) (k : ∀ b, b = sb ∨ v.ownBlock = some b → w'.heap[b]? = w.heap[b]?) : Stk T sb v X w' :=
  ⟨(k _ (.inl rfl)).trans h.hdr, owns_at h.row fun g e => k g (.inr e), h.ne, h.len⟩
theorem Stk.blk (h : Stk T sb v X w) {b : Nat} (q : b = sb ∨ v.ownBlock = some b) : b < w.heap.size := by
  rcases q with rfl | q
  · exact h.lt
  · exact (h.row.lt b q).2
theorem Stk.below (h : Stk T sb v X w) (k : Below w.heap.size w w') : Stk T sb v X w' := h.same fun b q => k.block b (h.blk q)
theorem Stk.did (h : Stk T sb v X w) (k : Below w.heap.size w w') : Did T sb v w X w' := ⟨⟨v, h.below k, fun g e => .inl e⟩, kept_of k fun b q => q.1⟩
theorem Stk.nil (w : World) : Stk T w.heap.size (.slice none 0 0) [] (w.alloc (.cells #[.slice none 0 0] T)) :=
  ⟨heap_alloc_new _ _, World.ownsRow_nil _ _ _ _, by simp [Value.ownBlock], Nat.zero_le _⟩
theorem Did.store {v' : Value} {Y : List Ob} (h : Stk T sb v X w) (k : Kept (fun b => b < w.heap.size ∧ v.ownBlock ≠ some b) w w') (row : w'.ownsRow 0 30 6 v' Y.length (obCells Y)) (hg : ∀ g, v'.ownBlock = some g → v.ownBlock = some g ∨ w.heap.size ≤ g) (hY : Y.length ≤ 200) : Did T sb v w Y (w'.setCell ⟨sb, 0, none⟩ v') := by
  have hl := h.lt
  have hne : v'.ownBlock ≠ some sb := fun e => by
    rcases hg sb e with q | q
    · exact h.ne q
    · omega
  have hh : w'.heap[sb]? = some (.cells #[v] T (0, 0)) := (k.block sb ⟨hl, h.ne⟩).trans h.hdr
  refine ⟨⟨v', ⟨?_, ownsRow_setCell_other row hne _, hne, hY⟩, hg⟩, k.os, k.tape, k.output, ?_, fun b q => ?_⟩
  · rw [heap_setCell_same _ _ _ _ T _ hh]
    rfl
  · have := k.size
    simpa [World.setCell] using this
  · rw [heap_setCell_other _ _ _ _ q.2.1]
    exact k.block b ⟨q.1, q.2.2⟩
end

/-- A slice of objects that is read: its cells are those of L. -/
def Seg (w : World) (vp : Value) (L : List Ob) : Prop := (vp = .slice none 0 0 ∧ L = []) ∨ ∃ ad c, vp = .slice (some ad) L.length c ∧ ∀ j u, (obCells L)[j]? = some u → w.cell? (ad.add j) = some u
section
variable {w w' : World} {v vp : Value} {X L : List Ob}
theorem Seg.later (h : Seg w vp L) (k : Below w.heap.size w w') : Seg w' vp L := by
  rcases h with h | ⟨ad, c, e, hc⟩
  · exact .inl h
  · exact .inr ⟨ad, c, e, fun j u hj => cell_later k (hc j u hj)⟩
theorem Seg.of_owns {base : Nat} (h : w.ownsRow base 30 6 v X.length (obCells X)) : Seg w v X := by
  have hc := fun g e => h.cells (g := g) e
  rcases h.2 with ⟨rfl, h0⟩ | ⟨g, cap, cur, rfl, _⟩
  · exact .inl ⟨rfl, List.eq_nil_of_length_eq_zero h0⟩
  · exact .inr ⟨⟨g, 0, none⟩, cap, rfl, hc g rfl⟩
theorem obCells_drop (L : List Ob) (lo : Nat) (h : lo ≤ L.length) (j : Nat) : (obCells (L.drop lo))[j]? = (obCells L)[lo * 6 + j]? := by
  have e := obCells_append (L.take lo) (L.drop lo)
  rw [List.take_append_drop] at e
  rw [e, List.getElem?_append_right (by rw [obCells_length, List.length_take]; omega), obCells_length, List.length_take]
  congr 1
  omega
theorem obCells_take {L : List Ob} {k j : Nat} {u : Value} (h : (obCells (L.take k))[j]? = some u) : (obCells L)[j]? = some u := by
  have e := obCells_append (L.take k) (L.drop k)
  rw [List.take_append_drop] at e
  rw [e, List.getElem?_append_left (List.getElem?_eq_some_iff.1 h).1]
  exact h
/-- A part of a slice. -/
theorem Seg.sub {p : Option Addr} {cap : Nat} (h : Seg w (.slice p L.length cap) L) (lo hi m : Nat) (h1 : lo ≤ hi) (h2 : hi ≤ L.length) (h3 : hi ≤ m) (h4 : m ≤ cap) : Seg w (sliced p lo hi m 6) ((L.drop lo).take (hi - lo)) := by
  unfold sliced
  have hlen : ((L.drop lo).take (hi - lo)).length = hi - lo := by simp; omega
  rcases h with ⟨e, rfl⟩ | ⟨ad, c, e, hc'⟩
  · obtain ⟨rfl, _, rfl⟩ : p = none ∧ ([] : List Ob).length = 0 ∧ cap = 0 := by simpa using e
    simp at h2
    subst h2
    obtain rfl : lo = 0 := by omega
    obtain rfl : m = 0 := by omega
    exact .inl ⟨by simp, by simp⟩
  · obtain ⟨rfl, rfl⟩ : p = some ad ∧ cap = c := by simpa using e
    refine .inr ⟨if m = lo then ad else ad.add (lo * 6), m - lo, ?_, fun j u hj => ?_⟩
    · rw [hlen]
      split <;> rfl
    · have hj' := (List.getElem?_eq_some_iff.1 hj).1
      rw [obCells_length, hlen] at hj'
      have hj2 := obCells_take hj
      rw [obCells_drop _ _ (by omega)] at hj2
      rw [if_neg (by omega), Addr.add_add]
      exact hc' _ _ hj2
/-- What an append gives: the slice's own row has grown, or a new one is made. -/
structure AppOf (base : Nat) (v : Value) (Y : List Ob) (w : World) (v' : Value) (w' : World) : Prop where
  row : w'.ownsRow base 30 6 v' Y.length (obCells Y)
  grow : w.grownBy w' v.ownBlock
  own : ∀ g, v'.ownBlock = some g → v.ownBlock = some g ∨ w.heap.size ≤ g
theorem seg_append {base : Nat} (row : w.ownsRow base 30 6 v X.length (obCells X)) (s : Seg w vp L) (hb : base ≤ w.heap.size) (hX : X.length ≤ 1000) (hL : L.length ≤ 1000) (ty : TypeId) :
    ∃ v' w', (Builtin.append_ #[46, 46] ty #[v, vp]).run Try.prog w = .ok v' w' ∧ AppOf base v (X ++ L) w v' w' := by
  obtain ⟨i0, hi, hz0, hz1, hz2⟩ := info_parts info24
  rcases s with ⟨rfl, rfl⟩ | ⟨ad, c, rfl, hc⟩
  · refine ⟨v, w, ?_, ⟨by simpa using row, ⟨rfl, rfl, rfl, Nat.le_refl _, fun _ _ _ => rfl⟩, fun g e => .inl e⟩⟩
    have hu := Try.underlying46
    rcases row.2 with ⟨rfl, _⟩ | ⟨g, cap, cur, rfl, _, _, hn, _⟩
    · simp [Builtin.append_, run_underlying hu, sizeOf, typeInfo, hi, Builtin.lenOf, Builtin.firstCells, loadCells, loadCellsFrom]
    · simp [Builtin.append_, run_underlying hu, sizeOf, typeInfo, hi, Builtin.lenOf, Builtin.firstCells, loadCells, loadCellsFrom, hn, storeCells]
  · obtain ⟨v', w', hr, h2, h3, _, h5⟩ := run_append_own_at (P := Try.prog) w base 46 ty 30 i0 _ 6 56 Try.underlying46 hi hz0 hz1 hz2 rfl (by decide) v X.length (obCells X) row ad L.length c (obCells L) (obCells_length L) hc (obCells_one L) (by unfold maxLen; omega) (by omega) hb
    refine ⟨v', w', hr, ⟨by rw [List.length_append, obCells_append]; exact h2, h3, fun g e => ?_⟩⟩
    rcases h5 with q | q
    · exact .inl (q ▸ e)
    · rw [q] at e
      exact .inr (Nat.le_of_eq (Option.some.inj e))
/-- Nobody else's block has changed. -/
theorem AppOf.kept {base : Nat} {v v' : Value} {Y : List Ob} {w w' : World} (h : AppOf base v Y w v' w') : Kept (fun b => b < w.heap.size ∧ v.ownBlock ≠ some b) w w' :=
  ⟨h.grow.os, h.grow.tape, h.grow.output, h.grow.size, fun b q => h.grow.block b q.1 fun e => q.2 e.symm⟩
theorem Stk.after {T : TypeId} {sb : Nat} {base : Nat} {w4 w5 : World} {v' : Value} {Y : List Ob} (h : Stk T sb v X w) (k : Below w.heap.size w w4) (a : AppOf base v Y w4 v' w5) (hY : Y.length ≤ 200) : Did T sb v w Y (w5.setCell ⟨sb, 0, none⟩ v') :=
  Did.store h ⟨a.grow.os.trans k.os, a.grow.tape.trans k.tape, a.grow.output.trans k.output, Nat.le_trans k.size a.grow.size, fun b q => (a.grow.block b (Nat.lt_of_lt_of_le q.1 k.size) fun e => q.2 e.symm).trans (k.block b q.1)⟩ (a.row.mono (Nat.zero_le _)) (fun g e => (a.own g e).imp id fun q => Nat.le_trans k.size q) hY
theorem ObAt.same {b : Nat} {k n a l : Int} {x : Bool} {s : ByteArray} (h : ObAt w b k x n a l s) (q : w'.heap[b]? = w.heap[b]?) : ObAt w' b k x n a l s := by
  obtain ⟨c0, c1, c2, c3, c4, c5⟩ := h
  have e : ∀ j, w'.cell? ⟨b, j, none⟩ = w.cell? ⟨b, j, none⟩ := fun j => World.cell?_of_block q
  exact ⟨(e _).trans c0, (e _).trans c1, (e _).trans c2, (e _).trans c3, (e _).trans c4, (e _).trans c5⟩
theorem ObAt.lt {b : Nat} {k n a l : Int} {x : Bool} {s : ByteArray} (h : ObAt w b k x n a l s) : b < w.heap.size := World.block_lt_of_cell? w _ h.1
end
end Go.Proofs.Ytlkbnldpecolbaa
