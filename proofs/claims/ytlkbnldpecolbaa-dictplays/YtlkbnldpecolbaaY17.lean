/- Y17: Q12, U1, U2, U3. -/
import Derived.Test.YtlkbnldpecolbaaY16
/- tympanref11: Set of a byte in a heap of strings; tympanref13: how its saves lie. -/
namespace Go.Proofs.Ytlkbnldpecolbaa
open Go.RowKit
set_option linter.unusedVariables false
set_option maxHeartbeats 1000000
set_option maxRecDepth 100000

/-- A heap of strings that nobody has locked. -/
def Strs (P : List Cel) : Prop := ∀ c ∈ P, c.k = 8 ∧ c.lk = false
theorem Strs.set {P : List Cel} (h : Strs P) (o : Ob) (i : Int) (x : Ob) : Strs (setP P o i x) := by
  unfold setP
  split
  · intro d hd
    obtain ⟨t, ht⟩ := List.mem_iff_getElem?.1 hd
    rw [List.getElem?_set] at ht
    split at ht
    · next et =>
      split at ht
      · next hl =>
        obtain rfl := Option.some.inj ht
        have hc : cellOf P o = P[o.n.toNat] := by
          unfold cellOf
          rw [List.getD_eq_getElem?_getD, List.getElem?_eq_getElem hl]
          rfl
        have := h _ (List.getElem_mem hl)
        rw [← hc] at this
        unfold putItem
        rw [if_pos this.1]
        exact this
      · cases ht
    · exact h d (cell_mem ht)
  · exact h
section
variable {own : Nat → Prop} {rb : Nat} {v : Value} {R : List RC} {w : World}
theorem rset_str (h : RH own rb v R w) (ho : ∀ b, own b → b < w.heap.size) (hs : Strs (cels R)) (o : Ob) (c : Int) (c0 : 0 ≤ c) (c1 : c ≤ 255) :
    Calls Try.prog 69 #[ptr rb, o.val, .int .i64 0, (Ob.num c).val] w fun e w' => e = .returned (.int .i64 (setE (cels R) o 0 (Ob.num c))) ∧ (∃ R', RH (Plus own w w') rb v R' w' ∧ cels R' = setP (cels R) o 0 (Ob.num c)) ∧ Kept (fun b => b < w.heap.size ∧ b ≠ rb ∧ v.ownBlock ≠ some b) w w' := by
  have hroom := Lib.hid (fun wx (kx : Below w.heap.size w wx) => rroom_any (h.below kx) o)
  have keep : ∀ w', Below w.heap.size w w' → setE (cels R) o 0 (Ob.num c) ≠ 0 → (∃ R', RH (Plus own w w') rb v R' w' ∧ cels R' = setP (cels R) o 0 (Ob.num c)) ∧ Kept (fun b => b < w.heap.size ∧ b ≠ rb ∧ v.ownBlock ≠ some b) w w' := fun w' k hE =>
    ⟨⟨R, h.kept (fun b q => .inl q) k.size (fun b q hb => k.block b hb), by rw [setP, if_neg hE]⟩, kept_of k fun b q => q.1⟩
  cases hok : okO (cels R) o
  · have hE := errO_no hok
    have e : setE (cels R) o 0 (Ob.num c) = errO (cels R) o := by simp [setE, hok]
    refine (rset_err rb o.k o.n o.a o.l 3 c 0 0 0 _ _ (errO (cels R) o) o.x false o.s ⟨#[]⟩ w (by simpa using hE) hroom).mono ?_
    rintro e' w' ⟨rfl, k⟩
    exact ⟨by rw [e], keep w' k (by rw [e]; exact hE)⟩
  · have hE := errO_ok hok
    rw [hE] at hroom
    obtain ⟨b0, b1, _, _, _, _, b6, _⟩ := ok_bd hok
    have hm := hs _ (cell_mem (cellOf_get (P := cels R) b0 b1))
    have hk : o.k = 8 := by rw [← b6]; exact hm.1
    by_cases hl : 0 < lenO (cels R) o
    · have e : setE (cels R) o 0 (Ob.num c) = 0 := by
        rw [setE, hok, hm.2]
        simp [hk, hl, Ob.num]
        omega
      have := rset_byte h ho o 0 c hok hk hl hm.2 c0 c1
      rw [e]
      exact this
    · have e : setE (cels R) o 0 (Ob.num c) = 12 := by
        rw [setE, hok]
        simp [hl]
      refine (rset_index rb o.k o.n o.a o.l 3 c 0 0 0 _ _ o.x false o.s ⟨#[]⟩ w (.inr ⟨rfl, decide_eq_true (by omega)⟩) hroom).mono ?_
      rintro e' w' ⟨rfl, k⟩
      exact ⟨by rw [e], keep w' k (by rw [e]; decide)⟩
end
end Go.Proofs.Ytlkbnldpecolbaa

/- Walks of tympanref11: nulls. -/
namespace Go.Proofs.Ytlkbnldpecolbaa
open Go.RowKit
set_option linter.unusedVariables false

set_option maxRecDepth 100000 in
theorem rnulls_any (n : Nat) (hn : n ≤ 40000) (w : World) :
    Calls Try.prog 62 #[.int .i64 n] w fun e w' => e = .returned (.slice (some ⟨w.heap.size, 0, none⟩) n n) ∧ w'.ownsRow w.heap.size 30 6 (.slice (some ⟨w.heap.size, 0, none⟩) n n) n (obCells (List.replicate n Ob.null)) ∧ Below w.heap.size w w' ∧ w.heap.size < w'.heap.size := by
  obtain ⟨i0, hi, hz0, hz1, hz2⟩ := info_parts info24
  go_enter Try.func62, Try.ntmps62
  go_wp2_with (first
    | (refine wpList_make_full w rfl _ _ 46 rfl w.heap.size 30 i0 (obV 0 false 0 0 0 ⟨#[]⟩) 6 Try.underlying46 hi hz0 hz1 .i64 .i64 _ _ n rfl rfl rfl rfl (by rw [hz2]; omega) (by unfold maxLen; omega) (Nat.le_refl _) ?_))
  intro w1 hown hgrow
  rw [made_zero] at hown
  have HO := Lib.hid hown
  have HB : Hid (Below w.heap.size w w1) := Lib.hid ((Below.refl _ w).grown hgrow (Nat.le_refl _) (fun k e => by cases e))
  have HL : Hid (w.heap.size < w1.heap.size) := Lib.hid (hown.lt _ rfl).2
  clear hown hgrow
  go_wp2
  go_loopw [4] (fun i wr => ∃ k : Nat, k ≤ n ∧ i = .int .i64 k ∧ wr.ownsRow w.heap.size 30 6 (.slice (some ⟨w.heap.size, 0, none⟩) n n) n (obCells (nullsTo n k)) ∧ Below w.heap.size w wr ∧ w.heap.size < wr.heap.size) (fun i _ => n - (intOf i).toNat)
  case atStart => exact ⟨0, Nat.zero_le _, rfl, HO.out, HB.out, HL.out⟩
  case round =>
    obtain ⟨k, hk, rfl, hown, hbel, hsz⟩ := hrel
    have R1 := Lib.hid hown
    have R2 := Lib.hid hbel
    have R3 := Lib.hid hsz
    have hc : k < n → wr.cell? ⟨w.heap.size, k * 6, none⟩ = some (.int .i64 0) := fun h => by
      have := obCells_get (nullsTo_get h) (j := 0) (by omega)
      rw [hown.cellAt (k * 6) (by omega)]
      simpa [Ob.cells, Ob.zero] using this
    have hf : wr.frozen? ⟨w.heap.size, k * 6, none⟩ = false := hown.frozenAt _
    clear hown hbel hsz
    go_wp2
    · have hlt : k < n := by assumption
      go_roundw
      case rel =>
        have S := R1.out.stored (k * 6) (.int .i64 1)
        rw [nullsTo_set hlt] at S
        exact ⟨k + 1, by omega, by go_num, S.1, R2.out.setCell (p := ⟨w.heap.size, k * 6, none⟩) (Nat.le_refl _) _, by have := R3.out; simpa [World.setCell] using this⟩
      case measure => simp [intOf]; omega
    · have e : k = n := by omega
      subst e
      go_ret
      have h1 := R1.out
      rw [nullsTo_all] at h1
      exact ⟨rfl, h1, R2.out, R3.out⟩
end Go.Proofs.Ytlkbnldpecolbaa

/- Walks of tympanref11: make, whatever there is room for; Array. -/
namespace Go.Proofs.Ytlkbnldpecolbaa
open Go.RowKit
set_option linter.unusedVariables false

/-- What make answers for a cell of n items or bytes. -/
def mkE (P : List Cel) (n : Nat) : Int := if P.length < 2000 ∧ usedP P + n ≤ 40000 then 0 else 5
def mkO (P : List Cel) (k : Int) (n : Nat) : Ob := if mkE P n = 0 then ⟨k, false, P.length, 0, if k = 10 then 0 else n, ⟨#[]⟩⟩ else Ob.zero
def mkP (P : List Cel) (c : Cel) : List Cel := if mkE P c.size = 0 then P ++ [c] else P
section
variable {own : Nat → Prop} {rb : Nat} {v : Value} {R : List RC} {w : World}
theorem RH.plus (h : RH own rb v R w) {w' : World} (k : Below w.heap.size w w') : RH (Plus own w w') rb v R w' := h.kept (fun b q => .inl q) k.size fun b q hb => k.block b hb
theorem below_rb {w w' : World} (rb : Nat) (k : Below w.heap.size w w') : Kept (fun b => b < w.heap.size ∧ b ≠ rb) w w' := ⟨k.os, k.tape, k.output, k.size, fun b q => k.block b q.1⟩
theorem rmake_tot (h : RH own rb v R w) (ho : ∀ b, own b → b < w.heap.size) (r : RC) (hr : rowC w (Im own rb v) r.it r.c.it.length (obCells r.c.it) ∧ rowC w (Im own rb v) r.bs r.c.bs.length (byCells r.c.bs)) (hk : (r.c.k = 8 ∧ r.c.it = []) ∨ ((r.c.k = 9 ∨ r.c.k = 10) ∧ r.c.bs = [])) (hz : r.c.size ≤ 40001) :
    Calls Try.prog 63 #[ptr rb, rcV r.c.k r.it r.bs r.c.lk] w fun e w' => e = .returned (.tuple #[(mkO (cels R) r.c.k r.c.size).val, .int .i64 (mkE (cels R) r.c.size)]) ∧ (∃ v' R', RH (Plus own w w') rb v' R' w' ∧ cels R' = mkP (cels R) r.c ∧ (v' = v ∨ ∀ g, v'.ownBlock = some g → w.heap.size ≤ g)) ∧ Kept (fun b => b < w.heap.size ∧ b ≠ rb) w w' := by
  have hlen := cels_length R
  by_cases hE : R.length < 2000 ∧ usedP (cels R) + r.c.size ≤ 40000
  · have e0 : mkE (cels R) r.c.size = 0 := by unfold mkE; rw [hlen, if_pos hE]
    refine (rmake_ok h ho r hr hk hE.1 hE.2 _ rfl).mono ?_
    rintro e w' ⟨rfl, ⟨v', g1, g2⟩, k⟩
    refine ⟨?_, ⟨v', _, g1, by rw [mkP, e0, if_pos rfl, cels_append]; rfl, .inr g2⟩, k⟩
    rw [mkO, e0, if_pos rfl, hlen]
    unfold Ob.val
    split <;> rfl
  · have e0 : mkE (cels R) r.c.size = 5 := by unfold mkE; rw [hlen, if_neg hE]
    have e1 : mkO (cels R) r.c.k r.c.size = Ob.zero := by rw [mkO, e0]; rfl
    have e2 : mkP (cels R) r.c = cels R := by rw [mkP, e0]; rfl
    rw [e0, e1, e2]
    obtain ⟨p, cap, rfl, _⟩ := h.row.form
    obtain ⟨p1, c1, e3, _⟩ := hr.1.form
    obtain ⟨p2, c2, e4, _⟩ := hr.2.form
    by_cases hl : R.length < 2000
    · have hu := h.wf.used
      refine (rmake_used rb R.length cap (usedP (cels R)) r.c.size p r.c.k r.it r.bs r.c.lk w hl h.hcell (by omega) ⟨hu, by omega⟩ (Lib.hid fun wx kx => rused_any (h.below kx)) (Lib.hid fun wx => ?_)).mono ?_
      · rw [e3, e4]
        refine rcsize_any r.c.k p1 p2 _ c1 _ c2 _ r.c.lk wx ?_
        rw [IntWalk.i64_in _ (by unfold Cel.size at hz; omega)]
        unfold Cel.size
        omega
      · rintro e w' ⟨rfl, k⟩
        exact ⟨rfl, ⟨_, R, h.plus k, rfl, .inl rfl⟩, below_rb rb k⟩
    · refine (rmake_full rb R.length cap p r.c.k r.it r.bs r.c.lk w (by omega) h.hcell).mono ?_
      rintro e w' ⟨rfl, k⟩
      exact ⟨rfl, ⟨_, R, h.plus k, rfl, .inl rfl⟩, below_rb rb k⟩
end
end Go.Proofs.Ytlkbnldpecolbaa

/- Walks of tympanref11: Array. -/
namespace Go.Proofs.Ytlkbnldpecolbaa
open Go.RowKit
set_option linter.unusedVariables false

/-- Array. -/
def arrE (P : List Cel) (n : Int) : Int := if n < 0 then 2 else mkE P n.toNat
def arrO (P : List Cel) (n : Int) : Ob := if arrE P n = 0 then mkO P 9 n.toNat else Ob.zero
def arrP (P : List Cel) (n : Int) : List Cel := if n < 0 then P else mkP P ⟨9, false, List.replicate n.toNat Ob.null, []⟩
section
variable {own : Nat → Prop} {rb : Nat} {v : Value} {R : List RC} {w : World}
theorem mkE_far {P : List Cel} {n : Nat} (h : 40000 < n) : mkE P n = 5 := by unfold mkE; rw [if_neg (by omega)]
end
end Go.Proofs.Ytlkbnldpecolbaa
