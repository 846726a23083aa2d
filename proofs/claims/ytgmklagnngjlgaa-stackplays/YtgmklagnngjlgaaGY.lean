/- GY: G8, G9, GA, GB. -/
import Derived.Test.YtgmklagnngjlgaaGX
/- Walks of stack: Items; the helper Same. -/
namespace Go.Proofs.Ytgmklagnngjlgaa
open Go.RowKit
set_option linter.unusedVariables false
set_option linter.unusedSimpArgs false
set_option maxHeartbeats 1000000
set_option maxRecDepth 100000

theorem eql33_nil (w : World) (a : Option Addr) (n c : Nat) : (binOp .eql 33 (.slice a n c) (.slice none 0 0)).run Try.prog w = .ok (.bool a.isNone) w := Lib.run_eql_slice_nil w _ _ a n c 0 0 under33
theorem clone_any {w : World} {vp : Value} {L : List Ob} (h : Seg w vp L) (hL : L.length ≤ 1000) : Calls Try.prog 122 #[vp] w fun e w' => ∃ v', e = .returned v' ∧ w'.ownsRow w.heap.size 24 6 v' L.length (obCells L) ∧ Below w.heap.size w w' := by
  have hq := eql33_nil
  rcases h with ⟨rfl, rfl⟩ | ⟨ad, c, rfl, hc⟩
  · have q0 := fun w => hq w none 0 0
    clear hq
    go_enter Try.func122, Try.ntmps122
    go_wp2
    go_ret
    exact ⟨_, rfl, World.ownsRow_nil _ _ _ _, Below.refl _ _⟩
  · have q0 := fun w => hq w (some ad) L.length c
    have HC := Lib.hid hc
    have HL := Lib.hid hL
    clear hq hc hL
    go_enter Try.func122, Try.ntmps122
    have S : Hid (Seg (w.alloc (.cells #[] 24)) (.slice (some ad) L.length c) L) := Lib.hid (Seg.later (.inr ⟨ad, c, rfl, HC.out⟩) (box_below _ _))
    have RW : Hid ((w.alloc (.cells #[] 24)).ownsRow w.heap.size 24 6 (.slice (some ⟨w.heap.size, 0, none⟩) ([] : List Ob).length 0) ([] : List Ob).length (obCells [])) := Lib.hid (World.ownsRow_made w #[] 0 (Nat.le_refl _) (Nat.zero_le _) rfl)
    go_wp2_with (first
      | (at_builtin; refine wpList_append_ex rfl _ _ 33 rfl (.slice (some ⟨w.heap.size, 0, none⟩) 0 0) (.slice (some ad) L.length c) rfl rfl _ (seg_append RW.out S.out (by simp) (Nat.zero_le _) HL.out _) ?_; rintro v5 w5 ap))
    go_ret
    have k := (box_below w (.cells #[] 24))
    exact ⟨_, rfl, ap.row, k.grown ap.grow k.size fun g e => (RW.out.lt g e).1⟩
theorem itemsS_any {T : TypeId} {sb : Nat} {v : Value} {X : List Ob} {w : World} (h : Stk 166 sb v X w) : Calls Try.prog 77 #[ptr sb] w fun e w' => ∃ v', e = .returned v' ∧ w'.ownsRow w.heap.size 24 6 v' X.length (obCells X) ∧ Below w.heap.size w w' := by
  have q := Lib.hid (clone_any (Seg.of_owns h.row) (by have := h.len; omega))
  obtain ⟨p, cap, rfl⟩ := h.form
  have h0 := h.cell
  clear h
  go_enter Try.func77, Try.ntmps77
  go_wp2_with fail
  refine q.out.mono ?_
  rintro e wb ⟨v', rfl, row, kb⟩
  obtain ⟨p', c', rfl⟩ := owns_form (row.mono (Nat.zero_le _))
  have R := Lib.hid row
  have K := Lib.hid kb
  clear row kb
  go_wp2
  go_ret
  exact ⟨_, rfl, R.out, K.out⟩
/-- The cells of the i-th object of a slice. -/
theorem Seg.item {w : World} {vp : Value} {L : List Ob} (h : Seg w vp L) {i : Nat} {o : Ob} (hi : L[i]? = some o) : ∃ ad c, vp = .slice (some ad) L.length c ∧ ∀ j u, o.cells[j]? = some u → w.cell? ((ad.add (i * 6)).add j) = some u := by
  have hl := (List.getElem?_eq_some_iff.1 hi).1
  rcases h with ⟨_, rfl⟩ | ⟨ad, c, rfl, hc⟩
  · simp at hi
  · refine ⟨ad, c, rfl, fun j u hj => ?_⟩
    have hj6 : j < 6 := by have := (List.getElem?_eq_some_iff.1 hj).1; simpa [Ob.cells] using this
    rw [Addr.add_add]
    exact hc _ _ (by rw [obCells_get hi hj6]; exact hj)
theorem same_quiet {w : World} {va vb : Value} {L : List Ob} (ha : Seg w va L) (hb : Seg w vb L) (hL : L.length ≤ 1000) : Calls Try.prog 45 #[va, vb] w fun e w' => e = .returned (.bool true) ∧ ∃ m, w' = w.drewN m := by
  have HA := Lib.hid ha
  have HB := Lib.hid hb
  have HL := Lib.hid hL
  obtain ⟨pa, ca, rfl⟩ : ∃ p c, va = .slice p L.length c := by
    rcases ha with ⟨rfl, rfl⟩ | ⟨ad, c, rfl, _⟩
    · exact ⟨_, _, rfl⟩
    · exact ⟨_, _, rfl⟩
  obtain ⟨pb, cb, rfl⟩ : ∃ p c, vb = .slice p L.length c := by
    rcases hb with ⟨rfl, rfl⟩ | ⟨ad, c, rfl, _⟩
    · exact ⟨_, _, rfl⟩
    · exact ⟨_, _, rfl⟩
  clear ha hb hL
  go_enter Try.func45, Try.ntmps45
  go_wp2
  go_loopw [5] (fun i wr => ∃ j : Nat, j ≤ L.length ∧ i = .int .i64 j ∧ ∃ q, wr = w.drewN q) (fun i _ => L.length - (intOf i).toNat)
  case atStart => exact ⟨0, Nat.zero_le _, rfl, 0, rfl⟩
  case round =>
    obtain ⟨j, hj, rfl, q, hw⟩ := hrel
    have HW := Lib.hid hw
    have HK : Hid (Below w.heap.size w wr) := Lib.hid (hw ▸ below_drewN w q)
    clear hw
    by_cases hlt : j < L.length
    · have t1 : (j : Int) < L.length := by omega
      have t0 : (0 : Int) ≤ j := by omega
      have HJ := Lib.hid hlt
      have w1 : IntKind.i64.wrap ((j : Int) + 1) = (j : Int) + 1 := IntWalk.i64_in _ (by have := HL.out; omega)
      have w2 : wrap64 ((j : Int) + 1) = (j : Int) + 1 := by rw [← IntWalk.i64_left]; exact w1
      obtain ⟨o, ho⟩ : ∃ o, L[j]? = some o := ⟨_, List.getElem?_eq_getElem hlt⟩
      obtain ⟨ada, ca', ea, cca⟩ := (HA.out.later HK.out).item ho
      obtain ⟨adb, cb', eb, ccb⟩ := (HB.out.later HK.out).item ho
      obtain ⟨rfl, rfl⟩ : pa = some ada ∧ ca = ca' := by simpa using ea
      obtain ⟨rfl, rfl⟩ : pb = some adb ∧ cb = cb' := by simpa using eb
      have c0 : wr.cell? (ada.add (j * 6)) = some _ := cca 0 _ rfl
      have c1 : wr.cell? ⟨(ada.add (j * 6)).block, (ada.add (j * 6)).off + 1, none⟩ = some _ := cca 1 _ rfl
      have c2 : wr.cell? ⟨(ada.add (j * 6)).block, (ada.add (j * 6)).off + 2, none⟩ = some _ := cca 2 _ rfl
      have c3 : wr.cell? ⟨(ada.add (j * 6)).block, (ada.add (j * 6)).off + 3, none⟩ = some _ := cca 3 _ rfl
      have c4 : wr.cell? ⟨(ada.add (j * 6)).block, (ada.add (j * 6)).off + 4, none⟩ = some _ := cca 4 _ rfl
      have c5 : wr.cell? ⟨(ada.add (j * 6)).block, (ada.add (j * 6)).off + 5, none⟩ = some _ := cca 5 _ rfl
      have d0 : wr.cell? (adb.add (j * 6)) = some _ := ccb 0 _ rfl
      have d1 : wr.cell? ⟨(adb.add (j * 6)).block, (adb.add (j * 6)).off + 1, none⟩ = some _ := ccb 1 _ rfl
      have d2 : wr.cell? ⟨(adb.add (j * 6)).block, (adb.add (j * 6)).off + 2, none⟩ = some _ := ccb 2 _ rfl
      have d3 : wr.cell? ⟨(adb.add (j * 6)).block, (adb.add (j * 6)).off + 3, none⟩ = some _ := ccb 3 _ rfl
      have d4 : wr.cell? ⟨(adb.add (j * 6)).block, (adb.add (j * 6)).off + 4, none⟩ = some _ := ccb 4 _ rfl
      have d5 : wr.cell? ⟨(adb.add (j * 6)).block, (adb.add (j * 6)).off + 5, none⟩ = some _ := ccb 5 _ rfl
      have qe : ∀ w, (binOp .eql 24 (.agg #[.int .i64 o.k, .bool o.x, .int .i64 o.n, .int .i64 o.a, .int .i64 o.l, .string o.s]) (.agg #[.int .i64 o.k, .bool o.x, .int .i64 o.n, .int .i64 o.a, .int .i64 o.l, .string o.s])).run Try.prog w = .ok (.bool true) w := fun w => by rw [eqO]; simp
      clear ea eb cca ccb ho
      go_wp2_with fail
      go_quiet (fail)
      go_wp2
      go_roundw
      case rel => exact ⟨j + 1, HJ.out, by go_num, _, by rw [HW.out, World.drewN_drewN]⟩
      case measure => exact measure_up L.length j _ (by go_num) HJ.out
    · have e : j = L.length := by omega
      subst e
      have t1 : ¬ ((L.length : Int) < L.length) := by omega
      go_wp2
      go_ret
      exact ⟨rfl, _, HW.out⟩
theorem same_yes {w : World} {va vb : Value} {L : List Ob} (ha : Seg w va L) (hb : Seg w vb L) (hL : L.length ≤ 1000) : Calls Try.prog 45 #[va, vb] w fun e w' => e = .returned (.bool true) ∧ Below w.heap.size w w' := by
  refine (same_quiet ha hb hL).mono ?_
  rintro e w' ⟨rfl, m, rfl⟩
  exact ⟨rfl, below_drewN _ _⟩
end Go.Proofs.Ytgmklagnngjlgaa

/- A stack beside blocks that it does not touch: its calls; the laws' known case, and a stack of whole numbers. -/
namespace Go.Proofs.Ytgmklagnngjlgaa
open Go.RowKit
set_option linter.unusedVariables false
set_option linter.unusedSimpArgs false
set_option maxHeartbeats 1000000
set_option maxRecDepth 100000

def pushE (X : List Ob) (o : Ob) : Int := if o.may then (if X.length < 200 then 0 else 8) else 1
def pushP (X : List Ob) (o : Ob) : List Ob := if pushE X o = 0 then X ++ [o] else X
def peekE (X : List Ob) (i : Int) : Int := if i < 0 then 2 else if X.length ≤ i then 7 else 0
def peekO (X : List Ob) (i : Int) : Ob := if peekE X i = 0 then X.getD (X.length - 1 - i.toNat) Ob.zero else Ob.zero
def popP (X : List Ob) : List Ob := X.take (X.length - 1)
def dupE (X : List Ob) (n : Int) : Int := if n < 0 then 2 else if X.length < n then 7 else if 200 < X.length + n then 8 else 0
def dupP (X : List Ob) (n : Int) : List Ob := if dupE X n = 0 then X ++ X.drop (X.length - n.toNat) else X
def rollE (X : List Ob) (n : Int) : Int := if n < 0 then 2 else if X.length < n then 7 else 0
def rollQ (X : List Ob) (n j : Int) : List Ob := if rollE X n = 0 then rollP X n.toNat j else X
theorem rollP_zero (X : List Ob) (j : Int) : rollP X 0 j = X := by simp [rollP, rollL]

section
variable {sb : Nat} {v : Value} {X : List Ob} {w : World}
theorem push_did (h : Stk 166 sb v X w) (o : Ob) : Calls Try.prog 61 #[ptr sb, o.val] w fun e w' => e = .returned (.int .i64 (pushE X o)) ∧ Did 166 sb v w (pushP X o) w' := by
  cases hm : o.may with
  | false =>
    refine (push_arg h o hm).mono ?_
    rintro e w' ⟨rfl, k⟩
    simp only [pushE, pushP, hm]
    exact ⟨by trivial, h.did k⟩
  | true =>
    by_cases hl : X.length < 200
    · refine (push_ok h o hm hl).mono ?_
      rintro e w' ⟨rfl, k⟩
      simp only [pushE, pushP, hm, hl, if_true]
      exact ⟨by trivial, k⟩
    · have := h.len
      refine (push_over h o hm (by omega)).mono ?_
      rintro e w' ⟨rfl, k⟩
      simp only [pushE, pushP, hm, hl, if_true, if_false]
      exact ⟨by trivial, h.did k⟩
theorem peek_is (h : Stk 166 sb v X w) (i : Int) : Calls Try.prog 72 #[ptr sb, .int .i64 i] w fun e w' => e = .returned (.tuple #[(peekO X i).val, .int .i64 (peekE X i)]) ∧ Below w.heap.size w w' := by
  by_cases h1 : i < 0
  · refine (peek_neg h i h1).mono ?_
    rintro e w' ⟨rfl, k⟩
    simp only [peekO, peekE, h1, if_true]
    exact ⟨by trivial, k⟩
  by_cases h2 : X.length ≤ i
  · refine (peek_under h i (by omega) h2).mono ?_
    rintro e w' ⟨rfl, k⟩
    simp only [peekO, peekE, h1, h2, if_true, if_false]
    exact ⟨by trivial, k⟩
  obtain ⟨a, rfl⟩ : ∃ a : Nat, i = a := ⟨i.toNat, by omega⟩
  have hm : X[X.length - 1 - a]? = some (X.getD (X.length - 1 - a) Ob.zero) := by
    rw [List.getD_eq_getElem?_getD, List.getElem?_eq_getElem (by omega)]
    rfl
  have e0 : peekE X a = 0 := by simp [peekE, h1, h2]
  have e1 : peekO X a = X.getD (X.length - 1 - a) Ob.zero := by simp [peekO, e0]
  rw [e0, e1]
  generalize X.getD (X.length - 1 - a) Ob.zero = o at hm ⊢
  exact peek_ok h a (X.length - 1 - a) (by omega) o.k o.n o.a o.l o.x o.s hm
theorem pop_is (h : Stk 166 sb v X w) : Calls Try.prog 63 #[ptr sb] w fun e w' => e = .returned (.tuple #[(peekO X 0).val, .int .i64 (peekE X 0)]) ∧ Did 166 sb v w (popP X) w' := by
  by_cases h2 : X = []
  · subst h2
    refine (pop_under h).mono ?_
    rintro e w' ⟨rfl, k⟩
    exact ⟨by trivial, h.did k⟩
  have hl : 0 < X.length := List.length_pos_iff.2 h2
  have hm : X[X.length - 1]? = some (X.getD (X.length - 1) Ob.zero) := by
    rw [List.getD_eq_getElem?_getD, List.getElem?_eq_getElem (by omega)]
    rfl
  have e0 : peekE X 0 = 0 := by simp [peekE]; omega
  have e1 : peekO X 0 = X.getD (X.length - 1) Ob.zero := by simp [peekO, e0]
  rw [e0, e1]
  generalize X.getD (X.length - 1) Ob.zero = o at hm ⊢
  exact pop_ok h (X.length - 1) (by omega) o.k o.n o.a o.l o.x o.s hm
theorem dup_is (h : Stk 166 sb v X w) (n : Int) : Calls Try.prog 65 #[ptr sb, .int .i64 n] w fun e w' => e = .returned (.int .i64 (dupE X n)) ∧ Did 166 sb v w (dupP X n) w' := by
  by_cases h1 : n < 0
  · refine (dup_neg h n h1).mono ?_
    rintro e w' ⟨rfl, k⟩
    simp only [dupE, dupP, h1, if_true]
    exact ⟨by trivial, h.did k⟩
  by_cases h2 : X.length < n
  · refine (dup_under h n (by omega) h2).mono ?_
    rintro e w' ⟨rfl, k⟩
    simp only [dupE, dupP, h1, h2, if_true, if_false]
    exact ⟨by trivial, h.did k⟩
  obtain ⟨a, rfl⟩ : ∃ a : Nat, n = a := ⟨n.toNat, by omega⟩
  by_cases h3 : 200 < (X.length : Int) + a
  · refine (dup_over h a (by omega) (by omega)).mono ?_
    rintro e w' ⟨rfl, k⟩
    simp only [dupE, dupP, h1, h2, h3, if_true, if_false]
    exact ⟨by trivial, h.did k⟩
  · refine (dup_ok h a (X.length - a) (by omega) (by omega)).mono ?_
    rintro e w' ⟨rfl, k⟩
    simp only [dupE, dupP, h1, h2, h3, if_true, if_false]
    exact ⟨by trivial, k⟩
theorem roll_is (h : Stk 166 sb v X w) (n j : Int) : Calls Try.prog 67 #[ptr sb, .int .i64 n, .int .i64 j] w fun e w' => e = .returned (.int .i64 (rollE X n)) ∧ Did 166 sb v w (rollQ X n j) w' := by
  by_cases h1 : n < 0
  · refine (roll_neg h n j h1).mono ?_
    rintro e w' ⟨rfl, k⟩
    simp only [rollE, rollQ, h1, if_true]
    exact ⟨by trivial, h.did k⟩
  by_cases h2 : X.length < n
  · refine (roll_under h n j (by omega) h2).mono ?_
    rintro e w' ⟨rfl, k⟩
    simp only [rollE, rollQ, h1, h2, if_true, if_false]
    exact ⟨by trivial, h.did k⟩
  have e0 : rollE X n = 0 := by simp [rollE, h1, h2]
  have e1 : rollQ X n j = rollP X n.toNat j := by simp [rollQ, e0]
  rw [e0, e1]
  obtain ⟨a, rfl⟩ : ∃ a : Nat, n = a := ⟨n.toNat, by omega⟩
  rw [Int.toNat_natCast]
  by_cases h3 : a = 0
  · subst h3
    rw [rollP_zero]
    refine (roll_none h j).mono ?_
    rintro e w' ⟨rfl, k⟩
    exact ⟨by trivial, h.did k⟩
  · exact roll_ok h a j (by omega) (by omega)
end

/-- A stack; the blocks 'own' are none of its. -/
structure SK (own : Nat → Prop) (T : TypeId) (sb : Nat) (X : List Ob) (w : World) : Prop where
  ex : ∃ v, Stk T sb v X w ∧ ∀ g, v.ownBlock = some g → ¬ own g
  nown : ¬ own sb
  lt : ∀ b, own b → b < w.heap.size
section
variable {own own' : Nat → Prop} {T : TypeId} {sb : Nat} {X X' : List Ob} {w w' : World}
theorem SK.did {v : Value} (hs : Stk T sb v X w) (hv : ∀ g, v.ownBlock = some g → ¬ own g) (h1 : ¬ own sb) (h2 : ∀ b, own b → b < w.heap.size) (d : Did T sb v w X' w') : SK own T sb X' w' ∧ Kept own w w' := by
  obtain ⟨⟨v', s', q⟩, k⟩ := d
  refine ⟨⟨⟨v', s', fun g e o => ?_⟩, h1, fun b o => Nat.lt_of_lt_of_le (h2 b o) k.size⟩, k.sub fun b o => ⟨h2 b o, fun e => h1 (e ▸ o), fun e => hv b e o⟩⟩
  rcases q g e with q | q
  · exact hv g q o
  · have := h2 g o
    omega
theorem SK.below (h : SK own T sb X w) (k : Below w.heap.size w w') : SK own T sb X w' ∧ Kept own w w' := by
  obtain ⟨v, hs, hv⟩ := h.ex
  exact SK.did hs hv h.nown h.lt (hs.did k)
theorem SK.sub (h : SK own T sb X w) (k : ∀ b, own' b → own b) : SK own' T sb X w := by
  obtain ⟨v, hs, hv⟩ := h.ex
  exact ⟨⟨v, hs, fun g e o => hv g e (k g o)⟩, fun o => h.nown (k _ o), fun b o => h.lt b (k b o)⟩
theorem SK.box (h : SK own T sb X w) (o : Obj) : SK (fun b => own b ∨ b = w.heap.size) T sb X (w.alloc o) := by
  obtain ⟨v, hs, hv⟩ := h.ex
  refine ⟨⟨v, hs.below (box_below _ _), fun g e q => ?_⟩, fun q => ?_, fun b q => ?_⟩
  · rcases q with q | q
    · exact hv g e q
    · have := hs.blk (.inr e)
      omega
  · rcases q with q | q
    · exact h.nown q
    · have := hs.lt
      omega
  · rcases q with q | q
    · have := h.lt b q
      simp
      omega
    · simp
      omega
theorem SK.box_ob (h : SK own T sb X w) (k : Int) (x : Bool) (n a l : Int) (s : ByteArray) :
    ∃ w', w.alloc (.cells #[.int .i64 k, .bool x, .int .i64 n, .int .i64 a, .int .i64 l, .string s] 24) = w' ∧ SK (fun b => own b ∨ b = w.heap.size) T sb X w' ∧ Kept own w w' ∧ w'.heap[w.heap.size]? = some (obObj k x n a l s) :=
  ⟨_, rfl, h.box _, (h.below (box_below _ _)).2, heap_alloc_new _ _⟩
theorem SK.new (h : ∀ b, own b → b < w.heap.size) : SK own T w.heap.size [] (w.alloc (.cells #[.slice none 0 0] T)) :=
  ⟨⟨_, Stk.nil w, fun g e => by simp [Value.ownBlock] at e⟩, fun q => by have := h _ q; omega, fun b q => by have := h b q; simp; omega⟩
theorem SK.len (h : SK own T sb X w) : X.length ≤ 200 := by
  obtain ⟨v, hs, _⟩ := h.ex
  exact hs.len
end
section
variable {own : Nat → Prop} {sb : Nat} {X : List Ob} {w : World}
theorem kPush (h : SK own 166 sb X w) (o : Ob) (E : Int) (X' : List Ob) (hE : pushE X o = E) (hX : pushP X o = X') : Calls Try.prog 61 #[ptr sb, o.val] w fun e w' => e = .returned (.int .i64 E) ∧ SK own 166 sb X' w' ∧ Kept own w w' := by
  subst hE hX
  obtain ⟨v, hs, hv⟩ := h.ex
  refine (push_did hs o).mono ?_
  rintro e w' ⟨rfl, d⟩
  exact ⟨rfl, SK.did hs hv h.nown h.lt d⟩
theorem kPeek (h : SK own 166 sb X w) (i : Int) (E : Int) (k : Int) (x : Bool) (n a l : Int) (s : ByteArray) (hE : peekE X i = E) (hO : peekO X i = ⟨k, x, n, a, l, s⟩) : Calls Try.prog 72 #[ptr sb, .int .i64 i] w fun e w' => e = .returned (.tuple #[obV k x n a l s, .int .i64 E]) ∧ SK own 166 sb X w' ∧ Kept own w w' := by
  subst hE
  obtain ⟨v, hs, hv⟩ := h.ex
  have := peek_is hs i
  rw [hO] at this
  refine this.mono ?_
  rintro e w' ⟨rfl, d⟩
  exact ⟨rfl, h.below d⟩
theorem kPop (h : SK own 166 sb X w) (E : Int) (k : Int) (x : Bool) (n a l : Int) (s : ByteArray) (X' : List Ob) (hE : peekE X 0 = E) (hO : peekO X 0 = ⟨k, x, n, a, l, s⟩) (hX : popP X = X') : Calls Try.prog 63 #[ptr sb] w fun e w' => e = .returned (.tuple #[obV k x n a l s, .int .i64 E]) ∧ SK own 166 sb X' w' ∧ Kept own w w' := by
  subst hE hX
  obtain ⟨v, hs, hv⟩ := h.ex
  have := pop_is hs
  rw [hO] at this
  refine this.mono ?_
  rintro e w' ⟨rfl, d⟩
  exact ⟨rfl, SK.did hs hv h.nown h.lt d⟩
theorem kDup (h : SK own 166 sb X w) (n : Int) (E : Int) (X' : List Ob) (hE : dupE X n = E) (hX : dupP X n = X') : Calls Try.prog 65 #[ptr sb, .int .i64 n] w fun e w' => e = .returned (.int .i64 E) ∧ SK own 166 sb X' w' ∧ Kept own w w' := by
  subst hE hX
  obtain ⟨v, hs, hv⟩ := h.ex
  refine (dup_is hs n).mono ?_
  rintro e w' ⟨rfl, d⟩
  exact ⟨rfl, SK.did hs hv h.nown h.lt d⟩
theorem kRoll (h : SK own 166 sb X w) (n j : Int) (E : Int) (X' : List Ob) (hE : rollE X n = E) (hX : rollQ X n j = X') : Calls Try.prog 67 #[ptr sb, .int .i64 n, .int .i64 j] w fun e w' => e = .returned (.int .i64 E) ∧ SK own 166 sb X' w' ∧ Kept own w w' := by
  subst hE hX
  obtain ⟨v, hs, hv⟩ := h.ex
  refine (roll_is hs n j).mono ?_
  rintro e w' ⟨rfl, d⟩
  exact ⟨rfl, SK.did hs hv h.nown h.lt d⟩
theorem kLen (h : SK own 166 sb X w) : Calls Try.prog 76 #[ptr sb] w fun e w' => e = .returned (.int .i64 X.length) ∧ w = w' := by
  obtain ⟨v, hs, hv⟩ := h.ex
  exact stkLen hs
/-- The operands in a row of their own. -/
theorem kItems (h : SK own 166 sb X w) : Calls Try.prog 77 #[ptr sb] w fun e w' => ∃ p c, e = .returned (.slice p X.length c) ∧ SK (fun b => own b ∨ (Value.slice p X.length c).ownBlock = some b) 166 sb X w' ∧ Kept own w w' ∧ w'.ownsRow w.heap.size 24 6 (.slice p X.length c) X.length (obCells X) := by
  obtain ⟨v, hs, hv⟩ := h.ex
  refine (itemsS_any (T := 166) hs).mono ?_
  rintro e w' ⟨v', rfl, row, k⟩
  obtain ⟨p, c, rfl⟩ := owns_form (row.mono (Nat.zero_le _))
  obtain ⟨s', k'⟩ := h.below k
  refine ⟨p, c, rfl, ⟨⟨v, hs.below k, fun g e q => ?_⟩, fun q => ?_, fun b q => ?_⟩, k', row⟩
  · rcases q with q | q
    · exact hv g e q
    · have := (row.lt g q).1
      have := hs.blk (.inr e)
      omega
  · rcases q with q | q
    · exact h.nown q
    · have := (row.lt _ q).1
      have := hs.lt
      omega
  · rcases q with q | q
    · exact s'.lt b q
    · exact (row.lt b q).2
end
end Go.Proofs.Ytgmklagnngjlgaa

/- The laws' known case, and a stack of whole numbers. -/
namespace Go.Proofs.Ytgmklagnngjlgaa
open Go.RowKit
set_option linter.unusedVariables false
set_option linter.unusedSimpArgs false
set_option maxHeartbeats 1000000
set_option maxRecDepth 100000

/-- The numbers 0, 1, .., n - 1. -/
def numL (n : Nat) : List Ob := (List.range n).map fun i => Ob.num (i : Nat)
theorem numL_length (n : Nat) : (numL n).length = n := by simp [numL]
theorem numL_succ (n : Nat) : numL (n + 1) = numL n ++ [Ob.num n] := by simp [numL, List.range_succ]
theorem numL_get {n i : Nat} (h : i < n) : (numL n)[i]? = some (Ob.num i) := by simp [numL, h]
theorem num_may (i : Int) (h0 : -2147483647 ≤ i) (h : i ≤ 2147483647) : (Ob.num i).may = true := by
  simp [Ob.may, Ob.num, mayO, onlyP]
  omega
theorem pushE_num {X : List Ob} {i : Int} (h0 : -2147483647 ≤ i) (h : i ≤ 2147483647) (hl : X.length < 200) : pushE X (Ob.num i) = 0 := by simp [pushE, num_may i h0 h, hl]
theorem pushP_num {X : List Ob} {i : Int} (h0 : -2147483647 ≤ i) (h : i ≤ 2147483647) (hl : X.length < 200) : pushP X (Ob.num i) = X ++ [Ob.num i] := by simp [pushP, pushE_num h0 h hl]
theorem numbers_any (n : Nat) (w : World) (hn : n ≤ 200) : Calls Try.prog 78 #[.int .i64 n] w fun e w' => ∃ sb, e = .returned (ptr sb) ∧ SK (fun b => b < w.heap.size) 166 sb (numL n) w' ∧ Below w.heap.size w w' := by
  have HN := Lib.hid hn
  clear hn
  go_enter Try.func78, Try.ntmps78
  go_wp2_with fail
  refine (stkNew w).mono ?_
  rintro e w1 ⟨rfl, rfl⟩
  obtain ⟨w1, e1, s1, b1⟩ : ∃ w1, w.alloc (.cells #[.slice none 0 0] 166) = w1 ∧ SK (fun b => b < w.heap.size) 166 w.heap.size [] w1 ∧ Below w.heap.size w w1 := ⟨_, rfl, SK.new fun b q => q, box_below _ _⟩
  rw [e1]
  have S1 := Lib.hid s1
  have B1 := Lib.hid b1
  clear e1 s1 b1
  go_wp2
  go_loopw [4] (fun i wr => ∃ j : Nat, j ≤ n ∧ i = .int .i64 j ∧ SK (fun b => b < w.heap.size) 166 w.heap.size (numL j) wr ∧ Below w.heap.size w wr) (fun i _ => n - (intOf i).toNat)
  case atStart => exact ⟨0, Nat.zero_le _, rfl, S1.out, B1.out⟩
  case round =>
    obtain ⟨j, hj, rfl, hs, hk⟩ := hrel
    have HS := Lib.hid hs
    have HK := Lib.hid hk
    clear hs hk S1 B1
    by_cases hlt : j < n
    · have t1 : (j : Int) < n := by omega
      have HJ := Lib.hid hlt
      have hj2 : j < 200 := by have := HN.out; omega
      have w1 : IntKind.i64.wrap ((j : Int) + 1) = (j : Int) + 1 := IntWalk.i64_in _ (by omega)
      have w2 : wrap64 ((j : Int) + 1) = (j : Int) + 1 := by rw [← IntWalk.i64_left]; exact w1
      go_wp2_with fail
      refine (kPush HS.out (Ob.num j) 0 (numL (j + 1)) (pushE_num (by omega) (by omega) (by rw [numL_length]; exact hj2)) (by rw [pushP_num (by omega) (by omega) (by rw [numL_length]; exact hj2), numL_succ])).mono ?_
      rintro e wa ⟨rfl, sa, ka⟩
      have SA := Lib.hid sa
      have KA := Lib.hid (HK.out.trans (ka.below fun _ h => h))
      clear sa ka
      go_wp2
      go_roundw
      case rel => exact ⟨j + 1, HJ.out, by go_num, SA.out, KA.out⟩
      case measure => exact measure_up n j _ (by go_num) HJ.out
    · have e : j = n := by omega
      subst e
      have t1 : ¬ ((j : Int) < j) := by omega
      go_wp2
      go_ret
      exact ⟨_, rfl, HS.out, HK.out⟩
theorem measure_s (K j : Nat) (q : Int) (h : q = (j : Int) + 1 + 1) (hx : j < K) : K + 1 - (intOf (.int .i64 q)).toNat < K + 1 - (intOf (.int .i64 ((j : Int) + 1))).toNat := by
  subst h
  simp [intOf]
  omega
def o3 (n : Nat) : List Ob := (List.range n).map fun i => Ob.num ((i + 1 : Nat) : Int)
theorem kknown_any (w : World) : Calls Try.prog 59 #[] w fun e w' => e = .returned (.bool true) ∧ Below w.heap.size w w' := by
  go_enter Try.func59, Try.ntmps59
  go_wp2_with fail
  refine (stkNew w).mono ?_
  rintro e w1 ⟨rfl, rfl⟩
  obtain ⟨w1, e1, s1, b1⟩ : ∃ w1, w.alloc (.cells #[.slice none 0 0] 166) = w1 ∧ SK (fun b => b < w.heap.size) 166 w.heap.size [] w1 ∧ Below w.heap.size w w1 := ⟨_, rfl, SK.new fun b q => q, box_below _ _⟩
  rw [e1]
  have S1 := Lib.hid s1
  have B1 := Lib.hid b1
  clear e1 s1 b1
  go_wp2
  go_loopw [2] (fun i wr => ∃ j : Nat, j ≤ 3 ∧ i = .int .i64 ((j : Int) + 1) ∧ SK (fun b => b < w.heap.size) 166 w.heap.size (o3 j) wr ∧ Below w.heap.size w wr) (fun i _ => 4 - (intOf i).toNat)
  case atStart => exact ⟨0, Nat.zero_le _, rfl, S1.out, B1.out⟩
  case round =>
    obtain ⟨j, hj, rfl, hs, hk⟩ := hrel
    have HS := Lib.hid hs
    have HK := Lib.hid hk
    clear hs hk S1 B1
    by_cases hlt : j < 3
    · have t1 : (j : Int) + 1 ≤ 3 := by omega
      have HJ := Lib.hid hlt
      have w1 : IntKind.i64.wrap ((j : Int) + 1 + 1) = (j : Int) + 1 + 1 := IntWalk.i64_in _ (by omega)
      have w2 : wrap64 ((j : Int) + 1 + 1) = (j : Int) + 1 + 1 := by rw [← IntWalk.i64_left]; exact w1
      go_wp2_with fail
      refine (kPush HS.out (Ob.num ((j : Int) + 1)) 0 (o3 (j + 1)) (pushE_num (by omega) (by omega) (by simp [o3]; omega)) (by rw [pushP_num (by omega) (by omega) (by simp [o3]; omega)]; simp [o3, List.range_succ])).mono ?_
      rintro e wa ⟨rfl, sa, ka⟩
      have SA := Lib.hid sa
      have KA := Lib.hid (HK.out.trans (ka.below fun _ h => h))
      clear sa ka
      go_wp2
      go_roundw
      case rel => exact ⟨j + 1, HJ.out, by go_num, SA.out, KA.out⟩
      case measure => exact measure_s 3 j _ (by go_num) HJ.out
    · have e : j = 3 := by omega
      subst e
      have t1 : ¬ (((3 : Nat) : Int) + 1 ≤ 3) := by omega
      go_wp2_with fail
      refine (kRoll HS.out 3 1 0 [Ob.num 3, Ob.num 1, Ob.num 2] rfl rfl).mono ?_
      rintro e wa ⟨rfl, sa, ka⟩
      have SA := Lib.hid sa
      have KA := Lib.hid (HK.out.trans (ka.below fun _ h => h))
      clear sa ka
      go_wp2_with fail
      refine (kPeek SA.out 2 0 3 false 3 0 0 ⟨#[]⟩ rfl rfl).mono ?_
      rintro e wb ⟨rfl, sb', kb⟩
      have SB := Lib.hid sb'
      have KB := Lib.hid (KA.out.trans (kb.below fun _ h => h))
      clear sb' kb
      go_upto_region 10 with fail
      obtain ⟨wc, ec, sc, kc, oc⟩ := SB.out.box_ob 3 false 3 0 0 ⟨#[]⟩
      rw [ec]
      have SC := Lib.hid sc
      have KC := Lib.hid (KB.out.trans (kc.below fun _ h => h))
      obtain ⟨c0, c1, c2, c3, c4, c5⟩ := ob_cells oc
      clear ec sc kc oc
      go_wp2_with fail
      refine (kLen SC.out).mono ?_
      rintro e wd ⟨rfl, rfl⟩
      go_wp2
      go_ret
      exact ⟨rfl, KC.out⟩
end Go.Proofs.Ytgmklagnngjlgaa

/- Walks of stack: allValid, Become. -/
namespace Go.Proofs.Ytgmklagnngjlgaa
open Go.RowKit
set_option linter.unusedVariables false
set_option linter.unusedSimpArgs false
set_option maxHeartbeats 1000000
set_option maxRecDepth 100000

theorem Seg.form {w : World} {va : Value} {L : List Ob} (ha : Seg w va L) : ∃ p c, va = .slice p L.length c := by
  rcases ha with ⟨rfl, rfl⟩ | ⟨ad, c, rfl, _⟩
  · exact ⟨_, _, rfl⟩
  · exact ⟨_, _, rfl⟩
theorem allMay_succ {L : List Ob} {j : Nat} {o : Ob} (ho : L[j]? = some o) : (L.take (j + 1)).all Ob.may = ((L.take j).all Ob.may && o.may) := by
  rw [List.take_add_one, ho]
  simp
theorem allMay_no {L : List Ob} {j : Nat} {o : Ob} (ho : L[j]? = some o) (hm : o.may = false) : L.all Ob.may = false := by
  rw [List.all_eq_false]
  exact ⟨o, List.mem_of_getElem? ho, by simp [hm]⟩
theorem allValid_any {w : World} {va : Value} {L : List Ob} (ha : Seg w va L) (hL : L.length ≤ 1000) : Calls Try.prog 121 #[va] w fun e w' => e = .returned (.bool (L.all Ob.may)) ∧ Below w.heap.size w w' := by
  have HA := Lib.hid ha
  have HL := Lib.hid hL
  obtain ⟨pa, ca, rfl⟩ := ha.form
  clear ha hL
  go_enter Try.func121, Try.ntmps121
  go_wp2
  go_loopw [7] (fun i wr => ∃ j : Nat, j ≤ L.length ∧ i = .int .i64 j ∧ Below w.heap.size w wr ∧ (L.take j).all Ob.may = true) (fun i _ => L.length - (intOf i).toNat)
  case atStart => exact ⟨0, Nat.zero_le _, rfl, Below.refl _ _, by simp⟩
  case round =>
    obtain ⟨j, hj, rfl, hk, hv⟩ := hrel
    have HK := Lib.hid hk
    have HV := Lib.hid hv
    clear hk hv
    by_cases hlt : j < L.length
    · have t1 : (j : Int) < L.length := by omega
      have t0 : (0 : Int) ≤ j := by omega
      have HJ := Lib.hid hlt
      have w1 : IntKind.i64.wrap ((j : Int) + 1) = (j : Int) + 1 := IntWalk.i64_in _ (by have := HL.out; omega)
      have w2 : wrap64 ((j : Int) + 1) = (j : Int) + 1 := by rw [← IntWalk.i64_left]; exact w1
      obtain ⟨o, ho⟩ : ∃ o, L[j]? = some o := ⟨_, List.getElem?_eq_getElem hlt⟩
      have HO := Lib.hid ho
      obtain ⟨ada, ca', ea, cca⟩ := (HA.out.later HK.out).item ho
      obtain ⟨rfl, rfl⟩ : pa = some ada ∧ ca = ca' := by simpa using ea
      have hmay := Lib.hid (fun wx => may_any o.k o.n o.a o.l o.x o.s wx)
      have c0 : wr.cell? (ada.add (j * 6)) = some _ := cca 0 _ rfl
      have c1 : wr.cell? ⟨(ada.add (j * 6)).block, (ada.add (j * 6)).off + 1, none⟩ = some _ := cca 1 _ rfl
      have c2 : wr.cell? ⟨(ada.add (j * 6)).block, (ada.add (j * 6)).off + 2, none⟩ = some _ := cca 2 _ rfl
      have c3 : wr.cell? ⟨(ada.add (j * 6)).block, (ada.add (j * 6)).off + 3, none⟩ = some _ := cca 3 _ rfl
      have c4 : wr.cell? ⟨(ada.add (j * 6)).block, (ada.add (j * 6)).off + 4, none⟩ = some _ := cca 4 _ rfl
      have c5 : wr.cell? ⟨(ada.add (j * 6)).block, (ada.add (j * 6)).off + 5, none⟩ = some _ := cca 5 _ rfl
      clear ea cca ho
      go_upto_region 4 with fail
      obtain ⟨wb, eb, kb, zb, ob⟩ := ob_box wr o.k o.n o.a o.l o.x o.s
      rw [eb]
      have KB := Lib.hid (HK.out.trans (kb.mono HK.out.size))
      clear c0 c1 c2 c3 c4 c5
      obtain ⟨c0, c1, c2, c3, c4, c5⟩ := ob
      clear eb kb zb
      cases hm : o.may with
      | false =>
        rw [show mayO o.k o.n o.a o.l o.s = false from hm] at hmay
        have HM := Lib.hid hm
        clear hm
        go_wp2_with fail
        refine (hmay.out _).mono ?_
        rintro e wc ⟨rfl, kc⟩
        have KC := Lib.hid (KB.out.trans (kc.mono KB.out.size))
        clear kc c0 c1 c2 c3 c4 c5
        go_wp2
        go_ret
        exact ⟨ret_bool (allMay_no HO.out HM.out).symm, KC.out⟩
      | true =>
        rw [show mayO o.k o.n o.a o.l o.s = true from hm] at hmay
        have HM := Lib.hid hm
        clear hm
        go_wp2_with fail
        refine (hmay.out _).mono ?_
        rintro e wc ⟨rfl, kc⟩
        have KC := Lib.hid (KB.out.trans (kc.mono KB.out.size))
        clear kc c0 c1 c2 c3 c4 c5
        go_wp2
        go_roundw
        case rel => exact ⟨j + 1, HJ.out, by go_num, KC.out, by rw [allMay_succ HO.out, HV.out, HM.out]; rfl⟩
        case measure => exact measure_up L.length j _ (by go_num) HJ.out
    · have e : j = L.length := by omega
      subst e
      have t1 : ¬ ((L.length : Int) < L.length) := by omega
      go_wp2
      go_ret
      exact ⟨ret_bool (by have := HV.out; rw [List.take_length] at this; exact this.symm), HK.out⟩
def becE (Y : List Ob) : Int := if Y.all Ob.may then (if Y.length ≤ 200 then 0 else 8) else 1
def becP (X Y : List Ob) : List Ob := if becE Y = 0 then Y else X
section
variable {sb : Nat} {v va : Value} {X Y : List Ob} {w : World}
theorem bec_arg (h : Stk 166 sb v X w) (ha : Seg w va Y) (hY : Y.length ≤ 1000) (hv : Y.all Ob.may = false) : Calls Try.prog 70 #[ptr sb, va] w fun e w' => e = .returned (.int .i64 1) ∧ Below w.heap.size w w' := by
  have q := Lib.hid (allValid_any ha hY)
  rw [hv] at q
  obtain ⟨p, c, rfl⟩ := ha.form
  clear h ha hY hv
  go_enter Try.func70, Try.ntmps70
  go_wp2_with fail
  refine q.out.mono ?_
  rintro e wb ⟨rfl, kb⟩
  have KB := Lib.hid kb
  clear kb
  go_wp2
  go_ret
  exact ⟨rfl, KB.out⟩
theorem bec_over (h : Stk 166 sb v X w) (ha : Seg w va Y) (hY : Y.length ≤ 1000) (hv : Y.all Ob.may = true) (hl : 200 < Y.length) : Calls Try.prog 70 #[ptr sb, va] w fun e w' => e = .returned (.int .i64 8) ∧ Below w.heap.size w w' := by
  have q := Lib.hid (allValid_any ha hY)
  rw [hv] at q
  obtain ⟨p, c, rfl⟩ := ha.form
  have t1 : (Y.length : Int) > 200 := by omega
  clear h ha hY hv
  go_enter Try.func70, Try.ntmps70
  go_wp2_with fail
  refine q.out.mono ?_
  rintro e wb ⟨rfl, kb⟩
  have KB := Lib.hid kb
  clear kb
  go_wp2
  go_ret
  exact ⟨rfl, KB.out⟩
theorem bec_ok (h : Stk 166 sb v X w) (ha : Seg w va Y) (hv : Y.all Ob.may = true) (hl : Y.length ≤ 200) : Calls Try.prog 70 #[ptr sb, va] w fun e w' => e = .returned (.int .i64 0) ∧ Did 166 sb v w Y w' := by
  have q := Lib.hid (allValid_any ha (by omega))
  rw [hv] at q
  have HA := Lib.hid ha
  have H := Lib.hid h
  have HL := Lib.hid hl
  obtain ⟨p, c, rfl⟩ := ha.form
  obtain ⟨p0, c0, rfl⟩ := h.form
  have t1 : ¬ ((Y.length : Int) > 200) := by omega
  clear h ha hv hl
  go_enter Try.func70, Try.ntmps70
  go_wp2_with fail
  refine q.out.mono ?_
  rintro e wb ⟨rfl, kb⟩
  have KB := Lib.hid kb
  have q2 := Lib.hid (clone_any (HA.out.later kb) (by have := HL.out; omega))
  clear kb
  go_wp2_with fail
  refine q2.out.mono ?_
  rintro e wc ⟨v', rfl, row, kc⟩
  have kk := below_and KB.out kc
  have hs := H.out.below kk
  have d0 := hs.cell
  have f0 := hs.free
  have D := Lib.hid (Did.store H.out (w' := wc) ⟨kk.os, kk.tape, kk.output, kk.size, fun b q => kk.block b q.1⟩ (row.mono (Nat.zero_le _)) (fun g e => .inr (Nat.le_trans KB.out.size (row.lt g e).1)) HL.out)
  obtain ⟨p', c', rfl⟩ := owns_form (row.mono (Nat.zero_le _))
  clear kk hs row kc
  go_wp2
  go_ret
  exact ⟨rfl, D.out⟩
theorem bec_is (h : Stk 166 sb v X w) (ha : Seg w va Y) (hY : Y.length ≤ 1000) : Calls Try.prog 70 #[ptr sb, va] w fun e w' => e = .returned (.int .i64 (becE Y)) ∧ Did 166 sb v w (becP X Y) w' := by
  cases hv : Y.all Ob.may with
  | false =>
    refine (bec_arg h ha hY hv).mono ?_
    rintro e w' ⟨rfl, k⟩
    simp only [becE, becP, hv]
    exact ⟨by trivial, h.did k⟩
  | true =>
    by_cases hl : Y.length ≤ 200
    · refine (bec_ok h ha hv hl).mono ?_
      rintro e w' ⟨rfl, k⟩
      simp only [becE, becP, hv, hl, if_true]
      exact ⟨by trivial, k⟩
    · refine (bec_over h ha hY hv (by omega)).mono ?_
      rintro e w' ⟨rfl, k⟩
      simp only [becE, becP, hv, hl, if_true, if_false]
      exact ⟨by trivial, h.did k⟩
theorem kBec {own : Nat → Prop} (h : SK own 166 sb X w) (ha : Seg w va Y) (hY : Y.length ≤ 1000) (E : Int) (X' : List Ob) (hE : becE Y = E) (hX : becP X Y = X') : Calls Try.prog 70 #[ptr sb, va] w fun e w' => e = .returned (.int .i64 E) ∧ SK own 166 sb X' w' ∧ Kept own w w' := by
  subst hE hX
  obtain ⟨v, hs, hv⟩ := h.ex
  refine (bec_is hs ha hY).mono ?_
  rintro e w' ⟨rfl, d⟩
  exact ⟨rfl, SK.did hs hv h.nown h.lt d⟩
end
end Go.Proofs.Ytgmklagnngjlgaa
