/- JB: J5, J6, J7, J8. -/
import Derived.Test.YtgmklagnngjlgaaJA
import Derived.Test.YtgmklagnngjlgaaGZ
import Derived.Deep.CutRange
import Derived.Deep.CutBlock
import Derived.Deep.Slices
import Derived.WideShapes
import Derived.ChangeSame
/- Walks of tympanref14: ToMark, Become. -/
namespace Go.Proofs.Ytgmklagnngjlgaa
open Go.RowKit
set_option linter.unusedVariables false
set_option linter.unusedSimpArgs false
set_option maxHeartbeats 1000000
set_option maxRecDepth 100000

theorem mark_none {X : List Ob} (hno : ∀ j, j < X.length → (backAt X j).2.k ≠ 6) : markN X = 0 ∧ markE X = 10 := by
  have : markK X = X.length := by
    unfold markK
    refine Eq.trans (List.findIdx_eq_length.2 fun o ho => ?_) List.length_reverse
    obtain ⟨j, hj⟩ := List.mem_iff_getElem?.1 ho
    have hj2 : j < X.length := by have := (List.getElem?_eq_some_iff.1 hj).1; simpa using this
    rw [back_rev X j hj2] at hj
    have := hno j hj2
    rw [Option.some.inj hj] at this
    simpa [isMk] using this
  simp [markN, markE, this]
theorem mark_some {X : List Ob} {k : Nat} (hk : k < X.length) (hno : ∀ j, j < k → (backAt X j).2.k ≠ 6) (hm : (backAt X k).2.k = 6) : markN X = k ∧ markE X = 0 := by
  have hr : k < X.reverse.length := by simpa using hk
  have : markK X = k := by
    unfold markK
    rw [List.findIdx_eq hr]
    refine ⟨?_, fun j hj => ?_⟩
    · have := back_rev X k hk
      rw [List.getElem?_eq_getElem hr] at this
      rw [Option.some.inj this]
      simp [isMk, hm]
    · have := back_rev X j (by omega)
      rw [List.getElem?_eq_getElem (by simp; omega)] at this
      rw [Option.some.inj this]
      have := hno j hj
      simpa [isMk] using this
  simp [markN, markE, this, hk]
section
variable {sb : Nat} {v va : Value} {X Y : List Ob} {w : World}
theorem rmark_is (h : Stk 92 sb v X w) : Calls Try.prog 75 #[ptr sb] w fun e w' => e = .returned (.tuple #[.int .i64 (markN X), .int .i64 (markE X)]) ∧ Below w.heap.size w w' := by
  have hlen := h.len
  obtain ⟨p, cap, rfl⟩ := h.form
  have H := Lib.hid h
  have HL := Lib.hid hlen
  clear h hlen
  go_enter Try.func75, Try.ntmps75
  go_wp2
  go_loopw [4] (fun i wr => ∃ k : Nat, k ≤ X.length ∧ i = .int .i64 k ∧ Below w.heap.size w wr ∧ ∀ j, j < k → (backAt X j).2.k ≠ 6) (fun i _ => X.length - (intOf i).toNat)
  case atStart => exact ⟨0, Nat.zero_le _, rfl, Below.refl _ _, fun j q => by omega⟩
  case round =>
    obtain ⟨k, hk, rfl, hb, hno⟩ := hrel
    have HB := Lib.hid hb
    have HN := Lib.hid hno
    have h0 := (H.out.below hb).cell
    clear hb hno
    by_cases hlt : k < X.length
    · have t1 : (k : Int) < X.length := by omega
      have HK := Lib.hid hlt
      obtain ⟨m, hm⟩ : ∃ m, X.length = m + k + 1 := ⟨X.length - 1 - k, by omega⟩
      obtain ⟨o, ho⟩ : ∃ o, X[m]? = some o := ⟨_, List.getElem?_eq_getElem (by omega)⟩
      have hbk : (backAt X k).2 = o := by
        unfold backAt
        dsimp only
        rw [show X.length - 1 - k = m from by omega, List.getD_eq_getElem?_getD, ho]
        rfl
      have HBK := Lib.hid hbk
      obtain ⟨g, cap', ev, c0, _⟩ := row_item (H.out.below HB.out).row ho
      obtain ⟨rfl, rfl⟩ : p = some ⟨g, 0, none⟩ ∧ cap = cap' := by simpa using ev
      have e1 : IntKind.i64.wrap ((X.length : Int) - 1) = (m : Int) + k := by rw [IntWalk.i64_in _ (by have := HL.out; omega)]; omega
      have e2 : IntKind.i64.wrap (m : Int) = (m : Int) := IntWalk.i64_in _ (by have := HL.out; omega)
      have e3 : wrap64 (m : Int) = (m : Int) := by rw [← IntWalk.i64_left]; exact e2
      have e4 : IntKind.i64.wrap ((k : Int) + 1) = (k : Int) + 1 := IntWalk.i64_in _ (by have := HL.out; omega)
      have q0 : (0 : Int) ≤ m := by omega
      have q1 : (m : Int) < X.length := by omega
      clear ev hm hbk ho hk hlt
      by_cases hk6 : o.k = 6
      · have HR := Lib.hid (mark_some HK.out HN.out (by rw [HBK.out]; exact hk6))
        rw [hk6] at c0
        clear hk6
        go_wp2_with fail
        go_quiet (fail)
        go_wp2
        go_ret2
        rw [HR.out.1, HR.out.2]
        exact ⟨rfl, HB.out.trans ((below_drewN _ _).mono HB.out.size)⟩
      · have HQ := Lib.hid hk6
        go_wp2_with fail
        go_quiet (fail)
        go_wp2
        go_roundw
        case rel =>
          refine ⟨k + 1, HK.out, by go_num, HB.out.trans ((below_drewN _ _).mono HB.out.size), fun j hj => ?_⟩
          by_cases e : j = k
          · rw [e, HBK.out]
            exact HQ.out
          · exact HN.out j (by omega)
        case measure => exact measure_up X.length k _ (by go_num) HK.out
    · have e : k = X.length := by omega
      subst e
      have t1 : ¬ ((X.length : Int) < X.length) := by omega
      have HR := Lib.hid (mark_none HN.out)
      go_wp2
      go_ret2
      rw [HR.out.1, HR.out.2]
      exact ⟨rfl, HB.out⟩
theorem rbec_did (h : Stk 92 sb v X w) (ha : Seg w va Y) (hY : Y.length ≤ 1000) : Calls Try.prog 71 #[ptr sb, va] w fun e w' => e = .returned (.int .i64 (becE Y)) ∧ Did 92 sb v w (becP X Y) w' := by
  have H := Lib.hid h
  have HA := Lib.hid ha
  have HY := Lib.hid hY
  obtain ⟨p0, c0', rfl⟩ := h.form
  obtain ⟨pa, ca, rfl⟩ := ha.form
  clear h ha hY
  go_enter Try.func71, Try.ntmps71
  go_wp2
  go_loopw [5] (fun i wr => ∃ j : Nat, j ≤ Y.length ∧ i = .int .i64 j ∧ Below w.heap.size w wr ∧ (Y.take j).all Ob.may = true) (fun i _ => Y.length - (intOf i).toNat)
  case atStart => exact ⟨0, Nat.zero_le _, rfl, Below.refl _ _, by simp⟩
  case round =>
    obtain ⟨j, hj, rfl, hk, hv⟩ := hrel
    have HK := Lib.hid hk
    have HV := Lib.hid hv
    clear hk hv
    by_cases hlt : j < Y.length
    · have t1 : (j : Int) < Y.length := by omega
      have t0 : (0 : Int) ≤ j := by omega
      have HJ := Lib.hid hlt
      have w1 : IntKind.i64.wrap ((j : Int) + 1) = (j : Int) + 1 := IntWalk.i64_in _ (by have := HY.out; omega)
      obtain ⟨o, ho⟩ : ∃ o, Y[j]? = some o := ⟨_, List.getElem?_eq_getElem hlt⟩
      have HO := Lib.hid ho
      obtain ⟨ada, ca', ea, cca⟩ := (HA.out.later HK.out).item ho
      obtain ⟨rfl, rfl⟩ : pa = some ada ∧ ca = ca' := by simpa using ea
      have hmay := Lib.hid (fun wx => rmayO_any o.k o.n o.a o.l o.x o.s wx)
      have c0 : wr.cell? (ada.add (j * 6)) = some _ := cca 0 _ rfl
      have c1 : wr.cell? ⟨(ada.add (j * 6)).block, (ada.add (j * 6)).off + 1, none⟩ = some _ := cca 1 _ rfl
      have c2 : wr.cell? ⟨(ada.add (j * 6)).block, (ada.add (j * 6)).off + 2, none⟩ = some _ := cca 2 _ rfl
      have c3 : wr.cell? ⟨(ada.add (j * 6)).block, (ada.add (j * 6)).off + 3, none⟩ = some _ := cca 3 _ rfl
      have c4 : wr.cell? ⟨(ada.add (j * 6)).block, (ada.add (j * 6)).off + 4, none⟩ = some _ := cca 4 _ rfl
      have c5 : wr.cell? ⟨(ada.add (j * 6)).block, (ada.add (j * 6)).off + 5, none⟩ = some _ := cca 5 _ rfl
      clear ea cca ho hlt hj
      cases hm : o.may with
      | false =>
        rw [show mayO o.k o.n o.a o.l o.s = false from hm] at hmay
        have HM := Lib.hid hm
        clear hm
        go_wp2_with fail
        refine (hmay.out _).mono ?_
        rintro e wc ⟨rfl, kc⟩
        have KC := Lib.hid (HK.out.trans (kc.mono HK.out.size))
        clear kc c0 c1 c2 c3 c4 c5
        go_wp2
        go_ret
        have hall := allMay_no HO.out HM.out
        have e1 : becE Y = 1 := by simp only [becE, hall]; rfl
        rw [e1]
        refine ⟨rfl, ?_⟩
        rw [show becP X Y = X from by simp [becP, e1]]
        exact H.out.did KC.out
      | true =>
        rw [show mayO o.k o.n o.a o.l o.s = true from hm] at hmay
        have HM := Lib.hid hm
        clear hm
        go_wp2_with fail
        refine (hmay.out _).mono ?_
        rintro e wc ⟨rfl, kc⟩
        have KC := Lib.hid (HK.out.trans (kc.mono HK.out.size))
        clear kc c0 c1 c2 c3 c4 c5
        go_wp2
        go_roundw
        case rel => exact ⟨j + 1, HJ.out, by go_num, KC.out, by rw [allMay_succ HO.out, HV.out, HM.out]; rfl⟩
        case measure => exact measure_up Y.length j _ (by go_num) HJ.out
    · have e : j = Y.length := by omega
      subst e
      have t1 : ¬ ((Y.length : Int) < Y.length) := by omega
      have hall : Y.all Ob.may = true := by have := HV.out; rwa [List.take_length] at this
      by_cases hl : Y.length ≤ 200
      · have t2 : ¬ ((Y.length : Int) > 200) := by omega
        have e1 : becE Y = 0 := by simp only [becE, hall, hl, if_true]
        have E1 := Lib.hid (And.intro e1 hl)
        have h0 := (H.out.below HK.out).cell
        clear hall e1 hl hlt hj
        go_wp2_with (first
          | (at_builtin; refine wpList_append_ex rfl _ _ 33 rfl (.slice none 0 0) (.slice pa Y.length ca) rfl rfl _ (nil_append (HA.out.later HK.out) HY.out _) ?_))
        rintro v5 w5 ap
        have kb1 : Below wr.heap.size wr w5 := (Below.refl _ _).grown ap.grow (Nat.le_refl _) fun g e => by simp [Value.ownBlock] at e
        have bl := HK.out.trans (kb1.mono HK.out.size)
        have d0 := (H.out.below bl).cell
        have f0 := (H.out.below bl).free
        have DD := Lib.hid (H.out.after2 bl ap.row (fun g e => by
          rcases ap.own g e with q | q
          · simp [Value.ownBlock] at q
          · exact Nat.le_trans HK.out.size q) E1.out.2)
        obtain ⟨p5, c5, rfl⟩ := owns_form ap.row
        clear ap kb1 bl h0
        go_wp2
        go_ret
        rw [E1.out.1]
        refine ⟨rfl, ?_⟩
        rw [show becP X Y = Y from by simp [becP, E1.out.1]]
        exact DD.out
      · have t2 : (Y.length : Int) > 200 := by omega
        have e1 : becE Y = 8 := by simp only [becE, hall, hl, if_true, if_false]
        have E1 := Lib.hid e1
        clear hall e1 hl hlt hj
        go_wp2
        go_ret
        rw [E1.out]
        refine ⟨rfl, ?_⟩
        rw [show becP X Y = X from by simp [becP, E1.out]]
        exact H.out.did HK.out
end
end Go.Proofs.Ytgmklagnngjlgaa

/- StackPlays: the program's stack beside the reference's. -/
namespace Go.Proofs.Ytgmklagnngjlgaa
open Go.RowKit
set_option linter.unusedVariables false
set_option linter.unusedSimpArgs false

/-- The program's stack sb with the operands X, the reference's rb with Y; the blocks 'own' are neither's. -/
structure TwoSt (own : Nat → Prop) (sb rb : Nat) (X Y : List Ob) (w : World) : Prop where
  ex : ∃ v u, Stk 166 sb v X w ∧ Stk 92 rb u Y w ∧ (∀ g, v.ownBlock = some g → ¬ own g ∧ g ≠ rb ∧ u.ownBlock ≠ some g) ∧ ∀ g, u.ownBlock = some g → ¬ own g ∧ g ≠ sb
  ne : sb ≠ rb
  n1 : ¬ own sb
  n2 : ¬ own rb
  lt : ∀ b, own b → b < w.heap.size
section
variable {own own' : Nat → Prop} {sb rb : Nat} {X X' Y Y' : List Ob} {w w' : World}
theorem TwoSt.below (h : TwoSt own sb rb X Y w) (k : Below w.heap.size w w') : TwoSt own sb rb X Y w' ∧ Kept own w w' := by
  obtain ⟨v, u, hs, hr, h1, h2⟩ := h.ex
  exact ⟨⟨⟨v, u, hs.below k, hr.below k, h1, h2⟩, h.ne, h.n1, h.n2, fun b q => Nat.lt_of_lt_of_le (h.lt b q) k.size⟩, kept_of k h.lt⟩
theorem TwoSt.sub (h : TwoSt own sb rb X Y w) (k : ∀ b, own' b → own b) : TwoSt own' sb rb X Y w := by
  obtain ⟨v, u, hs, hr, h1, h2⟩ := h.ex
  exact ⟨⟨v, u, hs, hr, fun g e => ⟨fun q => (h1 g e).1 (k g q), (h1 g e).2⟩, fun g e => ⟨fun q => (h2 g e).1 (k g q), (h2 g e).2⟩⟩, h.ne, fun q => h.n1 (k _ q), fun q => h.n2 (k _ q), fun b q => h.lt b (k b q)⟩
theorem TwoSt.box (h : TwoSt own sb rb X Y w) (o : Obj) : TwoSt (fun b => own b ∨ b = w.heap.size) sb rb X Y (w.alloc o) := by
  obtain ⟨v, u, hs, hr, h1, h2⟩ := h.ex
  refine ⟨⟨v, u, hs.below (box_below _ _), hr.below (box_below _ _), fun g e => ⟨fun q => ?_, (h1 g e).2⟩, fun g e => ⟨fun q => ?_, (h2 g e).2⟩⟩, h.ne, fun q => ?_, fun q => ?_, fun b q => ?_⟩
  · have := hs.blk (.inr e)
    rcases q with q | q
    · exact (h1 g e).1 q
    · omega
  · have := hr.blk (.inr e)
    rcases q with q | q
    · exact (h2 g e).1 q
    · omega
  · have := hs.lt
    rcases q with q | q
    · exact h.n1 q
    · omega
  · have := hr.lt
    rcases q with q | q
    · exact h.n2 q
    · omega
  · rcases q with q | q
    · have := h.lt b q
      simp
      omega
    · simp
      omega
theorem TwoSt.only {A : Nat} (h : TwoSt own sb rb X Y w) (k : Only A w w') (hA : own A) : TwoSt own sb rb X Y w' := by
  obtain ⟨v, u, hs, hr, h1, h2⟩ := h.ex
  refine ⟨⟨v, u, hs.same fun b q => k.block b fun e => ?_, hr.same fun b q => k.block b fun e => ?_, h1, h2⟩, h.ne, h.n1, h.n2, fun b q => by rw [k.size]; exact h.lt b q⟩
  · rcases q with q | q
    · exact h.n1 (q ▸ e ▸ hA)
    · exact (h1 b q).1 (e ▸ hA)
  · rcases q with q | q
    · exact h.n2 (q ▸ e ▸ hA)
    · exact (h2 b q).1 (e ▸ hA)
/-- The program has done something. -/
theorem TwoSt.prog {f : FuncId} {args : Array Value} {E : Ending} (h : TwoSt own sb rb X Y w) (c : ∀ v, Stk 166 sb v X w → Calls Try.prog f args w fun e w' => e = E ∧ Did 166 sb v w X' w') :
    Calls Try.prog f args w fun e w' => e = E ∧ TwoSt own sb rb X' Y w' ∧ Kept own w w' := by
  obtain ⟨v, u, hs, hr, h1, h2⟩ := h.ex
  refine (c v hs).mono ?_
  rintro e w' ⟨rfl, ⟨v', s', q⟩, k⟩
  have hrk : Stk 92 rb u Y w' := hr.same fun b e => k.block b ⟨hr.blk e, by
    rcases e with e | e
    · exact fun q => h.ne (q ▸ e ▸ rfl)
    · exact (h2 b e).2, fun q => by
    rcases e with e | e
    · exact (h1 b q).2.1 e
    · exact (h1 b q).2.2 e⟩
  refine ⟨rfl, ⟨⟨v', u, s', hrk, fun g e => ?_, h2⟩, h.ne, h.n1, h.n2, fun b o => Nat.lt_of_lt_of_le (h.lt b o) k.size⟩, k.sub fun b o => ⟨h.lt b o, fun e => h.n1 (e ▸ o), fun e => (h1 b e).1 o⟩⟩
  rcases q g e with r | r
  · exact h1 g r
  · refine ⟨fun o => ?_, fun e => ?_, fun e => ?_⟩
    · have := h.lt g o
      omega
    · have := hr.lt
      omega
    · have := hr.blk (.inr e)
      omega
/-- The reference has done something. -/
theorem TwoSt.refD (h : TwoSt own sb rb X Y w) (c : ∀ v, Stk 92 rb v Y w → Did 92 rb v w Y' w') : TwoSt own sb rb X Y' w' ∧ Kept own w w' := by
  obtain ⟨v, u, hs, hr, h1, h2⟩ := h.ex
  obtain ⟨⟨u', s', q⟩, k⟩ := c u hr
  have hsk : Stk 166 sb v X w' := hs.same fun b e => k.block b ⟨hs.blk e, by
    rcases e with e | e
    · exact fun q => h.ne (e.symm.trans q)
    · exact (h1 b e).2.1, fun q => by
    rcases e with e | e
    · exact (h2 b q).2 e
    · exact (h1 b e).2.2 q⟩
  refine ⟨⟨⟨v, u', hsk, s', fun g e => ⟨(h1 g e).1, (h1 g e).2.1, fun r => ?_⟩, fun g e => ?_⟩, h.ne, h.n1, h.n2, fun b o => Nat.lt_of_lt_of_le (h.lt b o) k.size⟩, k.sub fun b o => ⟨h.lt b o, fun e => h.n2 (e ▸ o), fun e => (h2 b e).1 o⟩⟩
  · rcases q g r with r | r
    · exact (h1 g e).2.2 r
    · have := hs.blk (.inr e)
      omega
  · rcases q g e with r | r
    · exact h2 g r
    · refine ⟨fun o => ?_, fun e => ?_⟩
      · have := h.lt g o
        omega
      · have := hs.lt
        omega
theorem TwoSt.ref {f : FuncId} {args : Array Value} {E : Ending} (h : TwoSt own sb rb X Y w) (c : ∀ v, Stk 92 rb v Y w → Calls Try.prog f args w fun e w' => e = E ∧ Did 92 rb v w Y' w') :
    Calls Try.prog f args w fun e w' => e = E ∧ TwoSt own sb rb X Y' w' ∧ Kept own w w' := by
  obtain ⟨v, u, hs, hr, h1, h2⟩ := h.ex
  refine (c u hr).mono ?_
  rintro e w' ⟨rfl, d⟩
  refine ⟨rfl, h.refD fun u2 hr2 => ?_⟩
  have : u2 = u := Option.some.inj (hr2.cell.symm.trans hr.cell)
  rw [this]
  exact d
/-- The program, or the reference, is asked. -/
theorem TwoSt.askP {f : FuncId} {args : Array Value} {E : Ending} (h : TwoSt own sb rb X Y w) (c : ∀ v, Stk 166 sb v X w → Calls Try.prog f args w fun e w' => e = E ∧ Below w.heap.size w w') :
    Calls Try.prog f args w fun e w' => e = E ∧ TwoSt own sb rb X Y w' ∧ Kept own w w' :=
  h.prog fun v hs => (c v hs).mono fun e w' q => ⟨q.1, hs.did q.2⟩
theorem TwoSt.askR {f : FuncId} {args : Array Value} {E : Ending} (h : TwoSt own sb rb X Y w) (c : ∀ v, Stk 92 rb v Y w → Calls Try.prog f args w fun e w' => e = E ∧ Below w.heap.size w w') :
    Calls Try.prog f args w fun e w' => e = E ∧ TwoSt own sb rb X Y w' ∧ Kept own w w' :=
  h.ref fun v hs => (c v hs).mono fun e w' q => ⟨q.1, hs.did q.2⟩
end
/-- A thing to do: its cells in the row; the list L. -/
structure DoV where
  what : Int
  n : Int
  m : Int
  o : Ob
  p : Option Addr
  c : Nat
  l : List Ob
abbrev doL (A : DoV) : List Value := [.int .i64 A.what, .int .i64 A.n, .int .i64 A.m, .int .i64 A.o.k, .bool A.o.x, .int .i64 A.o.n, .int .i64 A.o.a, .int .i64 A.o.l, .string A.o.s, .slice A.p A.l.length A.c]
structure DoAt (w : World) (p : Option Addr) (i : Nat) (A : DoV) : Prop where
  at_ : ∃ ad, p = some ad ∧ ad.block < w.heap.size ∧ ∀ j u, (doL A)[j]? = some u → w.cell? ((ad.add (i * 10)).add j) = some u
  seg : Seg w (.slice A.p A.l.length A.c) A.l
/-- What a thing to do answers, and what the operands are then. -/
def doE (X : List Ob) (A : DoV) : Int :=
  if A.what = 0 then pushE X A.o else if A.what = 1 then peekE X 0 else if A.what = 2 then dupE X A.n else if A.what = 3 then rollE X A.n else if A.what = 4 then 0 else becE A.l
def doO (X : List Ob) (A : DoV) : Ob := if A.what = 1 then peekO X 0 else Ob.zero
def doP (X : List Ob) (A : DoV) : List Ob :=
  if A.what = 0 then pushP X A.o else if A.what = 1 then popP X else if A.what = 2 then dupP X A.n else if A.what = 3 then rollQ X A.n A.m else if A.what = 4 then [] else becP X A.l
/-- Within a round: the thing to do in the box da, the two results in xa and ya. -/
structure PlayR (n0 : Nat) (w0 : World) (sb rb da xa ya : Nat) (A : DoV) (x y : Ob) (X Y : List Ob) (w : World) : Prop where
  two : TwoSt (fun b => b < n0 ∨ b = da ∨ b = xa ∨ b = ya) sb rb X Y w
  hd : w.heap[da]? = some (.cells (doL A).toArray 94 (0, 0))
  hx : w.heap[xa]? = some (obObj x.k x.x x.n x.a x.l x.s)
  hy : w.heap[ya]? = some (obObj y.k y.x y.n y.a y.l y.s)
  ne : da ≠ xa ∧ da ≠ ya ∧ xa ≠ ya ∧ n0 ≤ da ∧ n0 ≤ xa ∧ n0 ≤ ya
  below : Below n0 w0 w
section
variable {n0 sb rb da xa ya : Nat} {A : DoV} {x y : Ob} {X X' Y Y' : List Ob} {w0 w w' : World}
theorem PlayR.step (h : PlayR n0 w0 sb rb da xa ya A x y X Y w) (t : TwoSt (fun b => b < n0 ∨ b = da ∨ b = xa ∨ b = ya) sb rb X' Y' w') (k : Kept (fun b => b < n0 ∨ b = da ∨ b = xa ∨ b = ya) w w') : PlayR n0 w0 sb rb da xa ya A x y X' Y' w' :=
  ⟨t, (k.block _ (.inr (.inl rfl))).trans h.hd, (k.block _ (.inr (.inr (.inl rfl)))).trans h.hx, (k.block _ (.inr (.inr (.inr rfl)))).trans h.hy, h.ne, h.below.trans (k.below fun b q => .inl q)⟩
theorem PlayR.setX (h : PlayR n0 w0 sb rb da xa ya A x y X Y w) (x' : Ob) (k : Only xa w w') (q : w'.heap[xa]? = some (obObj x'.k x'.x x'.n x'.a x'.l x'.s)) : PlayR n0 w0 sb rb da xa ya A x' y X Y w' :=
  ⟨h.two.only k (.inr (.inr (.inl rfl))), (k.block _ h.ne.1).trans h.hd, q, (k.block _ h.ne.2.2.1.symm).trans h.hy, h.ne, h.below.trans ((kept_only (own := fun b => b < n0) k fun q => by have := h.ne.2.2.2.2.1; omega).below fun b q => q)⟩
theorem PlayR.setY (h : PlayR n0 w0 sb rb da xa ya A x y X Y w) (y' : Ob) (k : Only ya w w') (q : w'.heap[ya]? = some (obObj y'.k y'.x y'.n y'.a y'.l y'.s)) : PlayR n0 w0 sb rb da xa ya A x y' X Y w' :=
  ⟨h.two.only k (.inr (.inr (.inr rfl))), (k.block _ h.ne.2.1).trans h.hd, (k.block _ h.ne.2.2.1).trans h.hx, q, h.ne, h.below.trans ((kept_only (own := fun b => b < n0) k fun q => by have := h.ne.2.2.2.2.2; omega).below fun b q => q)⟩
end
end Go.Proofs.Ytgmklagnngjlgaa

/- The walk of StackPlays. -/
namespace Go.Proofs.Ytgmklagnngjlgaa
open Go.RowKit
set_option linter.unusedVariables false
set_option linter.unusedSimpArgs false

theorem do_cells {w : World} {b : Nat} {A : DoV} (h : w.heap[b]? = some (.cells (doL A).toArray 94 (0, 0))) :
    w.cell? ⟨b, 0, none⟩ = some (.int .i64 A.what) ∧ w.cell? ⟨b, 1, none⟩ = some (.int .i64 A.n) ∧ w.cell? ⟨b, 2, none⟩ = some (.int .i64 A.m) ∧ w.cell? ⟨b, 3, none⟩ = some (.int .i64 A.o.k) ∧ w.cell? ⟨b, 4, none⟩ = some (.bool A.o.x) ∧ w.cell? ⟨b, 5, none⟩ = some (.int .i64 A.o.n) ∧ w.cell? ⟨b, 6, none⟩ = some (.int .i64 A.o.a) ∧ w.cell? ⟨b, 7, none⟩ = some (.int .i64 A.o.l) ∧ w.cell? ⟨b, 8, none⟩ = some (.string A.o.s) ∧ w.cell? ⟨b, 9, none⟩ = some (.slice A.p A.l.length A.c) :=
  ⟨cellAt h 0, cellAt h 1, cellAt h 2, cellAt h 3, cellAt h 4, cellAt h 5, cellAt h 6, cellAt h 7, cellAt h 8, cellAt h 9⟩
theorem add_blk (a : Addr) (k : Nat) : (a.add k).block = a.block := by
  unfold Addr.add
  split <;> rfl
set_option maxHeartbeats 1000000 in
set_option maxRecDepth 100000 in
theorem splay_walk (p : Option Addr) (n cap : Nat) (at' : Int) (w : World) (hA : ∀ i, i < n → ∃ A, DoAt w p i A) :
    Calls Try.prog 6 #[.slice p n cap, .int .i64 at'] w fun e w' => e = .returned (.bool true) ∧ Below w.heap.size w w' := by
  by_cases h60 : (n : Int) > 60
  · go_enter Try.func6, Try.ntmps6
    go_wp2_with fail
    refine (kknown_any w).mono ?_
    rintro e w0 ⟨rfl, b0⟩
    go_wp2
    go_ret
    exact ⟨rfl, b0⟩
  have HA := Lib.hid hA
  have HN : Hid (n ≤ 60) := Lib.hid (by omega)
  clear hA
  go_enter Try.func6, Try.ntmps6
  go_wp2_with fail
  refine (kknown_any w).mono ?_
  rintro e w0 ⟨rfl, b0⟩
  have B0 := Lib.hid b0
  clear b0
  go_wp2_with fail
  refine (stkNew w0).mono ?_
  rintro e w1 ⟨rfl, rfl⟩
  go_upto_region 6 with fail
  obtain ⟨w2, e2, t2, k2⟩ : ∃ w2, (w0.alloc (.cells #[.slice none 0 0] 166)).alloc (.cells #[.slice none 0 0] 92) = w2 ∧ TwoSt (fun b => b < w0.heap.size) w0.heap.size (w0.heap.size + 1) [] [] w2 ∧ Below w0.heap.size w0 w2 := by
    refine ⟨_, rfl, ⟨⟨.slice none 0 0, .slice none 0 0, (Stk.nil w0).below (box_below _ _), ?_, fun g e => by simp [Value.ownBlock] at e, fun g e => by simp [Value.ownBlock] at e⟩, by omega, by omega, by omega, fun b q => by simp; omega⟩, below_and (box_below _ _) (box_below _ _)⟩
    have := Stk.nil (T := 92) (w0.alloc (.cells #[.slice none 0 0] 166))
    simpa using this
  rw [e2]
  have T2 := Lib.hid t2
  have K2 := Lib.hid k2
  clear e2 t2 k2
  go_wp2
  go_loopw [31] (fun i wr => ∃ (j : Nat) (X : List Ob), j ≤ n ∧ i = .int .i64 j ∧ TwoSt (fun b => b < w0.heap.size) w0.heap.size (w0.heap.size + 1) X X wr ∧ Below w0.heap.size w0 wr) (fun i _ => n - (intOf i).toNat)
  case atStart => exact ⟨0, [], Nat.zero_le _, rfl, T2.out, K2.out⟩
  case round =>
    obtain ⟨j, X, hj, rfl, ht, hb⟩ := hrel
    have HT := Lib.hid ht
    have HB := Lib.hid hb
    clear ht hb T2 K2
    by_cases hlt : j < n
    · have HL := Lib.hid hlt
      have t1 : (j : Int) < n := by omega
      have f1 : IntKind.i64.wrap ((j : Int) + 1) = (j : Int) + 1 := IntWalk.i64_in _ (by have := HN.out; omega)
      obtain ⟨A, ha⟩ := HA.out j hlt
      obtain ⟨ad, rfl, hg, hc⟩ := ha.at_
      have HSG : Hid (Seg wr (.slice A.p A.l.length A.c) A.l) := Lib.hid (ha.seg.later (B0.out.trans (HB.out.mono B0.out.size)))
      have HSEG := Lib.hid ha.seg
      have kb : wr.heap[ad.block]? = w.heap[ad.block]? := (B0.out.trans (HB.out.mono B0.out.size)).block _ hg
      have cc : ∀ k u, (doL A)[k]? = some u → wr.cell? ((ad.add (j * 10)).add k) = some u := fun k u h => by
        rw [World.cell?_of_block (w := w) (by rw [add_blk, add_blk]; exact kb)]
        exact hc k u h
      have c0 : wr.cell? (ad.add (j * 10)) = some _ := cc 0 _ rfl
      have c1 : wr.cell? ⟨(ad.add (j * 10)).block, (ad.add (j * 10)).off + 1, none⟩ = some _ := cc 1 _ rfl
      have c2 : wr.cell? ⟨(ad.add (j * 10)).block, (ad.add (j * 10)).off + 2, none⟩ = some _ := cc 2 _ rfl
      have c3 : wr.cell? ⟨(ad.add (j * 10)).block, (ad.add (j * 10)).off + 3, none⟩ = some _ := cc 3 _ rfl
      have c4 : wr.cell? ⟨(ad.add (j * 10)).block, (ad.add (j * 10)).off + 4, none⟩ = some _ := cc 4 _ rfl
      have c5 : wr.cell? ⟨(ad.add (j * 10)).block, (ad.add (j * 10)).off + 5, none⟩ = some _ := cc 5 _ rfl
      have c6 : wr.cell? ⟨(ad.add (j * 10)).block, (ad.add (j * 10)).off + 6, none⟩ = some _ := cc 6 _ rfl
      have c7 : wr.cell? ⟨(ad.add (j * 10)).block, (ad.add (j * 10)).off + 7, none⟩ = some _ := cc 7 _ rfl
      have c8 : wr.cell? ⟨(ad.add (j * 10)).block, (ad.add (j * 10)).off + 8, none⟩ = some _ := cc 8 _ rfl
      have c9 : wr.cell? ⟨(ad.add (j * 10)).block, (ad.add (j * 10)).off + 9, none⟩ = some _ := cc 9 _ rfl
      clear kb cc hc hg ha hlt hj
      go_upto_region 9 with fail
      obtain ⟨w5, e5, t5, k5, z5, o5⟩ : ∃ w5, wr.alloc (.cells (doL A).toArray 94) = w5 ∧ TwoSt (fun b => b < w0.heap.size ∨ b = wr.heap.size) w0.heap.size (w0.heap.size + 1) X X w5 ∧ Below wr.heap.size wr w5 ∧ w5.heap.size = wr.heap.size + 1 ∧ w5.heap[wr.heap.size]? = some (.cells (doL A).toArray 94 (0, 0)) := ⟨_, rfl, HT.out.box _, box_below _ _, by simp, heap_alloc_new _ _⟩
      rw [e5]
      have T5 := Lib.hid t5
      have B5 := Lib.hid (HB.out.trans (k5.mono HB.out.size))
      have O5 := Lib.hid o5
      have Z5 := Lib.hid z5
      have SG5 := Lib.hid (HSG.out.later k5)
      clear c0 c1 c2 c3 c4 c5 c6 c7 c8 c9 e5 t5 k5 z5 HT HSG
      have c8 : w5.cell? ⟨wr.heap.size, 8, none⟩ = some (.string A.o.s) := cellAt o5 8
      have c9 : w5.cell? ⟨wr.heap.size, 9, none⟩ = some (.slice A.p A.l.length A.c) := cellAt o5 9
      have c0 : w5.cell? ⟨wr.heap.size, 0, none⟩ = some (.int .i64 A.what) := cellAt o5 0
      clear o5
      by_cases g1 : (A.o.s.size : Int) > 200
      · go_wp2
        go_ret
        exact ⟨rfl, B0.out.trans (B5.out.mono B0.out.size)⟩
      by_cases g2 : (A.l.length : Int) > 300
      · go_wp2
        go_ret
        exact ⟨rfl, B0.out.trans (B5.out.mono B0.out.size)⟩
      go_upto_region 13 with fail
      obtain ⟨w7, e7, r7, g7⟩ : ∃ w7, (w5.alloc (.cells #[.int .i64 0, .bool false, .int .i64 0, .int .i64 0, .int .i64 0, .string ⟨#[]⟩] 24)).alloc (.cells #[.int .i64 0, .bool false, .int .i64 0, .int .i64 0, .int .i64 0, .string ⟨#[]⟩] 24) = w7 ∧ PlayR w0.heap.size w0 w0.heap.size (w0.heap.size + 1) wr.heap.size w5.heap.size (w5.heap.size + 1) A Ob.zero Ob.zero X X w7 ∧ Seg w7 (.slice A.p A.l.length A.c) A.l := by
        have hz := Z5.out
        have q1 := heap_alloc_new w5 emptyOb
        have q2 := heap_alloc_new (w5.alloc emptyOb) emptyOb
        rw [World.size_alloc] at q2
        have k7 : Below w5.heap.size w5 ((w5.alloc emptyOb).alloc emptyOb) := below_and (box_below _ _) (box_below _ _)
        refine ⟨_, rfl, ⟨((T5.out.box _).box _).sub fun b q => ?_, (k7.block _ (by omega)).trans O5.out, (heap_alloc_old _ _ (by simp)).trans q1, q2, ⟨by omega, by omega, by omega, ?_, ?_, ?_⟩, B5.out.trans (k7.mono B5.out.size)⟩, SG5.out.later k7⟩
        · rw [World.size_alloc]
          rcases q with q | q | q | q
          · exact .inl (.inl (.inl q))
          · exact .inl (.inl (.inr q))
          · exact .inl (.inr q)
          · exact .inr q
        · have := HB.out.size
          omega
        · have := B5.out.size
          omega
        · have := B5.out.size
          omega
      rw [e7]
      have R7 := Lib.hid r7
      have G7 := Lib.hid g7
      have HW : Hid (A.l.length ≤ 300) := Lib.hid (by omega)
      have c0 : w7.cell? ⟨wr.heap.size, 0, none⟩ = some (.int .i64 A.what) := cellAt r7.hd 0
      clear e7 r7 g7 c8 c9 T5 SG5 Z5 O5 B5 g1 g2
      go_upto_block 2 with fail
      clear c0
      generalize hwt : A.what = wt
      have WT := Lib.hid hwt
      clear hwt
      go_cut [9, 10] from 48 to 108 (fun ve vf wx => ve = .int .i64 (doE X A) ∧ vf = .int .i64 (doE X A) ∧ PlayR w0.heap.size w0 w0.heap.size (w0.heap.size + 1) wr.heap.size w5.heap.size (w5.heap.size + 1) A (doO X A) (doO X A) (doP X A) (doP X A) wx)
      case first =>
        by_cases hw : wt = 0
        · subst hw
          have eE : doE X A = pushE X A.o := by simp [doE, WT.out]
          have eP : doP X A = pushP X A.o := by simp [doP, WT.out]
          have eO : doO X A = Ob.zero := by simp [doO, WT.out]
          have EE := Lib.hid (And.intro eE (And.intro eP eO))
          clear eE eP eO
          go_upto_region 16 with fail
          have SX : Hid (w7.drew.heap[wr.heap.size]? = some (.cells (doL A).toArray 94 (0, 0))) := Lib.hid R7.out.hd
          have RD : Hid (PlayR w0.heap.size w0 w0.heap.size (w0.heap.size + 1) wr.heap.size w5.heap.size (w5.heap.size + 1) A Ob.zero Ob.zero X X w7.drew) := Lib.hid (R7.out.step (R7.out.two.below (Below.refl _ _).drew).1 (R7.out.two.below (Below.refl _ _).drew).2)
          have GD : Hid (Seg w7.drew (.slice A.p A.l.length A.c) A.l) := Lib.hid (G7.out.later (Below.refl _ _).drew)
          (try refine wp_region_noPanic ?_)
          refine wp_region_held_drew (S := fun wx => wx.heap[wr.heap.size]? = some (.cells (doL A).toArray 94 (0, 0))) (by kernel_rfl) SX.out (fun _ => ?_)
          generalize w7.drew = wd at SX RD GD ⊢
          refine wpAnyH_take (i := 0) (v := ptr w0.heap.size) rfl (by kernel_rfl) (by kernel_rfl) (by kernel_rfl) (fun _ _ _ h => h) (Or.inl ⟨by rfl, fun wx hS => ?_⟩) SX.out ?_
          · go_simp
          try simp only [Act.put, List.getElem_toArray, List.getElem_cons_succ, List.getElem_cons_zero, List.setIfInBounds_toArray, List.set_cons_zero, List.set_cons_succ]
          refine wpAnyH_take (i := 1) (v := .pointer (some ⟨wr.heap.size, 3, none⟩)) rfl (by kernel_rfl) (by kernel_rfl) (by kernel_rfl) (fun _ _ _ h => h) (Or.inl ⟨by rfl, fun wx hS => ?_⟩) SX.out ?_
          · go_simp
          try simp only [Act.put, List.getElem_toArray, List.getElem_cons_succ, List.getElem_cons_zero, List.setIfInBounds_toArray, List.set_cons_zero, List.set_cons_succ]
          refine wpAnyH_take (i := 2) (v := obV A.o.k A.o.x A.o.n A.o.a A.o.l A.o.s) rfl (by kernel_rfl) (by kernel_rfl) (by kernel_rfl) (fun _ _ _ h => h) (Or.inl ⟨by rfl, fun wx hS => ?_⟩) SX.out ?_
          · obtain ⟨d0, d1, d2, d3, d4, d5, d6, d7, d8, d9⟩ := do_cells hS; go_simp
          try simp only [Act.put, List.getElem_toArray, List.getElem_cons_succ, List.getElem_cons_zero, List.setIfInBounds_toArray, List.set_cons_zero, List.set_cons_succ]
          refine wpAnyH_take (i := 4) (v := .pointer (some ⟨w0.heap.size + 1, 0, none⟩)) rfl (by kernel_rfl) (by kernel_rfl) (by kernel_rfl) (fun _ _ _ h => h) (Or.inl ⟨by rfl, fun wx hS => ?_⟩) SX.out ?_
          · go_simp
          try simp only [Act.put, List.getElem_toArray, List.getElem_cons_succ, List.getElem_cons_zero, List.setIfInBounds_toArray, List.set_cons_zero, List.set_cons_succ]
          refine wpAnyH_take (i := 5) (v := .pointer (some ⟨wr.heap.size, 3, none⟩)) rfl (by kernel_rfl) (by kernel_rfl) (by kernel_rfl) (fun _ _ _ h => h) (Or.inl ⟨by rfl, fun wx hS => ?_⟩) SX.out ?_
          · go_simp
          try simp only [Act.put, List.getElem_toArray, List.getElem_cons_succ, List.getElem_cons_zero, List.setIfInBounds_toArray, List.set_cons_zero, List.set_cons_succ]
          refine wpAnyH_take (i := 6) (v := obV A.o.k A.o.x A.o.n A.o.a A.o.l A.o.s) rfl (by kernel_rfl) (by kernel_rfl) (by kernel_rfl) (fun _ _ _ h => h) (Or.inl ⟨by rfl, fun wx hS => ?_⟩) SX.out ?_
          · obtain ⟨d0, d1, d2, d3, d4, d5, d6, d7, d8, d9⟩ := do_cells hS; go_simp
          try simp only [Act.put, List.getElem_toArray, List.getElem_cons_succ, List.getElem_cons_zero, List.setIfInBounds_toArray, List.set_cons_zero, List.set_cons_succ]
          refine wpAnyH_ready (rs := [3]) (by kernel_rfl) (by simp) ?_
          refine AllReadyH.cons rfl (fun K hK => ?_) AllReadyH.nil
          go_simp
          refine (RD.out.two.prog fun v hs => push_did hs A.o).mono ?_
          rintro e wp ⟨rfl, tp, kp⟩
          have RP := Lib.hid (RD.out.step tp kp)
          clear tp
          clear kp
          have SP := Lib.hid RP.out.hd
          refine hK.out _ _ SP.out (fun _ => ?_)
          clear hK
          try simp only [Act.put, List.getElem_toArray, List.getElem_cons_succ, List.getElem_cons_zero, List.setIfInBounds_toArray, List.set_cons_zero, List.set_cons_succ]
          refine wpAnyH_ready (rs := [7]) (by kernel_rfl) (by simp) ?_
          refine AllReadyH.cons rfl (fun K hK => ?_) AllReadyH.nil
          go_simp
          refine (RP.out.two.ref fun v hs => rpush_did hs A.o).mono ?_
          rintro e wq ⟨rfl, tq, kq⟩
          have RQ := Lib.hid (RP.out.step tq kq)
          clear tq kq
          have SQ := Lib.hid RQ.out.hd
          refine hK.out _ _ SQ.out (fun _ => ?_)
          clear hK
          try simp only [Act.put, List.getElem_toArray, List.getElem_cons_succ, List.getElem_cons_zero, List.setIfInBounds_toArray, List.set_cons_zero, List.set_cons_succ]
          refine wpAnyH_take (i := 8) (v := .int .i64 (pushE X A.o)) rfl (by kernel_rfl) (by kernel_rfl) (by kernel_rfl) (fun _ _ _ h => h) (Or.inl ⟨by rfl, fun wx hS => ?_⟩) SQ.out ?_
          · go_simp
          try simp only [Act.put, List.getElem_toArray, List.getElem_cons_succ, List.getElem_cons_zero, List.setIfInBounds_toArray, List.set_cons_zero, List.set_cons_succ]
          refine wpAnyH_take (i := 9) (v := .int .i64 (pushE X A.o)) rfl (by kernel_rfl) (by kernel_rfl) (by kernel_rfl) (fun _ _ _ h => h) (Or.inl ⟨by rfl, fun wx hS => ?_⟩) SQ.out ?_
          · go_simp
          try simp only [Act.put, List.getElem_toArray, List.getElem_cons_succ, List.getElem_cons_zero, List.setIfInBounds_toArray, List.set_cons_zero, List.set_cons_succ]
          refine wpAnyH_done (by kernel_rfl) ?_ _
          (try refine no_panic ?_)
          go_wp2
          go_meet
          rw [EE.out.1, EE.out.2.1, EE.out.2.2]
          exact ⟨rfl, rfl, RQ.out⟩
        by_cases hw1 : wt = 1
        · subst hw1
          have eE : doE X A = peekE X 0 := by simp [doE, WT.out]
          have eP : doP X A = popP X := by simp [doP, WT.out]
          have eO : doO X A = peekO X 0 := by simp [doO, WT.out]
          obtain ⟨k, x, n', a, l, s', hO⟩ : ∃ k x n a l s, peekO X 0 = ⟨k, x, n, a, l, s⟩ := ⟨_, _, _, _, _, _, rfl⟩
          rw [hO] at eO
          have EE := Lib.hid (And.intro eE (And.intro eP eO))
          have HO := Lib.hid hO
          clear eE eP eO hO
          go_wp2_with fail
          refine (R7.out.two.prog (E := .returned (.tuple #[obV k x n' a l s', .int .i64 (peekE X 0)])) fun v hs => by have q := pop_is hs; rw [HO.out] at q; exact q).mono ?_
          rintro e wp ⟨rfl, tp, kp⟩
          have RP := Lib.hid (R7.out.step tp kp)
          clear tp kp
          obtain ⟨⟨o0, o1, o2, o3, o4, o5⟩, g0, g1, g2, g3, g4, g5⟩ := cells6 RP.out.hx
          go_upto_region 19 with fail
          obtain ⟨wq, eq, bq, onq⟩ := set6_box RP.out.hx (.int .i64 k) (.bool x) (.int .i64 n') (.int .i64 a) (.int .i64 l) (.string s')
          rw [eq]
          have RQ := Lib.hid (RP.out.setX ⟨k, x, n', a, l, s'⟩ onq bq)
          clear eq bq onq o0 o1 o2 o3 o4 o5 g0 g1 g2 g3 g4 g5
          go_wp2_with fail
          refine (RQ.out.two.ref (E := .returned (.tuple #[obV k x n' a l s', .int .i64 (peekE X 0)])) fun v hs => by have q := rpop_is hs; rw [HO.out] at q; exact q).mono ?_
          rintro e wz ⟨rfl, tz, kz⟩
          have RZ := Lib.hid (RQ.out.step tz kz)
          clear tz kz
          obtain ⟨⟨o0, o1, o2, o3, o4, o5⟩, g0, g1, g2, g3, g4, g5⟩ := cells6 RZ.out.hy
          obtain ⟨wq2, eq, bq, onq⟩ := set6_box RZ.out.hy (.int .i64 k) (.bool x) (.int .i64 n') (.int .i64 a) (.int .i64 l) (.string s')
          have RF := Lib.hid (RZ.out.setY ⟨k, x, n', a, l, s'⟩ onq bq)
          clear bq onq
          go_wp2
          go_meet
          rw [EE.out.1, EE.out.2.1, EE.out.2.2]
          exact ⟨rfl, rfl, RF.out⟩
        by_cases hw2 : wt = 2
        · subst hw2
          have eE : doE X A = dupE X A.n := by simp [doE, WT.out]
          have eP : doP X A = dupP X A.n := by simp [doP, WT.out]
          have eO : doO X A = Ob.zero := by simp [doO, WT.out]
          have EE := Lib.hid (And.intro eE (And.intro eP eO))
          clear eE eP eO
          go_upto_region 21 with fail
          have SX : Hid (w7.drew.heap[wr.heap.size]? = some (.cells (doL A).toArray 94 (0, 0))) := Lib.hid R7.out.hd
          have RD : Hid (PlayR w0.heap.size w0 w0.heap.size (w0.heap.size + 1) wr.heap.size w5.heap.size (w5.heap.size + 1) A Ob.zero Ob.zero X X w7.drew) := Lib.hid (R7.out.step (R7.out.two.below (Below.refl _ _).drew).1 (R7.out.two.below (Below.refl _ _).drew).2)
          have GD : Hid (Seg w7.drew (.slice A.p A.l.length A.c) A.l) := Lib.hid (G7.out.later (Below.refl _ _).drew)
          (try refine wp_region_noPanic ?_)
          refine wp_region_held_drew (S := fun wx => wx.heap[wr.heap.size]? = some (.cells (doL A).toArray 94 (0, 0))) (by kernel_rfl) SX.out (fun _ => ?_)
          generalize w7.drew = wd at SX RD GD ⊢
          refine wpAnyH_take (i := 0) (v := ptr w0.heap.size) rfl (by kernel_rfl) (by kernel_rfl) (by kernel_rfl) (fun _ _ _ h => h) (Or.inl ⟨by rfl, fun wx hS => ?_⟩) SX.out ?_
          · go_simp
          try simp only [Act.put, List.getElem_toArray, List.getElem_cons_succ, List.getElem_cons_zero, List.setIfInBounds_toArray, List.set_cons_zero, List.set_cons_succ]
          refine wpAnyH_take (i := 1) (v := .pointer (some ⟨wr.heap.size, 1, none⟩)) rfl (by kernel_rfl) (by kernel_rfl) (by kernel_rfl) (fun _ _ _ h => h) (Or.inl ⟨by rfl, fun wx hS => ?_⟩) SX.out ?_
          · go_simp
          try simp only [Act.put, List.getElem_toArray, List.getElem_cons_succ, List.getElem_cons_zero, List.setIfInBounds_toArray, List.set_cons_zero, List.set_cons_succ]
          refine wpAnyH_take (i := 2) (v := .int .i64 A.n) rfl (by kernel_rfl) (by kernel_rfl) (by kernel_rfl) (fun _ _ _ h => h) (Or.inl ⟨by rfl, fun wx hS => ?_⟩) SX.out ?_
          · obtain ⟨d0, d1, d2, d3, d4, d5, d6, d7, d8, d9⟩ := do_cells hS; go_simp
          try simp only [Act.put, List.getElem_toArray, List.getElem_cons_succ, List.getElem_cons_zero, List.setIfInBounds_toArray, List.set_cons_zero, List.set_cons_succ]
          refine wpAnyH_take (i := 4) (v := .pointer (some ⟨w0.heap.size + 1, 0, none⟩)) rfl (by kernel_rfl) (by kernel_rfl) (by kernel_rfl) (fun _ _ _ h => h) (Or.inl ⟨by rfl, fun wx hS => ?_⟩) SX.out ?_
          · go_simp
          try simp only [Act.put, List.getElem_toArray, List.getElem_cons_succ, List.getElem_cons_zero, List.setIfInBounds_toArray, List.set_cons_zero, List.set_cons_succ]
          refine wpAnyH_take (i := 5) (v := .pointer (some ⟨wr.heap.size, 1, none⟩)) rfl (by kernel_rfl) (by kernel_rfl) (by kernel_rfl) (fun _ _ _ h => h) (Or.inl ⟨by rfl, fun wx hS => ?_⟩) SX.out ?_
          · go_simp
          try simp only [Act.put, List.getElem_toArray, List.getElem_cons_succ, List.getElem_cons_zero, List.setIfInBounds_toArray, List.set_cons_zero, List.set_cons_succ]
          refine wpAnyH_take (i := 6) (v := .int .i64 A.n) rfl (by kernel_rfl) (by kernel_rfl) (by kernel_rfl) (fun _ _ _ h => h) (Or.inl ⟨by rfl, fun wx hS => ?_⟩) SX.out ?_
          · obtain ⟨d0, d1, d2, d3, d4, d5, d6, d7, d8, d9⟩ := do_cells hS; go_simp
          try simp only [Act.put, List.getElem_toArray, List.getElem_cons_succ, List.getElem_cons_zero, List.setIfInBounds_toArray, List.set_cons_zero, List.set_cons_succ]
          refine wpAnyH_ready (rs := [3]) (by kernel_rfl) (by simp) ?_
          refine AllReadyH.cons rfl (fun K hK => ?_) AllReadyH.nil
          go_simp
          refine (RD.out.two.prog fun v hs => dup_is hs A.n).mono ?_
          rintro e wp ⟨rfl, tp, kp⟩
          have RP := Lib.hid (RD.out.step tp kp)
          clear tp
          clear kp
          have SP := Lib.hid RP.out.hd
          refine hK.out _ _ SP.out (fun _ => ?_)
          clear hK
          try simp only [Act.put, List.getElem_toArray, List.getElem_cons_succ, List.getElem_cons_zero, List.setIfInBounds_toArray, List.set_cons_zero, List.set_cons_succ]
          refine wpAnyH_ready (rs := [7]) (by kernel_rfl) (by simp) ?_
          refine AllReadyH.cons rfl (fun K hK => ?_) AllReadyH.nil
          go_simp
          refine (RP.out.two.ref fun v hs => rdup_did hs A.n).mono ?_
          rintro e wq ⟨rfl, tq, kq⟩
          have RQ := Lib.hid (RP.out.step tq kq)
          clear tq kq
          have SQ := Lib.hid RQ.out.hd
          refine hK.out _ _ SQ.out (fun _ => ?_)
          clear hK
          try simp only [Act.put, List.getElem_toArray, List.getElem_cons_succ, List.getElem_cons_zero, List.setIfInBounds_toArray, List.set_cons_zero, List.set_cons_succ]
          refine wpAnyH_take (i := 8) (v := .int .i64 (dupE X A.n)) rfl (by kernel_rfl) (by kernel_rfl) (by kernel_rfl) (fun _ _ _ h => h) (Or.inl ⟨by rfl, fun wx hS => ?_⟩) SQ.out ?_
          · go_simp
          try simp only [Act.put, List.getElem_toArray, List.getElem_cons_succ, List.getElem_cons_zero, List.setIfInBounds_toArray, List.set_cons_zero, List.set_cons_succ]
          refine wpAnyH_take (i := 9) (v := .int .i64 (dupE X A.n)) rfl (by kernel_rfl) (by kernel_rfl) (by kernel_rfl) (fun _ _ _ h => h) (Or.inl ⟨by rfl, fun wx hS => ?_⟩) SQ.out ?_
          · go_simp
          try simp only [Act.put, List.getElem_toArray, List.getElem_cons_succ, List.getElem_cons_zero, List.setIfInBounds_toArray, List.set_cons_zero, List.set_cons_succ]
          refine wpAnyH_done (by kernel_rfl) ?_ _
          (try refine no_panic ?_)
          go_wp2
          go_meet
          rw [EE.out.1, EE.out.2.1, EE.out.2.2]
          exact ⟨rfl, rfl, RQ.out⟩
        by_cases hw3 : wt = 3
        · subst hw3
          have eE : doE X A = rollE X A.n := by simp [doE, WT.out]
          have eP : doP X A = rollQ X A.n A.m := by simp [doP, WT.out]
          have eO : doO X A = Ob.zero := by simp [doO, WT.out]
          have EE := Lib.hid (And.intro eE (And.intro eP eO))
          clear eE eP eO
          go_upto_region 23 with fail
          have SX : Hid (w7.drew.heap[wr.heap.size]? = some (.cells (doL A).toArray 94 (0, 0))) := Lib.hid R7.out.hd
          have RD : Hid (PlayR w0.heap.size w0 w0.heap.size (w0.heap.size + 1) wr.heap.size w5.heap.size (w5.heap.size + 1) A Ob.zero Ob.zero X X w7.drew) := Lib.hid (R7.out.step (R7.out.two.below (Below.refl _ _).drew).1 (R7.out.two.below (Below.refl _ _).drew).2)
          have GD : Hid (Seg w7.drew (.slice A.p A.l.length A.c) A.l) := Lib.hid (G7.out.later (Below.refl _ _).drew)
          (try refine wp_region_noPanic ?_)
          refine wp_region_held_drew (S := fun wx => wx.heap[wr.heap.size]? = some (.cells (doL A).toArray 94 (0, 0))) (by kernel_rfl) SX.out (fun _ => ?_)
          generalize w7.drew = wd at SX RD GD ⊢
          refine wpAnyH_take (i := 0) (v := ptr w0.heap.size) rfl (by kernel_rfl) (by kernel_rfl) (by kernel_rfl) (fun _ _ _ h => h) (Or.inl ⟨by rfl, fun wx hS => ?_⟩) SX.out ?_
          · go_simp
          try simp only [Act.put, List.getElem_toArray, List.getElem_cons_succ, List.getElem_cons_zero, List.setIfInBounds_toArray, List.set_cons_zero, List.set_cons_succ]
          refine wpAnyH_take (i := 1) (v := .pointer (some ⟨wr.heap.size, 1, none⟩)) rfl (by kernel_rfl) (by kernel_rfl) (by kernel_rfl) (fun _ _ _ h => h) (Or.inl ⟨by rfl, fun wx hS => ?_⟩) SX.out ?_
          · go_simp
          try simp only [Act.put, List.getElem_toArray, List.getElem_cons_succ, List.getElem_cons_zero, List.setIfInBounds_toArray, List.set_cons_zero, List.set_cons_succ]
          refine wpAnyH_take (i := 2) (v := .int .i64 A.n) rfl (by kernel_rfl) (by kernel_rfl) (by kernel_rfl) (fun _ _ _ h => h) (Or.inl ⟨by rfl, fun wx hS => ?_⟩) SX.out ?_
          · obtain ⟨d0, d1, d2, d3, d4, d5, d6, d7, d8, d9⟩ := do_cells hS; go_simp
          try simp only [Act.put, List.getElem_toArray, List.getElem_cons_succ, List.getElem_cons_zero, List.setIfInBounds_toArray, List.set_cons_zero, List.set_cons_succ]
          refine wpAnyH_take (i := 3) (v := .pointer (some ⟨wr.heap.size, 2, none⟩)) rfl (by kernel_rfl) (by kernel_rfl) (by kernel_rfl) (fun _ _ _ h => h) (Or.inl ⟨by rfl, fun wx hS => ?_⟩) SX.out ?_
          · go_simp
          try simp only [Act.put, List.getElem_toArray, List.getElem_cons_succ, List.getElem_cons_zero, List.setIfInBounds_toArray, List.set_cons_zero, List.set_cons_succ]
          refine wpAnyH_take (i := 4) (v := .int .i64 A.m) rfl (by kernel_rfl) (by kernel_rfl) (by kernel_rfl) (fun _ _ _ h => h) (Or.inl ⟨by rfl, fun wx hS => ?_⟩) SX.out ?_
          · obtain ⟨d0, d1, d2, d3, d4, d5, d6, d7, d8, d9⟩ := do_cells hS; go_simp
          try simp only [Act.put, List.getElem_toArray, List.getElem_cons_succ, List.getElem_cons_zero, List.setIfInBounds_toArray, List.set_cons_zero, List.set_cons_succ]
          refine wpAnyH_take (i := 6) (v := .pointer (some ⟨w0.heap.size + 1, 0, none⟩)) rfl (by kernel_rfl) (by kernel_rfl) (by kernel_rfl) (fun _ _ _ h => h) (Or.inl ⟨by rfl, fun wx hS => ?_⟩) SX.out ?_
          · go_simp
          try simp only [Act.put, List.getElem_toArray, List.getElem_cons_succ, List.getElem_cons_zero, List.setIfInBounds_toArray, List.set_cons_zero, List.set_cons_succ]
          refine wpAnyH_take (i := 7) (v := .pointer (some ⟨wr.heap.size, 1, none⟩)) rfl (by kernel_rfl) (by kernel_rfl) (by kernel_rfl) (fun _ _ _ h => h) (Or.inl ⟨by rfl, fun wx hS => ?_⟩) SX.out ?_
          · go_simp
          try simp only [Act.put, List.getElem_toArray, List.getElem_cons_succ, List.getElem_cons_zero, List.setIfInBounds_toArray, List.set_cons_zero, List.set_cons_succ]
          refine wpAnyH_take (i := 8) (v := .int .i64 A.n) rfl (by kernel_rfl) (by kernel_rfl) (by kernel_rfl) (fun _ _ _ h => h) (Or.inl ⟨by rfl, fun wx hS => ?_⟩) SX.out ?_
          · obtain ⟨d0, d1, d2, d3, d4, d5, d6, d7, d8, d9⟩ := do_cells hS; go_simp
          try simp only [Act.put, List.getElem_toArray, List.getElem_cons_succ, List.getElem_cons_zero, List.setIfInBounds_toArray, List.set_cons_zero, List.set_cons_succ]
          refine wpAnyH_take (i := 9) (v := .pointer (some ⟨wr.heap.size, 2, none⟩)) rfl (by kernel_rfl) (by kernel_rfl) (by kernel_rfl) (fun _ _ _ h => h) (Or.inl ⟨by rfl, fun wx hS => ?_⟩) SX.out ?_
          · go_simp
          try simp only [Act.put, List.getElem_toArray, List.getElem_cons_succ, List.getElem_cons_zero, List.setIfInBounds_toArray, List.set_cons_zero, List.set_cons_succ]
          refine wpAnyH_take (i := 10) (v := .int .i64 A.m) rfl (by kernel_rfl) (by kernel_rfl) (by kernel_rfl) (fun _ _ _ h => h) (Or.inl ⟨by rfl, fun wx hS => ?_⟩) SX.out ?_
          · obtain ⟨d0, d1, d2, d3, d4, d5, d6, d7, d8, d9⟩ := do_cells hS; go_simp
          try simp only [Act.put, List.getElem_toArray, List.getElem_cons_succ, List.getElem_cons_zero, List.setIfInBounds_toArray, List.set_cons_zero, List.set_cons_succ]
          refine wpAnyH_ready (rs := [5]) (by kernel_rfl) (by simp) ?_
          refine AllReadyH.cons rfl (fun K hK => ?_) AllReadyH.nil
          go_simp
          refine (RD.out.two.prog fun v hs => roll_is hs A.n A.m).mono ?_
          rintro e wp ⟨rfl, tp, kp⟩
          have RP := Lib.hid (RD.out.step tp kp)
          clear tp
          clear kp
          have SP := Lib.hid RP.out.hd
          refine hK.out _ _ SP.out (fun _ => ?_)
          clear hK
          try simp only [Act.put, List.getElem_toArray, List.getElem_cons_succ, List.getElem_cons_zero, List.setIfInBounds_toArray, List.set_cons_zero, List.set_cons_succ]
          refine wpAnyH_ready (rs := [11]) (by kernel_rfl) (by simp) ?_
          refine AllReadyH.cons rfl (fun K hK => ?_) AllReadyH.nil
          go_simp
          refine (RP.out.two.ref fun v hs => rroll_did hs A.n A.m).mono ?_
          rintro e wq ⟨rfl, tq, kq⟩
          have RQ := Lib.hid (RP.out.step tq kq)
          clear tq kq
          have SQ := Lib.hid RQ.out.hd
          refine hK.out _ _ SQ.out (fun _ => ?_)
          clear hK
          try simp only [Act.put, List.getElem_toArray, List.getElem_cons_succ, List.getElem_cons_zero, List.setIfInBounds_toArray, List.set_cons_zero, List.set_cons_succ]
          refine wpAnyH_take (i := 12) (v := .int .i64 (rollE X A.n)) rfl (by kernel_rfl) (by kernel_rfl) (by kernel_rfl) (fun _ _ _ h => h) (Or.inl ⟨by rfl, fun wx hS => ?_⟩) SQ.out ?_
          · go_simp
          try simp only [Act.put, List.getElem_toArray, List.getElem_cons_succ, List.getElem_cons_zero, List.setIfInBounds_toArray, List.set_cons_zero, List.set_cons_succ]
          refine wpAnyH_take (i := 13) (v := .int .i64 (rollE X A.n)) rfl (by kernel_rfl) (by kernel_rfl) (by kernel_rfl) (fun _ _ _ h => h) (Or.inl ⟨by rfl, fun wx hS => ?_⟩) SQ.out ?_
          · go_simp
          try simp only [Act.put, List.getElem_toArray, List.getElem_cons_succ, List.getElem_cons_zero, List.setIfInBounds_toArray, List.set_cons_zero, List.set_cons_succ]
          refine wpAnyH_done (by kernel_rfl) ?_ _
          (try refine no_panic ?_)
          go_wp2
          go_meet
          rw [EE.out.1, EE.out.2.1, EE.out.2.2]
          exact ⟨rfl, rfl, RQ.out⟩
        by_cases hw4 : wt = 4
        · subst hw4
          have eE : doE X A = 0 := by simp [doE, WT.out]
          have eP : doP X A = [] := by simp [doP, WT.out]
          have eO : doO X A = Ob.zero := by simp [doO, WT.out]
          have EE := Lib.hid (And.intro eE (And.intro eP eO))
          clear eE eP eO
          go_wp2_with fail
          refine (R7.out.two.prog fun v hs => stkClear hs).mono ?_
          rintro e wp ⟨rfl, tp, kp⟩
          have RP := Lib.hid (R7.out.step tp kp)
          clear tp kp
          obtain ⟨cu, hcu⟩ : ∃ u, wp.heap[w0.heap.size + 1]? = some (.cells #[u] 92 (0, 0)) := by
            obtain ⟨v, u, hs, hr, _⟩ := RP.out.two.ex
            exact ⟨u, hr.hdr⟩
          have q0 : wp.cell? ⟨w0.heap.size + 1, 0, none⟩ = some cu := cellAt hcu 0
          have q1 : wp.frozen? ⟨w0.heap.size + 1, 0, none⟩ = false := freeAt hcu 0
          have D := RP.out.two.refD (Y' := []) (w' := wp.setCell ⟨w0.heap.size + 1, 0, none⟩ (.slice none 0 0)) fun u hr => Did.store hr ⟨rfl, rfl, rfl, Nat.le_refl _, fun _ _ => rfl⟩ (World.ownsRow_nil _ _ _ _) (fun g e => by simp [Value.ownBlock] at e) (Nat.zero_le _)
          have RQ := Lib.hid (RP.out.step D.1 D.2)
          clear D hcu
          go_wp2
          go_meet
          rw [EE.out.1, EE.out.2.1, EE.out.2.2]
          exact ⟨rfl, rfl, RQ.out⟩
        have eE : doE X A = becE A.l := by simp [doE, WT.out, hw, hw1, hw2, hw3, hw4]
        have eP : doP X A = becP X A.l := by simp [doP, WT.out, hw, hw1, hw2, hw3, hw4]
        have eO : doO X A = Ob.zero := by simp [doO, WT.out, hw, hw1, hw2, hw3, hw4]
        have EE := Lib.hid (And.intro eE (And.intro eP eO))
        clear eE eP eO
        go_upto_region 14 with fail
        have SX : Hid (w7.drew.heap[wr.heap.size]? = some (.cells (doL A).toArray 94 (0, 0))) := Lib.hid R7.out.hd
        have RD : Hid (PlayR w0.heap.size w0 w0.heap.size (w0.heap.size + 1) wr.heap.size w5.heap.size (w5.heap.size + 1) A Ob.zero Ob.zero X X w7.drew) := Lib.hid (R7.out.step (R7.out.two.below (Below.refl _ _).drew).1 (R7.out.two.below (Below.refl _ _).drew).2)
        have GD : Hid (Seg w7.drew (.slice A.p A.l.length A.c) A.l) := Lib.hid (G7.out.later (Below.refl _ _).drew)
        (try refine wp_region_noPanic ?_)
        refine wp_region_held_drew (S := fun wx => wx.heap[wr.heap.size]? = some (.cells (doL A).toArray 94 (0, 0))) (by kernel_rfl) SX.out (fun _ => ?_)
        generalize w7.drew = wd at SX RD GD ⊢
        refine wpAnyH_take (i := 0) (v := ptr w0.heap.size) rfl (by kernel_rfl) (by kernel_rfl) (by kernel_rfl) (fun _ _ _ h => h) (Or.inl ⟨by rfl, fun wx hS => ?_⟩) SX.out ?_
        · go_simp
        try simp only [Act.put, List.getElem_toArray, List.getElem_cons_succ, List.getElem_cons_zero, List.setIfInBounds_toArray, List.set_cons_zero, List.set_cons_succ]
        refine wpAnyH_take (i := 1) (v := .pointer (some ⟨wr.heap.size, 9, none⟩)) rfl (by kernel_rfl) (by kernel_rfl) (by kernel_rfl) (fun _ _ _ h => h) (Or.inl ⟨by rfl, fun wx hS => ?_⟩) SX.out ?_
        · go_simp
        try simp only [Act.put, List.getElem_toArray, List.getElem_cons_succ, List.getElem_cons_zero, List.setIfInBounds_toArray, List.set_cons_zero, List.set_cons_succ]
        refine wpAnyH_take (i := 2) (v := .slice A.p A.l.length A.c) rfl (by kernel_rfl) (by kernel_rfl) (by kernel_rfl) (fun _ _ _ h => h) (Or.inl ⟨by rfl, fun wx hS => ?_⟩) SX.out ?_
        · obtain ⟨d0, d1, d2, d3, d4, d5, d6, d7, d8, d9⟩ := do_cells hS; go_simp
        try simp only [Act.put, List.getElem_toArray, List.getElem_cons_succ, List.getElem_cons_zero, List.setIfInBounds_toArray, List.set_cons_zero, List.set_cons_succ]
        refine wpAnyH_take (i := 4) (v := .pointer (some ⟨w0.heap.size + 1, 0, none⟩)) rfl (by kernel_rfl) (by kernel_rfl) (by kernel_rfl) (fun _ _ _ h => h) (Or.inl ⟨by rfl, fun wx hS => ?_⟩) SX.out ?_
        · go_simp
        try simp only [Act.put, List.getElem_toArray, List.getElem_cons_succ, List.getElem_cons_zero, List.setIfInBounds_toArray, List.set_cons_zero, List.set_cons_succ]
        refine wpAnyH_take (i := 5) (v := .pointer (some ⟨wr.heap.size, 9, none⟩)) rfl (by kernel_rfl) (by kernel_rfl) (by kernel_rfl) (fun _ _ _ h => h) (Or.inl ⟨by rfl, fun wx hS => ?_⟩) SX.out ?_
        · go_simp
        try simp only [Act.put, List.getElem_toArray, List.getElem_cons_succ, List.getElem_cons_zero, List.setIfInBounds_toArray, List.set_cons_zero, List.set_cons_succ]
        refine wpAnyH_take (i := 6) (v := .slice A.p A.l.length A.c) rfl (by kernel_rfl) (by kernel_rfl) (by kernel_rfl) (fun _ _ _ h => h) (Or.inl ⟨by rfl, fun wx hS => ?_⟩) SX.out ?_
        · obtain ⟨d0, d1, d2, d3, d4, d5, d6, d7, d8, d9⟩ := do_cells hS; go_simp
        try simp only [Act.put, List.getElem_toArray, List.getElem_cons_succ, List.getElem_cons_zero, List.setIfInBounds_toArray, List.set_cons_zero, List.set_cons_succ]
        refine wpAnyH_ready (rs := [3]) (by kernel_rfl) (by simp) ?_
        refine AllReadyH.cons rfl (fun K hK => ?_) AllReadyH.nil
        go_simp
        refine (RD.out.two.prog fun v hs => bec_is hs (HSEG.out.later (B0.out.trans (RD.out.below.mono B0.out.size))) (by have := HW.out; omega)).mono ?_
        rintro e wp ⟨rfl, tp, kp⟩
        have RP := Lib.hid (RD.out.step tp kp)
        clear tp
        clear kp
        have SP := Lib.hid RP.out.hd
        refine hK.out _ _ SP.out (fun _ => ?_)
        clear hK
        try simp only [Act.put, List.getElem_toArray, List.getElem_cons_succ, List.getElem_cons_zero, List.setIfInBounds_toArray, List.set_cons_zero, List.set_cons_succ]
        refine wpAnyH_ready (rs := [7]) (by kernel_rfl) (by simp) ?_
        refine AllReadyH.cons rfl (fun K hK => ?_) AllReadyH.nil
        go_simp
        refine (RP.out.two.ref fun v hs => rbec_did hs (HSEG.out.later (B0.out.trans (RP.out.below.mono B0.out.size))) (by have := HW.out; omega)).mono ?_
        rintro e wq ⟨rfl, tq, kq⟩
        have RQ := Lib.hid (RP.out.step tq kq)
        clear tq kq
        have SQ := Lib.hid RQ.out.hd
        refine hK.out _ _ SQ.out (fun _ => ?_)
        clear hK
        try simp only [Act.put, List.getElem_toArray, List.getElem_cons_succ, List.getElem_cons_zero, List.setIfInBounds_toArray, List.set_cons_zero, List.set_cons_succ]
        refine wpAnyH_take (i := 8) (v := .int .i64 (becE A.l)) rfl (by kernel_rfl) (by kernel_rfl) (by kernel_rfl) (fun _ _ _ h => h) (Or.inl ⟨by rfl, fun wx hS => ?_⟩) SQ.out ?_
        · go_simp
        try simp only [Act.put, List.getElem_toArray, List.getElem_cons_succ, List.getElem_cons_zero, List.setIfInBounds_toArray, List.set_cons_zero, List.set_cons_succ]
        refine wpAnyH_take (i := 9) (v := .int .i64 (becE A.l)) rfl (by kernel_rfl) (by kernel_rfl) (by kernel_rfl) (fun _ _ _ h => h) (Or.inl ⟨by rfl, fun wx hS => ?_⟩) SQ.out ?_
        · go_simp
        try simp only [Act.put, List.getElem_toArray, List.getElem_cons_succ, List.getElem_cons_zero, List.setIfInBounds_toArray, List.set_cons_zero, List.set_cons_succ]
        refine wpAnyH_done (by kernel_rfl) ?_ _
        (try refine no_panic ?_)
        go_wp2
        go_meet
        rw [EE.out.1, EE.out.2.1, EE.out.2.2]
        exact ⟨rfl, rfl, RQ.out⟩
      case rest =>
        generalize doE X A = E at hcut ⊢
        generalize doO X A = o at hcut
        generalize doP X A = Y at hcut
        obtain ⟨rfl, rfl, pr⟩ := hcut
        obtain ⟨ok, ox, on, oa, ol, os⟩ := o
        obtain ⟨v, u, hs, hr, _, _⟩ := pr.two.ex
        obtain ⟨pu, cu, rfl⟩ := hr.form
        have PR := Lib.hid pr
        have HS := Lib.hid hs
        have HR := Lib.hid hr
        obtain ⟨k, x, n', a, l, s', hO⟩ : ∃ k x n a l s, peekO Y at' = ⟨k, x, n, a, l, s⟩ := ⟨_, _, _, _, _, _, rfl⟩
        have q1 := peek_is hs at'
        rw [hO] at q1
        have HO := Lib.hid hO
        have Q1 : Hid (Calls Try.prog 72 #[ptr w0.heap.size, .int .i64 at'] wc fun e w' => e = .returned (.tuple #[obV k x n' a l s', .int .i64 (peekE Y at')]) ∧ Below wc.heap.size wc w') := Lib.hid q1
        clear pr hs hr hO q1 R7 HW HSEG
        obtain ⟨MN, hMN⟩ : ∃ z, markN Y = z := ⟨_, rfl⟩
        obtain ⟨ME, hME⟩ : ∃ z, markE Y = z := ⟨_, rfl⟩
        have HM := Lib.hid (And.intro hMN hME)
        clear hMN hME
        go_wp2_with fail
        refine Q1.out.mono ?_
        rintro e w8 ⟨rfl, k8⟩
        have K8 := Lib.hid k8
        clear k8 Q1
        go_upto_region 28 with fail
        obtain ⟨w9, e9, k9, o9⟩ : ∃ w9, w8.alloc (.cells #[.int .i64 k, .bool x, .int .i64 n', .int .i64 a, .int .i64 l, .string s'] 24) = w9 ∧ Below w8.heap.size w8 w9 ∧ w9.heap[w8.heap.size]? = some (obObj k x n' a l s') := ⟨_, rfl, box_below _ _, heap_alloc_new _ _⟩
        rw [e9]
        have K9 := Lib.hid (below_and K8.out k9)
        have O9 := Lib.hid o9
        have Q2 : Hid (Calls Try.prog 73 #[ptr (w0.heap.size + 1), .int .i64 at'] w9 fun e w' => e = .returned (.tuple #[obV k x n' a l s', .int .i64 (peekE Y at')]) ∧ Below w9.heap.size w9 w') := Lib.hid (by
          have q := rpeek_is (HR.out.below K9.out) at'
          rw [HO.out] at q
          exact q)
        clear e9 k9 o9
        go_wp2_with fail
        refine Q2.out.mono ?_
        rintro e w10 ⟨rfl, k10⟩
        have K10 := Lib.hid (below_and K9.out k10)
        have O10 := Lib.hid ((k10.block _ (blk_lt O9.out)).trans O9.out)
        clear k10 Q2
        go_upto_region 29 with fail
        obtain ⟨w11, e11, k11, o11⟩ : ∃ w11, w10.alloc (.cells #[.int .i64 k, .bool x, .int .i64 n', .int .i64 a, .int .i64 l, .string s'] 24) = w11 ∧ Below w10.heap.size w10 w11 ∧ w11.heap[w10.heap.size]? = some (obObj k x n' a l s') := ⟨_, rfl, box_below _ _, heap_alloc_new _ _⟩
        rw [e11]
        have K11 := Lib.hid (below_and K10.out k11)
        have O11 := Lib.hid ((k11.block _ (blk_lt O10.out)).trans O10.out)
        have P11 := Lib.hid o11
        have Q3 := Lib.hid (mark_is (HS.out.below K11.out))
        clear e11 k11 o11
        rw [HM.out.1, HM.out.2] at Q3
        go_wp2_with fail
        refine Q3.out.mono ?_
        rintro e w12 ⟨rfl, k12⟩
        have K12 := Lib.hid (below_and K11.out k12)
        have O12 := Lib.hid ((k12.block _ (blk_lt O11.out)).trans O11.out)
        have P12 := Lib.hid ((k12.block _ (blk_lt P11.out)).trans P11.out)
        have Q4 : Hid (Calls Try.prog 75 #[ptr (w0.heap.size + 1)] w12 fun e w' => e = .returned (.tuple #[.int .i64 MN, .int .i64 ME]) ∧ Below w12.heap.size w12 w') := Lib.hid (by
          have q := rmark_is (HR.out.below K12.out)
          rw [HM.out.1, HM.out.2] at q
          exact q)
        clear k12 Q3
        go_wp2_with fail
        refine Q4.out.mono ?_
        rintro e w13 ⟨rfl, k13⟩
        have K13 := Lib.hid (below_and K12.out k13)
        have O13 := Lib.hid ((k13.block _ (blk_lt O12.out)).trans O12.out)
        have P13 := Lib.hid ((k13.block _ (blk_lt P12.out)).trans P12.out)
        clear k13 Q4
        go_upto_region 31 with fail
        have KD := Lib.hid (K13.out.drew)
        have qe1 : ∀ w, (binOp .eql 24 (.agg #[.int .i64 ok, .bool ox, .int .i64 on, .int .i64 oa, .int .i64 ol, .string os]) (.agg #[.int .i64 ok, .bool ox, .int .i64 on, .int .i64 oa, .int .i64 ol, .string os])).run Try.prog w = .ok (.bool true) w := fun w => by rw [eqO]; simp
        have qe2 : ∀ w, (binOp .eql 24 (.agg #[.int .i64 k, .bool x, .int .i64 n', .int .i64 a, .int .i64 l, .string s']) (.agg #[.int .i64 k, .bool x, .int .i64 n', .int .i64 a, .int .i64 l, .string s'])).run Try.prog w = .ok (.bool true) w := fun w => by rw [eqO]; simp
        have SX : Hid ((fun wx => wx.heap[w5.heap.size]? = some (obObj ok ox on oa ol os) ∧ wx.heap[(w5.heap.size + 1)]? = some (obObj ok ox on oa ol os) ∧ wx.heap[w8.heap.size]? = some (obObj k x n' a l s') ∧ wx.heap[w10.heap.size]? = some (obObj k x n' a l s') ∧ wx.cell? ⟨w0.heap.size + 1, 0, none⟩ = some (.slice pu Y.length cu)) w13.drew) := Lib.hid ⟨(K13.out.block _ (blk_lt PR.out.hx)).trans PR.out.hx, (K13.out.block _ (blk_lt PR.out.hy)).trans PR.out.hy, O13.out, P13.out, (HR.out.below K13.out).cell⟩
        (try refine wp_region_noPanic ?_)
        refine wp_region_held_drew (S := fun wx => wx.heap[w5.heap.size]? = some (obObj ok ox on oa ol os) ∧ wx.heap[(w5.heap.size + 1)]? = some (obObj ok ox on oa ol os) ∧ wx.heap[w8.heap.size]? = some (obObj k x n' a l s') ∧ wx.heap[w10.heap.size]? = some (obObj k x n' a l s') ∧ wx.cell? ⟨w0.heap.size + 1, 0, none⟩ = some (.slice pu Y.length cu)) (by kernel_rfl) SX.out (fun _ => ?_)
        generalize w13.drew = wd at KD SX ⊢
        refine wpAnyH_take (i := 0) (v := obV ok ox on oa ol os) rfl (by kernel_rfl) (by kernel_rfl) (by kernel_rfl) (fun _ _ _ h => h) (Or.inl ⟨by rfl, fun wx hS => ?_⟩) SX.out ?_
        · obtain ⟨h1, h2, h3, h4, h5⟩ := hS; obtain ⟨d0, d1, d2, d3, d4, d5⟩ := ob_cells h1; go_simp
        try simp only [Act.put, List.getElem_toArray, List.getElem_cons_succ, List.getElem_cons_zero, List.setIfInBounds_toArray, List.set_cons_zero, List.set_cons_succ]
        refine wpAnyH_take (i := 1) (v := obV ok ox on oa ol os) rfl (by kernel_rfl) (by kernel_rfl) (by kernel_rfl) (fun _ _ _ h => h) (Or.inl ⟨by rfl, fun wx hS => ?_⟩) SX.out ?_
        · obtain ⟨h1, h2, h3, h4, h5⟩ := hS; obtain ⟨d0, d1, d2, d3, d4, d5⟩ := ob_cells h2; go_simp
        try simp only [Act.put, List.getElem_toArray, List.getElem_cons_succ, List.getElem_cons_zero, List.setIfInBounds_toArray, List.set_cons_zero, List.set_cons_succ]
        refine wpAnyH_take (i := 2) (v := .bool false) rfl (by kernel_rfl) (by kernel_rfl) (by kernel_rfl) (fun _ _ _ h => h) (Or.inl ⟨by rfl, fun wx hS => ?_⟩) SX.out ?_
        · go_simp
        try simp only [Act.put, List.getElem_toArray, List.getElem_cons_succ, List.getElem_cons_zero, List.setIfInBounds_toArray, List.set_cons_zero, List.set_cons_succ]
        refine wpAnyH_take (i := 3) (v := .bool false) rfl (by kernel_rfl) (by kernel_rfl) (by kernel_rfl) (fun _ _ _ h => h) (Or.inl ⟨by rfl, fun wx hS => ?_⟩) SX.out ?_
        · go_simp
        try simp only [Act.put, List.getElem_toArray, List.getElem_cons_succ, List.getElem_cons_zero, List.setIfInBounds_toArray, List.set_cons_zero, List.set_cons_succ]
        refine wpAnyH_take (i := 4) (v := .int .i64 E) rfl (by kernel_rfl) (by kernel_rfl) (by kernel_rfl) (fun _ _ _ h => h) (Or.inl ⟨by rfl, fun wx hS => ?_⟩) SX.out ?_
        · go_simp
        try simp only [Act.put, List.getElem_toArray, List.getElem_cons_succ, List.getElem_cons_zero, List.setIfInBounds_toArray, List.set_cons_zero, List.set_cons_succ]
        refine wpAnyH_take (i := 5) (v := .int .i64 E) rfl (by kernel_rfl) (by kernel_rfl) (by kernel_rfl) (fun _ _ _ h => h) (Or.inl ⟨by rfl, fun wx hS => ?_⟩) SX.out ?_
        · go_simp
        try simp only [Act.put, List.getElem_toArray, List.getElem_cons_succ, List.getElem_cons_zero, List.setIfInBounds_toArray, List.set_cons_zero, List.set_cons_succ]
        refine wpAnyH_take (i := 6) (v := .bool false) rfl (by kernel_rfl) (by kernel_rfl) (by kernel_rfl) (fun _ _ _ h => h) (Or.inl ⟨by rfl, fun wx hS => ?_⟩) SX.out ?_
        · go_simp
        try simp only [Act.put, List.getElem_toArray, List.getElem_cons_succ, List.getElem_cons_zero, List.setIfInBounds_toArray, List.set_cons_zero, List.set_cons_succ]
        refine wpAnyH_take (i := 7) (v := .bool false) rfl (by kernel_rfl) (by kernel_rfl) (by kernel_rfl) (fun _ _ _ h => h) (Or.inl ⟨by rfl, fun wx hS => ?_⟩) SX.out ?_
        · go_simp
        try simp only [Act.put, List.getElem_toArray, List.getElem_cons_succ, List.getElem_cons_zero, List.setIfInBounds_toArray, List.set_cons_zero, List.set_cons_succ]
        refine wpAnyH_take (i := 8) (v := .bool false) rfl (by kernel_rfl) (by kernel_rfl) (by kernel_rfl) (fun _ _ _ h => h) (Or.inl ⟨by rfl, fun wx hS => ?_⟩) SX.out ?_
        · go_simp
        try simp only [Act.put, List.getElem_toArray, List.getElem_cons_succ, List.getElem_cons_zero, List.setIfInBounds_toArray, List.set_cons_zero, List.set_cons_succ]
        refine wpAnyH_take (i := 9) (v := obV k x n' a l s') rfl (by kernel_rfl) (by kernel_rfl) (by kernel_rfl) (fun _ _ _ h => h) (Or.inl ⟨by rfl, fun wx hS => ?_⟩) SX.out ?_
        · obtain ⟨h1, h2, h3, h4, h5⟩ := hS; obtain ⟨d0, d1, d2, d3, d4, d5⟩ := ob_cells h3; go_simp
        try simp only [Act.put, List.getElem_toArray, List.getElem_cons_succ, List.getElem_cons_zero, List.setIfInBounds_toArray, List.set_cons_zero, List.set_cons_succ]
        refine wpAnyH_take (i := 10) (v := obV k x n' a l s') rfl (by kernel_rfl) (by kernel_rfl) (by kernel_rfl) (fun _ _ _ h => h) (Or.inl ⟨by rfl, fun wx hS => ?_⟩) SX.out ?_
        · obtain ⟨h1, h2, h3, h4, h5⟩ := hS; obtain ⟨d0, d1, d2, d3, d4, d5⟩ := ob_cells h4; go_simp
        try simp only [Act.put, List.getElem_toArray, List.getElem_cons_succ, List.getElem_cons_zero, List.setIfInBounds_toArray, List.set_cons_zero, List.set_cons_succ]
        refine wpAnyH_take (i := 11) (v := .bool false) rfl (by kernel_rfl) (by kernel_rfl) (by kernel_rfl) (fun _ _ _ h => h) (Or.inl ⟨by rfl, fun wx hS => ?_⟩) SX.out ?_
        · go_simp
        try simp only [Act.put, List.getElem_toArray, List.getElem_cons_succ, List.getElem_cons_zero, List.setIfInBounds_toArray, List.set_cons_zero, List.set_cons_succ]
        refine wpAnyH_take (i := 12) (v := .bool false) rfl (by kernel_rfl) (by kernel_rfl) (by kernel_rfl) (fun _ _ _ h => h) (Or.inl ⟨by rfl, fun wx hS => ?_⟩) SX.out ?_
        · go_simp
        try simp only [Act.put, List.getElem_toArray, List.getElem_cons_succ, List.getElem_cons_zero, List.setIfInBounds_toArray, List.set_cons_zero, List.set_cons_succ]
        refine wpAnyH_take (i := 13) (v := .bool false) rfl (by kernel_rfl) (by kernel_rfl) (by kernel_rfl) (fun _ _ _ h => h) (Or.inl ⟨by rfl, fun wx hS => ?_⟩) SX.out ?_
        · go_simp
        try simp only [Act.put, List.getElem_toArray, List.getElem_cons_succ, List.getElem_cons_zero, List.setIfInBounds_toArray, List.set_cons_zero, List.set_cons_succ]
        refine wpAnyH_take (i := 14) (v := .int .i64 (peekE Y at')) rfl (by kernel_rfl) (by kernel_rfl) (by kernel_rfl) (fun _ _ _ h => h) (Or.inl ⟨by rfl, fun wx hS => ?_⟩) SX.out ?_
        · go_simp
        try simp only [Act.put, List.getElem_toArray, List.getElem_cons_succ, List.getElem_cons_zero, List.setIfInBounds_toArray, List.set_cons_zero, List.set_cons_succ]
        refine wpAnyH_take (i := 15) (v := .int .i64 (peekE Y at')) rfl (by kernel_rfl) (by kernel_rfl) (by kernel_rfl) (fun _ _ _ h => h) (Or.inl ⟨by rfl, fun wx hS => ?_⟩) SX.out ?_
        · go_simp
        try simp only [Act.put, List.getElem_toArray, List.getElem_cons_succ, List.getElem_cons_zero, List.setIfInBounds_toArray, List.set_cons_zero, List.set_cons_succ]
        refine wpAnyH_take (i := 16) (v := .bool false) rfl (by kernel_rfl) (by kernel_rfl) (by kernel_rfl) (fun _ _ _ h => h) (Or.inl ⟨by rfl, fun wx hS => ?_⟩) SX.out ?_
        · go_simp
        try simp only [Act.put, List.getElem_toArray, List.getElem_cons_succ, List.getElem_cons_zero, List.setIfInBounds_toArray, List.set_cons_zero, List.set_cons_succ]
        refine wpAnyH_take (i := 17) (v := .bool false) rfl (by kernel_rfl) (by kernel_rfl) (by kernel_rfl) (fun _ _ _ h => h) (Or.inl ⟨by rfl, fun wx hS => ?_⟩) SX.out ?_
        · go_simp
        try simp only [Act.put, List.getElem_toArray, List.getElem_cons_succ, List.getElem_cons_zero, List.setIfInBounds_toArray, List.set_cons_zero, List.set_cons_succ]
        refine wpAnyH_take (i := 18) (v := .bool false) rfl (by kernel_rfl) (by kernel_rfl) (by kernel_rfl) (fun _ _ _ h => h) (Or.inl ⟨by rfl, fun wx hS => ?_⟩) SX.out ?_
        · go_simp
        try simp only [Act.put, List.getElem_toArray, List.getElem_cons_succ, List.getElem_cons_zero, List.setIfInBounds_toArray, List.set_cons_zero, List.set_cons_succ]
        refine wpAnyH_take (i := 19) (v := .int .i64 MN) rfl (by kernel_rfl) (by kernel_rfl) (by kernel_rfl) (fun _ _ _ h => h) (Or.inl ⟨by rfl, fun wx hS => ?_⟩) SX.out ?_
        · go_simp
        try simp only [Act.put, List.getElem_toArray, List.getElem_cons_succ, List.getElem_cons_zero, List.setIfInBounds_toArray, List.set_cons_zero, List.set_cons_succ]
        refine wpAnyH_take (i := 20) (v := .int .i64 MN) rfl (by kernel_rfl) (by kernel_rfl) (by kernel_rfl) (fun _ _ _ h => h) (Or.inl ⟨by rfl, fun wx hS => ?_⟩) SX.out ?_
        · go_simp
        try simp only [Act.put, List.getElem_toArray, List.getElem_cons_succ, List.getElem_cons_zero, List.setIfInBounds_toArray, List.set_cons_zero, List.set_cons_succ]
        refine wpAnyH_take (i := 21) (v := .bool false) rfl (by kernel_rfl) (by kernel_rfl) (by kernel_rfl) (fun _ _ _ h => h) (Or.inl ⟨by rfl, fun wx hS => ?_⟩) SX.out ?_
        · go_simp
        try simp only [Act.put, List.getElem_toArray, List.getElem_cons_succ, List.getElem_cons_zero, List.setIfInBounds_toArray, List.set_cons_zero, List.set_cons_succ]
        refine wpAnyH_take (i := 22) (v := .bool false) rfl (by kernel_rfl) (by kernel_rfl) (by kernel_rfl) (fun _ _ _ h => h) (Or.inl ⟨by rfl, fun wx hS => ?_⟩) SX.out ?_
        · go_simp
        try simp only [Act.put, List.getElem_toArray, List.getElem_cons_succ, List.getElem_cons_zero, List.setIfInBounds_toArray, List.set_cons_zero, List.set_cons_succ]
        refine wpAnyH_take (i := 23) (v := .bool false) rfl (by kernel_rfl) (by kernel_rfl) (by kernel_rfl) (fun _ _ _ h => h) (Or.inl ⟨by rfl, fun wx hS => ?_⟩) SX.out ?_
        · go_simp
        try simp only [Act.put, List.getElem_toArray, List.getElem_cons_succ, List.getElem_cons_zero, List.setIfInBounds_toArray, List.set_cons_zero, List.set_cons_succ]
        refine wpAnyH_take (i := 24) (v := .int .i64 ME) rfl (by kernel_rfl) (by kernel_rfl) (by kernel_rfl) (fun _ _ _ h => h) (Or.inl ⟨by rfl, fun wx hS => ?_⟩) SX.out ?_
        · go_simp
        try simp only [Act.put, List.getElem_toArray, List.getElem_cons_succ, List.getElem_cons_zero, List.setIfInBounds_toArray, List.set_cons_zero, List.set_cons_succ]
        refine wpAnyH_take (i := 25) (v := .int .i64 ME) rfl (by kernel_rfl) (by kernel_rfl) (by kernel_rfl) (fun _ _ _ h => h) (Or.inl ⟨by rfl, fun wx hS => ?_⟩) SX.out ?_
        · go_simp
        try simp only [Act.put, List.getElem_toArray, List.getElem_cons_succ, List.getElem_cons_zero, List.setIfInBounds_toArray, List.set_cons_zero, List.set_cons_succ]
        refine wpAnyH_take (i := 26) (v := .bool false) rfl (by kernel_rfl) (by kernel_rfl) (by kernel_rfl) (fun _ _ _ h => h) (Or.inl ⟨by rfl, fun wx hS => ?_⟩) SX.out ?_
        · go_simp
        try simp only [Act.put, List.getElem_toArray, List.getElem_cons_succ, List.getElem_cons_zero, List.setIfInBounds_toArray, List.set_cons_zero, List.set_cons_succ]
        refine wpAnyH_take (i := 27) (v := .bool false) rfl (by kernel_rfl) (by kernel_rfl) (by kernel_rfl) (fun _ _ _ h => h) (Or.inl ⟨by rfl, fun wx hS => ?_⟩) SX.out ?_
        · go_simp
        try simp only [Act.put, List.getElem_toArray, List.getElem_cons_succ, List.getElem_cons_zero, List.setIfInBounds_toArray, List.set_cons_zero, List.set_cons_succ]
        refine wpAnyH_take (i := 28) (v := .bool false) rfl (by kernel_rfl) (by kernel_rfl) (by kernel_rfl) (fun _ _ _ h => h) (Or.inl ⟨by rfl, fun wx hS => ?_⟩) SX.out ?_
        · go_simp
        try simp only [Act.put, List.getElem_toArray, List.getElem_cons_succ, List.getElem_cons_zero, List.setIfInBounds_toArray, List.set_cons_zero, List.set_cons_succ]
        refine wpAnyH_take (i := 29) (v := ptr w0.heap.size) rfl (by kernel_rfl) (by kernel_rfl) (by kernel_rfl) (fun _ _ _ h => h) (Or.inl ⟨by rfl, fun wx hS => ?_⟩) SX.out ?_
        · go_simp
        try simp only [Act.put, List.getElem_toArray, List.getElem_cons_succ, List.getElem_cons_zero, List.setIfInBounds_toArray, List.set_cons_zero, List.set_cons_succ]
        refine wpAnyH_take (i := 31) (v := .pointer (some ⟨w0.heap.size + 1, 0, none⟩)) rfl (by kernel_rfl) (by kernel_rfl) (by kernel_rfl) (fun _ _ _ h => h) (Or.inl ⟨by rfl, fun wx hS => ?_⟩) SX.out ?_
        · go_simp
        try simp only [Act.put, List.getElem_toArray, List.getElem_cons_succ, List.getElem_cons_zero, List.setIfInBounds_toArray, List.set_cons_zero, List.set_cons_succ]
        refine wpAnyH_take (i := 32) (v := .pointer (some ⟨w0.heap.size + 1, 0, none⟩)) rfl (by kernel_rfl) (by kernel_rfl) (by kernel_rfl) (fun _ _ _ h => h) (Or.inl ⟨by rfl, fun wx hS => ?_⟩) SX.out ?_
        · go_simp
        try simp only [Act.put, List.getElem_toArray, List.getElem_cons_succ, List.getElem_cons_zero, List.setIfInBounds_toArray, List.set_cons_zero, List.set_cons_succ]
        refine wpAnyH_take (i := 33) (v := .pointer (some ⟨w0.heap.size + 1, 0, none⟩)) rfl (by kernel_rfl) (by kernel_rfl) (by kernel_rfl) (fun _ _ _ h => h) (Or.inl ⟨by rfl, fun wx hS => ?_⟩) SX.out ?_
        · go_simp
        try simp only [Act.put, List.getElem_toArray, List.getElem_cons_succ, List.getElem_cons_zero, List.setIfInBounds_toArray, List.set_cons_zero, List.set_cons_succ]
        refine wpAnyH_take (i := 34) (v := .slice pu Y.length cu) rfl (by kernel_rfl) (by kernel_rfl) (by kernel_rfl) (fun _ _ _ h => h) (Or.inl ⟨by rfl, fun wx hS => ?_⟩) SX.out ?_
        · have h5 := hS.2.2.2.2; go_simp
        try simp only [Act.put, List.getElem_toArray, List.getElem_cons_succ, List.getElem_cons_zero, List.setIfInBounds_toArray, List.set_cons_zero, List.set_cons_succ]
        refine wpAnyH_take (i := 35) (v := .int .i64 Y.length) rfl (by kernel_rfl) (by kernel_rfl) (by kernel_rfl) (fun _ _ _ h => h) (Or.inl ⟨by rfl, fun wx hS => ?_⟩) SX.out ?_
        · go_simp
        try simp only [Act.put, List.getElem_toArray, List.getElem_cons_succ, List.getElem_cons_zero, List.setIfInBounds_toArray, List.set_cons_zero, List.set_cons_succ]
        refine wpAnyH_ready (rs := [30]) (by kernel_rfl) (by simp) ?_
        refine AllReadyH.cons rfl (fun K hK => ?_) AllReadyH.nil
        go_simp
        refine (stkLen (HS.out.below KD.out)).mono ?_
        rintro e wd' ⟨rfl, rfl⟩
        refine hK.out _ _ SX.out (fun _ => ?_)
        clear hK
        try simp only [Act.put, List.getElem_toArray, List.getElem_cons_succ, List.getElem_cons_zero, List.setIfInBounds_toArray, List.set_cons_zero, List.set_cons_succ]
        refine wpAnyH_take (i := 36) (v := .bool false) rfl (by kernel_rfl) (by kernel_rfl) (by kernel_rfl) (fun _ _ _ h => h) (Or.inl ⟨by rfl, fun wx hS => ?_⟩) SX.out ?_
        · go_simp
        try simp only [Act.put, List.getElem_toArray, List.getElem_cons_succ, List.getElem_cons_zero, List.setIfInBounds_toArray, List.set_cons_zero, List.set_cons_succ]
        refine wpAnyH_take (i := 37) (v := .bool false) rfl (by kernel_rfl) (by kernel_rfl) (by kernel_rfl) (fun _ _ _ h => h) (Or.inl ⟨by rfl, fun wx hS => ?_⟩) SX.out ?_
        · go_simp
        try simp only [Act.put, List.getElem_toArray, List.getElem_cons_succ, List.getElem_cons_zero, List.setIfInBounds_toArray, List.set_cons_zero, List.set_cons_succ]
        refine wpAnyH_take (i := 38) (v := .bool false) rfl (by kernel_rfl) (by kernel_rfl) (by kernel_rfl) (fun _ _ _ h => h) (Or.inl ⟨by rfl, fun wx hS => ?_⟩) SX.out ?_
        · go_simp
        try simp only [Act.put, List.getElem_toArray, List.getElem_cons_succ, List.getElem_cons_zero, List.setIfInBounds_toArray, List.set_cons_zero, List.set_cons_succ]
        refine wpAnyH_take (i := 39) (v := ptr w0.heap.size) rfl (by kernel_rfl) (by kernel_rfl) (by kernel_rfl) (fun _ _ _ h => h) (Or.inl ⟨by rfl, fun wx hS => ?_⟩) SX.out ?_
        · go_simp
        try simp only [Act.put, List.getElem_toArray, List.getElem_cons_succ, List.getElem_cons_zero, List.setIfInBounds_toArray, List.set_cons_zero, List.set_cons_succ]
        refine wpAnyH_take (i := 41) (v := .pointer (some ⟨w0.heap.size + 1, 0, none⟩)) rfl (by kernel_rfl) (by kernel_rfl) (by kernel_rfl) (fun _ _ _ h => h) (Or.inl ⟨by rfl, fun wx hS => ?_⟩) SX.out ?_
        · go_simp
        try simp only [Act.put, List.getElem_toArray, List.getElem_cons_succ, List.getElem_cons_zero, List.setIfInBounds_toArray, List.set_cons_zero, List.set_cons_succ]
        refine wpAnyH_take (i := 42) (v := .pointer (some ⟨w0.heap.size + 1, 0, none⟩)) rfl (by kernel_rfl) (by kernel_rfl) (by kernel_rfl) (fun _ _ _ h => h) (Or.inl ⟨by rfl, fun wx hS => ?_⟩) SX.out ?_
        · go_simp
        try simp only [Act.put, List.getElem_toArray, List.getElem_cons_succ, List.getElem_cons_zero, List.setIfInBounds_toArray, List.set_cons_zero, List.set_cons_succ]
        refine wpAnyH_take (i := 43) (v := .pointer (some ⟨w0.heap.size + 1, 0, none⟩)) rfl (by kernel_rfl) (by kernel_rfl) (by kernel_rfl) (fun _ _ _ h => h) (Or.inl ⟨by rfl, fun wx hS => ?_⟩) SX.out ?_
        · go_simp
        try simp only [Act.put, List.getElem_toArray, List.getElem_cons_succ, List.getElem_cons_zero, List.setIfInBounds_toArray, List.set_cons_zero, List.set_cons_succ]
        refine wpAnyH_take (i := 44) (v := .slice pu Y.length cu) rfl (by kernel_rfl) (by kernel_rfl) (by kernel_rfl) (fun _ _ _ h => h) (Or.inl ⟨by rfl, fun wx hS => ?_⟩) SX.out ?_
        · have h5 := hS.2.2.2.2; go_simp
        try simp only [Act.put, List.getElem_toArray, List.getElem_cons_succ, List.getElem_cons_zero, List.setIfInBounds_toArray, List.set_cons_zero, List.set_cons_succ]
        refine wpAnyH_ready (rs := [40]) (by kernel_rfl) (by simp) ?_
        refine AllReadyH.cons rfl (fun K hK => ?_) AllReadyH.nil
        go_simp
        refine (itemsS_any (T := 166) (HS.out.below KD.out)).mono ?_
        rintro e we ⟨v', rfl, row, ke⟩
        obtain ⟨pi, ci, rfl⟩ := owns_form (row.mono (Nat.zero_le _))
        have RW := Lib.hid row
        have KE := Lib.hid (below_and KD.out ke)
        have SY : Hid ((fun wx => wx.heap[w5.heap.size]? = some (obObj ok ox on oa ol os) ∧ wx.heap[(w5.heap.size + 1)]? = some (obObj ok ox on oa ol os) ∧ wx.heap[w8.heap.size]? = some (obObj k x n' a l s') ∧ wx.heap[w10.heap.size]? = some (obObj k x n' a l s') ∧ wx.cell? ⟨w0.heap.size + 1, 0, none⟩ = some (.slice pu Y.length cu)) we) := Lib.hid ⟨(ke.block _ (blk_lt SX.out.1)).trans SX.out.1, (ke.block _ (blk_lt SX.out.2.1)).trans SX.out.2.1, (ke.block _ (blk_lt SX.out.2.2.1)).trans SX.out.2.2.1, (ke.block _ (blk_lt SX.out.2.2.2.1)).trans SX.out.2.2.2.1, cell_later ke SX.out.2.2.2.2⟩
        clear row ke
        refine hK.out _ _ SY.out (fun _ => ?_)
        clear hK
        try simp only [Act.put, List.getElem_toArray, List.getElem_cons_succ, List.getElem_cons_zero, List.setIfInBounds_toArray, List.set_cons_zero, List.set_cons_succ]
        refine wpAnyH_ready (rs := [45]) (by kernel_rfl) (by simp) ?_
        refine AllReadyH.cons rfl (fun K hK => ?_) AllReadyH.nil
        go_simp
        refine (same_yes (Seg.of_owns RW.out) (Seg.of_owns (HR.out.below KE.out).row) (by have := HR.out.len; omega)).mono ?_
        rintro e wf ⟨rfl, kf⟩
        have KF := Lib.hid (below_and KE.out kf)
        have SZ : Hid ((fun wx => wx.heap[w5.heap.size]? = some (obObj ok ox on oa ol os) ∧ wx.heap[(w5.heap.size + 1)]? = some (obObj ok ox on oa ol os) ∧ wx.heap[w8.heap.size]? = some (obObj k x n' a l s') ∧ wx.heap[w10.heap.size]? = some (obObj k x n' a l s') ∧ wx.cell? ⟨w0.heap.size + 1, 0, none⟩ = some (.slice pu Y.length cu)) wf) := Lib.hid ⟨(kf.block _ (blk_lt SY.out.1)).trans SY.out.1, (kf.block _ (blk_lt SY.out.2.1)).trans SY.out.2.1, (kf.block _ (blk_lt SY.out.2.2.1)).trans SY.out.2.2.1, (kf.block _ (blk_lt SY.out.2.2.2.1)).trans SY.out.2.2.2.1, cell_later kf SY.out.2.2.2.2⟩
        clear kf
        refine hK.out _ _ SZ.out (fun _ => ?_)
        clear hK
        try simp only [Act.put, List.getElem_toArray, List.getElem_cons_succ, List.getElem_cons_zero, List.setIfInBounds_toArray, List.set_cons_zero, List.set_cons_succ]
        refine wpAnyH_take (i := 46) (v := .bool false) rfl (by kernel_rfl) (by kernel_rfl) (by kernel_rfl) (fun _ _ _ h => h) (Or.inl ⟨by rfl, fun wx hS => ?_⟩) SZ.out ?_
        · go_simp
        try simp only [Act.put, List.getElem_toArray, List.getElem_cons_succ, List.getElem_cons_zero, List.setIfInBounds_toArray, List.set_cons_zero, List.set_cons_succ]
        refine wpAnyH_take (i := 47) (v := .bool false) rfl (by kernel_rfl) (by kernel_rfl) (by kernel_rfl) (fun _ _ _ h => h) (Or.inl ⟨by rfl, fun wx hS => ?_⟩) SZ.out ?_
        · go_simp
        try simp only [Act.put, List.getElem_toArray, List.getElem_cons_succ, List.getElem_cons_zero, List.setIfInBounds_toArray, List.set_cons_zero, List.set_cons_succ]
        refine wpAnyH_done (by kernel_rfl) ?_ _
        (try refine no_panic ?_)
        clear qe1 qe2
        go_wp2
        go_roundw
        case rel => exact ⟨j + 1, Y, HL.out, by go_num, ((PR.out.two.below KF.out).1.sub fun b q => .inl q), PR.out.below.trans (KF.out.mono (Nat.le_trans PR.out.ne.2.2.2.1 (Nat.le_of_lt (blk_lt PR.out.hd))))⟩
        case measure => exact measure_up n j _ (by go_num) HL.out
    · have e : j = n := by omega
      subst e
      have t1 : ¬ ((j : Int) < j) := by omega
      go_wp2
      go_ret
      exact ⟨rfl, B0.out.trans (HB.out.mono B0.out.size)⟩
end Go.Proofs.Ytgmklagnngjlgaa

/- Lists of objects and of things to do, as they came in. -/
namespace Go.Proofs.Ytgmklagnngjlgaa
open Go.RowKit Go.ChangeShapes Go.WideShapes Go.Deep
set_option linter.unusedVariables false
set_option linter.unusedSimpArgs false
set_option maxRecDepth 100000

instance : Inhabited Ob := ⟨Ob.zero⟩
section
variable {H : Type} {enc : TypeId × Value → H} {w : World} {base : Nat} {held : Bool} {fuel : Nat} {cs : List Value} {x : DataW H × List MemPlace}
/-- An object's cells. -/
theorem cells_ob (h : DataW.trod enc Try.prog w base (fun _ => true) held fuel 24 cs = some x) : ∃ o : Ob, cs = o.cells := by
  have hC : Try.prog.cellsOf 24 = 6 := by kernel_rfl
  have z3 : Try.prog.cellsOf 3 = 1 := by kernel_rfl
  have z4 : Try.prog.cellsOf 4 = 1 := by kernel_rfl
  have z9 : Try.prog.cellsOf 9 = 1 := by kernel_rfl
  obtain ⟨xs, m, _, hx, hcl, hlen, hg⟩ := DataW.trod_struct Try.underlying24 h
  rw [hC] at hcl
  obtain ⟨c0, c1, c2, c3, c4, c5, rfl⟩ : ∃ c0 c1 c2 c3 c4 c5, cs = [c0, c1, c2, c3, c4, c5] := by
    match cs, hcl with
    | [c0, c1, c2, c3, c4, c5], _ => exact ⟨c0, c1, c2, c3, c4, c5, rfl⟩
  obtain ⟨y0, y1, y2, y3, y4, y5, rfl⟩ : ∃ y0 y1 y2 y3 y4 y5, xs = [y0, y1, y2, y3, y4, y5] := by
    match xs, hlen with
    | [y0, y1, y2, y3, y4, y5], _ => exact ⟨y0, y1, y2, y3, y4, y5, rfl⟩
  have g0 := hg 0 _ rfl
  have g1 := hg 1 _ rfl
  have g2 := hg 2 _ rfl
  have g3 := hg 3 _ rfl
  have g4 := hg 4 _ rfl
  have g5 := hg 5 _ rfl
  simp [z3, z4, z9] at g0 g1 g2 g3 g4 g5
  obtain ⟨k, e0, f0, w0⟩ := DataW.trod_int Try.underlying3 g0
  obtain ⟨b, e1, f1⟩ := DataW.trod_bool Try.underlying4 g1
  obtain ⟨n, e2, f2, w2⟩ := DataW.trod_int Try.underlying3 g2
  obtain ⟨a, e3, f3, w3⟩ := DataW.trod_int Try.underlying3 g3
  obtain ⟨l, e4, f4, w4⟩ := DataW.trod_int Try.underlying3 g4
  obtain ⟨s, e5, f5, w5⟩ := DataW.trod_string Try.underlying9 g5
  simp only [List.cons.injEq, and_true] at e0 e1 e2 e3 e4 e5
  subst e0 e1 e2 e3 e4 e5
  exact ⟨⟨k, b, n, a, l, s⟩, rfl⟩
theorem obCells_at {L : List Ob} {j : Nat} {u : Value} (h : (obCells L)[j]? = some u) : ∃ i r o, j = i * 6 + r ∧ L[i]? = some o ∧ o.cells[r]? = some u := by
  have hl := (List.getElem?_eq_some_iff.1 h).1
  rw [obCells_length] at hl
  have hi : j / 6 < L.length := by omega
  have hr : j % 6 < 6 := by omega
  refine ⟨j / 6, j % 6, L[j / 6], by omega, List.getElem?_eq_getElem hi, ?_⟩
  have := obCells_get (List.getElem?_eq_getElem hi) hr
  rw [← this, show j / 6 * 6 + j % 6 = j from by omega]
  exact h
/-- A list of objects. -/
theorem trod_objs (h : DataW.trod enc Try.prog w base (fun _ => true) held fuel 33 cs = some x) : ∃ (p : Option Addr) (L : List Ob) (c : Nat), cs = [.slice p L.length c] ∧ Seg w (.slice p L.length c) L := by
  have hC : Try.prog.cellsOf 24 = 6 := by kernel_rfl
  rcases open_slice Try.underlying33 h with ⟨rfl, _⟩ | ⟨a, len, cap, m, n, D, Pl, rfl, hb, hl, hm, hmm, _, hx⟩
  · exact ⟨none, [], 0, rfl, .inl ⟨rfl, rfl⟩⟩
  · simp only [if_true] at hmm
    subst hmm
    rw [hC] at hx
    obtain ⟨O, hO⟩ := choose_lt (α := Ob) (p := fun i o => ∀ r u, o.cells[r]? = some u → w.cell? ((a.add (i * 6)).add r) = some u) (fun i hi => by
      obtain ⟨cs', h1, h2⟩ := hx i hi
      obtain ⟨o, rfl⟩ := cells_ob h2
      obtain ⟨_, _, h3⟩ := World.cells?_some h1
      refine ⟨o, fun r u hr => ?_⟩
      have hr6 : r < 6 := by have := (List.getElem?_eq_some_iff.1 hr).1; simpa [Ob.cells] using this
      rw [h3 r hr6]
      exact hr)
    have hlen : ((List.range len).map O).length = len := by simp
    refine ⟨some a, (List.range len).map O, m, by rw [hlen], .inr ⟨a, m, rfl, fun j u hj => ?_⟩⟩
    obtain ⟨i, r, o, rfl, hi, hr⟩ := obCells_at hj
    have hil : i < len := by have := (List.getElem?_eq_some_iff.1 hi).1; simpa using this
    have : o = O i := by simpa [hil, eq_comm] using hi
    subst this
    rw [← Addr.add_add]
    exact hO i (by omega) r u hr
/-- A thing to do. -/
theorem cells_do (h : DataW.trod enc Try.prog w base (fun _ => true) held fuel 94 cs = some x) : ∃ A : DoV, cs = doL A ∧ Seg w (.slice A.p A.l.length A.c) A.l := by
  have hC : Try.prog.cellsOf 94 = 10 := by kernel_rfl
  have z3 : Try.prog.cellsOf 3 = 1 := by kernel_rfl
  have z24 : Try.prog.cellsOf 24 = 6 := by kernel_rfl
  have z33 : Try.prog.cellsOf 33 = 1 := by kernel_rfl
  obtain ⟨xs, m, _, hx, hcl, hlen, hg⟩ := DataW.trod_struct Try.underlying94 h
  rw [hC] at hcl
  obtain ⟨c0, c1, c2, c3, c4, c5, c6, c7, c8, c9, rfl⟩ : ∃ c0 c1 c2 c3 c4 c5 c6 c7 c8 c9, cs = [c0, c1, c2, c3, c4, c5, c6, c7, c8, c9] := by
    match cs, hcl with
    | [c0, c1, c2, c3, c4, c5, c6, c7, c8, c9], _ => exact ⟨c0, c1, c2, c3, c4, c5, c6, c7, c8, c9, rfl⟩
  obtain ⟨y0, y1, y2, y3, y4, rfl⟩ : ∃ y0 y1 y2 y3 y4, xs = [y0, y1, y2, y3, y4] := by
    match xs, hlen with
    | [y0, y1, y2, y3, y4], _ => exact ⟨y0, y1, y2, y3, y4, rfl⟩
  have g0 := hg 0 _ rfl
  have g1 := hg 1 _ rfl
  have g2 := hg 2 _ rfl
  have g3 := hg 3 _ rfl
  have g4 := hg 4 _ rfl
  simp [z3, z24, z33] at g0 g1 g2 g3 g4
  obtain ⟨k, e0, f0, w0⟩ := DataW.trod_int Try.underlying3 g0
  obtain ⟨n, e1, f1, w1⟩ := DataW.trod_int Try.underlying3 g1
  obtain ⟨j, e2, f2, w2⟩ := DataW.trod_int Try.underlying3 g2
  obtain ⟨o, e3⟩ := cells_ob g3
  obtain ⟨p, L, c, e4, hs⟩ := trod_objs g4
  simp only [List.cons.injEq, and_true] at e0 e1 e2 e4
  simp only [Ob.cells, List.cons.injEq, and_true] at e3
  obtain ⟨r0, r1, r2, r3, r4, r5⟩ := e3
  subst e0 e1 e2 e4 r0 r1 r2 r3 r4 r5
  exact ⟨⟨k, n, j, o, p, c, L⟩, rfl, hs⟩
/-- A list of things to do. -/
theorem open_dos {a : Option Addr} {len cap : Nat} {d : DataW H} {p : List MemPlace} (h : DataW.Trod enc Try.prog w base (fun _ => true) held 87 (.slice a len cap) d p) : ∀ i, i < len → ∃ A, DoAt w a i A := by
  have hC : Try.prog.cellsOf 94 = 10 := by kernel_rfl
  obtain ⟨fuel, hf⟩ := h
  rcases open_slice Try.underlying87 hf with ⟨hcs, _⟩ | ⟨ad, l, c, m, n, D, Pl, hcs, hb, hl, hm, hmm, _, hx⟩
  · simp [Value.cells] at hcs
    obtain ⟨rfl, rfl, rfl⟩ := hcs
    exact fun i hi => by omega
  · simp [Value.cells] at hcs
    obtain ⟨rfl, rfl, rfl⟩ := hcs
    simp only [if_true] at hmm
    subst hmm
    rw [hC] at hx
    intro i hi
    obtain ⟨cs', h1, h2⟩ := hx i (by omega)
    obtain ⟨A, rfl, hs⟩ := cells_do h2
    obtain ⟨_, _, h3⟩ := World.cells?_some h1
    have hc : ∀ j u, (doL A)[j]? = some u → w.cell? ((ad.add (i * 10)).add j) = some u := fun j u hj => by
      have hj10 : j < 10 := by have := (List.getElem?_eq_some_iff.1 hj).1; simpa using this
      rw [h3 j hj10]
      exact hj
    refine ⟨A, ⟨ad, rfl, ?_, hc⟩, hs⟩
    have := World.block_lt_of_cell? w _ (hc 0 _ rfl)
    have e : ∀ (a : Addr) (k : Nat), (a.add k).block = a.block := fun a k => by
      unfold Addr.add
      split <;> rfl
    rwa [e, e] at this
end
end Go.Proofs.Ytgmklagnngjlgaa
