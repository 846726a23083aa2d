/- HeapPlays: the walk. -/
import Derived.Test.YtmlkmgeddkpgiaaYD
import Derived.Deep.CutRange
import Derived.Deep.CutBlock
namespace Go.Proofs.Ytmlkmgeddkpgiaa
open Go.RowKit
set_option linter.unusedVariables false
set_option linter.unusedSimpArgs false
theorem boxCells (w : World) (o : Ob) (t : TypeId) : ∀ j u, o.cells[j]? = some u → (w.alloc (.cells o.cells.toArray t)).cell? (Addr.add ⟨w.heap.size, 0, none⟩ j) = some u := fun j u h => by
  rw [Addr.add_mid, Nat.zero_add, cellAt (heap_alloc_new _ _)]
  simpa using h

set_option maxHeartbeats 20000000 in
set_option maxRecDepth 100000 in
theorem heap_walk (p : Option Addr) (n cap : Nat) (k : Int) (x : Bool) (nn a l : Int) (s : ByteArray) (w : World) (hn : n ≤ cap) (hA : ∀ i, i < n → ∃ A, StepAt w p i A) :
    Calls Try.prog 3 #[.slice p n cap, obV k x nn a l s] w fun e w' => e = .returned (.bool true) ∧ Below w.heap.size w w' := by
  have HA := Lib.hid hA
  clear hA
  go_enter Try.func3, Try.ntmps3
  go_upto_region 1 with fail
  obtain ⟨wa, ea, ka, za, oa⟩ := ob_box w k nn a l x s
  have ha : wa.heap[w.heap.size]? = some (obObj k x nn a l s) := by rw [← ea]; exact heap_alloc_new _ _
  rw [ea]
  have KA := Lib.hid ka
  have AA := Lib.hid ha
  clear ea ka za oa ha
  go_wp2_with fail
  refine (known_any wa).mono ?_
  rintro e w0 ⟨rfl, b0⟩
  have B0 := Lib.hid (below_and KA.out b0)
  have A0 := Lib.hid ((b0.block _ (blk_lt AA.out)).trans AA.out)
  clear b0 AA KA
  have c5 : w0.cell? ⟨w.heap.size, 5, none⟩ = some (.string s) := cellAt A0.out 5
  by_cases h30 : (n : Int) > 30
  · go_wp2
    go_ret
    exact ⟨rfl, B0.out⟩
  by_cases h300 : (s.size : Int) > 300
  · go_wp2
    go_ret
    exact ⟨rfl, B0.out⟩
  go_upto_region 5 with fail
  clear c5
  go_wp2_with fail
  refine (new_any w0).mono ?_
  rintro e w1 ⟨rfl, rfl⟩
  obtain ⟨w1, e1, s1, b1⟩ : ∃ w1, w0.alloc (.cells #[.slice none 0 0, .int .i64 0] 97) = w1 ∧ OneH (fun b => b < w0.heap.size) w0.heap.size [] w1 ∧ Below w0.heap.size w0 w1 := ⟨_, rfl, OneH.new w0, box_below _ _⟩
  rw [e1]
  have S1 := Lib.hid s1
  have B1 := Lib.hid b1
  clear e1 s1 b1
  go_upto_region 6 with fail
  obtain ⟨w2, e2, s2, r2, b2⟩ : ∃ w2, w1.alloc (.cells #[.slice none 0 0] 31) = w2 ∧ OneH (fun b => b = w1.heap.size ∨ b < w0.heap.size) w0.heap.size [] w2 ∧ RH (fun b => b = w1.heap.size) w1.heap.size (.slice none 0 0) [] w2 ∧ Below w0.heap.size w0 w2 := ⟨_, rfl, by
    obtain ⟨role, q1, q2⟩ := S1.out.box (.cells #[.slice none 0 0] 31)
    exact ⟨role, q1, fun b q => q2 b q.symm⟩, RH.fresh _, B1.out.alloc B1.out.size _⟩
  rw [e2]
  have S2 := Lib.hid s2
  have R2 := Lib.hid r2
  have B2 := Lib.hid b2
  clear e2 s2 r2 b2 S1
  go_wp2_with fail
  refine (cloneHeap S2.out).mono ?_
  rintro e w3 ⟨gb, rfl, t3, k3⟩
  have T3 := Lib.hid t3
  have R3 : Hid (RH (fun b => b = w1.heap.size) w1.heap.size (.slice none 0 0) [] w3) := Lib.hid (R2.out.kept (fun b q => q) k3.size fun b q _ => k3.block b (.inl q))
  have B3 : Hid (Below w0.heap.size w0 w3) := Lib.hid (B2.out.trans (k3.below fun _ h => .inr h))
  clear t3 k3 S2 R2
  go_wp2_with fail
  refine (Play.start T3.out R3.out (fun b q e => by have := B1.out.size; omega)).mono ?_
  rintro e w4 ⟨fb, rfl, p4, k4⟩
  have B4 : Hid (Below w0.heap.size w0 w4) := Lib.hid (B3.out.trans (k4.below fun _ h => h))
  have RS : Hid (Rd w w0.heap.size gb w1.heap.size fb [] [] [] [] (.slice none 0 0) [] [(w.heap.size, obObj k x nn a l s)] w4) := Lib.hid ⟨⟨_, p4, fun b q => by have := B0.out.size; omega, fun q m => by
      obtain rfl := List.mem_singleton.1 m
      exact blk_lt A0.out, fun g e => by simp [Value.ownBlock] at e⟩, fun q m => by
      obtain rfl := List.mem_singleton.1 m
      exact ⟨(B4.out.block _ (blk_lt A0.out)).trans A0.out, Nat.le_refl _⟩, by simp, World.ownsRow_nil _ _ _ _, fun g e => by simp [Value.ownBlock] at e, below_and B0.out B4.out⟩
  clear p4 k4 T3 R3 B3 B4 B2 B1
  generalize w0.heap.size = hb at RS ⊢
  generalize w1.heap.size = rb at RS ⊢
  obtain ⟨i0, hi, hz0, hz1, hz2⟩ := info_parts info24
  go_wp2
  go_loopw [5, 7, 8, 9, 38] (fun v5 v7 v8 v9 i wr => ∃ (j hb gb fb : Nat) (P Q : List Cel) (X : List Ob), j ≤ n ∧ i = .int .i64 j ∧ v5 = ptr hb ∧ v7 = ptr gb ∧ v8 = ptr fb ∧ X.length ≤ j ∧ Rd w hb gb rb fb P Q P Q v9 X [(w.heap.size, obObj k x nn a l s)] wr) (fun _ _ _ _ i _ => n - (intOf i).toNat)
  case atStart => exact ⟨0, _, _, _, _, _, _, Nat.zero_le _, rfl, rfl, rfl, rfl, Nat.le_refl _, RS.out⟩
  case round =>
    obtain ⟨j, hb', gb', fb', P, Q, X, hj, rfl, rfl, rfl, rfl, hX, hr⟩ := hrel
    have HR := Lib.hid hr
    have HX := Lib.hid hX
    clear hr hX RS
    by_cases hlt : j < n
    · have HL := Lib.hid hlt
      have t1 : (j : Int) < n := by omega
      obtain ⟨A, ha⟩ := HA.out j hlt
      obtain ⟨ad, rfl, hg, hc⟩ := ha.at_
      have kb : wr.heap[ad.block]? = w.heap[ad.block]? := HR.out.below.block _ hg
      have cc : ∀ k u, (stepL A)[k]? = some u → wr.cell? ((ad.add (j * 12)).add k) = some u := fun k u h => by
        rw [World.cell?_of_block (w := w) (by rw [addBlock, addBlock]; exact kb)]
        exact hc k u h
      have HV : Hid (A.n < 9223372036854775808 ∧ A.m < 9223372036854775808) := Lib.hid ⟨ha.nb, ha.mb⟩
      have c0 : wr.cell? (ad.add (j * 12)) = some _ := cc 0 _ rfl
      have c1 : wr.cell? ⟨(ad.add (j * 12)).block, (ad.add (j * 12)).off + 1, none⟩ = some _ := cc 1 _ rfl
      have c2 : wr.cell? ⟨(ad.add (j * 12)).block, (ad.add (j * 12)).off + 2, none⟩ = some _ := cc 2 _ rfl
      have c3 : wr.cell? ⟨(ad.add (j * 12)).block, (ad.add (j * 12)).off + 3, none⟩ = some _ := cc 3 _ rfl
      have c4 : wr.cell? ⟨(ad.add (j * 12)).block, (ad.add (j * 12)).off + 4, none⟩ = some _ := cc 4 _ rfl
      have c5 : wr.cell? ⟨(ad.add (j * 12)).block, (ad.add (j * 12)).off + 5, none⟩ = some _ := cc 5 _ rfl
      have c6 : wr.cell? ⟨(ad.add (j * 12)).block, (ad.add (j * 12)).off + 6, none⟩ = some _ := cc 6 _ rfl
      have c7 : wr.cell? ⟨(ad.add (j * 12)).block, (ad.add (j * 12)).off + 7, none⟩ = some _ := cc 7 _ rfl
      have c8 : wr.cell? ⟨(ad.add (j * 12)).block, (ad.add (j * 12)).off + 8, none⟩ = some _ := cc 8 _ rfl
      have c9 : wr.cell? ⟨(ad.add (j * 12)).block, (ad.add (j * 12)).off + 9, none⟩ = some _ := cc 9 _ rfl
      have c10 : wr.cell? ⟨(ad.add (j * 12)).block, (ad.add (j * 12)).off + 10, none⟩ = some _ := cc 10 _ rfl
      have c11 : wr.cell? ⟨(ad.add (j * 12)).block, (ad.add (j * 12)).off + 11, none⟩ = some _ := cc 11 _ rfl
      clear kb cc hc hg ha
      go_upto_region 11 with fail
      obtain ⟨w5, e5, r5, o5⟩ : ∃ w5, wr.alloc (stObj A.what A.a A.b A.n A.m A.s A.o.k A.o.x A.o.n A.o.a A.o.l A.o.s) = w5 ∧ Rd w hb' gb' rb fb' P Q P Q u9 X [(wr.heap.size, stObj A.what A.a A.b A.n A.m A.s A.o.k A.o.x A.o.n A.o.a A.o.l A.o.s), (w.heap.size, obObj k x nn a l s)] w5 ∧ w5.heap[wr.heap.size]? = some (stObj A.what A.a A.b A.n A.m A.s A.o.k A.o.x A.o.n A.o.a A.o.l A.o.s) := ⟨_, rfl, HR.out.new _, heap_alloc_new _ _⟩
      rw [e5]
      have R5 := Lib.hid r5
      clear c0 c1 c2 c3 c4 c5 c6 c7 c8 c9 c10 c11 e5 r5
      have c5 : w5.cell? ⟨wr.heap.size, 5, none⟩ = some (.string A.s) := cellAt o5 5
      have c11 : w5.cell? ⟨wr.heap.size, 11, none⟩ = some (.string A.o.s) := cellAt o5 11
      clear o5
      by_cases g1 : (A.s.size : Int) > 300
      · go_wp2
        go_ret
        exact ⟨rfl, R5.out.below⟩
      by_cases g2 : (A.o.s.size : Int) > 300
      · go_wp2
        go_ret
        exact ⟨rfl, R5.out.below⟩
      go_upto_region 13 with fail
      clear c5 c11
      generalize wr.heap.size = ba at R5 ⊢
      obtain ⟨k1, x1, n1, a1, l1, s1, hO1⟩ : ∃ k x n a l s, pickO X A.a A.o = ⟨k, x, n, a, l, s⟩ := ⟨_, _, _, _, _, _, rfl⟩
      obtain ⟨k2, x2, n2, a2, l2, s2, hO2⟩ : ∃ k x n a l s, pickO X A.b A.o = ⟨k, x, n, a, l, s⟩ := ⟨_, _, _, _, _, _, rfl⟩
      refine reg13 w w5 hb' gb' rb fb' P Q u9 X [(w.heap.size, obObj k x nn a l s)] ba A k1 x1 n1 a1 l1 s1 k2 x2 n2 a2 l2 s2 _ _ _ _ _ _ _ _ _ _ _ _ _ _ _ _ _ _ _ _ _ _ _ _ _ _ _ _ _ _ _ _ _ _ _ _ _ _ _ _ _ _ _ _ _ _ _ _ _ _ _ _ _ _ _ _ _ _ _ _ _ _ _ _ _ _ _ _ _ _ _ _ _ _ _ _ _ _ _ _ _ _ _ _ _ _ _ _ _ _ _ _ _ _ _ _ _ _ _ _ _ _ _ _ _ _ _ _ _ _ _ _ _ _ _ _ _ _ _ _ _ _ _ _ _ _ _ _ _ _ _ _ _ _ _ _ _ _ _ _ _ _ _ _ _ _ _ _ _ _ _ _ _ _ _ _ _ _ _ _ _ _ _ _ _ _ _ _ _ _ _ _ _ _ _ _ _ _ _ _ _ _ _ _ _ _ _ _ _ _ _ _ _ _ _ _ _ _ _ _ _ _ _ _ _ _ _ _ _ _ _ _ _ (Lib.hid fun wx hl => by have q := pick_any hl A.a A.o; rw [hO1] at q; exact q) (Lib.hid fun wx hl => by have q := pick_any hl A.b A.o; rw [hO2] at q; exact q) R5 _ (Lib.hid ?_)
      intro b1 b2 y53 y54 y55 y56 y57 y58 y59 y60 y61 y62 y63 y64 w6 r6
      have R6 := Lib.hid r6
      clear r6 R5 hO1 hO2
      generalize hWT : A.what = wt at R6 ⊢
      clear hWT
      have FACT : Hid (∀ wx hb gb fb P Q A' B' va X', Rd w hb gb rb fb P Q A' B' va X' [(b2, obObj k2 x2 n2 a2 l2 s2), (b1, obObj k1 x1 n1 a1 l1 s1), (ba, stObj wt A.a A.b A.n A.m A.s A.o.k A.o.x A.o.n A.o.a A.o.l A.o.s), (w.heap.size, obObj k x nn a l s)] wx → wx.heap[b1]? = some (obObj k1 x1 n1 a1 l1 s1) ∧ wx.heap[b2]? = some (obObj k2 x2 n2 a2 l2 s2) ∧ wx.heap[ba]? = some (stObj wt A.a A.b A.n A.m A.s A.o.k A.o.x A.o.n A.o.a A.o.l A.o.s)) := Lib.hid fun wx hb gb fb P Q A' B' va X' r => ⟨(r.box (b1, _) (by simp)).1, (r.box (b2, _) (by simp)).1, (r.box (ba, _) (by simp)).1⟩
      go_upto_block 2 with fail
      go_cut [5, 7, 8, 9, 14, 15] from 65 to 148 (fun v5 v7 v8 v9 v14 _ wx => ∃ (hc gc fc : Nat) (P' Q' : List Cel) (X' : List Ob), v5 = ptr hc ∧ v7 = ptr gc ∧ v8 = ptr fc ∧ v14 = .bool true ∧ X'.length ≤ j + 1 ∧ Rd w hc gc rb fc P' Q' P' Q' v9 X' [(b2, obObj k2 x2 n2 a2 l2 s2), (b1, obObj k1 x1 n1 a1 l1 s1), (ba, stObj wt A.a A.b A.n A.m A.s A.o.k A.o.x A.o.n A.o.a A.o.l A.o.s), (w.heap.size, obObj k x nn a l s)] wx)
      case first =>
        have f6 := FACT.out _ _ _ _ _ _ _ _ _ _ R6.out
        have c0 : w6.cell? ⟨ba, 0, none⟩ = some (.int .i64 wt) := cellAt f6.2.2 0
        clear f6
        by_cases h03 : 0 ≤ wt ∧ wt ≤ 3
        · obtain ⟨ha3, hb3⟩ := h03
          go_upto_region 19 with fail
          clear c0 ha3 hb3
          obtain ⟨w7, e7, r7⟩ : ∃ w7, w6.alloc emptyOb = w7 ∧ Rd w hb' gb' rb fb' P Q P Q u9 X ((w6.heap.size, emptyOb) :: [(b2, obObj k2 x2 n2 a2 l2 s2), (b1, obObj k1 x1 n1 a1 l1 s1), (ba, stObj wt A.a A.b A.n A.m A.s A.o.k A.o.x A.o.n A.o.a A.o.l A.o.s), (w.heap.size, obObj k x nn a l s)]) w7 := ⟨_, rfl, R6.out.new _⟩
          rw [e7]
          have R7 := Lib.hid r7
          clear e7 r7
          generalize w6.heap.size = b3 at R7 ⊢
          have f7 := (R7.out.box (ba, stObj wt A.a A.b A.n A.m A.s A.o.k A.o.x A.o.n A.o.a A.o.l A.o.s) (by simp)).1
          have d0 : w7.cell? ⟨ba, 0, none⟩ = some (.int .i64 wt) := cellAt f7 0
          have d1 : w7.cell? ⟨ba, 1, none⟩ = some (.int .i64 A.a) := cellAt f7 1
          have d2 : w7.cell? ⟨ba, 2, none⟩ = some (.int .i64 A.b) := cellAt f7 2
          have d3 : w7.cell? ⟨ba, 3, none⟩ = some (.int .i64 A.n) := cellAt f7 3
          have d4 : w7.cell? ⟨ba, 4, none⟩ = some (.int .i64 A.m) := cellAt f7 4
          have d5 : w7.cell? ⟨ba, 5, none⟩ = some (.string A.s) := cellAt f7 5
          have d6 : w7.cell? ⟨ba, 6, none⟩ = some (.int .i64 A.o.k) := cellAt f7 6
          have d7 : w7.cell? ⟨ba, 7, none⟩ = some (.bool A.o.x) := cellAt f7 7
          have d8 : w7.cell? ⟨ba, 8, none⟩ = some (.int .i64 A.o.n) := cellAt f7 8
          have d9 : w7.cell? ⟨ba, 9, none⟩ = some (.int .i64 A.o.a) := cellAt f7 9
          have d10 : w7.cell? ⟨ba, 10, none⟩ = some (.int .i64 A.o.l) := cellAt f7 10
          have d11 : w7.cell? ⟨ba, 11, none⟩ = some (.string A.o.s) := cellAt f7 11
          clear f7
          obtain ⟨k3, x3, n3, a3, l3, s3, hO3⟩ : ∃ k x n a l s, makO P X wt A.a A.n A.m A.s A.o = ⟨k, x, n, a, l, s⟩ := ⟨_, _, _, _, _, _, rfl⟩
          obtain ⟨out, hp, fin⟩ := R7.out.step
          have M := make_any hp R7.out.lis wt A.a A.b A.n A.m A.s A.o HV.out.1 HV.out.2
          rw [hO3] at M
          unfold Ob.val at M
          have MH := Lib.hid M
          have FIN := Lib.hid fin
          clear hp fin M hO3
          go_wp2_with fail
          refine MH.out.mono ?_
          rintro e w8 ⟨rfl, p8, k8⟩
          have R8 := Lib.hid (FIN.out _ _ _ _ _ _ _ _ w8 p8 k8)
          clear p8 k8 MH FIN d0 d1 d2 d3 d4 d5 d6 d7 d8 d9 d10 d11
          have q15 : w8.heap[b3]? = some emptyOb := (R8.out.box (b3, emptyOb) (by simp)).1
          obtain ⟨⟨r0, r1, r2, r3, r4, r5⟩, f0, f1, f2, f3, f4, f5⟩ := cells6 q15
          go_upto_region 20 with fail
          obtain ⟨w9, e9, by_, oy⟩ := set6_box q15 (.int .i64 k3) (.bool x3) (.int .i64 n3) (.int .i64 a3) (.int .i64 l3) (.string s3)
          rw [e9]
          have R9 := Lib.hid (R8.out.set oy by_)
          clear q15 e9 by_ oy r0 r1 r2 r3 r4 r5 f0 f1 f2 f3 f4 f5
          have q15 : w9.heap[b3]? = some (obObj k3 x3 n3 a3 l3 s3) := (R9.out.box (b3, _) (by simp)).1
          obtain ⟨⟨r0, r1, r2, r3, r4, r5⟩, -, -, -, -, -, -⟩ := cells6 q15
          clear q15
          by_cases hk3 : k3 = 0
          · subst hk3
            go_wp2
            go_meet
            exact ⟨_, _, _, _, _, X, rfl, rfl, rfl, rfl, by have := HX.out; omega, R9.out.sub (List.sublist_cons_self _ _)⟩
          obtain ⟨px, cx, rfl⟩ := R9.out.lis.form
          have HN0 := Lib.hid R9.out.below.size
          have ROW : Hid (w9.ownsRow w.heap.size 24 6 (.slice px X.length cx) X.length (obCells X)) := Lib.hid R9.out.row
          have HJ := Lib.hid (show X.length ≤ 30 by have := HX.out; have := HL.out; omega)
          go_wp2_with (first
            | (at_builtin; refine wpList_append_lies _ rfl _ _ 33 rfl w.heap.size 24 i0 _ 6 56 Try.underlying33 hi hz0 hz1 hz2 rfl (by decide) _ _ _ rfl (ROW.out.alloc _) ⟨w9.heap.size, 0, none⟩ 1 1 (Ob.cells ⟨k3, x3, n3, a3, l3, s3⟩) rfl rfl (boxCells w9 ⟨k3, x3, n3, a3, l3, s3⟩ _) (ob_one _) (by decide) (by have := HJ.out; unfold maxLen; omega) (by have := HJ.out; omega) (by have := HN0.out; simp; omega) _ rfl ?_))
          intro g9 cap9 wz hown hgrow hg9 hlt9
          have RZ := Lib.hid ((R9.out.later (box_below w9 (.cells (Ob.cells ⟨k3, x3, n3, a3, l3, s3⟩).toArray 24))).push (x := ⟨k3, x3, n3, a3, l3, s3⟩) hown hgrow (hg9.imp id fun e => by rw [e]; simp))
          clear hown hgrow hg9 hlt9
          go_wp2
          go_meet
          exact ⟨_, _, _, _, _, X ++ [⟨k3, x3, n3, a3, l3, s3⟩], rfl, rfl, rfl, rfl, by have := HX.out; simp; omega, RZ.out.sub (List.sublist_cons_self _ _)⟩
        have h03' : Hid (¬ (0 ≤ wt ∧ wt ≤ 3)) := Lib.hid h03
        obtain ⟨tb, htb⟩ : ∃ tb : Bool, (tb = true ∧ 0 ≤ wt ∧ ¬ wt ≤ 3) ∨ (tb = false ∧ ¬ 0 ≤ wt) := by
          by_cases h : 0 ≤ wt
          · exact ⟨true, .inl ⟨rfl, h, fun q => h03 ⟨h, q⟩⟩⟩
          · exact ⟨false, .inr ⟨rfl, h⟩⟩
        clear h03
        by_cases hw : wt = 4
        · subst hw
          clear htb h03'
          go_upto_region 23 with fail
          clear c0
          have RX := Lib.hid (R6.out.later (Below.refl _ w6).drew)
          have SX : Hid (w6.drew.heap[b1]? = some (obObj k1 x1 n1 a1 l1 s1) ∧ w6.drew.heap[b2]? = some (obObj k2 x2 n2 a2 l2 s2) ∧ w6.drew.heap[ba]? = some (stObj 4 A.a A.b A.n A.m A.s A.o.k A.o.x A.o.n A.o.a A.o.l A.o.s)) := Lib.hid (FACT.out _ _ _ _ _ _ _ _ _ _ RX.out)
          (try refine wp_region_noPanic ?_)
          refine wp_region_held_drew (S := fun wx => wx.heap[b1]? = some (obObj k1 x1 n1 a1 l1 s1) ∧ wx.heap[b2]? = some (obObj k2 x2 n2 a2 l2 s2) ∧ wx.heap[ba]? = some (stObj 4 A.a A.b A.n A.m A.s A.o.k A.o.x A.o.n A.o.a A.o.l A.o.s)) (by kernel_rfl) SX.out (fun _ => ?_)
          generalize w6.drew = w_0 at SX RX ⊢
          refine wpAnyH_take (i := 0) (v := ptr hb') rfl (by kernel_rfl) (by kernel_rfl) (by kernel_rfl) (fun _ _ _ h => h) (Or.inl ⟨by rfl, fun wx hS => ?_⟩) SX.out ?_
          · go_simp
          try simp only [Act.put, List.getElem_toArray, List.getElem_cons_succ, List.getElem_cons_zero, List.setIfInBounds_toArray, List.set_cons_zero, List.set_cons_succ]
          refine wpAnyH_take (i := 1) (v := obV k1 x1 n1 a1 l1 s1) rfl (by kernel_rfl) (by kernel_rfl) (by kernel_rfl) (fun _ _ _ h => h) (Or.inl ⟨by rfl, fun wx hS => ?_⟩) SX.out ?_
          · have ⟨⟨u0, u1, u2, u3, u4, u5⟩, _⟩ := cells6 hS.1; have ⟨⟨v0, v1, v2, v3, v4, v5⟩, _⟩ := cells6 hS.2.1; have n3 : wx.cell? ⟨ba, 3, none⟩ = some (.int .i64 A.n) := cellAt hS.2.2 3; go_simp
          try simp only [Act.put, List.getElem_toArray, List.getElem_cons_succ, List.getElem_cons_zero, List.setIfInBounds_toArray, List.set_cons_zero, List.set_cons_succ]
          refine wpAnyH_take (i := 2) (v := .pointer (some ⟨ba, 3, none⟩)) rfl (by kernel_rfl) (by kernel_rfl) (by kernel_rfl) (fun _ _ _ h => h) (Or.inl ⟨by rfl, fun wx hS => ?_⟩) SX.out ?_
          · go_simp
          try simp only [Act.put, List.getElem_toArray, List.getElem_cons_succ, List.getElem_cons_zero, List.setIfInBounds_toArray, List.set_cons_zero, List.set_cons_succ]
          refine wpAnyH_take (i := 3) (v := .int .i64 A.n) rfl (by kernel_rfl) (by kernel_rfl) (by kernel_rfl) (fun _ _ _ h => h) (Or.inl ⟨by rfl, fun wx hS => ?_⟩) SX.out ?_
          · have ⟨⟨u0, u1, u2, u3, u4, u5⟩, _⟩ := cells6 hS.1; have ⟨⟨v0, v1, v2, v3, v4, v5⟩, _⟩ := cells6 hS.2.1; have n3 : wx.cell? ⟨ba, 3, none⟩ = some (.int .i64 A.n) := cellAt hS.2.2 3; go_simp
          try simp only [Act.put, List.getElem_toArray, List.getElem_cons_succ, List.getElem_cons_zero, List.setIfInBounds_toArray, List.set_cons_zero, List.set_cons_succ]
          refine wpAnyH_take (i := 4) (v := obV k2 x2 n2 a2 l2 s2) rfl (by kernel_rfl) (by kernel_rfl) (by kernel_rfl) (fun _ _ _ h => h) (Or.inl ⟨by rfl, fun wx hS => ?_⟩) SX.out ?_
          · have ⟨⟨u0, u1, u2, u3, u4, u5⟩, _⟩ := cells6 hS.1; have ⟨⟨v0, v1, v2, v3, v4, v5⟩, _⟩ := cells6 hS.2.1; have n3 : wx.cell? ⟨ba, 3, none⟩ = some (.int .i64 A.n) := cellAt hS.2.2 3; go_simp
          try simp only [Act.put, List.getElem_toArray, List.getElem_cons_succ, List.getElem_cons_zero, List.setIfInBounds_toArray, List.set_cons_zero, List.set_cons_succ]
          refine wpAnyH_take (i := 6) (v := ptr rb) rfl (by kernel_rfl) (by kernel_rfl) (by kernel_rfl) (fun _ _ _ h => h) (Or.inl ⟨by rfl, fun wx hS => ?_⟩) SX.out ?_
          · go_simp
          try simp only [Act.put, List.getElem_toArray, List.getElem_cons_succ, List.getElem_cons_zero, List.setIfInBounds_toArray, List.set_cons_zero, List.set_cons_succ]
          refine wpAnyH_take (i := 7) (v := obV k1 x1 n1 a1 l1 s1) rfl (by kernel_rfl) (by kernel_rfl) (by kernel_rfl) (fun _ _ _ h => h) (Or.inl ⟨by rfl, fun wx hS => ?_⟩) SX.out ?_
          · have ⟨⟨u0, u1, u2, u3, u4, u5⟩, _⟩ := cells6 hS.1; have ⟨⟨v0, v1, v2, v3, v4, v5⟩, _⟩ := cells6 hS.2.1; have n3 : wx.cell? ⟨ba, 3, none⟩ = some (.int .i64 A.n) := cellAt hS.2.2 3; go_simp
          try simp only [Act.put, List.getElem_toArray, List.getElem_cons_succ, List.getElem_cons_zero, List.setIfInBounds_toArray, List.set_cons_zero, List.set_cons_succ]
          refine wpAnyH_take (i := 8) (v := .pointer (some ⟨ba, 3, none⟩)) rfl (by kernel_rfl) (by kernel_rfl) (by kernel_rfl) (fun _ _ _ h => h) (Or.inl ⟨by rfl, fun wx hS => ?_⟩) SX.out ?_
          · go_simp
          try simp only [Act.put, List.getElem_toArray, List.getElem_cons_succ, List.getElem_cons_zero, List.setIfInBounds_toArray, List.set_cons_zero, List.set_cons_succ]
          refine wpAnyH_take (i := 9) (v := .int .i64 A.n) rfl (by kernel_rfl) (by kernel_rfl) (by kernel_rfl) (fun _ _ _ h => h) (Or.inl ⟨by rfl, fun wx hS => ?_⟩) SX.out ?_
          · have ⟨⟨u0, u1, u2, u3, u4, u5⟩, _⟩ := cells6 hS.1; have ⟨⟨v0, v1, v2, v3, v4, v5⟩, _⟩ := cells6 hS.2.1; have n3 : wx.cell? ⟨ba, 3, none⟩ = some (.int .i64 A.n) := cellAt hS.2.2 3; go_simp
          try simp only [Act.put, List.getElem_toArray, List.getElem_cons_succ, List.getElem_cons_zero, List.setIfInBounds_toArray, List.set_cons_zero, List.set_cons_succ]
          refine wpAnyH_take (i := 10) (v := obV k2 x2 n2 a2 l2 s2) rfl (by kernel_rfl) (by kernel_rfl) (by kernel_rfl) (fun _ _ _ h => h) (Or.inl ⟨by rfl, fun wx hS => ?_⟩) SX.out ?_
          · have ⟨⟨u0, u1, u2, u3, u4, u5⟩, _⟩ := cells6 hS.1; have ⟨⟨v0, v1, v2, v3, v4, v5⟩, _⟩ := cells6 hS.2.1; have n3 : wx.cell? ⟨ba, 3, none⟩ = some (.int .i64 A.n) := cellAt hS.2.2 3; go_simp
          try simp only [Act.put, List.getElem_toArray, List.getElem_cons_succ, List.getElem_cons_zero, List.setIfInBounds_toArray, List.set_cons_zero, List.set_cons_succ]
          obtain ⟨out, hp, fin⟩ := RX.out.step
          have HP := Lib.hid hp
          have FIN := Lib.hid fin
          clear hp fin
          refine wpAnyH_ready (rs := [5]) (by kernel_rfl) (by simp) ?_
          refine AllReadyH.cons rfl (fun K hK => ?_) AllReadyH.nil
          go_simp
          refine (pSet HP.out ⟨k1, x1, n1, a1, l1, s1⟩ A.n ⟨k2, x2, n2, a2, l2, s2⟩).mono ?_
          rintro e wp ⟨rfl, pp, kk⟩
          have RY := Lib.hid (FIN.out _ _ _ _ _ _ _ _ wp pp kk)
          clear RX SX pp kk HP FIN
          have RX := RY
          clear RY
          have SX := Lib.hid (FACT.out _ _ _ _ _ _ _ _ _ _ RX.out)
          refine hK.out _ _ SX.out (fun _ => ?_)
          clear hK
          try simp only [Act.put, List.getElem_toArray, List.getElem_cons_succ, List.getElem_cons_zero, List.setIfInBounds_toArray, List.set_cons_zero, List.set_cons_succ]
          obtain ⟨out, hp, fin⟩ := RX.out.step
          have HP := Lib.hid hp
          have FIN := Lib.hid fin
          clear hp fin
          refine wpAnyH_ready (rs := [11]) (by kernel_rfl) (by simp) ?_
          refine AllReadyH.cons rfl (fun K hK => ?_) AllReadyH.nil
          go_simp
          refine (qSet HP.out ⟨k1, x1, n1, a1, l1, s1⟩ A.n ⟨k2, x2, n2, a2, l2, s2⟩).mono ?_
          rintro e wq ⟨rfl, pp, kk⟩
          have RY := Lib.hid (FIN.out _ _ _ _ _ _ _ _ wq pp kk)
          clear RX SX pp kk HP FIN
          have RX := RY
          clear RY
          have SX := Lib.hid (FACT.out _ _ _ _ _ _ _ _ _ _ RX.out)
          refine hK.out _ _ SX.out (fun _ => ?_)
          clear hK
          try simp only [Act.put, List.getElem_toArray, List.getElem_cons_succ, List.getElem_cons_zero, List.setIfInBounds_toArray, List.set_cons_zero, List.set_cons_succ]
          refine wpAnyH_take (i := 12) (v := .bool true) rfl (by kernel_rfl) (by kernel_rfl) (by kernel_rfl) (fun _ _ _ h => h) (Or.inl ⟨by rfl, fun wx hS => ?_⟩) SX.out ?_
          · go_simp
          try simp only [Act.put, List.getElem_toArray, List.getElem_cons_succ, List.getElem_cons_zero, List.setIfInBounds_toArray, List.set_cons_zero, List.set_cons_succ]
          refine wpAnyH_take (i := 13) (v := .bool true) rfl (by kernel_rfl) (by kernel_rfl) (by kernel_rfl) (fun _ _ _ h => h) (Or.inl ⟨by rfl, fun wx hS => ?_⟩) SX.out ?_
          · go_simp
          try simp only [Act.put, List.getElem_toArray, List.getElem_cons_succ, List.getElem_cons_zero, List.setIfInBounds_toArray, List.set_cons_zero, List.set_cons_succ]
          refine wpAnyH_done (by kernel_rfl) ?_ _
          (try refine no_panic ?_)
          go_wp2
          go_meet
          exact ⟨_, _, _, _, _, X, rfl, rfl, rfl, rfl, by have := HX.out; omega, RX.out⟩
        have hw4 := hw
        clear hw
        by_cases hw : wt = 5
        · subst hw
          clear htb h03'
          go_upto_region 25 with fail
          clear c0
          have RX := Lib.hid (R6.out.later (Below.refl _ w6).drew)
          have SX : Hid (w6.drew.heap[b1]? = some (obObj k1 x1 n1 a1 l1 s1) ∧ w6.drew.heap[b2]? = some (obObj k2 x2 n2 a2 l2 s2) ∧ w6.drew.heap[ba]? = some (stObj 5 A.a A.b A.n A.m A.s A.o.k A.o.x A.o.n A.o.a A.o.l A.o.s)) := Lib.hid (FACT.out _ _ _ _ _ _ _ _ _ _ RX.out)
          (try refine wp_region_noPanic ?_)
          refine wp_region_held_drew (S := fun wx => wx.heap[b1]? = some (obObj k1 x1 n1 a1 l1 s1) ∧ wx.heap[b2]? = some (obObj k2 x2 n2 a2 l2 s2) ∧ wx.heap[ba]? = some (stObj 5 A.a A.b A.n A.m A.s A.o.k A.o.x A.o.n A.o.a A.o.l A.o.s)) (by kernel_rfl) SX.out (fun _ => ?_)
          generalize w6.drew = w_0 at SX RX ⊢
          refine wpAnyH_take (i := 0) (v := ptr hb') rfl (by kernel_rfl) (by kernel_rfl) (by kernel_rfl) (fun _ _ _ h => h) (Or.inl ⟨by rfl, fun wx hS => ?_⟩) SX.out ?_
          · go_simp
          try simp only [Act.put, List.getElem_toArray, List.getElem_cons_succ, List.getElem_cons_zero, List.setIfInBounds_toArray, List.set_cons_zero, List.set_cons_succ]
          refine wpAnyH_take (i := 1) (v := obV k1 x1 n1 a1 l1 s1) rfl (by kernel_rfl) (by kernel_rfl) (by kernel_rfl) (fun _ _ _ h => h) (Or.inl ⟨by rfl, fun wx hS => ?_⟩) SX.out ?_
          · have ⟨⟨u0, u1, u2, u3, u4, u5⟩, _⟩ := cells6 hS.1; have ⟨⟨v0, v1, v2, v3, v4, v5⟩, _⟩ := cells6 hS.2.1; have n3 : wx.cell? ⟨ba, 3, none⟩ = some (.int .i64 A.n) := cellAt hS.2.2 3; go_simp
          try simp only [Act.put, List.getElem_toArray, List.getElem_cons_succ, List.getElem_cons_zero, List.setIfInBounds_toArray, List.set_cons_zero, List.set_cons_succ]
          refine wpAnyH_take (i := 2) (v := .pointer (some ⟨ba, 3, none⟩)) rfl (by kernel_rfl) (by kernel_rfl) (by kernel_rfl) (fun _ _ _ h => h) (Or.inl ⟨by rfl, fun wx hS => ?_⟩) SX.out ?_
          · go_simp
          try simp only [Act.put, List.getElem_toArray, List.getElem_cons_succ, List.getElem_cons_zero, List.setIfInBounds_toArray, List.set_cons_zero, List.set_cons_succ]
          refine wpAnyH_take (i := 3) (v := .int .i64 A.n) rfl (by kernel_rfl) (by kernel_rfl) (by kernel_rfl) (fun _ _ _ h => h) (Or.inl ⟨by rfl, fun wx hS => ?_⟩) SX.out ?_
          · have ⟨⟨u0, u1, u2, u3, u4, u5⟩, _⟩ := cells6 hS.1; have ⟨⟨v0, v1, v2, v3, v4, v5⟩, _⟩ := cells6 hS.2.1; have n3 : wx.cell? ⟨ba, 3, none⟩ = some (.int .i64 A.n) := cellAt hS.2.2 3; go_simp
          try simp only [Act.put, List.getElem_toArray, List.getElem_cons_succ, List.getElem_cons_zero, List.setIfInBounds_toArray, List.set_cons_zero, List.set_cons_succ]
          refine wpAnyH_take (i := 4) (v := obV k2 x2 n2 a2 l2 s2) rfl (by kernel_rfl) (by kernel_rfl) (by kernel_rfl) (fun _ _ _ h => h) (Or.inl ⟨by rfl, fun wx hS => ?_⟩) SX.out ?_
          · have ⟨⟨u0, u1, u2, u3, u4, u5⟩, _⟩ := cells6 hS.1; have ⟨⟨v0, v1, v2, v3, v4, v5⟩, _⟩ := cells6 hS.2.1; have n3 : wx.cell? ⟨ba, 3, none⟩ = some (.int .i64 A.n) := cellAt hS.2.2 3; go_simp
          try simp only [Act.put, List.getElem_toArray, List.getElem_cons_succ, List.getElem_cons_zero, List.setIfInBounds_toArray, List.set_cons_zero, List.set_cons_succ]
          refine wpAnyH_take (i := 6) (v := ptr rb) rfl (by kernel_rfl) (by kernel_rfl) (by kernel_rfl) (fun _ _ _ h => h) (Or.inl ⟨by rfl, fun wx hS => ?_⟩) SX.out ?_
          · go_simp
          try simp only [Act.put, List.getElem_toArray, List.getElem_cons_succ, List.getElem_cons_zero, List.setIfInBounds_toArray, List.set_cons_zero, List.set_cons_succ]
          refine wpAnyH_take (i := 7) (v := obV k1 x1 n1 a1 l1 s1) rfl (by kernel_rfl) (by kernel_rfl) (by kernel_rfl) (fun _ _ _ h => h) (Or.inl ⟨by rfl, fun wx hS => ?_⟩) SX.out ?_
          · have ⟨⟨u0, u1, u2, u3, u4, u5⟩, _⟩ := cells6 hS.1; have ⟨⟨v0, v1, v2, v3, v4, v5⟩, _⟩ := cells6 hS.2.1; have n3 : wx.cell? ⟨ba, 3, none⟩ = some (.int .i64 A.n) := cellAt hS.2.2 3; go_simp
          try simp only [Act.put, List.getElem_toArray, List.getElem_cons_succ, List.getElem_cons_zero, List.setIfInBounds_toArray, List.set_cons_zero, List.set_cons_succ]
          refine wpAnyH_take (i := 8) (v := .pointer (some ⟨ba, 3, none⟩)) rfl (by kernel_rfl) (by kernel_rfl) (by kernel_rfl) (fun _ _ _ h => h) (Or.inl ⟨by rfl, fun wx hS => ?_⟩) SX.out ?_
          · go_simp
          try simp only [Act.put, List.getElem_toArray, List.getElem_cons_succ, List.getElem_cons_zero, List.setIfInBounds_toArray, List.set_cons_zero, List.set_cons_succ]
          refine wpAnyH_take (i := 9) (v := .int .i64 A.n) rfl (by kernel_rfl) (by kernel_rfl) (by kernel_rfl) (fun _ _ _ h => h) (Or.inl ⟨by rfl, fun wx hS => ?_⟩) SX.out ?_
          · have ⟨⟨u0, u1, u2, u3, u4, u5⟩, _⟩ := cells6 hS.1; have ⟨⟨v0, v1, v2, v3, v4, v5⟩, _⟩ := cells6 hS.2.1; have n3 : wx.cell? ⟨ba, 3, none⟩ = some (.int .i64 A.n) := cellAt hS.2.2 3; go_simp
          try simp only [Act.put, List.getElem_toArray, List.getElem_cons_succ, List.getElem_cons_zero, List.setIfInBounds_toArray, List.set_cons_zero, List.set_cons_succ]
          refine wpAnyH_take (i := 10) (v := obV k2 x2 n2 a2 l2 s2) rfl (by kernel_rfl) (by kernel_rfl) (by kernel_rfl) (fun _ _ _ h => h) (Or.inl ⟨by rfl, fun wx hS => ?_⟩) SX.out ?_
          · have ⟨⟨u0, u1, u2, u3, u4, u5⟩, _⟩ := cells6 hS.1; have ⟨⟨v0, v1, v2, v3, v4, v5⟩, _⟩ := cells6 hS.2.1; have n3 : wx.cell? ⟨ba, 3, none⟩ = some (.int .i64 A.n) := cellAt hS.2.2 3; go_simp
          try simp only [Act.put, List.getElem_toArray, List.getElem_cons_succ, List.getElem_cons_zero, List.setIfInBounds_toArray, List.set_cons_zero, List.set_cons_succ]
          obtain ⟨out, hp, fin⟩ := RX.out.step
          have HP := Lib.hid hp
          have FIN := Lib.hid fin
          clear hp fin
          refine wpAnyH_ready (rs := [5]) (by kernel_rfl) (by simp) ?_
          refine AllReadyH.cons rfl (fun K hK => ?_) AllReadyH.nil
          go_simp
          refine (pPut HP.out ⟨k1, x1, n1, a1, l1, s1⟩ A.n ⟨k2, x2, n2, a2, l2, s2⟩ HV.out.1).mono ?_
          rintro e wp ⟨rfl, pp, kk⟩
          have RY := Lib.hid (FIN.out _ _ _ _ _ _ _ _ wp pp kk)
          clear RX SX pp kk HP FIN
          have RX := RY
          clear RY
          have SX := Lib.hid (FACT.out _ _ _ _ _ _ _ _ _ _ RX.out)
          refine hK.out _ _ SX.out (fun _ => ?_)
          clear hK
          try simp only [Act.put, List.getElem_toArray, List.getElem_cons_succ, List.getElem_cons_zero, List.setIfInBounds_toArray, List.set_cons_zero, List.set_cons_succ]
          obtain ⟨out, hp, fin⟩ := RX.out.step
          have HP := Lib.hid hp
          have FIN := Lib.hid fin
          clear hp fin
          refine wpAnyH_ready (rs := [11]) (by kernel_rfl) (by simp) ?_
          refine AllReadyH.cons rfl (fun K hK => ?_) AllReadyH.nil
          go_simp
          refine (qPut HP.out ⟨k1, x1, n1, a1, l1, s1⟩ A.n ⟨k2, x2, n2, a2, l2, s2⟩ (by have := HV.out.1; omega)).mono ?_
          rintro e wq ⟨rfl, pp, kk⟩
          have RY := Lib.hid (FIN.out _ _ _ _ _ _ _ _ wq pp kk)
          clear RX SX pp kk HP FIN
          have RX := RY
          clear RY
          have SX := Lib.hid (FACT.out _ _ _ _ _ _ _ _ _ _ RX.out)
          refine hK.out _ _ SX.out (fun _ => ?_)
          clear hK
          try simp only [Act.put, List.getElem_toArray, List.getElem_cons_succ, List.getElem_cons_zero, List.setIfInBounds_toArray, List.set_cons_zero, List.set_cons_succ]
          refine wpAnyH_take (i := 12) (v := .bool true) rfl (by kernel_rfl) (by kernel_rfl) (by kernel_rfl) (fun _ _ _ h => h) (Or.inl ⟨by rfl, fun wx hS => ?_⟩) SX.out ?_
          · go_simp
          try simp only [Act.put, List.getElem_toArray, List.getElem_cons_succ, List.getElem_cons_zero, List.setIfInBounds_toArray, List.set_cons_zero, List.set_cons_succ]
          refine wpAnyH_take (i := 13) (v := .bool true) rfl (by kernel_rfl) (by kernel_rfl) (by kernel_rfl) (fun _ _ _ h => h) (Or.inl ⟨by rfl, fun wx hS => ?_⟩) SX.out ?_
          · go_simp
          try simp only [Act.put, List.getElem_toArray, List.getElem_cons_succ, List.getElem_cons_zero, List.setIfInBounds_toArray, List.set_cons_zero, List.set_cons_succ]
          refine wpAnyH_done (by kernel_rfl) ?_ _
          (try refine no_panic ?_)
          go_wp2
          go_meet
          exact ⟨_, _, _, _, _, X, rfl, rfl, rfl, rfl, by have := HX.out; omega, RX.out⟩
        have hw5 := hw
        clear hw
        by_cases hw : wt = 6
        · subst hw
          clear htb h03'
          go_upto_region 27 with fail
          clear c0
          have RX := Lib.hid (R6.out.later (Below.refl _ w6).drew)
          have SX : Hid (w6.drew.heap[b1]? = some (obObj k1 x1 n1 a1 l1 s1) ∧ w6.drew.heap[b2]? = some (obObj k2 x2 n2 a2 l2 s2) ∧ w6.drew.heap[ba]? = some (stObj 6 A.a A.b A.n A.m A.s A.o.k A.o.x A.o.n A.o.a A.o.l A.o.s)) := Lib.hid (FACT.out _ _ _ _ _ _ _ _ _ _ RX.out)
          (try refine wp_region_noPanic ?_)
          refine wp_region_held_drew (S := fun wx => wx.heap[b1]? = some (obObj k1 x1 n1 a1 l1 s1) ∧ wx.heap[b2]? = some (obObj k2 x2 n2 a2 l2 s2) ∧ wx.heap[ba]? = some (stObj 6 A.a A.b A.n A.m A.s A.o.k A.o.x A.o.n A.o.a A.o.l A.o.s)) (by kernel_rfl) SX.out (fun _ => ?_)
          generalize w6.drew = w_0 at SX RX ⊢
          refine wpAnyH_take (i := 0) (v := ptr hb') rfl (by kernel_rfl) (by kernel_rfl) (by kernel_rfl) (fun _ _ _ h => h) (Or.inl ⟨by rfl, fun wx hS => ?_⟩) SX.out ?_
          · go_simp
          try simp only [Act.put, List.getElem_toArray, List.getElem_cons_succ, List.getElem_cons_zero, List.setIfInBounds_toArray, List.set_cons_zero, List.set_cons_succ]
          refine wpAnyH_take (i := 1) (v := obV k1 x1 n1 a1 l1 s1) rfl (by kernel_rfl) (by kernel_rfl) (by kernel_rfl) (fun _ _ _ h => h) (Or.inl ⟨by rfl, fun wx hS => ?_⟩) SX.out ?_
          · have ⟨⟨u0, u1, u2, u3, u4, u5⟩, _⟩ := cells6 hS.1; have ⟨⟨v0, v1, v2, v3, v4, v5⟩, _⟩ := cells6 hS.2.1; have n3 : wx.cell? ⟨ba, 3, none⟩ = some (.int .i64 A.n) := cellAt hS.2.2 3; go_simp
          try simp only [Act.put, List.getElem_toArray, List.getElem_cons_succ, List.getElem_cons_zero, List.setIfInBounds_toArray, List.set_cons_zero, List.set_cons_succ]
          refine wpAnyH_take (i := 3) (v := ptr rb) rfl (by kernel_rfl) (by kernel_rfl) (by kernel_rfl) (fun _ _ _ h => h) (Or.inl ⟨by rfl, fun wx hS => ?_⟩) SX.out ?_
          · go_simp
          try simp only [Act.put, List.getElem_toArray, List.getElem_cons_succ, List.getElem_cons_zero, List.setIfInBounds_toArray, List.set_cons_zero, List.set_cons_succ]
          refine wpAnyH_take (i := 4) (v := obV k1 x1 n1 a1 l1 s1) rfl (by kernel_rfl) (by kernel_rfl) (by kernel_rfl) (fun _ _ _ h => h) (Or.inl ⟨by rfl, fun wx hS => ?_⟩) SX.out ?_
          · have ⟨⟨u0, u1, u2, u3, u4, u5⟩, _⟩ := cells6 hS.1; have ⟨⟨v0, v1, v2, v3, v4, v5⟩, _⟩ := cells6 hS.2.1; have n3 : wx.cell? ⟨ba, 3, none⟩ = some (.int .i64 A.n) := cellAt hS.2.2 3; go_simp
          try simp only [Act.put, List.getElem_toArray, List.getElem_cons_succ, List.getElem_cons_zero, List.setIfInBounds_toArray, List.set_cons_zero, List.set_cons_succ]
          obtain ⟨out, hp, fin⟩ := RX.out.step
          have HP := Lib.hid hp
          have FIN := Lib.hid fin
          clear hp fin
          refine wpAnyH_ready (rs := [2]) (by kernel_rfl) (by simp) ?_
          refine AllReadyH.cons rfl (fun K hK => ?_) AllReadyH.nil
          go_simp
          refine (pLock HP.out ⟨k1, x1, n1, a1, l1, s1⟩).mono ?_
          rintro e wp ⟨rfl, pp, kk⟩
          have RY := Lib.hid (FIN.out _ _ _ _ _ _ _ _ wp pp kk)
          clear RX SX pp kk HP FIN
          have RX := RY
          clear RY
          have SX := Lib.hid (FACT.out _ _ _ _ _ _ _ _ _ _ RX.out)
          refine hK.out _ _ SX.out (fun _ => ?_)
          clear hK
          try simp only [Act.put, List.getElem_toArray, List.getElem_cons_succ, List.getElem_cons_zero, List.setIfInBounds_toArray, List.set_cons_zero, List.set_cons_succ]
          obtain ⟨out, hp, fin⟩ := RX.out.step
          have HP := Lib.hid hp
          have FIN := Lib.hid fin
          clear hp fin
          refine wpAnyH_ready (rs := [5]) (by kernel_rfl) (by simp) ?_
          refine AllReadyH.cons rfl (fun K hK => ?_) AllReadyH.nil
          go_simp
          refine (qLock HP.out ⟨k1, x1, n1, a1, l1, s1⟩).mono ?_
          rintro e wq ⟨rfl, pp, kk⟩
          have RY := Lib.hid (FIN.out _ _ _ _ _ _ _ _ wq pp kk)
          clear RX SX pp kk HP FIN
          have RX := RY
          clear RY
          have SX := Lib.hid (FACT.out _ _ _ _ _ _ _ _ _ _ RX.out)
          refine hK.out _ _ SX.out (fun _ => ?_)
          clear hK
          try simp only [Act.put, List.getElem_toArray, List.getElem_cons_succ, List.getElem_cons_zero, List.setIfInBounds_toArray, List.set_cons_zero, List.set_cons_succ]
          refine wpAnyH_take (i := 6) (v := .bool true) rfl (by kernel_rfl) (by kernel_rfl) (by kernel_rfl) (fun _ _ _ h => h) (Or.inl ⟨by rfl, fun wx hS => ?_⟩) SX.out ?_
          · go_simp
          try simp only [Act.put, List.getElem_toArray, List.getElem_cons_succ, List.getElem_cons_zero, List.setIfInBounds_toArray, List.set_cons_zero, List.set_cons_succ]
          refine wpAnyH_take (i := 7) (v := .bool true) rfl (by kernel_rfl) (by kernel_rfl) (by kernel_rfl) (fun _ _ _ h => h) (Or.inl ⟨by rfl, fun wx hS => ?_⟩) SX.out ?_
          · go_simp
          try simp only [Act.put, List.getElem_toArray, List.getElem_cons_succ, List.getElem_cons_zero, List.setIfInBounds_toArray, List.set_cons_zero, List.set_cons_succ]
          refine wpAnyH_done (by kernel_rfl) ?_ _
          (try refine no_panic ?_)
          go_wp2
          go_meet
          exact ⟨_, _, _, _, _, X, rfl, rfl, rfl, rfl, by have := HX.out; omega, RX.out⟩
        have hw6 := hw
        clear hw
        by_cases hw : wt = 7
        · subst hw
          clear htb h03'
          obtain ⟨out, hp, fin⟩ := R6.out.step
          have HP := Lib.hid hp
          have FIN := Lib.hid fin
          clear hp fin
          go_wp2_with fail
          refine (qCopy HP.out).mono ?_
          rintro e wp ⟨nf, rfl, pp, kk⟩
          have R7 := Lib.hid (FIN.out _ _ _ _ _ _ _ _ wp pp kk)
          clear pp kk HP FIN c0
          obtain ⟨out, hp, fin⟩ := R7.out.step
          have HP := Lib.hid hp
          have FIN := Lib.hid fin
          clear hp fin
          go_wp2_with fail
          refine (pCopy HP.out).mono ?_
          rintro e wq ⟨nb, rfl, pp, kk⟩
          have R8 := Lib.hid (FIN.out _ _ _ _ _ _ _ _ wq pp kk)
          clear pp kk HP FIN
          go_wp2
          go_meet
          exact ⟨_, _, _, _, _, X, rfl, rfl, rfl, rfl, by have := HX.out; omega, R8.out⟩
        have hw7 := hw
        clear hw
        obtain ⟨out, hp, fin⟩ := R6.out.step
        have HP := Lib.hid hp
        have FIN := Lib.hid fin
        clear hp fin
        rcases htb with ⟨-, g0, g3⟩ | ⟨-, g0⟩
        all_goals
          go_wp2_with fail
          refine (pBecome HP.out).mono ?_
          rintro e wp ⟨rfl, pp, kk⟩
          have R7 := Lib.hid (FIN.out _ _ _ _ _ _ _ _ wp pp kk)
          clear pp kk HP FIN c0
          obtain ⟨out, hp, fin⟩ := R7.out.step
          have HP := Lib.hid hp
          have FIN := Lib.hid fin
          clear hp fin
          go_wp2_with fail
          refine (qBecome HP.out).mono ?_
          rintro e wq ⟨rfl, pp, kk⟩
          have R8 := Lib.hid (FIN.out _ _ _ _ _ _ _ _ wq pp kk)
          clear pp kk HP FIN
          go_wp2
          go_meet
          exact ⟨_, _, _, _, _, X, rfl, rfl, rfl, rfl, by have := HX.out; omega, R8.out⟩
      case rest =>
      obtain ⟨hc, gc, fc, P', Q', X', rfl, rfl, rfl, rfl, hX', rq⟩ := hcut
      have RQ := Lib.hid rq
      have HX' := Lib.hid hX'
      have f9 := FACT.out _ _ _ _ _ _ _ _ _ _ rq
      have CN : Hid (wc.cell? ⟨ba, 3, none⟩ = some (.int .i64 A.n)) := Lib.hid (cellAt f9.2.2 3)
      have OA := Lib.hid (ob_cells f9.1)
      obtain ⟨out, hp, fin⟩ := rq.step
      have HP := Lib.hid hp
      obtain ⟨pl, cl, hl0⟩ := hp.len
      have HL0 := Lib.hid hl0
      clear rq hX' f9 hp fin hl0 R6 FACT
      go_upto_region 31 with fail
      refine reg31 wc hc rb ba b1 A.n 0 (usedP P') P'.length cl pl k1 x1 n1 a1 l1 s1 _ _ _ _ _ _ _ _ _ _ _ _ _ _ _ _ _ _ _ _ _ _ _ _ _ _ _ _ _ _ _ _ _ _ _ _ _ _ _ _ _ _ _ _ _ _ _ _ _ _ _ _ _ _ _ _ _ _ _ _ _ _ _ _ _ _ _ _ _ _ _ _ _ _ _ _ _ _ _ _ _ _ _ _ _ _ _ _ _ _ _ _ _ _ _ _ _ _ _ _ _ _ _ _ _ _ _ _ _ _ _ _ _ _ _ _ _ _ _ _ _ _ _ _ _ _ _ _ _ _ _ _ _ _ _ _ _ _ _ _ _ _ _ _ _ _ _ _ _ _ _ _ _ _ _ _ _ _ _ _ _ _ _ _ _ _ _ _ _ _ _ _ _ _ _ _ _ _ _ _ _ _ _ _ _ _ _ _ _ _ _ _ _ _ _ _ _ _ _ _ _ _ _ _ _ _ _ _ _ _ OA CN HL0 (Lib.hid fun wx kx => alike_any (HP.out.below kx) ⟨k1, x1, n1, a1, l1, s1⟩ A.n) (Lib.hid fun wx kx => (pCells (HP.out.below kx)).mono fun e w' q => ⟨q.1, q.2 ▸ Below.refl _ _⟩) (Lib.hid fun wx kx => (pUsed (HP.out.below kx)).mono fun e w' q => ⟨q.1, q.2 ▸ Below.refl _ _⟩) (Lib.hid fun wx kx => qUsed (HP.out.below kx)) _ (Lib.hid ?_)
      intro y149 y150 y151 y152 y153 y154 y155 y156 y157 y158 y159 y160 y161 y162 y163 y164 y165 y166 y167 y168 y169 y170 y171 y172 y173 y174 y175 y176 y177 y178 y179 wj kj
      have RJ := Lib.hid (RQ.out.later kj)
      clear kj RQ HP OA CN HL0
      have e1 : IntKind.i64.wrap ((j : Int) + 1) = (j : Int) + 1 := IntWalk.i64_in _ (by have := HL.out; omega)
      go_wp2
      go_roundw
      case rel => exact ⟨j + 1, _, _, _, _, _, X', HL.out, by simp, rfl, rfl, rfl, HX'.out, RJ.out.sub (by simp)⟩
      case measure => exact measure_up n j _ (by go_num) HL.out
    · have e : j = n := by omega
      subst e
      have t1 : ¬ ((j : Int) < j) := by omega
      obtain ⟨pv, cv, rfl⟩ := HR.out.lis.form
      have HB : Hid (X.length ≤ 30) := Lib.hid (by have := HX.out; omega)
      go_wp2
      go_loopw [184] (fun i wx => ∃ q : Nat, q ≤ X.length ∧ i = .int .i64 q ∧ Rd w hb' gb' rb fb' P Q P Q (.slice pv X.length cv) X [(w.heap.size, obObj k x nn a l s)] wx) (fun i _ => X.length - (intOf i).toNat)
      case atStart => exact ⟨0, Nat.zero_le _, rfl, HR.out⟩
      case round =>
        obtain ⟨q, hq, rfl, hst⟩ := hrel
        have HS := Lib.hid hst
        clear hst
        by_cases hlt : q < X.length
        · have HJ := Lib.hid hlt
          have t2 : (q : Int) < X.length := by omega
          obtain ⟨o, ho⟩ : ∃ o, X[q]? = some o := ⟨_, List.getElem?_eq_getElem hlt⟩
          obtain ⟨ada, ca', ea, cca⟩ := HS.out.lis.item ho
          obtain ⟨rfl, rfl⟩ : pv = some ada ∧ cv = ca' := by simpa using ea
          obtain ⟨ko, xo, no, ao, lo, so⟩ := o
          have c0 : wr.cell? (ada.add (q * 6)) = some (.int .i64 ko) := cca 0 _ rfl
          have c1 : wr.cell? ⟨(ada.add (q * 6)).block, (ada.add (q * 6)).off + 1, none⟩ = some (.bool xo) := cca 1 _ rfl
          have c2 : wr.cell? ⟨(ada.add (q * 6)).block, (ada.add (q * 6)).off + 2, none⟩ = some (.int .i64 no) := cca 2 _ rfl
          have c3 : wr.cell? ⟨(ada.add (q * 6)).block, (ada.add (q * 6)).off + 3, none⟩ = some (.int .i64 ao) := cca 3 _ rfl
          have c4 : wr.cell? ⟨(ada.add (q * 6)).block, (ada.add (q * 6)).off + 4, none⟩ = some (.int .i64 lo) := cca 4 _ rfl
          have c5 : wr.cell? ⟨(ada.add (q * 6)).block, (ada.add (q * 6)).off + 5, none⟩ = some (.string so) := cca 5 _ rfl
          clear ea cca ho hlt hq
          go_upto_region 37 with fail
          obtain ⟨wy, ey, ky, zy, oy⟩ := ob_box wr ko no ao lo xo so
          rw [ey]
          have RY := Lib.hid (HS.out.later ky)
          clear ey ky zy c0 c1 c2 c3 c4 c5
          obtain ⟨c0, c1, c2, c3, c4, c5⟩ := oy
          obtain ⟨out, hp, fin⟩ := RY.out.step
          have HP := Lib.hid hp
          clear hp fin
          go_wp2_with fail
          refine (alike_any HP.out ⟨ko, xo, no, ao, lo, so⟩ 0).mono ?_
          rintro e wz ⟨rfl, kz⟩
          have RZ := Lib.hid (RY.out.later kz)
          clear kz HP c0 c1 c2 c3 c4 c5
          have e1 : IntKind.i64.wrap ((q : Int) + 1) = (q : Int) + 1 := IntWalk.i64_in _ (by have := HJ.out; have := HB.out; omega)
          go_wp2
          go_roundw
          case rel => exact ⟨q + 1, HJ.out, by simp, RZ.out⟩
          case measure => exact measure_up X.length q _ (by go_num) HJ.out
        · have e : q = X.length := by omega
          subst e
          have t2 : ¬ ((X.length : Int) < X.length) := by omega
          obtain ⟨out, hp, fin⟩ := HS.out.step
          have HP := Lib.hid hp
          obtain ⟨pl, cl, hl0⟩ := hp.vlen
          have HL0 := Lib.hid hl0
          have OA := Lib.hid (ob_cells (HS.out.box (w.heap.size, obObj k x nn a l s) (by simp)).1)
          clear hp fin hl0
          go_upto_region 40 with fail
          refine reg40 wr hb' rb gb' fb' w.heap.size (usedP Q) Q.length cl pl k x nn a l s _ _ _ _ _ _ _ _ _ _ _ _ _ _ _ _ _ _ _ _ _ _ _ _ _ _ _ _ _ _ _ _ _ _ _ _ _ _ _ _ _ _ _ _ _ _ _ _ _ _ _ _ _ _ _ _ _ _ _ _ _ _ _ _ _ _ _ _ _ _ _ _ _ _ _ _ _ _ _ _ _ _ _ _ _ _ _ _ _ _ _ _ _ _ _ _ _ _ _ _ _ _ _ _ _ _ _ _ _ _ _ _ _ _ _ _ _ _ _ _ _ _ _ _ _ _ _ _ _ _ _ _ _ _ _ _ _ _ _ _ _ _ _ _ _ _ _ _ _ _ _ _ _ _ _ _ _ _ _ _ _ _ _ _ _ _ _ _ _ _ _ _ _ _ _ _ _ _ _ _ _ _ _ _ _ _ _ _ _ _ _ _ _ _ _ _ _ _ _ _ _ _ _ _ _ _ _ _ _ _ OA HL0 (Lib.hid fun wy ky => alike_any (HP.out.below ky) ⟨k, x, nn, a, l, s⟩ 0) (Lib.hid fun wy ky => (gCells (HP.out.below ky)).mono fun e w' q => ⟨q.1, q.2 ▸ Below.refl _ _⟩) (Lib.hid fun wy ky => (gUsed (HP.out.below ky)).mono fun e w' q => ⟨q.1, q.2 ▸ Below.refl _ _⟩) (Lib.hid fun wy ky => vUsed (HP.out.below ky)) _ (Lib.hid ?_)
          intro y194 y195 y196 y197 y198 y199 y200 y201 y202 y203 y204 y205 y206 y207 y208 y209 y210 y211 y212 y213 y214 wj kj
          have RJ := Lib.hid (HS.out.later kj)
          clear kj HP OA HL0 HS
          go_wp2
          go_ret
          exact ⟨rfl, RJ.out.below⟩
end Go.Proofs.Ytmlkmgeddkpgiaa
