/- SavePlays: the walk. -/
import Derived.Test.YtmlkmgeddkpgiaaZ9
import Derived.Deep.CutRange
import Derived.Deep.CutBlock
namespace Go.Proofs.Ytmlkmgeddkpgiaa
open Go.RowKit
set_option linter.unusedVariables false
set_option linter.unusedSimpArgs false

set_option maxHeartbeats 20000000 in
set_option maxRecDepth 100000 in
theorem play_walk (p : Option Addr) (n cap : Nat) (w : World) (hn : n ≤ cap) (hA : ∀ i, i < n → ∃ A, ActAt w p i A) :
    Calls Try.prog 5 #[.slice p n cap] w fun e w' => e = .returned (.bool true) ∧ Below w.heap.size w w' := by
  by_cases h40 : (n : Int) > 40
  · go_enter Try.func5, Try.ntmps5
    go_wp2_with fail
    refine (sknown_any w).mono ?_
    rintro e w0 ⟨rfl, b0⟩
    go_wp2
    go_ret
    exact ⟨rfl, b0⟩
  have HA := Lib.hid hA
  clear hA
  go_enter Try.func5, Try.ntmps5
  go_wp2_with fail
  refine (sknown_any w).mono ?_
  rintro e w0 ⟨rfl, b0⟩
  have B0 := Lib.hid b0
  clear b0
  go_wp2_with fail
  refine (new_any w0).mono ?_
  rintro e w1 ⟨rfl, rfl⟩
  obtain ⟨w1, e1, s1, b1⟩ : ∃ w1, w0.alloc (.cells #[.slice none 0 0, .int .i64 0] 97) = w1 ∧ Sep (fun b => b < w0.heap.size) w0.heap.size [] w1 ∧ Below w0.heap.size w0 w1 := ⟨_, rfl, Sep.new w0, box_below _ _⟩
  rw [e1]
  have S1 := Lib.hid s1
  have B1 := Lib.hid b1
  clear e1 s1 b1
  go_wp2_with fail
  obtain ⟨w2, e2, s2, r2, b2, z2⟩ : ∃ w2, w1.alloc (.cells #[.slice none 0 0] 31) = w2 ∧ Sep (fun b => b < w0.heap.size ∨ b = w1.heap.size) w0.heap.size [] w2 ∧ RH (fun b => b = w1.heap.size) w1.heap.size (.slice none 0 0) [] w2 ∧ Below w0.heap.size w0 w2 ∧ w2.heap.size = w1.heap.size + 1 := ⟨_, rfl, S1.out.box _, RH.new _, B1.out.alloc B1.out.size _, by simp⟩
  rw [e2]
  have S2 := Lib.hid s2
  have R2 := Lib.hid r2
  have B2 := Lib.hid b2
  have Z2 := Lib.hid z2
  clear e2 s2 r2 b2 z2 S1
  refine (svNew S2.out).mono ?_
  rintro e w3 ⟨rfl, s3, k3⟩
  have S3 := Lib.hid s3
  have R3 : Hid (RH (fun b => b = w1.heap.size) w1.heap.size (.slice none 0 0) [] w3) := Lib.hid (R2.out.kept (fun b q => q) k3.size fun b q _ => k3.block b (.inr q))
  have B3 : Hid (Below w0.heap.size w0 w3) := Lib.hid (B2.out.trans (k3.below fun _ h => .inl h))
  have Z3 : Hid (w2.heap.size < w3.heap.size) := Lib.hid (s3.sat.lt)
  clear s3 k3 S2 R2
  go_upto_region 7 with fail
  obtain ⟨w4, e4, s4⟩ : ∃ w4, w3.alloc (.cells #[.slice none 0 0, .int .i64 0] 75) = w4 ∧ PlaySt w0.heap.size w0 w0.heap.size w2.heap.size w1.heap.size w3.heap.size 0 (.slice none 0 0) (.slice none 0 0) w4 := by
    refine ⟨_, rfl, ⟨_, [], [], 0, _, _, [], [], (Both.new S3.out R3.out (.inr rfl)).weak (fun b q => ?_) (fun b q => .inr (.inl q)) (.inr (.inr (.inl rfl))), PlayOk.start, fun b q => ?_, fun g q => ?_, fun g q => ?_⟩, ⟨[], Nat.le_refl _, World.ownsRow_nil _ _ _ _⟩, ⟨[], Nat.le_refl _, World.ownsRow_nil _ _ _ _⟩, B3.out.size, B3.out.alloc B3.out.size _⟩
    · rcases q with q | q | q | q | q
      · exact .inl (.inl q)
      · exact .inl (.inr q)
      · exact .inr q
      · simp [Value.ownBlock] at q
      · simp [Value.ownBlock] at q
    · have := B1.out.size
      omega
    · simp [Value.ownBlock] at q
    · simp [Value.ownBlock] at q
  rw [e4]
  have ST := Lib.hid s4
  clear e4 s4 S3 R3 B3 Z3 Z2 B2 B1
  obtain ⟨i0, hi, hz0, hz1, hz2⟩ := info_parts info24
  go_wp2
  go_loopw [7, 8, 39] (fun v7 v8 i wr => ∃ j : Nat, j ≤ n ∧ i = .int .i64 j ∧ PlaySt w0.heap.size w0 w0.heap.size w2.heap.size w1.heap.size w3.heap.size j v7 v8 wr) (fun _ _ i _ => n - (intOf i).toNat)
  case atStart => exact ⟨0, Nat.zero_le _, rfl, ST.out⟩
  case round =>
    obtain ⟨j, hj, rfl, hst⟩ := hrel
    have HS := Lib.hid hst
    clear hst ST
    by_cases hlt : j < n
    · have HL := Lib.hid hlt
      have t1 : (j : Int) < n := by omega
      obtain ⟨A, ha⟩ := HA.out j hlt
      obtain ⟨ad, rfl, hg, hc⟩ := ha.at_
      have kb : wr.heap[ad.block]? = w.heap[ad.block]? := (B0.out.trans (HS.out.below.mono B0.out.size)).block _ hg
      have cc : ∀ k u, (actL A)[k]? = some u → wr.cell? ((ad.add (j * 10)).add k) = some u := fun k u h => by
        rw [World.cell?_of_block (w := w) (by rw [add_block, add_block]; exact kb)]
        exact hc k u h
      have HV : Hid (0 ≤ A.v ∧ A.v ≤ 255) := Lib.hid ⟨ha.v0, ha.v1⟩
      have c0 : wr.cell? (ad.add (j * 10)) = some _ := cc 0 _ rfl
      have c1 : wr.cell? ⟨(ad.add (j * 10)).block, (ad.add (j * 10)).off + 1, none⟩ = some _ := cc 1 _ rfl
      have c2 : wr.cell? ⟨(ad.add (j * 10)).block, (ad.add (j * 10)).off + 2, none⟩ = some _ := cc 2 _ rfl
      have c3 : wr.cell? ⟨(ad.add (j * 10)).block, (ad.add (j * 10)).off + 3, none⟩ = some _ := cc 3 _ rfl
      have c4 : wr.cell? ⟨(ad.add (j * 10)).block, (ad.add (j * 10)).off + 4, none⟩ = some _ := cc 4 _ rfl
      have c5 : wr.cell? ⟨(ad.add (j * 10)).block, (ad.add (j * 10)).off + 5, none⟩ = some _ := cc 5 _ rfl
      have c6 : wr.cell? ⟨(ad.add (j * 10)).block, (ad.add (j * 10)).off + 6, none⟩ = some _ := cc 6 _ rfl
      have c7 : wr.cell? ⟨(ad.add (j * 10)).block, (ad.add (j * 10)).off + 7, none⟩ = some _ := cc 7 _ rfl
      have c8 : wr.cell? ⟨(ad.add (j * 10)).block, (ad.add (j * 10)).off + 8, none⟩ = some _ := cc 8 _ rfl
      have c9 : wr.cell? ⟨(ad.add (j * 10)).block, (ad.add (j * 10)).off + 9, none⟩ = some _ := cc 9 _ rfl
      clear kb cc hc hg ha
      go_upto_region 11 with fail
      obtain ⟨w5, e5, s5, b5, z5, o5⟩ : ∃ w5, wr.alloc (.cells (actL A).toArray 77) = w5 ∧ PlaySt w0.heap.size w0 w0.heap.size w2.heap.size w1.heap.size w3.heap.size j u7 u8 w5 ∧ Below w0.heap.size w0 w5 ∧ w5.heap.size = wr.heap.size + 1 ∧ w5.heap[wr.heap.size]? = some (.cells (actL A).toArray 77 (0, 0)) := ⟨_, rfl, HS.out.later (box_below _ _), HS.out.below.alloc HS.out.below.size _, by simp, heap_alloc_new _ _⟩
      rw [e5]
      have S5 := Lib.hid s5
      have B5 := Lib.hid b5
      have Z5 := Lib.hid z5
      have O5 := Lib.hid o5
      have E5 := Lib.hid e5
      clear c0 c1 c2 c3 c4 c5 c6 c7 c8 c9 e5 s5 b5 z5
      have c1 : w5.cell? ⟨wr.heap.size, 1, none⟩ = some (.int .i64 A.n) := cellAt o5 1
      have c3 : w5.cell? ⟨wr.heap.size, 3, none⟩ = some (.string A.s) := cellAt o5 3
      have c4 : w5.cell? ⟨wr.heap.size, 4, none⟩ = some (.int .i64 A.o.k) := cellAt o5 4
      have c5 : w5.cell? ⟨wr.heap.size, 5, none⟩ = some (.bool A.o.x) := cellAt o5 5
      have c6 : w5.cell? ⟨wr.heap.size, 6, none⟩ = some (.int .i64 A.o.n) := cellAt o5 6
      have c7 : w5.cell? ⟨wr.heap.size, 7, none⟩ = some (.int .i64 A.o.a) := cellAt o5 7
      have c8 : w5.cell? ⟨wr.heap.size, 8, none⟩ = some (.int .i64 A.o.l) := cellAt o5 8
      have c9 : w5.cell? ⟨wr.heap.size, 9, none⟩ = some (.string A.o.s) := cellAt o5 9
      clear o5
      by_cases g1 : (A.s.size : Int) > 100
      · go_wp2
        go_ret
        exact ⟨rfl, B0.out.trans (B5.out.mono B0.out.size)⟩
      by_cases g2 : (A.o.s.size : Int) > 100
      · go_wp2
        go_ret
        exact ⟨rfl, B0.out.trans (B5.out.mono B0.out.size)⟩
      go_upto_region 13 with fail
      clear c1 c3
      go_cut [11, 12] from 54 to 57 (fun vo vt wx => ∃ bo bt, vo = ptr bo ∧ vt = ptr bt ∧ ∃ own P L last v vs R M, RoundSt w0.heap.size w0 w0.heap.size w2.heap.size w1.heap.size w3.heap.size wr.heap.size bo bt j u7 u8 A A.o A.o own P L last v vs R M last wx ∧ PlayOk j P L last R M)
      case first =>
        have z5 := Z5.out
        go_region
        · obtain ⟨own, P, L, last, v, vs, R, M, rs, po⟩ := HS.out.enter A (bo := wr.heap.size + 1) (bt := wr.heap.size + 1 + 1) (.inl ⟨rfl, rfl⟩) w5 E5.out (Below.refl _ _).drew
          go_wp2
          go_meet
          exact ⟨_, _, rfl, rfl, own, P, L, last, v, vs, R, M, rs, po⟩
        · obtain ⟨own, P, L, last, v, vs, R, M, rs, po⟩ := HS.out.enter A (bo := wr.heap.size + 1 + 1) (bt := wr.heap.size + 1) (.inr ⟨rfl, rfl⟩) w5 E5.out (Below.refl _ _).drew
          go_wp2
          go_meet
          exact ⟨_, _, rfl, rfl, own, P, L, last, v, vs, R, M, rs, po⟩
      case rest =>
        obtain ⟨bo, bt, rfl, rfl, own, P, L, last, v, vs, R, M, rs, po⟩ := hcut
        clear c4 c5 c6 c7 c8 c9
        have RS := Lib.hid rs
        have PO := Lib.hid po
        have c1 : wc.cell? ⟨wr.heap.size, 1, none⟩ = some (.int .i64 A.n) := cellAt rs.act 1
        clear rs po S5 B5 Z5 O5 E5 HS
        obtain ⟨X, hX, hx⟩ := RS.out.r7
        obtain ⟨px, cx, rfl⟩ := owns_form (hx.mono (Nat.zero_le _))
        have XX := Lib.hid (And.intro hX hx)
        clear hX hx
        go_upto_region 14 with fail
        go_cut [65] from 58 to 65 (fun uc wx => ∃ c : Bool, uc = .bool c ∧ (c = true → 0 < X.length ∧ 0 ≤ A.n) ∧ wc = wx)
        case first =>
          by_cases hl : X.length = 0
          · have t1 : ¬ ((X.length : Int) > 0) := by omega
            clear hl
            go_wp2
            go_meet
            exact ⟨false, rfl, fun e => (nomatch e), rfl⟩
          have t1 : (X.length : Int) > 0 := by omega
          by_cases hn : A.n ≥ 0
          · have hn' := Lib.hid hn
            go_wp2
            go_meet
            exact ⟨true, rfl, fun _ => ⟨by omega, hn'.out⟩, rfl⟩
          · go_wp2
            go_meet
            exact ⟨false, rfl, fun e => (nomatch e), rfl⟩
        case rest =>
        obtain ⟨ub, rfl, hub, rfl⟩ := hcut
        have UB := Lib.hid hub
        clear hub
        go_upto_if 65 with fail
        go_cut [] from 66 to 73 (fun wx => ∃ o', RoundSt w0.heap.size w0 w0.heap.size w2.heap.size w1.heap.size w3.heap.size wr.heap.size bo bt j (.slice px X.length cx) u8 A o' A.o own P L last v vs R M last wx)
        case first =>
          cases ub with
          | false =>
            go_wp2
            go_meet
            exact ⟨_, RS.out⟩
          | true =>
            obtain ⟨hl, hn0⟩ := UB.out rfl
            have hk : (A.n % X.length).toNat < X.length := by
              have := Int.emod_lt_of_pos A.n (show (0 : Int) < X.length by omega)
              have := Int.emod_nonneg A.n (show (X.length : Int) ≠ 0 by omega)
              omega
            have hm : Int.tmod A.n X.length = ((A.n % X.length).toNat : Int) := by
              rw [Int.tmod_eq_emod_of_nonneg hn0, Int.toNat_of_nonneg (Int.emod_nonneg A.n (by omega))]
            have ho : X[(A.n % X.length).toNat]? = some X[(A.n % X.length).toNat] := List.getElem?_eq_getElem hk
            generalize X[(A.n % X.length).toNat] = o' at ho
            generalize (A.n % X.length).toNat = m at hk hm ho
            obtain ⟨k, x, n', a, l, s'⟩ := o'
            obtain ⟨g, cap', ev, c0, c1', c2, c3, c4, c5⟩ := row_item (XX.out.2.mono (Nat.zero_le _)) ho
            obtain ⟨rfl, -, rfl⟩ : px = some ⟨g, 0, none⟩ ∧ X.length = X.length ∧ cx = cap' := by simpa using ev
            have b0 : ((m : Nat) : Int) < X.length := by omega
            have t0 : (X.length : Int) ≠ 0 := by omega
            clear ev hn0 UB
            obtain ⟨⟨o0, o1, o2, o3, o4, o5⟩, g0, g1, g2, g3, g4, g5⟩ := cells6 RS.out.ob
            obtain ⟨wq, eq, bq, onq⟩ := set6_box RS.out.ob (.int .i64 k) (.bool x) (.int .i64 n') (.int .i64 a) (.int .i64 l) (.string s')
            have RQ := Lib.hid (RS.out.setO ⟨k, x, n', a, l, s'⟩ ⟨onq.os, onq.tape, onq.output, by rw [onq.size]; exact Nat.le_refl _, fun b q => onq.block b q.2⟩ bq)
            clear bq onq
            go_wp2
            go_meet
            exact ⟨_, RQ.out⟩
        case rest =>
        obtain ⟨o, rs⟩ := hcut
        have R2 := Lib.hid rs
        clear rs RS XX c1
        generalize X.length = nx at R2 ⊢
        obtain ⟨Y, hY, hy⟩ := R2.out.r8
        obtain ⟨py, cy, rfl⟩ := owns_form (hy.mono (Nat.zero_le _))
        have YY := Lib.hid (And.intro hY hy)
        have c1 : wc.cell? ⟨wr.heap.size, 1, none⟩ = some (.int .i64 A.n) := cellAt R2.out.act 1
        clear hY hy
        go_upto_region 16 with fail
        go_cut [81] from 74 to 81 (fun uc wx => ∃ c : Bool, uc = .bool c ∧ (c = true → 0 < Y.length ∧ 0 ≤ A.n) ∧ wc = wx)
        case first =>
          by_cases hl : Y.length = 0
          · have t1 : ¬ ((Y.length : Int) > 0) := by omega
            clear hl
            go_wp2
            go_meet
            exact ⟨false, rfl, fun e => (nomatch e), rfl⟩
          have t1 : (Y.length : Int) > 0 := by omega
          by_cases hn : A.n ≥ 0
          · have hn' := Lib.hid hn
            go_wp2
            go_meet
            exact ⟨true, rfl, fun _ => ⟨by omega, hn'.out⟩, rfl⟩
          · go_wp2
            go_meet
            exact ⟨false, rfl, fun e => (nomatch e), rfl⟩
        case rest =>
        obtain ⟨ub, rfl, hub, rfl⟩ := hcut
        have UB := Lib.hid hub
        clear hub
        go_upto_if 81 with fail
        go_cut [] from 82 to 89 (fun wx => ∃ t', RoundSt w0.heap.size w0 w0.heap.size w2.heap.size w1.heap.size w3.heap.size wr.heap.size bo bt j (.slice px nx cx) (.slice py Y.length cy) A o t' own P L last v vs R M last wx)
        case first =>
          cases ub with
          | false =>
            go_wp2
            go_meet
            exact ⟨_, R2.out⟩
          | true =>
            obtain ⟨hl, hn0⟩ := UB.out rfl
            have hk : (A.n % Y.length).toNat < Y.length := by
              have := Int.emod_lt_of_pos A.n (show (0 : Int) < Y.length by omega)
              have := Int.emod_nonneg A.n (show (Y.length : Int) ≠ 0 by omega)
              omega
            have hm : Int.tmod A.n Y.length = ((A.n % Y.length).toNat : Int) := by
              rw [Int.tmod_eq_emod_of_nonneg hn0, Int.toNat_of_nonneg (Int.emod_nonneg A.n (by omega))]
            have ho : Y[(A.n % Y.length).toNat]? = some Y[(A.n % Y.length).toNat] := List.getElem?_eq_getElem hk
            generalize Y[(A.n % Y.length).toNat] = o' at ho
            generalize (A.n % Y.length).toNat = m at hk hm ho
            obtain ⟨k, x, n', a, l, s'⟩ := o'
            obtain ⟨g, cap', ev, c0, c1', c2, c3, c4, c5⟩ := row_item (YY.out.2.mono (Nat.zero_le _)) ho
            obtain ⟨rfl, -, rfl⟩ : py = some ⟨g, 0, none⟩ ∧ Y.length = Y.length ∧ cy = cap' := by simpa using ev
            have b0 : ((m : Nat) : Int) < Y.length := by omega
            have t0 : (Y.length : Int) ≠ 0 := by omega
            clear ev hn0 UB
            obtain ⟨⟨o0, o1, o2, o3, o4, o5⟩, g0, g1, g2, g3, g4, g5⟩ := cells6 R2.out.st
            obtain ⟨wq, eq, bq, onq⟩ := set6_box R2.out.st (.int .i64 k) (.bool x) (.int .i64 n') (.int .i64 a) (.int .i64 l) (.string s')
            have RQ := Lib.hid (R2.out.setT ⟨k, x, n', a, l, s'⟩ ⟨onq.os, onq.tape, onq.output, by rw [onq.size]; exact Nat.le_refl _, fun b q => onq.block b q.2⟩ bq)
            clear bq onq
            go_wp2
            go_meet
            exact ⟨_, RQ.out⟩
        case rest =>
        obtain ⟨t, rs⟩ := hcut
        have R3 := Lib.hid rs
        have c0 : wc.cell? ⟨wr.heap.size, 0, none⟩ = some (.int .i64 A.what) := cellAt rs.act 0
        clear rs R2 YY c1
        generalize Y.length = ny at R3 ⊢
        go_upto_block 2 with fail
        clear c0
        generalize hwt : A.what = wt
        clear hwt
        go_cut [7, 8, 13, 14, 15, 16, 17, 18, 19, 20, 21] from 92 to 171 (fun v7 v8 _ _ _ _ _ _ _ _ _ wx => ∃ own P L last v vs R M, RoundSt w0.heap.size w0 w0.heap.size w2.heap.size w1.heap.size w3.heap.size wr.heap.size bo bt (j + 1) v7 v8 A o t own P L last v vs R M last wx ∧ PlayOk (j + 1) P L last R M)
        case first =>
          by_cases hw : wt = 0
          · subst hw
            have hML : M.length = L.length := PO.out.pair.len
            by_cases hL : L.length < 10
            · have HL10 := Lib.hid hL
              have HM10 : Hid (M.length < 10) := Lib.hid (by omega)
              have HLa : Hid (last < 4611686018427387904) := Lib.hid (by have := PO.out.last; omega)
              have HN : Hid ((n : Int) ≤ 40) := Lib.hid h40
              clear hL hML
              go_wp2_with fail
              refine (R3.out.saveP HL10.out HLa.out).mono ?_
              rintro e wa ⟨rfl, g, ra⟩
              have RA := Lib.hid ra
              clear ra
              go_upto_region 24 with fail
              obtain ⟨wb, eb, rb', ob, zb, fb, -, -⟩ := RA.out.boxed 11 false ((last : Int) + 1) 0 0 ⟨#[]⟩
              rw [eb]
              have RB := Lib.hid rb'
              have OB := Lib.hid ob
              have ZB := Lib.hid zb
              have FB := Lib.hid fb
              clear eb rb' ob zb fb
              go_wp2_with fail
              refine (RB.out.saveR HM10.out HLa.out).mono ?_
              rintro e wd ⟨rfl, own', fb, vs', rd, fd⟩
              have RD := Lib.hid rd
              have OD := Lib.hid ((fd _ ZB.out FB.out.1 FB.out.2).trans OB.out)
              have ZD : Hid (wa.heap.size < wd.heap.size) := Lib.hid (blk_lt OD.out)
              clear rd fd
              go_upto_region 25 with fail
              obtain ⟨we, ee, re, oe, ze, fe, -, ke⟩ := RD.out.boxed 11 false ((last : Int) + 1) 0 0 ⟨#[]⟩
              rw [ee]
              have RE := Lib.hid re
              have OX := Lib.hid ((ke.block _ ZD.out).trans OD.out)
              have OE := Lib.hid oe
              have q : ∀ w, (binOp .eql 24 (.agg #[.int .i64 11, .bool false, .int .i64 ((last : Int) + 1), .int .i64 0, .int .i64 0, .string ⟨#[]⟩]) (.agg #[.int .i64 11, .bool false, .int .i64 ((last : Int) + 1), .int .i64 0, .int .i64 0, .string ⟨#[]⟩])).run Try.prog w = .ok (.bool true) w := fun w => by rw [eqO]; simp
              obtain ⟨c0, c1, c2, c3, c4, c5⟩ := ob_cells OX.out
              obtain ⟨e0, e1, e2, e3, e4, e5⟩ := ob_cells OE.out
              clear ee re oe ze fe ke
              go_upto_region 28 with fail
              clear c0 c1 c2 c3 c4 c5 q OX OD OB ZD
              obtain ⟨X', hX', hx'⟩ := RE.out.r7
              obtain ⟨p', c', ev⟩ := owns_form (hx'.mono (Nat.zero_le _))
              obtain ⟨rfl, rfl, rfl⟩ : px = p' ∧ nx = X'.length ∧ cx = c' := by simpa using ev
              have RW := Lib.hid hx'
              have HX := Lib.hid hX'
              have HN0 := Lib.hid RE.out.below.size
              clear hx' hX' ev
              go_wp2_with (first
                | (at_builtin; refine wpList_append_lies _ rfl _ _ 33 rfl w0.heap.size 24 i0 _ 6 56 Try.underlying33 hi hz0 hz1 hz2 rfl (by decide) _ _ _ rfl (RW.out.alloc _) ⟨we.heap.size, 0, none⟩ 1 1 (Ob.cells ⟨11, false, (last : Int) + 1, 0, 0, ⟨#[]⟩⟩) rfl rfl (cells6_new we ⟨11, false, (last : Int) + 1, 0, 0, ⟨#[]⟩⟩ _) (ob_one _) (by decide) (by have := HL.out; have := HX.out; have := HN.out; unfold maxLen; omega) (by have := HL.out; have := HX.out; have := HN.out; omega) (by have := HN0.out; simp; omega) _ rfl ?_))
              intro g9 cap9 w9 hown hgrow hg9 hlt9
              have N9 := Lib.hid ((RE.out.later (box_below we (.cells (Ob.cells ⟨11, false, (last : Int) + 1, 0, 0, ⟨#[]⟩⟩).toArray 24))).push7 (x := ⟨11, false, (last : Int) + 1, 0, 0, ⟨#[]⟩⟩) HX.out hown hgrow (by simpa using hg9) hlt9)
              clear hown hgrow hg9 hlt9 e0 e1 e2 e3 e4 e5
              go_wp2
              go_meet
              exact ⟨_, _, _, _, _, _, _, _, N9.out, PO.out.save _ _⟩
            · have HL10 : Hid (L.length = 10) := Lib.hid (by have := R3.out.both.sh.sat.len; omega)
              have HM10 : Hid (M.length = 10) := Lib.hid (by have := HL10.out; omega)
              clear hL hML
              go_wp2_with fail
              refine (R3.out.fullP HL10.out).mono ?_
              rintro e wa ⟨rfl, ra⟩
              have RA := Lib.hid ra
              clear ra
              go_upto_region 24 with fail
              obtain ⟨wb, eb, rb', ob, zb, fb, -, -⟩ := RA.out.boxed 0 false 0 0 0 ⟨#[]⟩
              rw [eb]
              have RB := Lib.hid rb'
              have OB := Lib.hid ob
              have ZB := Lib.hid zb
              have FB := Lib.hid fb
              clear eb rb' ob zb fb
              go_wp2_with fail
              refine (RB.out.fullR HM10.out).mono ?_
              rintro e wd ⟨rfl, rd, fd⟩
              have RD := Lib.hid rd
              have OD := Lib.hid ((fd _ ZB.out FB.out.1 FB.out.2).trans OB.out)
              have ZD : Hid (wa.heap.size < wd.heap.size) := Lib.hid (blk_lt OD.out)
              clear rd fd
              go_upto_region 25 with fail
              obtain ⟨we, ee, re, oe, ze, fe, -, ke⟩ := RD.out.boxed 0 false 0 0 0 ⟨#[]⟩
              rw [ee]
              have RE := Lib.hid re
              have OX := Lib.hid ((ke.block _ ZD.out).trans OD.out)
              have OE := Lib.hid oe
              have q : ∀ w, (binOp .eql 24 (.agg #[.int .i64 0, .bool false, .int .i64 0, .int .i64 0, .int .i64 0, .string ⟨#[]⟩]) (.agg #[.int .i64 0, .bool false, .int .i64 0, .int .i64 0, .int .i64 0, .string ⟨#[]⟩])).run Try.prog w = .ok (.bool true) w := fun w => by rw [eqO]; simp
              obtain ⟨c0, c1, c2, c3, c4, c5⟩ := ob_cells OX.out
              obtain ⟨e0, e1, e2, e3, e4, e5⟩ := ob_cells OE.out
              clear ee re oe ze fe ke
              go_wp2
              go_meet
              exact ⟨_, _, _, _, _, _, _, _, RE.out.up, PO.out.next⟩
          by_cases hw1 : wt = 1
          · subst hw1
            clear hw
            go_upto_region 30 with fail
            have SX : Hid (wc.drew.heap[bo]? = some (obObj o.k o.x o.n o.a o.l o.s)) := Lib.hid R3.out.ob
            have RD : Hid (RoundSt w0.heap.size w0 w0.heap.size w2.heap.size w1.heap.size w3.heap.size wr.heap.size bo bt j (.slice px nx cx) (.slice py ny cy) A o t own P L last v vs R M last wc.drew) := Lib.hid (R3.out.later (Below.refl _ _).drew)
            (try refine wp_region_noPanic ?_)
            refine wp_region_held_drew (S := fun wx => wx.heap[bo]? = some (obObj o.k o.x o.n o.a o.l o.s)) (by kernel_rfl) SX.out (fun _ => ?_)
            generalize wc.drew = wd at SX RD ⊢
            refine wpAnyH_take (i := 0) (v := ptr w2.heap.size) rfl (by kernel_rfl) (by kernel_rfl) (by kernel_rfl) (fun _ _ _ h => h) (Or.inl ⟨by rfl, fun wx hS => ?_⟩) SX.out ?_
            · go_simp
            try simp only [Act.put, List.getElem_toArray, List.getElem_cons_succ, List.getElem_cons_zero, List.setIfInBounds_toArray, List.set_cons_zero, List.set_cons_succ]
            refine wpAnyH_take (i := 1) (v := ptr w0.heap.size) rfl (by kernel_rfl) (by kernel_rfl) (by kernel_rfl) (fun _ _ _ h => h) (Or.inl ⟨by rfl, fun wx hS => ?_⟩) SX.out ?_
            · go_simp
            try simp only [Act.put, List.getElem_toArray, List.getElem_cons_succ, List.getElem_cons_zero, List.setIfInBounds_toArray, List.set_cons_zero, List.set_cons_succ]
            refine wpAnyH_take (i := 2) (v := obV o.k o.x o.n o.a o.l o.s) rfl (by kernel_rfl) (by kernel_rfl) (by kernel_rfl) (fun _ _ _ h => h) (Or.inl ⟨by rfl, fun wx hS => ?_⟩) SX.out ?_
            · obtain ⟨d0, d1, d2, d3, d4, d5⟩ := ob_cells hS; go_simp
            try simp only [Act.put, List.getElem_toArray, List.getElem_cons_succ, List.getElem_cons_zero, List.setIfInBounds_toArray, List.set_cons_zero, List.set_cons_succ]
            refine wpAnyH_take (i := 4) (v := .pointer (some ⟨w3.heap.size, 0, none⟩)) rfl (by kernel_rfl) (by kernel_rfl) (by kernel_rfl) (fun _ _ _ h => h) (Or.inl ⟨by rfl, fun wx hS => ?_⟩) SX.out ?_
            · go_simp
            try simp only [Act.put, List.getElem_toArray, List.getElem_cons_succ, List.getElem_cons_zero, List.setIfInBounds_toArray, List.set_cons_zero, List.set_cons_succ]
            refine wpAnyH_take (i := 5) (v := .pointer (some ⟨w1.heap.size, 0, none⟩)) rfl (by kernel_rfl) (by kernel_rfl) (by kernel_rfl) (fun _ _ _ h => h) (Or.inl ⟨by rfl, fun wx hS => ?_⟩) SX.out ?_
            · go_simp
            try simp only [Act.put, List.getElem_toArray, List.getElem_cons_succ, List.getElem_cons_zero, List.setIfInBounds_toArray, List.set_cons_zero, List.set_cons_succ]
            refine wpAnyH_take (i := 6) (v := obV o.k o.x o.n o.a o.l o.s) rfl (by kernel_rfl) (by kernel_rfl) (by kernel_rfl) (fun _ _ _ h => h) (Or.inl ⟨by rfl, fun wx hS => ?_⟩) SX.out ?_
            · obtain ⟨d0, d1, d2, d3, d4, d5⟩ := ob_cells hS; go_simp
            try simp only [Act.put, List.getElem_toArray, List.getElem_cons_succ, List.getElem_cons_zero, List.setIfInBounds_toArray, List.set_cons_zero, List.set_cons_succ]
            cases hat : atS L o with
            | none =>
              have HA1 := Lib.hid hat
              have HA2 : Hid (atM M o = none) := Lib.hid (by rw [atM_atS PO.out.pair.num]; exact hat)
              clear hat
              refine wpAnyH_ready (rs := [3]) (by kernel_rfl) (by simp) ?_
              refine AllReadyH.cons rfl (fun K hK => ?_) AllReadyH.nil
              go_simp
              refine (RD.out.backP_no o HA1.out).mono ?_
              rintro e wp ⟨rfl, tp⟩
              have RP := Lib.hid tp
              clear tp
              have SP := Lib.hid RP.out.ob
              refine hK.out _ _ SP.out (fun _ => ?_)
              clear hK
              try simp only [Act.put, List.getElem_toArray, List.getElem_cons_succ, List.getElem_cons_zero, List.setIfInBounds_toArray, List.set_cons_zero, List.set_cons_succ]
              refine wpAnyH_ready (rs := [7]) (by kernel_rfl) (by simp) ?_
              refine AllReadyH.cons rfl (fun K hK => ?_) AllReadyH.nil
              go_simp
              refine (RP.out.backR_no o HA2.out).mono ?_
              rintro e wq ⟨rfl, tq⟩
              have RQ := Lib.hid tq
              clear tq
              have SQ := Lib.hid RQ.out.ob
              refine hK.out _ _ SQ.out (fun _ => ?_)
              clear hK
              try simp only [Act.put, List.getElem_toArray, List.getElem_cons_succ, List.getElem_cons_zero, List.setIfInBounds_toArray, List.set_cons_zero, List.set_cons_succ]
              refine wpAnyH_take (i := 8) (v := .bool false) rfl (by kernel_rfl) (by kernel_rfl) (by kernel_rfl) (fun _ _ _ h => h) (Or.inl ⟨by rfl, fun wx hS => ?_⟩) SQ.out ?_
              · go_simp
              try simp only [Act.put, List.getElem_toArray, List.getElem_cons_succ, List.getElem_cons_zero, List.setIfInBounds_toArray, List.set_cons_zero, List.set_cons_succ]
              refine wpAnyH_done (by kernel_rfl) ?_ _
              (try refine no_panic ?_)
              go_wp2
              go_meet
              exact ⟨_, _, _, _, _, _, _, _, RQ.out.up, PO.out.next⟩
            | some i =>
              have hi1 := atS_lt hat
              obtain ⟨s, hs⟩ : ∃ s, L[i]? = some s := ⟨_, List.getElem?_eq_getElem hi1⟩
              obtain ⟨s2, hs2⟩ : ∃ s, M[i]? = some s := ⟨_, List.getElem?_eq_getElem (by rw [PO.out.pair.len]; exact hi1)⟩
              have HA1 := Lib.hid hat
              have HA2 : Hid (atM M o = some i) := Lib.hid (by rw [atM_atS PO.out.pair.num]; exact hat)
              have HS1 := Lib.hid hs
              have HS2 := Lib.hid hs2
              clear hat hi1 hs hs2
              refine wpAnyH_ready (rs := [3]) (by kernel_rfl) (by simp) ?_
              refine AllReadyH.cons rfl (fun K hK => ?_) AllReadyH.nil
              go_simp
              refine (RD.out.backP_ok o HA1.out HS1.out).mono ?_
              rintro e wp ⟨rfl, tp⟩
              have RP := Lib.hid tp
              clear tp
              have SP := Lib.hid RP.out.ob
              refine hK.out _ _ SP.out (fun _ => ?_)
              clear hK
              try simp only [Act.put, List.getElem_toArray, List.getElem_cons_succ, List.getElem_cons_zero, List.setIfInBounds_toArray, List.set_cons_zero, List.set_cons_succ]
              refine wpAnyH_ready (rs := [7]) (by kernel_rfl) (by simp) ?_
              refine AllReadyH.cons rfl (fun K hK => ?_) AllReadyH.nil
              go_simp
              refine (RP.out.backR_ok o HA2.out HS2.out).mono ?_
              rintro e wq ⟨rfl, own', v', vs', tq⟩
              have RQ := Lib.hid tq
              clear tq
              have SQ := Lib.hid RQ.out.ob
              refine hK.out _ _ SQ.out (fun _ => ?_)
              clear hK
              try simp only [Act.put, List.getElem_toArray, List.getElem_cons_succ, List.getElem_cons_zero, List.setIfInBounds_toArray, List.set_cons_zero, List.set_cons_succ]
              refine wpAnyH_take (i := 8) (v := .bool false) rfl (by kernel_rfl) (by kernel_rfl) (by kernel_rfl) (fun _ _ _ h => h) (Or.inl ⟨by rfl, fun wx hS => ?_⟩) SQ.out ?_
              · go_simp
              try simp only [Act.put, List.getElem_toArray, List.getElem_cons_succ, List.getElem_cons_zero, List.setIfInBounds_toArray, List.set_cons_zero, List.set_cons_succ]
              refine wpAnyH_done (by kernel_rfl) ?_ _
              (try refine no_panic ?_)
              go_wp2
              go_meet
              exact ⟨_, _, _, _, _, _, _, _, RQ.out.up, PO.out.back HS2.out HS1.out⟩
          by_cases hw2 : wt = 2
          · subst hw2
            clear hw hw1
            have HN : Hid ((n : Int) ≤ 40) := Lib.hid h40
            have HAS : Hid (A.s.size ≤ 100) := Lib.hid (by omega)
            have HRL : Hid (R.length = P.length) := Lib.hid (by rw [← PO.out.cel]; simp [cels])
            have HPL : Hid (P.length < 2000 ∧ A.s.size + usedP P ≤ 40000) := Lib.hid ⟨by have := PO.out.few.len; omega, by have := PO.out.few.used; have := HAS.out; omega⟩
            have a3 : wc.cell? ⟨wr.heap.size, 3, none⟩ = some (.string A.s) := cellAt R3.out.act 3
            go_wp2_with fail
            refine (R3.out.stringP A.s HPL.out.1 HPL.out.2).mono ?_
            rintro e wa ⟨rfl, ra⟩
            have RA := Lib.hid ra
            clear ra a3
            go_upto_region 34 with fail
            obtain ⟨wb, eb, rb', ob, zb, fb, -, -⟩ := RA.out.boxed 8 false (P.length : Int) 0 (A.s.size : Int) ⟨#[]⟩
            rw [eb]
            have RB := Lib.hid rb'
            have OB := Lib.hid ob
            have ZB := Lib.hid zb
            have FB := Lib.hid fb
            have a3 : wb.cell? ⟨wr.heap.size, 3, none⟩ = some (.string A.s) := cellAt rb'.act 3
            clear eb rb' ob zb fb
            go_wp2_with fail
            have C := RB.out.stringR A.s (by rw [HRL.out]; exact HPL.out.1) (by rw [PO.out.cel]; have := HPL.out.2; omega)
            rw [HRL.out] at C
            refine C.mono ?_
            clear C
            rintro e wd ⟨rfl, own', v', R', hc', rd, fd⟩
            have HC := Lib.hid hc'
            have RD := Lib.hid rd
            have OD := Lib.hid ((fd _ ZB.out FB.out.1 FB.out.2).trans OB.out)
            have ZD : Hid (wa.heap.size < wd.heap.size) := Lib.hid (blk_lt OD.out)
            clear rd fd hc' a3
            go_upto_region 35 with fail
            obtain ⟨we, ee, re, oe, ze, fe, -, ke⟩ := RD.out.boxed 8 false (P.length : Int) 0 (A.s.size : Int) ⟨#[]⟩
            rw [ee]
            have RE := Lib.hid re
            have OX := Lib.hid ((ke.block _ ZD.out).trans OD.out)
            have OE := Lib.hid oe
            have q : ∀ w, (binOp .eql 24 (.agg #[.int .i64 8, .bool false, .int .i64 (P.length : Int), .int .i64 0, .int .i64 (A.s.size : Int), .string ⟨#[]⟩]) (.agg #[.int .i64 8, .bool false, .int .i64 (P.length : Int), .int .i64 0, .int .i64 (A.s.size : Int), .string ⟨#[]⟩])).run Try.prog w = .ok (.bool true) w := fun w => by rw [eqO]; simp
            obtain ⟨c0, c1, c2, c3, c4, c5⟩ := ob_cells OX.out
            obtain ⟨e0, e1, e2, e3, e4, e5⟩ := ob_cells OE.out
            clear ee re oe ze fe ke
            go_upto_region 37 with fail
            clear c0 c1 c2 c3 c4 c5 q OX OD OB ZD
            obtain ⟨X', hX', hx'⟩ := RE.out.r8
            obtain ⟨p', c', ev⟩ := owns_form (hx'.mono (Nat.zero_le _))
            obtain ⟨rfl, rfl, rfl⟩ : py = p' ∧ ny = X'.length ∧ cy = c' := by simpa using ev
            have RW := Lib.hid hx'
            have HX := Lib.hid hX'
            have HN0 := Lib.hid RE.out.below.size
            clear hx' hX' ev
            go_wp2_with (first
              | (at_builtin; refine wpList_append_lies _ rfl _ _ 33 rfl w0.heap.size 24 i0 _ 6 56 Try.underlying33 hi hz0 hz1 hz2 rfl (by decide) _ _ _ rfl (RW.out.alloc _) ⟨we.heap.size, 0, none⟩ 1 1 (Ob.cells ⟨8, false, (P.length : Int), 0, (A.s.size : Int), ⟨#[]⟩⟩) rfl rfl (cells6_new we ⟨8, false, (P.length : Int), 0, (A.s.size : Int), ⟨#[]⟩⟩ _) (ob_one _) (by decide) (by have := HL.out; have := HX.out; have := HN.out; unfold maxLen; omega) (by have := HL.out; have := HX.out; have := HN.out; omega) (by have := HN0.out; simp; omega) _ rfl ?_))
            intro g9 cap9 w9 hown hgrow hg9 hlt9
            have N9 := Lib.hid ((RE.out.later (box_below we (.cells (Ob.cells ⟨8, false, (P.length : Int), 0, (A.s.size : Int), ⟨#[]⟩⟩).toArray 24))).push8 (x := ⟨8, false, (P.length : Int), 0, (A.s.size : Int), ⟨#[]⟩⟩) HX.out hown hgrow (by simpa using hg9) hlt9)
            clear hown hgrow hg9 hlt9 e0 e1 e2 e3 e4 e5
            go_wp2
            go_meet
            exact ⟨_, _, _, _, _, _, _, _, N9.out, PO.out.string A.s HAS.out HC.out⟩
          have hw3 := Lib.hid hw
          have a2 : wc.cell? ⟨wr.heap.size, 2, none⟩ = some (.int .u8 A.v) := cellAt R3.out.act 2
          have ev : IntKind.i64.wrap A.v = A.v := IntWalk.i64_in _ (by have := HV.out; omega)
          go_upto_region 20 with fail
          obtain ⟨wb, eb, rb', ob, zb, fb, sb', -⟩ := R3.out.boxed 3 false A.v 0 0 ⟨#[]⟩
          rw [eb]
          have RB := Lib.hid rb'
          have OB := Lib.hid ob
          have ZB := Lib.hid zb
          have FB := Lib.hid fb
          have SB := Lib.hid sb'
          clear eb rb' ob zb fb sb' a2 ev
          have SX : Hid (wb.drew.heap[bt]? = some (obObj t.k t.x t.n t.a t.l t.s) ∧ wb.drew.heap[wc.heap.size]? = some (obObj 3 false A.v 0 0 ⟨#[]⟩)) := Lib.hid ⟨RB.out.st, OB.out⟩
          have RD : Hid (RoundSt w0.heap.size w0 w0.heap.size w2.heap.size w1.heap.size w3.heap.size wr.heap.size bo bt j (.slice px nx cx) (.slice py ny cy) A o t own P L last v vs R M last wb.drew) := Lib.hid (RB.out.later (Below.refl _ _).drew)
          have SD := Lib.hid (SB.out.below (Below.refl _ _).drew).1
          have ZD : Hid (wc.heap.size < wb.drew.heap.size) := Lib.hid ZB.out
          clear RB SB ZB OB
          (try refine wp_region_noPanic ?_)
          refine wp_region_held_drew (S := fun wx => wx.heap[bt]? = some (obObj t.k t.x t.n t.a t.l t.s) ∧ wx.heap[wc.heap.size]? = some (obObj 3 false A.v 0 0 ⟨#[]⟩)) (by kernel_rfl) SX.out (fun _ => ?_)
          generalize wb.drew = wd at SX RD SD ZD ⊢
          refine wpAnyH_take (i := 0) (v := ptr w0.heap.size) rfl (by kernel_rfl) (by kernel_rfl) (by kernel_rfl) (fun _ _ _ h => h) (Or.inl ⟨by rfl, fun wx hS => ?_⟩) SX.out ?_
          · go_simp
          try simp only [Act.put, List.getElem_toArray, List.getElem_cons_succ, List.getElem_cons_zero, List.setIfInBounds_toArray, List.set_cons_zero, List.set_cons_succ]
          refine wpAnyH_take (i := 1) (v := obV t.k t.x t.n t.a t.l t.s) rfl (by kernel_rfl) (by kernel_rfl) (by kernel_rfl) (fun _ _ _ h => h) (Or.inl ⟨by rfl, fun wx hS => ?_⟩) SX.out ?_
          · obtain ⟨d0, d1, d2, d3, d4, d5⟩ := ob_cells hS.1; go_simp
          try simp only [Act.put, List.getElem_toArray, List.getElem_cons_succ, List.getElem_cons_zero, List.setIfInBounds_toArray, List.set_cons_zero, List.set_cons_succ]
          refine wpAnyH_take (i := 2) (v := obV 3 false A.v 0 0 ⟨#[]⟩) rfl (by kernel_rfl) (by kernel_rfl) (by kernel_rfl) (fun _ _ _ h => h) (Or.inl ⟨by rfl, fun wx hS => ?_⟩) SX.out ?_
          · obtain ⟨d0, d1, d2, d3, d4, d5⟩ := ob_cells hS.2; go_simp
          try simp only [Act.put, List.getElem_toArray, List.getElem_cons_succ, List.getElem_cons_zero, List.setIfInBounds_toArray, List.set_cons_zero, List.set_cons_succ]
          refine wpAnyH_take (i := 4) (v := .pointer (some ⟨w1.heap.size, 0, none⟩)) rfl (by kernel_rfl) (by kernel_rfl) (by kernel_rfl) (fun _ _ _ h => h) (Or.inl ⟨by rfl, fun wx hS => ?_⟩) SX.out ?_
          · go_simp
          try simp only [Act.put, List.getElem_toArray, List.getElem_cons_succ, List.getElem_cons_zero, List.setIfInBounds_toArray, List.set_cons_zero, List.set_cons_succ]
          refine wpAnyH_take (i := 5) (v := obV t.k t.x t.n t.a t.l t.s) rfl (by kernel_rfl) (by kernel_rfl) (by kernel_rfl) (fun _ _ _ h => h) (Or.inl ⟨by rfl, fun wx hS => ?_⟩) SX.out ?_
          · obtain ⟨d0, d1, d2, d3, d4, d5⟩ := ob_cells hS.1; go_simp
          try simp only [Act.put, List.getElem_toArray, List.getElem_cons_succ, List.getElem_cons_zero, List.setIfInBounds_toArray, List.set_cons_zero, List.set_cons_succ]
          refine wpAnyH_take (i := 6) (v := obV 3 false A.v 0 0 ⟨#[]⟩) rfl (by kernel_rfl) (by kernel_rfl) (by kernel_rfl) (fun _ _ _ h => h) (Or.inl ⟨by rfl, fun wx hS => ?_⟩) SX.out ?_
          · obtain ⟨d0, d1, d2, d3, d4, d5⟩ := ob_cells hS.2; go_simp
          try simp only [Act.put, List.getElem_toArray, List.getElem_cons_succ, List.getElem_cons_zero, List.setIfInBounds_toArray, List.set_cons_zero, List.set_cons_succ]
          refine wpAnyH_ready (rs := [3]) (by kernel_rfl) (by simp) ?_
          refine AllReadyH.cons rfl (fun K hK => ?_) AllReadyH.nil
          go_simp
          refine (RD.out.setP _ SD.out t A.v).mono ?_
          rintro e wp ⟨rfl, tp, kp⟩
          have RP := Lib.hid tp
          have SP : Hid (wp.heap[bt]? = some (obObj t.k t.x t.n t.a t.l t.s) ∧ wp.heap[wc.heap.size]? = some (obObj 3 false A.v 0 0 ⟨#[]⟩)) := Lib.hid ⟨tp.st, kp.trans SX.out.2⟩
          clear tp kp
          refine hK.out _ _ SP.out (fun _ => ?_)
          clear hK
          try simp only [Act.put, List.getElem_toArray, List.getElem_cons_succ, List.getElem_cons_zero, List.setIfInBounds_toArray, List.set_cons_zero, List.set_cons_succ]
          refine wpAnyH_ready (rs := [7]) (by kernel_rfl) (by simp) ?_
          refine AllReadyH.cons rfl (fun K hK => ?_) AllReadyH.nil
          go_simp
          refine (by have C := RP.out.setR (by rw [PO.out.cel]; exact PO.out.few.strs) t A.v HV.out.1 HV.out.2; rw [PO.out.cel] at C; exact C : Calls Try.prog 15 #[ptr w1.heap.size, t.val, .int .i64 0, (Ob.num A.v).val] wp fun e w' => e = .returned (.int .i64 (setE P t 0 (Ob.num A.v))) ∧ ∃ own' R', cels R' = setP P t 0 (Ob.num A.v) ∧ RoundSt w0.heap.size w0 w0.heap.size w2.heap.size w1.heap.size w3.heap.size wr.heap.size bo bt j (.slice px nx cx) (.slice py ny cy) A o t own' (setP P t 0 (Ob.num A.v)) L last v vs R' M last w' ∧ Far own w3.heap.size wp w').mono ?_
          rintro e wq ⟨rfl, own', R', hc', tq, fq⟩
          have HC := Lib.hid hc'
          have RQ := Lib.hid tq
          have SQ : Hid (wq.heap[bt]? = some (obObj t.k t.x t.n t.a t.l t.s) ∧ wq.heap[wc.heap.size]? = some (obObj 3 false A.v 0 0 ⟨#[]⟩)) := Lib.hid ⟨tq.st, (fq _ (blk_lt SP.out.2) FB.out.1 FB.out.2).trans SP.out.2⟩
          clear tq fq hc'
          refine hK.out _ _ SQ.out (fun _ => ?_)
          clear hK
          try simp only [Act.put, List.getElem_toArray, List.getElem_cons_succ, List.getElem_cons_zero, List.setIfInBounds_toArray, List.set_cons_zero, List.set_cons_succ]
          refine wpAnyH_take (i := 8) (v := .bool false) rfl (by kernel_rfl) (by kernel_rfl) (by kernel_rfl) (fun _ _ _ h => h) (Or.inl ⟨by rfl, fun wx hS => ?_⟩) SQ.out ?_
          · go_simp
          try simp only [Act.put, List.getElem_toArray, List.getElem_cons_succ, List.getElem_cons_zero, List.setIfInBounds_toArray, List.set_cons_zero, List.set_cons_succ]
          refine wpAnyH_done (by kernel_rfl) ?_ _
          (try refine no_panic ?_)
          go_wp2
          go_meet
          exact ⟨_, _, _, _, _, _, _, _, RQ.out.up, PO.out.set t A.v (by rw [PO.out.cel]; exact HC.out)⟩
        case rest =>
        obtain ⟨own, P, L, last, v, vs, R, M, rs, po⟩ := hcut
        have R4 := Lib.hid rs
        have P4 := Lib.hid po
        obtain ⟨c0, c1, c2, c3, c4, c5⟩ := ob_cells rs.st
        clear rs po R3 PO
        go_wp2_with fail
        refine (R4.out.bytesP t).mono ?_
        rintro e wa ⟨rfl, ra⟩
        have RA := Lib.hid ra
        clear c0 c1 c2 c3 c4 c5
        obtain ⟨c0, c1, c2, c3, c4, c5⟩ := ob_cells ra.st
        clear ra
        go_wp2_with fail
        have C := RA.out.bytesR t
        rw [P4.out.cel] at C
        refine C.mono ?_
        clear C
        rintro e wb ⟨rfl, rb'⟩
        have RB := Lib.hid rb'
        clear rb' c0 c1 c2 c3 c4 c5
        go_upto_region 40 with fail
        refine reg40 w0.heap.size w0.heap.size w2.heap.size w1.heap.size w3.heap.size wr.heap.size bo bt (j + 1) last w0 wb _ _ v vs A o t own P L R M _ _ _ _ _ _ _ _ _ _ _ _ _ _ _ _ _ _ _ _ _ _ _ _ _ _ _ _ _ _ _ _ _ _ _ _ _ _ _ _ _ _ _ _ _ _ _ _ _ _ _ _ _ _ _ _ _ _ _ _ _ _ _ _ _ _ _ _ _ _ _ _ _ _ _ _ _ _ _ _ _ _ _ _ _ _ _ _ _ _ _ _ _ _ _ _ _ _ _ _ _ _ _ _ _ _ _ _ _ _ _ _ _ _ _ _ _ _ _ _ _ _ _ _ _ _ _ _ _ _ _ _ _ _ _ _ _ _ _ _ _ _ _ _ _ _ _ _ _ _ _ _ _ _ _ _ _ _ _ _ _ _ _ _ _ _ _ _ _ _ _ _ _ _ _ _ _ _ _ _ _ _ _ _ _ _ _ _ _ _ _ _ _ _ _ _ _ _ _ _ _ _ _ _ _ _ _ _ _ _ _ _ _ _ _ _ _ _ _ _ _ _ _ _ _ _ _ _ P4 RB _ (Lib.hid ?_)
        intro y184 y185 y186 y187 y188 y189 y190 y191 y192 y193 y194 y195 y196 y197 y198 y199 y200 y201 y202 y203 y204 y205 y206 y207 y208 y209 y210 y211 y212 y213 y214 y215 y216 y217 y218 y219 y220 y221 y222 y223 y224 y225 y226 y227 y228 y229 y230 y231 y232 y233 y234 vr vt wj sx
        have SX := Lib.hid sx
        clear sx RA R4 RB
        have e1 : IntKind.i64.wrap ((j : Int) + 1) = (j : Int) + 1 := IntWalk.i64_in _ (by have := HL.out; omega)
        go_wp2
        go_roundw
        case rel => exact ⟨j + 1, HL.out, by simp, SX.out.done P4.out⟩
        case measure => exact measure_up n j _ (by go_num) HL.out
    · have e : j = n := by omega
      subst e
      have t1 : ¬ ((j : Int) < j) := by omega
      go_wp2
      go_ret
      exact ⟨rfl, B0.out.trans (HS.out.below.mono B0.out.size)⟩
end Go.Proofs.Ytmlkmgeddkpgiaa
