/- DictPlays: the walk. -/
import Derived.Test.YtlkbnldpecolbaaEC
import Derived.Deep.CutRange
import Derived.Deep.CutBlock
namespace Go.Proofs.Ytlkbnldpecolbaa
open Go.RowKit
set_option linter.unusedVariables false
set_option linter.unusedSimpArgs false
set_option hygiene false in
local macro "omg" : tactic => `(tactic| ((try clear v1); (try clear v2); (try clear v1'); (try clear v2'); omega))

theorem Dr.start (w w0 : World) (k : Below w.heap.size w w0) : ∃ w2, (w0.alloc (.cells #[.slice none 0 0, .int .i64 0] 72)).alloc (.cells #[.slice none 0 0] 54) = w2 ∧ Dr (fun b => b < w.heap.size) w w0.heap.size (w0.heap.size + 1) [] [] [] w2 := by
  obtain ⟨w1, e1⟩ : ∃ w1, w0.alloc (.cells #[.slice none 0 0, .int .i64 0] 72) = w1 := ⟨_, rfl⟩
  have z1 : w1.heap.size = w0.heap.size + 1 := by rw [← e1]; exact World.size_alloc _ _
  have s1 : Sep (fun b => b < w0.heap.size) w0.heap.size [] w1 := e1 ▸ Sep.new w0
  have hr : RH (fun b => b = w1.heap.size) w1.heap.size (.slice none 0 0) [] (w1.alloc (.cells #[.slice none 0 0] 54)) :=
    ⟨heap_alloc_new _ _, rfl, .inl ⟨rfl, rfl, rfl⟩, fun i r h => (by simp at h), ⟨Nat.zero_le _, by decide, fun c h => by simp [cels] at h⟩, fun g h => (by simp [Value.ownBlock] at h)⟩
  have k1 : Below w.heap.size w w1 := below_and k (e1 ▸ box_below _ _)
  have hd : DP (fun b => b < w0.heap.size) w0.heap.size w1.heap.size [] [] (w1.alloc (.cells #[.slice none 0 0] 54)) :=
    ⟨_, _, _, (s1.box _).sub (fun b q => q.symm), hr, fun b q e => by rw [e, z1] at q; omega, rfl⟩
  rw [z1] at hd
  refine ⟨_, by rw [e1], ⟨⟨_, hd, fun b q => Nat.lt_of_lt_of_le q k.size, fun p q => (by cases q)⟩, fun p q => (by cases q), List.nodup_nil, kept_of (below_and k1 (box_below _ _)) fun b q => q, fun b q => q⟩⟩
theorem Dr.low {w : World} {hb rb : Nat} {P A : List Cel} {bs : List (Nat × Obj)} {w' : World} (h : Dr (fun b => b < w.heap.size) w hb rb P A bs w') : Below w.heap.size w w' := h.kept.below fun b q => q
theorem pUsed12 {out : Nat → Prop} {hb rb : Nat} {P A : List Cel} {w : World} (h : DP out hb rb P A w) : Calls Try.prog 37 #[ptr hb] w fun e w' => e = .returned (.int .i64 (usedP P)) ∧ Below w.heap.size w w' := h.progLeaf fun own s => by
  obtain ⟨role, ⟨vc, ivs, pb, rv, h1⟩, h2⟩ := s
  refine (used_any hb (usedP P) w h1.used).mono ?_
  rintro e w' ⟨rfl, rfl⟩
  exact ⟨rfl, Below.refl _ _⟩
theorem qUsed12 {out : Nat → Prop} {hb rb : Nat} {P A : List Cel} {w : World} (h : DP out hb rb P A w) : Calls Try.prog 38 #[ptr rb] w fun e w' => e = .returned (.int .i64 (usedP A)) ∧ Below w.heap.size w w' := h.refLeaf fun own u R r e => by
  have := rused_any r
  rw [e] at this
  exact this
theorem drop_len (ps : List (Ob × Ob)) (k : Ob) : (dropL ps k).length ≤ ps.length := by
  unfold dropL
  split
  · exact List.length_eraseIdx_le ..
  · exact Nat.le_refl _

set_option maxHeartbeats 20000000 in
set_option maxRecDepth 1000000 in
theorem dict_walk (r : Int) (p : Option Addr) (n cap : Nat) (w : World) (hn : n ≤ cap) (hA : ∀ i, i < n → ∃ A, DeedAt w p i A) :
    Calls Try.prog 6 #[.int .i64 r, .slice p n cap] w fun e w' => e = .returned (.bool true) ∧ Below w.heap.size w w' := by
  have HA := Lib.hid hA
  clear hA
  go_enter Try.func6, Try.ntmps6
  go_wp2_with fail
  refine (dknown_any w).mono ?_
  rintro e w0 ⟨rfl, b0⟩
  have B0 := Lib.hid b0
  clear b0
  by_cases h40 : (n : Int) > 40
  · go_wp2
    go_ret
    exact ⟨rfl, B0.out⟩
  go_wp2_with fail
  refine (new_any w0).mono ?_
  rintro e w1 ⟨rfl, rfl⟩
  obtain ⟨w2, e2, r2⟩ := Dr.start w w0 B0.out
  go_upto_region 6 with fail
  (try rw [e2])
  have R := Lib.hid r2
  clear e2 r2
  obtain ⟨hb, hhb⟩ : ∃ hb, w0.heap.size = hb := ⟨_, rfl⟩
  obtain ⟨rb, hrb⟩ : ∃ rb, w0.heap.size + 1 = rb := ⟨_, rfl⟩
  simp only [hrb] at R ⊢
  simp only [hhb] at R ⊢
  clear hrb hhb B0
  by_cases hr : r < 0 ∨ 1000 < r
  · have HO := Lib.hid (dic_out r hr)
    clear hr
    go_wp2_with fail
    have hc := R.out.call fun out h => pNew h r
    rw [HO.out.1, HO.out.2] at hc; simp only [Ob.val, Ob.zero] at hc
    refine hc.mono ?_
    rintro e w3 ⟨rfl, rr⟩
    replace R := Lib.hid rr
    clear hc rr 
    go_upto_region 7 with fail
    obtain ⟨w4, e4, rr, z4⟩ := R.out.one Ob.zero
    simp only [Ob.zero] at e4 rr
    rw [e4]
    replace R := Lib.hid rr
    clear e4 rr z4
    generalize w3.heap.size = BC at R ⊢
    go_wp2_with fail
    have hc := R.out.call fun out h => qDict h r
    rw [HO.out.1, HO.out.2] at hc; simp only [Ob.val, Ob.zero] at hc
    refine hc.mono ?_
    rintro e w5 ⟨rfl, rr⟩
    replace R := Lib.hid rr
    clear hc rr 
    go_upto_region 8 with fail
    obtain ⟨w6, e6, rr, z6⟩ := R.out.one Ob.zero
    simp only [Ob.zero] at e6 rr
    rw [e6]
    replace R := Lib.hid rr
    clear e6 rr z6
    generalize w5.heap.size = BD at R ⊢
    obtain ⟨⟨c0, c1, c2, c3, c4, c5⟩, _⟩ := cells6 (R.out.box (BC, obObj 0 false 0 0 0 ⟨#[]⟩) (by simp)).1
    obtain ⟨⟨d0, d1, d2, d3, d4, d5⟩, _⟩ := cells6 (R.out.box (BD, obObj 0 false 0 0 0 ⟨#[]⟩) (by simp)).1
    go_wp2
    go_ret
    exact ⟨rfl, R.out.low⟩
  obtain ⟨rm, rfl⟩ : ∃ rm : Nat, r = rm := ⟨r.toNat, by omega⟩
  have hrm : rm ≤ 1000 := by omega
  have HO := Lib.hid (dic_in rm hrm)
  have HRM := Lib.hid hrm
  clear hr hrm
  go_wp2_with fail
  have hc := R.out.call fun out h => pNew h (rm : Int)
  rw [HO.out.1, HO.out.2.1] at hc; simp only [HO.out.2.2] at hc; simp only [Ob.val, dO0] at hc
  refine hc.mono ?_
  rintro e w3 ⟨rfl, rr⟩
  replace R := Lib.hid rr
  clear hc rr 
  go_upto_region 7 with fail
  obtain ⟨w4, e4, rr, z4⟩ := R.out.one dO0
  simp only [dO0] at e4 rr
  rw [e4]
  replace R := Lib.hid rr
  clear e4 rr z4
  generalize w3.heap.size = BC at R ⊢
  go_wp2_with fail
  have hc := R.out.call fun out h => qDict h (rm : Int)
  rw [HO.out.1, HO.out.2.1] at hc; simp only [HO.out.2.2] at hc; simp only [Ob.val, dO0] at hc
  refine hc.mono ?_
  rintro e w5 ⟨rfl, rr⟩
  replace R := Lib.hid rr
  clear hc rr 
  go_upto_region 8 with fail
  obtain ⟨w6, e6, rr, z6⟩ := R.out.one dO0
  simp only [dO0] at e6 rr
  rw [e6]
  replace R := Lib.hid rr
  clear e6 rr z6
  generalize w5.heap.size = BD at R ⊢
  obtain ⟨⟨c0, c1, c2, c3, c4, c5⟩, _⟩ := cells6 (R.out.box (BC, obObj 10 false 0 0 0 ⟨#[]⟩) (by simp)).1
  obtain ⟨⟨d0, d1, d2, d3, d4, d5⟩, _⟩ := cells6 (R.out.box (BD, obObj 10 false 0 0 0 ⟨#[]⟩) (by simp)).1
  go_wp2
  go_loopw [73] (fun i wr => ∃ (j : Nat) (ps : List (Ob × Ob)), j ≤ n ∧ i = .int .i64 j ∧ ps.length ≤ j ∧ Good rm ps ∧ Dr (fun b => b < w.heap.size) w hb rb (H1 ps rm) (H1 ps rm) [(BD, obObj 10 false 0 0 0 ⟨#[]⟩), (BC, obObj 10 false 0 0 0 ⟨#[]⟩)] wr) (fun i _ => n - (intOf i).toNat)
  case atStart => exact ⟨0, [], Nat.zero_le _, rfl, Nat.zero_le _, Good.zero HRM.out, R.out⟩
  case round =>
    obtain ⟨j, ps, hj, rfl, hps, hG, hr⟩ := hrel
    clear R
    have R := Lib.hid hr
    have HG := Lib.hid hG
    have HP := Lib.hid hps
    clear hr hG hps
    by_cases hlt : j < n
    · have HL := Lib.hid hlt
      have t1 : (j : Int) < n := by omega
      obtain ⟨A, ha⟩ := HA.out j hlt
      obtain ⟨ad, rfl, hg, hcc⟩ := ha.at_
      have kb : wr.heap[ad.block]? = w.heap[ad.block]? := R.out.low.block _ hg
      have cc : ∀ k u, (deedL A)[k]? = some u → wr.cell? ((ad.add (j * 9)).add k) = some u := fun k u h => by
        rw [World.cell?_of_block (w := w) (by rw [addBlock, addBlock]; exact kb)]
        exact hcc k u h
      have HV := Lib.hid ha.kb
      have c0 : wr.cell? (ad.add (j * 9)) = some _ := cc 0 _ rfl
      have c1 : wr.cell? ⟨(ad.add (j * 9)).block, (ad.add (j * 9)).off + 1, none⟩ = some _ := cc 1 _ rfl
      have c2 : wr.cell? ⟨(ad.add (j * 9)).block, (ad.add (j * 9)).off + 2, none⟩ = some _ := cc 2 _ rfl
      have c3 : wr.cell? ⟨(ad.add (j * 9)).block, (ad.add (j * 9)).off + 3, none⟩ = some _ := cc 3 _ rfl
      have c4 : wr.cell? ⟨(ad.add (j * 9)).block, (ad.add (j * 9)).off + 4, none⟩ = some _ := cc 4 _ rfl
      have c5 : wr.cell? ⟨(ad.add (j * 9)).block, (ad.add (j * 9)).off + 5, none⟩ = some _ := cc 5 _ rfl
      have c6 : wr.cell? ⟨(ad.add (j * 9)).block, (ad.add (j * 9)).off + 6, none⟩ = some _ := cc 6 _ rfl
      have c7 : wr.cell? ⟨(ad.add (j * 9)).block, (ad.add (j * 9)).off + 7, none⟩ = some _ := cc 7 _ rfl
      have c8 : wr.cell? ⟨(ad.add (j * 9)).block, (ad.add (j * 9)).off + 8, none⟩ = some _ := cc 8 _ rfl
      clear kb cc hcc hg ha hlt hj
      go_upto_region 13 with fail
      obtain ⟨w5, e5, r5, o5⟩ : ∃ w5, wr.alloc (deObj A) = w5 ∧ Dr (fun b => b < w.heap.size) w hb rb (H1 ps rm) (H1 ps rm) [(wr.heap.size, deObj A), (BD, obObj 10 false 0 0 0 ⟨#[]⟩), (BC, obObj 10 false 0 0 0 ⟨#[]⟩)] w5 ∧ w5.heap[wr.heap.size]? = some (deObj A) := ⟨_, rfl, R.out.new _, heap_alloc_new _ _⟩
      rw [e5]
      replace R := Lib.hid r5
      clear c0 c1 c2 c3 c4 c5 c6 c7 c8 e5 r5
      have c8 : w5.cell? ⟨wr.heap.size, 8, none⟩ = some (.string A.o.s) := cellAt o5 8
      clear o5
      by_cases g2 : (A.o.s.size : Int) > 300
      · go_wp2
        go_ret
        exact ⟨rfl, R.out.low⟩
      go_upto_region 15 with fail
      clear c8 g2
      generalize wr.heap.size = ba at R ⊢
      obtain ⟨⟨k1, x1, n1, a1, l1, s1⟩, hq⟩ : ∃ q : Ob, ∀ wx, Calls Try.prog 26 #[.int .i64 A.key, A.o.val] wx fun e w' => e = .returned q.val ∧ Below wx.heap.size wx w' := key_some_all A.key HV.out.1 HV.out.2 A.o
      refine reg15 _ w w5 hb rb (H1 ps rm) (H1 ps rm) [(BD, obObj 10 false 0 0 0 ⟨#[]⟩), (BC, obObj 10 false 0 0 0 ⟨#[]⟩)] ba A k1 x1 n1 a1 l1 s1 _ _ _ _ _ _ _ _ _ _ _ _ _ _ _ _ _ _ _ _ _ _ _ _ _ _ _ _ _ _ _ _ _ _ _ _ _ _ _ _ _ _ _ _ _ _ _ _ _ _ _ _ _ _ _ _ _ _ _ _ _ _ _ _ _ _ _ _ _ _ _ _ _ _ _ _ _ _ _ _ _ _ _ _ _ _ _ _ _ _ _ _ _ _ _ _ _ _ _ _ _ _ _ _ _ _ _ _ _ _ _ _ _ _ _ _ _ _ _ _ _ _ _ _ _ _ _ _ _ _ _ _ _ _ _ _ _ _ _ _ _ _ _ _ _ _ _ _ _ _ _ _ _ _ _ _ _ _ _ _ _ _ _ _ _ _ _ _ _ _ _ _ _ _ _ _ _ _ _ _ _ _ _ _ _ _ _ _ _ _ _ _ _ _ _ _ _ _ _ _ _ _ _ _ _ _ _ _ _ _ _ _ _ _ _ _ _ _ (Lib.hid hq) R _ (Lib.hid ?_)
      intro b1 b2 y82 y83 y84 y85 y86 y87 y88 y89 w6 r6
      replace R := Lib.hid r6
      clear r6 hq HV
      obtain ⟨ka, xa, na, aa, la, sa, hKO⟩ : ∃ k x n a l s, keyO (H1 ps rm) ⟨k1, x1, n1, a1, l1, s1⟩ = ⟨k, x, n, a, l, s⟩ := ⟨_, _, _, _, _, _, rfl⟩
      obtain ⟨ea, hKE⟩ : ∃ ea, keyE (H1 ps rm) ⟨k1, x1, n1, a1, l1, s1⟩ = ea := ⟨_, rfl⟩
      have KO := Lib.hid hKO
      have KE := Lib.hid hKE
      clear hKO hKE
      obtain ⟨⟨c0, c1, c2, c3, c4, c5⟩, _⟩ := cells6 (R.out.box (b1, obObj k1 x1 n1 a1 l1 s1) (by simp)).1
      go_wp2_with fail
      have hc := R.out.leaf fun out h => pKey h ⟨k1, x1, n1, a1, l1, s1⟩
      rw [KO.out, KE.out] at hc; simp only [Ob.val] at hc
      refine hc.mono ?_
      rintro e w7 ⟨rfl, rr⟩
      replace R := Lib.hid rr
      clear hc rr c0 c1 c2 c3 c4 c5
      go_upto_region 17 with fail
      obtain ⟨w8, e8, rr, z8⟩ := R.out.one ⟨ka, xa, na, aa, la, sa⟩
      rw [e8]
      replace R := Lib.hid rr
      clear e8 rr z8
      generalize w7.heap.size = b3 at R ⊢
      obtain ⟨⟨c0, c1, c2, c3, c4, c5⟩, _⟩ := cells6 (R.out.box (b1, obObj k1 x1 n1 a1 l1 s1) (by simp)).1
      go_wp2_with fail
      have hc := R.out.leaf fun out h => qKey h ⟨k1, x1, n1, a1, l1, s1⟩
      rw [KO.out, KE.out] at hc; simp only [Ob.val] at hc
      refine hc.mono ?_
      rintro e w9 ⟨rfl, rr⟩
      replace R := Lib.hid rr
      clear hc rr c0 c1 c2 c3 c4 c5
      go_upto_region 18 with fail
      obtain ⟨w10, e10, rr, z10⟩ := R.out.one ⟨ka, xa, na, aa, la, sa⟩
      rw [e10]
      replace R := Lib.hid rr
      clear e10 rr z10
      generalize w9.heap.size = b4 at R ⊢
      obtain ⟨⟨c0, c1, c2, c3, c4, c5⟩, _⟩ := cells6 (R.out.box (b3, obObj ka xa na aa la sa) (by simp)).1
      obtain ⟨⟨d0, d1, d2, d3, d4, d5⟩, _⟩ := cells6 (R.out.box (b4, obObj ka xa na aa la sa) (by simp)).1
      go_upto_region 20 with fail
      clear c0 c1 c2 c3 c4 c5 d0 d1 d2 d3 d4 d5
      replace R := Lib.hid (R.out.sub ((List.sublist_cons_self _ _).trans (List.sublist_cons_self _ _)))
      have c0 := cellAt (R.out.box (ba, deObj A) (by simp)).1 0
      generalize (Value.agg #[.int .i64 A.what, .int .i64 A.key, .int .i64 A.val, .int .i64 A.o.k, .bool A.o.x, .int .i64 A.o.n, .int .i64 A.o.a, .int .i64 A.o.l, .string A.o.s] : Value) = v76
      go_upto_block 2 with fail
      clear c0
      go_cut [110, 111] from 112 to 135 (fun _ _ wx => ∃ ps' : List (Ob × Ob), ps'.length ≤ j + 1 ∧ Good rm ps' ∧ Dr (fun b => b < w.heap.size) w hb rb (H1 ps' rm) (H1 ps' rm) [(b2, obObj 3 false A.val 0 0 ⟨#[]⟩), (b1, obObj k1 x1 n1 a1 l1 s1), (ba, deObj A), (BD, obObj 10 false 0 0 0 ⟨#[]⟩), (BC, obObj 10 false 0 0 0 ⟨#[]⟩)] wx)
      case first =>
        by_cases hw0 : A.what = 0
        · have t2 : (A.what == 0) = true := by simp [hw0]
          go_upto_region 22 with fail
          replace R := Lib.hid (R.out.later (Below.refl _ _).drew)
          (try refine wp_region_noPanic ?_)
          refine wp_region_held_drew (S := fun wx => wx.heap[b2]? = some (obObj 3 false A.val 0 0 ⟨#[]⟩) ∧ wx.heap[b1]? = some (obObj k1 x1 n1 a1 l1 s1) ∧ wx.heap[BC]? = some (obObj 10 false 0 0 0 ⟨#[]⟩)) (by kernel_rfl) ⟨(R.out.box (b2, obObj 3 false A.val 0 0 ⟨#[]⟩) (by simp)).1, (R.out.box (b1, obObj k1 x1 n1 a1 l1 s1) (by simp)).1, (R.out.box (BC, obObj 10 false 0 0 0 ⟨#[]⟩) (by simp)).1⟩ (fun sx0 => ?_)
          have SX := Lib.hid sx0
          clear sx0
          generalize World.drew _ = wd at R SX ⊢
          refine wpAnyH_take (i := 0) (v := ptr hb) rfl (by kernel_rfl) (by kernel_rfl) (by kernel_rfl) (fun _ _ _ h => h) (Or.inl ⟨by rfl, fun wx hS => ?_⟩) SX.out ?_
          · go_simp
          try simp only [Act.put, List.getElem_toArray, List.getElem_cons_succ, List.getElem_cons_zero, List.setIfInBounds_toArray, List.set_cons_zero, List.set_cons_succ]
          refine wpAnyH_take (i := 1) (v := obV 10 false 0 0 0 ⟨#[]⟩) rfl (by kernel_rfl) (by kernel_rfl) (by kernel_rfl) (fun _ _ _ h => h) (Or.inl ⟨by rfl, fun wx hS => ?_⟩) SX.out ?_
          · obtain ⟨⟨c0, c1, c2, c3, c4, c5⟩, _⟩ := cells6 hS.2.2; go_simp
          try simp only [Act.put, List.getElem_toArray, List.getElem_cons_succ, List.getElem_cons_zero, List.setIfInBounds_toArray, List.set_cons_zero, List.set_cons_succ]
          refine wpAnyH_take (i := 2) (v := obV k1 x1 n1 a1 l1 s1) rfl (by kernel_rfl) (by kernel_rfl) (by kernel_rfl) (fun _ _ _ h => h) (Or.inl ⟨by rfl, fun wx hS => ?_⟩) SX.out ?_
          · obtain ⟨⟨c0, c1, c2, c3, c4, c5⟩, _⟩ := cells6 hS.2.1; go_simp
          try simp only [Act.put, List.getElem_toArray, List.getElem_cons_succ, List.getElem_cons_zero, List.setIfInBounds_toArray, List.set_cons_zero, List.set_cons_succ]
          refine wpAnyH_take (i := 3) (v := obV 3 false A.val 0 0 ⟨#[]⟩) rfl (by kernel_rfl) (by kernel_rfl) (by kernel_rfl) (fun _ _ _ h => h) (Or.inl ⟨by rfl, fun wx hS => ?_⟩) SX.out ?_
          · obtain ⟨⟨c0, c1, c2, c3, c4, c5⟩, _⟩ := cells6 hS.1; go_simp
          try simp only [Act.put, List.getElem_toArray, List.getElem_cons_succ, List.getElem_cons_zero, List.setIfInBounds_toArray, List.set_cons_zero, List.set_cons_succ]
          refine wpAnyH_take (i := 5) (v := ptr rb) rfl (by kernel_rfl) (by kernel_rfl) (by kernel_rfl) (fun _ _ _ h => h) (Or.inl ⟨by rfl, fun wx hS => ?_⟩) SX.out ?_
          · go_simp
          try simp only [Act.put, List.getElem_toArray, List.getElem_cons_succ, List.getElem_cons_zero, List.setIfInBounds_toArray, List.set_cons_zero, List.set_cons_succ]
          refine wpAnyH_take (i := 6) (v := obV 10 false 0 0 0 ⟨#[]⟩) rfl (by kernel_rfl) (by kernel_rfl) (by kernel_rfl) (fun _ _ _ h => h) (Or.inl ⟨by rfl, fun wx hS => ?_⟩) SX.out ?_
          · obtain ⟨⟨c0, c1, c2, c3, c4, c5⟩, _⟩ := cells6 hS.2.2; go_simp
          try simp only [Act.put, List.getElem_toArray, List.getElem_cons_succ, List.getElem_cons_zero, List.setIfInBounds_toArray, List.set_cons_zero, List.set_cons_succ]
          refine wpAnyH_take (i := 7) (v := obV k1 x1 n1 a1 l1 s1) rfl (by kernel_rfl) (by kernel_rfl) (by kernel_rfl) (fun _ _ _ h => h) (Or.inl ⟨by rfl, fun wx hS => ?_⟩) SX.out ?_
          · obtain ⟨⟨c0, c1, c2, c3, c4, c5⟩, _⟩ := cells6 hS.2.1; go_simp
          try simp only [Act.put, List.getElem_toArray, List.getElem_cons_succ, List.getElem_cons_zero, List.setIfInBounds_toArray, List.set_cons_zero, List.set_cons_succ]
          refine wpAnyH_take (i := 8) (v := obV 3 false A.val 0 0 ⟨#[]⟩) rfl (by kernel_rfl) (by kernel_rfl) (by kernel_rfl) (fun _ _ _ h => h) (Or.inl ⟨by rfl, fun wx hS => ?_⟩) SX.out ?_
          · obtain ⟨⟨c0, c1, c2, c3, c4, c5⟩, _⟩ := cells6 hS.1; go_simp
          try simp only [Act.put, List.getElem_toArray, List.getElem_cons_succ, List.getElem_cons_zero, List.setIfInBounds_toArray, List.set_cons_zero, List.set_cons_succ]
          refine wpAnyH_ready (rs := [4]) (by kernel_rfl) (by simp) ?_
          refine AllReadyH.cons rfl (fun K hK => ?_) AllReadyH.nil
          go_simp
          have hcc := R.out.call fun out h => pSet12 h HG.out ⟨k1, x1, n1, a1, l1, s1⟩ ⟨3, false, A.val, 0, 0, ⟨#[]⟩⟩
          simp only [Ob.val, dO0] at hcc
          refine hcc.mono ?_
          rintro e wa ⟨rfl, rr⟩
          replace R := Lib.hid rr
          have SY := Lib.hid (And.intro (R.out.box (b2, obObj 3 false A.val 0 0 ⟨#[]⟩) (by simp)).1 (And.intro (R.out.box (b1, obObj k1 x1 n1 a1 l1 s1) (by simp)).1 (R.out.box (BC, obObj 10 false 0 0 0 ⟨#[]⟩) (by simp)).1))
          clear hcc rr SX
          have SX := SY
          clear SY
          refine hK.out _ _ SX.out (fun _ => ?_)
          clear hK
          try simp only [Act.put, List.getElem_toArray, List.getElem_cons_succ, List.getElem_cons_zero, List.setIfInBounds_toArray, List.set_cons_zero, List.set_cons_succ]
          refine wpAnyH_ready (rs := [9]) (by kernel_rfl) (by simp) ?_
          refine AllReadyH.cons rfl (fun K hK => ?_) AllReadyH.nil
          go_simp
          have hcc := R.out.call fun out h => qset12 h HG.out ⟨k1, x1, n1, a1, l1, s1⟩ ⟨3, false, A.val, 0, 0, ⟨#[]⟩⟩
          simp only [Ob.val, dO0] at hcc
          refine hcc.mono ?_
          rintro e wb ⟨rfl, rr⟩
          replace R := Lib.hid rr
          have SY := Lib.hid (And.intro (R.out.box (b2, obObj 3 false A.val 0 0 ⟨#[]⟩) (by simp)).1 (And.intro (R.out.box (b1, obObj k1 x1 n1 a1 l1 s1) (by simp)).1 (R.out.box (BC, obObj 10 false 0 0 0 ⟨#[]⟩) (by simp)).1))
          clear hcc rr SX
          have SX := SY
          clear SY
          refine hK.out _ _ SX.out (fun _ => ?_)
          clear hK
          try simp only [Act.put, List.getElem_toArray, List.getElem_cons_succ, List.getElem_cons_zero, List.setIfInBounds_toArray, List.set_cons_zero, List.set_cons_succ]
          refine wpAnyH_take (i := 10) (v := .bool false) rfl (by kernel_rfl) (by kernel_rfl) (by kernel_rfl) (fun _ _ _ h => h) (Or.inl ⟨by rfl, fun wx hS => ?_⟩) SX.out ?_
          · go_simp
          try simp only [Act.put, List.getElem_toArray, List.getElem_cons_succ, List.getElem_cons_zero, List.setIfInBounds_toArray, List.set_cons_zero, List.set_cons_succ]
          refine wpAnyH_done (by kernel_rfl) ?_ _
          (try refine no_panic ?_)
          clear SX
          go_wp2
          go_meet
          exact ⟨_, (by have := HP.out; split <;> first | (have := dsetL_length ps (keyO (H1 ps rm) ⟨k1, x1, n1, a1, l1, s1⟩) ⟨3, false, A.val, 0, 0, ⟨#[]⟩⟩; omg) | omg), (by split <;> first | exact HG.out.set (by assumption) | exact HG.out), R.out⟩
        · have t2 : (A.what == 0) = false := by simpa using hw0
          by_cases hw1 : A.what = 1
          · have t3 : (A.what == 1) = true := by simp [hw1]
            go_upto_region 25 with fail
            replace R := Lib.hid (R.out.later (Below.refl _ _).drew)
            (try refine wp_region_noPanic ?_)
            refine wp_region_held_drew (S := fun wx => wx.heap[b2]? = some (obObj 3 false A.val 0 0 ⟨#[]⟩) ∧ wx.heap[b1]? = some (obObj k1 x1 n1 a1 l1 s1) ∧ wx.heap[BC]? = some (obObj 10 false 0 0 0 ⟨#[]⟩)) (by kernel_rfl) ⟨(R.out.box (b2, obObj 3 false A.val 0 0 ⟨#[]⟩) (by simp)).1, (R.out.box (b1, obObj k1 x1 n1 a1 l1 s1) (by simp)).1, (R.out.box (BC, obObj 10 false 0 0 0 ⟨#[]⟩) (by simp)).1⟩ (fun sx0 => ?_)
            have SX := Lib.hid sx0
            clear sx0
            generalize World.drew _ = wd at R SX ⊢
            refine wpAnyH_take (i := 0) (v := ptr hb) rfl (by kernel_rfl) (by kernel_rfl) (by kernel_rfl) (fun _ _ _ h => h) (Or.inl ⟨by rfl, fun wx hS => ?_⟩) SX.out ?_
            · go_simp
            try simp only [Act.put, List.getElem_toArray, List.getElem_cons_succ, List.getElem_cons_zero, List.setIfInBounds_toArray, List.set_cons_zero, List.set_cons_succ]
            refine wpAnyH_take (i := 1) (v := obV 10 false 0 0 0 ⟨#[]⟩) rfl (by kernel_rfl) (by kernel_rfl) (by kernel_rfl) (fun _ _ _ h => h) (Or.inl ⟨by rfl, fun wx hS => ?_⟩) SX.out ?_
            · obtain ⟨⟨c0, c1, c2, c3, c4, c5⟩, _⟩ := cells6 hS.2.2; go_simp
            try simp only [Act.put, List.getElem_toArray, List.getElem_cons_succ, List.getElem_cons_zero, List.setIfInBounds_toArray, List.set_cons_zero, List.set_cons_succ]
            refine wpAnyH_take (i := 2) (v := obV k1 x1 n1 a1 l1 s1) rfl (by kernel_rfl) (by kernel_rfl) (by kernel_rfl) (fun _ _ _ h => h) (Or.inl ⟨by rfl, fun wx hS => ?_⟩) SX.out ?_
            · obtain ⟨⟨c0, c1, c2, c3, c4, c5⟩, _⟩ := cells6 hS.2.1; go_simp
            try simp only [Act.put, List.getElem_toArray, List.getElem_cons_succ, List.getElem_cons_zero, List.setIfInBounds_toArray, List.set_cons_zero, List.set_cons_succ]
            refine wpAnyH_take (i := 4) (v := ptr rb) rfl (by kernel_rfl) (by kernel_rfl) (by kernel_rfl) (fun _ _ _ h => h) (Or.inl ⟨by rfl, fun wx hS => ?_⟩) SX.out ?_
            · go_simp
            try simp only [Act.put, List.getElem_toArray, List.getElem_cons_succ, List.getElem_cons_zero, List.setIfInBounds_toArray, List.set_cons_zero, List.set_cons_succ]
            refine wpAnyH_take (i := 5) (v := obV 10 false 0 0 0 ⟨#[]⟩) rfl (by kernel_rfl) (by kernel_rfl) (by kernel_rfl) (fun _ _ _ h => h) (Or.inl ⟨by rfl, fun wx hS => ?_⟩) SX.out ?_
            · obtain ⟨⟨c0, c1, c2, c3, c4, c5⟩, _⟩ := cells6 hS.2.2; go_simp
            try simp only [Act.put, List.getElem_toArray, List.getElem_cons_succ, List.getElem_cons_zero, List.setIfInBounds_toArray, List.set_cons_zero, List.set_cons_succ]
            refine wpAnyH_take (i := 6) (v := obV k1 x1 n1 a1 l1 s1) rfl (by kernel_rfl) (by kernel_rfl) (by kernel_rfl) (fun _ _ _ h => h) (Or.inl ⟨by rfl, fun wx hS => ?_⟩) SX.out ?_
            · obtain ⟨⟨c0, c1, c2, c3, c4, c5⟩, _⟩ := cells6 hS.2.1; go_simp
            try simp only [Act.put, List.getElem_toArray, List.getElem_cons_succ, List.getElem_cons_zero, List.setIfInBounds_toArray, List.set_cons_zero, List.set_cons_succ]
            refine wpAnyH_ready (rs := [3]) (by kernel_rfl) (by simp) ?_
            refine AllReadyH.cons rfl (fun K hK => ?_) AllReadyH.nil
            go_simp
            have hcc := R.out.call fun out h => pDrop12 h HG.out ⟨k1, x1, n1, a1, l1, s1⟩
            simp only [Ob.val, dO0] at hcc
            refine hcc.mono ?_
            rintro e wa ⟨rfl, rr⟩
            replace R := Lib.hid rr
            have SY := Lib.hid (And.intro (R.out.box (b2, obObj 3 false A.val 0 0 ⟨#[]⟩) (by simp)).1 (And.intro (R.out.box (b1, obObj k1 x1 n1 a1 l1 s1) (by simp)).1 (R.out.box (BC, obObj 10 false 0 0 0 ⟨#[]⟩) (by simp)).1))
            clear hcc rr SX
            have SX := SY
            clear SY
            refine hK.out _ _ SX.out (fun _ => ?_)
            clear hK
            try simp only [Act.put, List.getElem_toArray, List.getElem_cons_succ, List.getElem_cons_zero, List.setIfInBounds_toArray, List.set_cons_zero, List.set_cons_succ]
            refine wpAnyH_ready (rs := [7]) (by kernel_rfl) (by simp) ?_
            refine AllReadyH.cons rfl (fun K hK => ?_) AllReadyH.nil
            go_simp
            have hcc := R.out.call fun out h => qdrop12 h HG.out ⟨k1, x1, n1, a1, l1, s1⟩
            simp only [Ob.val, dO0] at hcc
            refine hcc.mono ?_
            rintro e wb ⟨rfl, rr⟩
            replace R := Lib.hid rr
            have SY := Lib.hid (And.intro (R.out.box (b2, obObj 3 false A.val 0 0 ⟨#[]⟩) (by simp)).1 (And.intro (R.out.box (b1, obObj k1 x1 n1 a1 l1 s1) (by simp)).1 (R.out.box (BC, obObj 10 false 0 0 0 ⟨#[]⟩) (by simp)).1))
            clear hcc rr SX
            have SX := SY
            clear SY
            refine hK.out _ _ SX.out (fun _ => ?_)
            clear hK
            try simp only [Act.put, List.getElem_toArray, List.getElem_cons_succ, List.getElem_cons_zero, List.setIfInBounds_toArray, List.set_cons_zero, List.set_cons_succ]
            refine wpAnyH_take (i := 8) (v := .bool false) rfl (by kernel_rfl) (by kernel_rfl) (by kernel_rfl) (fun _ _ _ h => h) (Or.inl ⟨by rfl, fun wx hS => ?_⟩) SX.out ?_
            · go_simp
            try simp only [Act.put, List.getElem_toArray, List.getElem_cons_succ, List.getElem_cons_zero, List.setIfInBounds_toArray, List.set_cons_zero, List.set_cons_succ]
            refine wpAnyH_done (by kernel_rfl) ?_ _
            (try refine no_panic ?_)
            clear SX
            go_wp2
            go_meet
            exact ⟨_, (by have := HP.out; split <;> first | (have := drop_len ps (keyO (H1 ps rm) ⟨k1, x1, n1, a1, l1, s1⟩); omg) | omg), (by split <;> first | exact HG.out.drop _ | exact HG.out), R.out⟩
          · have t3 : (A.what == 1) = false := by simpa using hw1
            go_wp2
            go_meet
            exact ⟨ps, by have := HP.out; omg, HG.out, R.out⟩
      case rest =>
      obtain ⟨ps', hps', hG', hr'⟩ := hcut
      clear R HG HP KO KE
      have R := Lib.hid hr'
      have HG := Lib.hid hG'
      have HP := Lib.hid hps'
      clear hr' hG' hps'
      obtain ⟨ka, xa, na, aa, la, sa, hKO⟩ : ∃ k x n a l s, dgetO (H1 ps' rm) ps' ⟨k1, x1, n1, a1, l1, s1⟩ = ⟨k, x, n, a, l, s⟩ := ⟨_, _, _, _, _, _, rfl⟩
      obtain ⟨ea, hKE⟩ : ∃ ea, dgetE (H1 ps' rm) ps' ⟨k1, x1, n1, a1, l1, s1⟩ = ea := ⟨_, rfl⟩
      have KO := Lib.hid hKO
      have KE := Lib.hid hKE
      clear hKO hKE
      obtain ⟨⟨c0, c1, c2, c3, c4, c5⟩, _⟩ := cells6 (R.out.box (BC, obObj 10 false 0 0 0 ⟨#[]⟩) (by simp)).1
      obtain ⟨⟨d0, d1, d2, d3, d4, d5⟩, _⟩ := cells6 (R.out.box (b1, obObj k1 x1 n1 a1 l1 s1) (by simp)).1
      go_wp2_with fail
      have hc := R.out.leaf fun out h => pGet12 h HG.out ⟨k1, x1, n1, a1, l1, s1⟩
      rw [KO.out, KE.out] at hc; simp only [Ob.val, dO0] at hc
      refine hc.mono ?_
      rintro e w11 ⟨rfl, rr⟩
      replace R := Lib.hid rr
      clear hc rr c0 c1 c2 c3 c4 c5 d0 d1 d2 d3 d4 d5
      go_upto_region 28 with fail
      obtain ⟨w12, e12, rr, z12⟩ := R.out.one ⟨ka, xa, na, aa, la, sa⟩
      rw [e12]
      replace R := Lib.hid rr
      clear e12 rr z12
      generalize w11.heap.size = b5 at R ⊢
      obtain ⟨⟨c0, c1, c2, c3, c4, c5⟩, _⟩ := cells6 (R.out.box (BC, obObj 10 false 0 0 0 ⟨#[]⟩) (by simp)).1
      obtain ⟨⟨d0, d1, d2, d3, d4, d5⟩, _⟩ := cells6 (R.out.box (b1, obObj k1 x1 n1 a1 l1 s1) (by simp)).1
      go_wp2_with fail
      have hc := R.out.leaf fun out h => qget12 h HG.out ⟨k1, x1, n1, a1, l1, s1⟩
      rw [KO.out, KE.out] at hc; simp only [Ob.val, dO0] at hc
      refine hc.mono ?_
      rintro e w13 ⟨rfl, rr⟩
      replace R := Lib.hid rr
      clear hc rr c0 c1 c2 c3 c4 c5 d0 d1 d2 d3 d4 d5
      go_upto_region 29 with fail
      obtain ⟨w14, e14, rr, z14⟩ := R.out.one ⟨ka, xa, na, aa, la, sa⟩
      rw [e14]
      replace R := Lib.hid rr
      clear e14 rr z14
      generalize w13.heap.size = b6 at R ⊢
      obtain ⟨nn, hnn⟩ : ∃ nn, ps'.length = nn := ⟨_, rfl⟩
      obtain ⟨zz, hzz⟩ : ∃ zz, 2 * nn = zz := ⟨_, rfl⟩
      have HN := Lib.hid hnn
      have HZ := Lib.hid hzz
      have HW := Lib.hid (wrp (x := 2 * (nn : Int)) (zz : Int) (by omega) (by omega) (by have := HP.out; have := HL.out; omega))
      have HPL : Hid (ps'.length ≤ 500) := Lib.hid (by have := HP.out; have := HL.out; omega)
      clear hnn hzz
      obtain ⟨⟨c0, c1, c2, c3, c4, c5⟩, _⟩ := cells6 (R.out.box (BC, obObj 10 false 0 0 0 ⟨#[]⟩) (by simp)).1
      go_wp2_with fail
      obtain ⟨out, hd, fin⟩ := R.out.step
      have hc := pPairs hd HG.out
      simp only [Ob.val, dO0] at hc
      refine hc.mono ?_
      rintro e w15 ⟨⟨vp, rfl, hv⟩, kc⟩
      obtain ⟨adp, cpp, hvv, _⟩ := id hv
      rw [HN.out, HZ.out] at hvv
      subst hvv
      have PVp := Lib.hid hv
      replace R := Lib.hid (fin _ _ _ (hd.below kc) (hd.kept kc))
      have KC := Lib.hid kc
      clear hc hd fin hv kc c0 c1 c2 c3 c4 c5
      clear KC
      obtain ⟨⟨c0, c1, c2, c3, c4, c5⟩, _⟩ := cells6 (R.out.box (BC, obObj 10 false 0 0 0 ⟨#[]⟩) (by simp)).1
      go_wp2_with fail
      obtain ⟨out, hd, fin⟩ := R.out.step
      have hc := qPairs hd HG.out
      simp only [Ob.val, dO0] at hc
      refine hc.mono ?_
      rintro e w16 ⟨⟨vq, rfl, hv⟩, kc⟩
      obtain ⟨adq, cpq, hvv, _⟩ := id hv
      rw [HN.out, HZ.out] at hvv
      subst hvv
      have PVq := Lib.hid hv
      replace R := Lib.hid (fin _ _ _ (hd.below kc) (hd.kept kc))
      have KC := Lib.hid kc
      clear hc hd fin hv kc c0 c1 c2 c3 c4 c5
      replace PVp := Lib.hid (PVp.out.later KC.out)
      clear KC
      obtain ⟨⟨c0, c1, c2, c3, c4, c5⟩, _⟩ := cells6 (R.out.box (BC, obObj 10 false 0 0 0 ⟨#[]⟩) (by simp)).1
      go_wp2_with fail
      obtain ⟨out, hd, fin⟩ := R.out.step
      have hc := pLen hd HG.out
      simp only [Ob.val, dO0] at hc
      rw [HN.out] at hc
      refine hc.mono ?_
      rintro e w17 ⟨rfl, kc⟩
      replace R := Lib.hid (fin _ _ _ (hd.below kc) (hd.kept kc))
      replace PVp := Lib.hid (PVp.out.later kc)
      replace PVq := Lib.hid (PVq.out.later kc)
      clear hc hd fin kc c0 c1 c2 c3 c4 c5
      obtain ⟨⟨c0, c1, c2, c3, c4, c5⟩, _⟩ := cells6 (R.out.box (BC, obObj 10 false 0 0 0 ⟨#[]⟩) (by simp)).1
      go_wp2_with fail
      obtain ⟨out, hd, fin⟩ := R.out.step
      have hc := pRoom hd HG.out
      simp only [Ob.val, dO0] at hc
      skip
      refine hc.mono ?_
      rintro e w18 ⟨rfl, kc⟩
      replace R := Lib.hid (fin _ _ _ (hd.below kc) (hd.kept kc))
      replace PVp := Lib.hid (PVp.out.later kc)
      replace PVq := Lib.hid (PVq.out.later kc)
      clear hc hd fin kc c0 c1 c2 c3 c4 c5
      obtain ⟨⟨c0, c1, c2, c3, c4, c5⟩, _⟩ := cells6 (R.out.box (b5, obObj ka xa na aa la sa) (by simp)).1
      obtain ⟨⟨d0, d1, d2, d3, d4, d5⟩, _⟩ := cells6 (R.out.box (b6, obObj ka xa na aa la sa) (by simp)).1
      go_wp2_with fail
      have hc := same_prs PVp.out PVq.out HPL.out
      refine hc.mono ?_
      rintro e w19 ⟨rfl, kc⟩
      replace R := Lib.hid (R.out.later kc)
      clear hc kc c0 c1 c2 c3 c4 c5 d0 d1 d2 d3 d4 d5 PVp PVq
      obtain ⟨v1, v1'⟩ := HW.out
      have t4 : IntKind.i64.wrap ((j : Int) + 1) = (j : Int) + 1 := (wrp _ rfl (by omg) (by have := HP.out; have := HL.out; have := h40; omg)).1
      go_wp2
      go_roundw
      case rel => exact ⟨j + 1, ps', HL.out, by simp, HP.out, HG.out, R.out.sub (by repeat (first | exact List.Sublist.refl _ | apply List.Sublist.cons))⟩
      case measure => exact measure_up n j _ (by go_num) HL.out
    · obtain rfl : j = n := by omega
      clear hlt hj
      go_wp2_with fail
      have hc := R.out.leaf fun out h => pUsed12 h
      skip
      refine hc.mono ?_
      rintro e w20 ⟨rfl, rr⟩
      replace R := Lib.hid rr
      clear hc rr 
      go_wp2_with fail
      have hc := R.out.leaf fun out h => qUsed12 h
      skip
      refine hc.mono ?_
      rintro e w21 ⟨rfl, rr⟩
      replace R := Lib.hid rr
      clear hc rr 
      go_wp2
      go_ret
      exact ⟨ret_bool (by simp), R.out.low⟩
end Go.Proofs.Ytlkbnldpecolbaa
