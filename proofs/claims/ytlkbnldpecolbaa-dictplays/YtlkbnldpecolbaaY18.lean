/- Y18: U4, U5, U6, U7. -/
import Derived.Test.YtlkbnldpecolbaaY17
import Derived.Test.YtlkbnldpecolbaaY16
/- Walks of tympanref11: Dict. -/
namespace Go.Proofs.Ytlkbnldpecolbaa
open Go.RowKit
set_option linter.unusedVariables false

/-- Dict. -/
def dicE (P : List Cel) (n : Int) : Int := if n < 0 ∨ 1000 < n then 2 else mkE P (2 * n.toNat + 1)
def dicO (P : List Cel) (n : Int) : Ob := if dicE P n = 0 then mkO P 10 (2 * n.toNat + 1) else Ob.zero
def dicP (P : List Cel) (n : Int) : List Cel := if n < 0 ∨ 1000 < n then P else mkP P ⟨10, false, emptyD n.toNat, []⟩
section
variable {own : Nat → Prop} {rb : Nat} {v : Value} {R : List RC} {w : World}
set_option maxHeartbeats 1000000 in
set_option maxRecDepth 100000 in
theorem rdict_err (rb : Nat) (n : Int) (hn : decide (n < 0) = true ∨ (decide (n < 0) = false ∧ 1000 < n)) (w : World) : Calls Try.prog 25 #[ptr rb, .int .i64 n] w fun e w' => e = .returned (.tuple #[zeroOb, .int .i64 2]) ∧ Below w.heap.size w w' := by
  rcases hn with hn | ⟨hn, hn2⟩
  · go_enter Try.func25, Try.ntmps25
    go_upto_region 1 with fail
    obtain ⟨wa, ea, ka, za, oa⟩ := zero_box w
    rw [ea]
    have KA := Lib.hid ka
    have OA := Lib.hid oa
    obtain ⟨⟨o0, o1, o2, o3, o4, o5⟩, g0, g1, g2, g3, g4, g5⟩ := cells6 oa
    clear ea ka za oa
    go_wp2
    (try simp only [Exit.inBlock, Exit.then])
    exact bodyPost_ret (ret_cell rfl _ _ _ _ _ _ _ _ rfl rfl (set6 OA.out _ _ _ _ _ _) Try.underlying30 rfl (by kernel_rfl)) rfl ⟨rfl, set6_below KA.out (Nat.le_refl _) _ _ _ _ _ _⟩
  · go_enter Try.func25, Try.ntmps25
    go_upto_region 1 with fail
    obtain ⟨wa, ea, ka, za, oa⟩ := zero_box w
    rw [ea]
    have KA := Lib.hid ka
    have OA := Lib.hid oa
    obtain ⟨⟨o0, o1, o2, o3, o4, o5⟩, g0, g1, g2, g3, g4, g5⟩ := cells6 oa
    clear ea ka za oa
    go_wp2
    (try simp only [Exit.inBlock, Exit.then])
    exact bodyPost_ret (ret_cell rfl _ _ _ _ _ _ _ _ rfl rfl (set6 OA.out _ _ _ _ _ _) Try.underlying30 rfl (by kernel_rfl)) rfl ⟨rfl, set6_below KA.out (Nat.le_refl _) _ _ _ _ _ _⟩
set_option maxHeartbeats 2000000 in
set_option maxRecDepth 100000 in
theorem rdict_in (h : RH own rb v R w) (ho : ∀ b, own b → b < w.heap.size) (n m : Nat) (hm : m = 2 * n) (hn : n ≤ 1000) (k' n' a' l' E : Int) (x' : Bool) (s' : ByteArray) (hO : mkO (cels R) 10 (m + 1) = ⟨k', x', n', a', l', s'⟩) (hE : mkE (cels R) (m + 1) = E) :
    Calls Try.prog 25 #[ptr rb, .int .i64 n] w fun e w' => e = .returned (.tuple #[obV k' x' n' a' l' s', .int .i64 E]) ∧ (∃ v' R', RH (Plus own w w') rb v' R' w' ∧ cels R' = mkP (cels R) ⟨10, false, emptyD n, []⟩ ∧ (v' = v ∨ ∀ g, v'.ownBlock = some g → w.heap.size ≤ g)) ∧ Kept (fun b => b < w.heap.size ∧ b ≠ rb) w w' := by
  have H := Lib.hid h
  have HO := Lib.hid ho
  have HM := Lib.hid hm
  have h1 : decide ((n : Int) < 0) = false := decide_eq_false (by omega)
  have h2 : decide ((n : Int) > 1000) = false := decide_eq_false (by omega)
  have e1 : IntKind.i64.wrap (2 * (n : Int)) = m := by rw [wrapi_in _ (by omega) (by omega)]; omega
  have e2 : IntKind.i64.wrap ((m : Int) + 1) = ((m + 1 : Nat) : Int) := by rw [wrapi_in _ (by omega) (by omega)]; omega
  have QO := Lib.hid hO
  have QE := Lib.hid hE
  have HN := Lib.hid hn
  clear h ho hO hE hm hn
  go_enter Try.func25, Try.ntmps25
  go_upto_region 1 with fail
  obtain ⟨wa, ea, ka, za, oa⟩ := zero_box w
  rw [ea]
  have KA := Lib.hid ka
  have ZA := Lib.hid za
  have OA := Lib.hid oa
  clear ea ka za oa
  go_wp2_with fail
  refine (rnulls_any (m + 1) (by have := HM.out; have := HN.out; omega) wa).mono ?_
  rintro e w1 ⟨rfl, hown, k1, l1⟩
  have B3 := Lib.hid hown
  have B5 := Lib.hid k1
  have L1 := Lib.hid l1
  obtain ⟨gr', cap', ev, c0, c1, c2, c3, c4, c5⟩ := row_item (l := List.replicate (m + 1) Ob.null) (by rw [List.length_replicate]; exact hown.mono (Nat.zero_le _)) (i := 0) (o := Ob.null) (by simp)
  obtain ⟨hgr, hcp⟩ : wa.heap.size = gr' ∧ m + 1 = cap' := by rw [List.length_replicate] at ev; simpa using ev
  subst hgr
  clear hcp
  dsimp only [Ob.null] at c0 c1 c2 c3 c4 c5
  simp only [Nat.zero_mul, Nat.zero_add] at c0 c1 c2 c3 c4 c5
  have f0 : w1.frozen? ⟨wa.heap.size, 0, none⟩ = false := hown.frozenAt 0
  have f1 : w1.frozen? ⟨wa.heap.size, 1, none⟩ = false := hown.frozenAt 1
  have f2 : w1.frozen? ⟨wa.heap.size, 2, none⟩ = false := hown.frozenAt 2
  have f3 : w1.frozen? ⟨wa.heap.size, 3, none⟩ = false := hown.frozenAt 3
  have f4 : w1.frozen? ⟨wa.heap.size, 4, none⟩ = false := hown.frozenAt 4
  have f5 : w1.frozen? ⟨wa.heap.size, 5, none⟩ = false := hown.frozenAt 5
  have hz : (0 : Int) < ((m + 1 : Nat) : Int) := by omega
  have hz' : (0 : Int) ≤ 0 := by omega
  clear hown k1 l1 ev
  go_upto_region 5 with fail
  obtain ⟨wz, ez⟩ : ∃ wz, w1.setCells wa.heap.size 0 [.int .i64 3, .bool false, .int .i64 0, .int .i64 0, .int .i64 0, .string ⟨#[]⟩] = wz := ⟨_, rfl⟩
  change Code.wp _ _ _ _ (w1.setCells wa.heap.size 0 [.int .i64 3, .bool false, .int .i64 0, .int .i64 0, .int .i64 0, .string ⟨#[]⟩])
  rw [ez]
  have E0 := owns_put (Ob.num 0).cells 0 w1 _ B3.out
  have kz : Below wa.heap.size wa wz := by rw [← ez]; exact below_set6 B5.out (Nat.le_refl _) _ _ _ _ _ _
  have hown : wz.ownsRow w.heap.size 30 6 (.slice (some ⟨wa.heap.size, 0, none⟩) (m + 1) (m + 1)) (m + 1) (obCells (emptyD n)) := by
    have q := E0.1
    have := obCells_put (Ob.num 0) (List.replicate (m + 1) Ob.null) 0 (by simp)
    rw [Nat.zero_mul] at this
    rw [this, show List.replicate (m + 1) Ob.null = List.replicate (2 * n + 1) Ob.null from by rw [HM.out], emptyD_set] at q
    rw [← ez]
    exact q.mono (by have := KA.out.size; exact this)
  have S : Hid (Below w.heap.size w wz ∧ wa.heap.size < wz.heap.size) := Lib.hid ⟨below_and KA.out kz, (hown.lt _ rfl).2⟩
  have RO : Hid (wz.heap[w.heap.size]? = some emptyOb) := Lib.hid ((kz.block _ (blk_lt OA.out)).trans OA.out)
  clear kz E0 ez c0 c1 c2 c3 c4 c5 f0 f1 f2 f3 f4 f5 hz hz' B3 B5 L1
  have nv : ∀ g, v.ownBlock = some g → g < w.heap.size := fun g e => by
    rcases H.out.row with ⟨rfl, _⟩ | ⟨g', cap', rfl, _, q, hg, _⟩
    · cases e
    · have : g' = g := by simpa [Value.ownBlock] using e
      omega
  have H1 := Lib.hid (H.out.kept (own' := fun b => own b ∨ b = wa.heap.size) (fun b q => .inl q) S.out.1.size fun b q hb => S.out.1.block b hb)
  have hrb := blk_lt H.out.hdr
  have HR1 : Hid (rowC wz (Im (fun b => own b ∨ b = wa.heap.size) rb v) (.slice (some ⟨wa.heap.size, 0, none⟩) (m + 1) (m + 1)) (emptyD n).length (obCells (emptyD n)) ∧ rowC wz (Im (fun b => own b ∨ b = wa.heap.size) rb v) (.slice none 0 0) 0 (byCells [])) := Lib.hid
    ⟨by
      rw [emptyD_length, ← HM.out]
      refine rowC_of_owns hown (fun g e => ?_) (fun e => by omega)
      have : wa.heap.size = g := by simpa [Value.ownBlock] using e
      subst this
      exact ⟨.inr rfl, by have := ZA.out; omega, fun e => by have := nv _ e; have := ZA.out; omega⟩, .inl ⟨rfl, rfl, rfl⟩⟩
  clear hown nv hrb
  go_wp2_with fail
  have C := rmake_tot H1.out (fun b q => by rcases q with q | q; exact Nat.lt_of_lt_of_le (HO.out b q) S.out.1.size; have := S.out.2; omega) ⟨⟨10, false, emptyD n, []⟩, .slice (some ⟨wa.heap.size, 0, none⟩) (m + 1) (m + 1), .slice none 0 0⟩ HR1.out (.inr ⟨.inr rfl, rfl⟩) (by show (emptyD n).length + 0 ≤ 40001; rw [emptyD_length]; have := HN.out; omega)
  rw [show (⟨10, false, emptyD n, []⟩ : Cel).size = m + 1 from by simp [Cel.size, emptyD_length, HM.out]] at C
  simp only [QO.out, QE.out, Ob.val] at C
  refine C.mono ?_
  clear C
  rintro e w2 ⟨rfl, ⟨v', R', rh, hc, nv⟩, kp⟩
  have NV := Lib.hid nv
  have HC := Lib.hid hc
  clear nv hc
  have RO2 := Lib.hid ((kp.block _ ⟨blk_lt RO.out, by have := blk_lt H.out.hdr; omega⟩).trans RO.out)
  have RH2 := Lib.hid rh
  have KP := Lib.hid kp
  clear rh kp
  obtain ⟨⟨o0, o1, o2, o3, o4, o5⟩, g0, g1, g2, g3, g4, g5⟩ := cells6 RO2.out
  go_wp2
  (try simp only [Exit.inBlock, Exit.then])
  have on6 := only6 w.heap.size w2 (.int .i64 k') (.bool x') (.int .i64 n') (.int .i64 a') (.int .i64 l') (.string s')
  have hs1 := S.out.1.size
  have hs2 := KP.out.size
  refine bodyPost_ret (ret_cell rfl _ _ _ _ _ _ _ _ rfl rfl (set6 RO2.out _ _ _ _ _ _) Try.underlying30 rfl (by kernel_rfl)) rfl ⟨rfl, ⟨v', R', RH2.out.kept (fun b q => ?_) (by rw [on6.size]; exact Nat.le_refl _) (fun b q hb => on6.block b ?_), HC.out, NV.out.elim .inl fun q => .inr fun g e => Nat.le_trans hs1 (q g e)⟩, ?_⟩
  · rcases q with (q | q) | q
    · exact .inl q
    · exact .inr ⟨by have := ZA.out; omega, by rw [on6.size]; have := S.out.2; omega⟩
    · exact .inr ⟨by omega, by rw [on6.size]; exact q.2⟩
  · rcases q with (q | q) | q
    · have := HO.out b q
      omega
    · have := ZA.out
      omega
    · have := S.out.2
      have := ZA.out
      omega
  · refine (Kept.trans (w1 := wz) (kept_of S.out.1 fun b q => q.1) (KP.out.sub fun b q => ⟨Nat.lt_of_lt_of_le q.1 hs1, q.2⟩)).trans (kept_only on6 fun q => Nat.lt_irrefl _ q.1)
theorem rdict_tot (h : RH own rb v R w) (ho : ∀ b, own b → b < w.heap.size) (n : Int) :
    Calls Try.prog 25 #[ptr rb, .int .i64 n] w fun e w' => e = .returned (.tuple #[(dicO (cels R) n).val, .int .i64 (dicE (cels R) n)]) ∧ (∃ v' R', RH (Plus own w w') rb v' R' w' ∧ cels R' = dicP (cels R) n ∧ (v' = v ∨ ∀ g, v'.ownBlock = some g → w.heap.size ≤ g)) ∧ Kept (fun b => b < w.heap.size ∧ b ≠ rb) w w' := by
  by_cases h0 : n < 0 ∨ 1000 < n
  · have e1 : dicE (cels R) n = 2 := by rw [dicE, if_pos h0]
    have e2 : dicO (cels R) n = Ob.zero := by rw [dicO, e1]; rfl
    have e3 : dicP (cels R) n = cels R := by rw [dicP, if_pos h0]
    rw [e1, e2, e3]
    refine (rdict_err rb n (by by_cases q : n < 0; exact .inl (decide_eq_true q); exact .inr ⟨decide_eq_false q, by omega⟩) w).mono ?_
    rintro e w' ⟨rfl, k⟩
    exact ⟨rfl, ⟨_, R, h.plus k, rfl, .inl rfl⟩, below_rb rb k⟩
  · obtain ⟨m, rfl⟩ := Int.eq_ofNat_of_zero_le (by omega : 0 ≤ n)
    have e1 : dicE (cels R) (m : Int) = mkE (cels R) (2 * m + 1) := by rw [dicE, if_neg h0]; rfl
    have e3 : dicP (cels R) (m : Int) = mkP (cels R) ⟨10, false, emptyD m, []⟩ := by rw [dicP, if_neg h0]; rfl
    have e2 : dicO (cels R) (m : Int) = mkO (cels R) 10 (2 * m + 1) := by
      rw [dicO, e1]
      by_cases q : mkE (cels R) (2 * m + 1) = 0
      · rw [if_pos q]; rfl
      · rw [if_neg q, mkO, if_neg q]
    rw [e1, e3, e2]
    rcases hO : mkO (cels R) 10 (2 * m + 1) with ⟨k', x', n', a', l', s'⟩
    exact rdict_in h ho m (2 * m) rfl (by omega) k' n' a' l' _ x' s' hO rfl
end
end Go.Proofs.Ytlkbnldpecolbaa

/- Walks of tympanref11: Get. -/
namespace Go.Proofs.Ytlkbnldpecolbaa
open Go.RowKit
set_option linter.unusedVariables false

set_option maxHeartbeats 1000000 in
set_option maxRecDepth 100000 in
theorem rget_err (rb : Nat) (k n a l i u z E : Int) (x : Bool) (s : ByteArray) (w : World) (hE : (E != 0) = true)
    (h2 : Hid (∀ wx, Below w.heap.size w wx → Calls Try.prog 94 #[ptr rb, obV k x n a l s] wx fun e w' => e = .returned (.tuple #[.int .i64 u, .int .i64 z, .int .i64 E]) ∧ Below wx.heap.size wx w')) :
    Calls Try.prog 70 #[ptr rb, obV k x n a l s, .int .i64 i] w fun e w' => e = .returned (.tuple #[zeroOb, .int .i64 E]) ∧ Below w.heap.size w w' := by
  go_enter Try.func70, Try.ntmps70
  go_upto_region 1 with fail
  obtain ⟨wb, eb, kb, ob, pb⟩ := get_box w k n a l x s
  rw [eb]
  obtain ⟨c0, c1, c2, c3, c4, c5⟩ := ob
  go_wp2_with fail
  refine (h2.out _ kb).mono ?_
  rintro e wc ⟨rfl, kc⟩
  have KC := Lib.hid (below_and kb kc)
  have PC : Hid (wc.heap[w.heap.size + 1]? = some emptyOb) := Lib.hid ((kc.block _ (blk_lt pb)).trans pb)
  clear eb kb pb kc c0 c1 c2 c3 c4 c5
  obtain ⟨⟨c0, c1, c2, c3, c4, c5⟩, f0, f1, f2, f3, f4, f5⟩ := cells6 PC.out
  go_wp2
  (try simp only [Exit.inBlock, Exit.then])
  exact bodyPost_ret (ret_cell rfl _ _ _ _ _ _ _ _ rfl rfl (set6 PC.out _ _ _ _ _ _) Try.underlying30 rfl (by kernel_rfl)) rfl ⟨rfl, set6_below KC.out (by omega) _ _ _ _ _ _⟩
set_option maxHeartbeats 1000000 in
set_option maxRecDepth 100000 in
theorem rget_index (rb : Nat) (k n a l i u z : Int) (x : Bool) (s : ByteArray) (w : World) (hi : decide (i < 0) = true ∨ (decide (i < 0) = false ∧ decide (z ≤ i) = true))
    (h2 : Hid (∀ wx, Below w.heap.size w wx → Calls Try.prog 94 #[ptr rb, obV k x n a l s] wx fun e w' => e = .returned (.tuple #[.int .i64 u, .int .i64 z, .int .i64 0]) ∧ Below wx.heap.size wx w')) :
    Calls Try.prog 70 #[ptr rb, obV k x n a l s, .int .i64 i] w fun e w' => e = .returned (.tuple #[zeroOb, .int .i64 12]) ∧ Below w.heap.size w w' := by
  rcases hi with hi | ⟨hi, hi2⟩
  all_goals
    go_enter Try.func70, Try.ntmps70
    go_upto_region 1 with fail
    obtain ⟨wb, eb, kb, ob, pb⟩ := get_box w k n a l x s
    rw [eb]
    obtain ⟨c0, c1, c2, c3, c4, c5⟩ := ob
    go_wp2_with fail
    refine (h2.out _ kb).mono ?_
    rintro e wc ⟨rfl, kc⟩
    have KC := Lib.hid (below_and kb kc)
    have PC : Hid (wc.heap[w.heap.size + 1]? = some emptyOb) := Lib.hid ((kc.block _ (blk_lt pb)).trans pb)
    clear eb kb pb kc c0 c1 c2 c3 c4 c5
    obtain ⟨⟨c0, c1, c2, c3, c4, c5⟩, f0, f1, f2, f3, f4, f5⟩ := cells6 PC.out
    go_wp2
    (try simp only [Exit.inBlock, Exit.then])
    exact bodyPost_ret (ret_cell rfl _ _ _ _ _ _ _ _ rfl rfl (set6 PC.out _ _ _ _ _ _) Try.underlying30 rfl (by kernel_rfl)) rfl ⟨rfl, set6_below KC.out (by omega) _ _ _ _ _ _⟩
set_option maxHeartbeats 2000000 in
set_option maxRecDepth 100000 in
theorem rget_item (rb g z cap n lo i j g1 m1 c1 : Nat) (k a l zl k' n' a' l' : Int) (x x' : Bool) (s s' : ByteArray) (w : World) (hn : n < z) (h0 : w.cell? ⟨rb, 0, none⟩ = some (.slice (some ⟨g, 0, none⟩) z cap))
    (d1 : w.cell? ⟨g, n * 4 + 1, none⟩ = some (.slice (some ⟨g1, 0, none⟩) m1 c1)) (hj : lo + i = j) (hj1 : j < m1) (hm : m1 ≤ 40000) (hi : (i : Int) < zl) (hk : (k == 8) = false)
    (q0 : w.cell? ⟨g1, j * 6, none⟩ = some (.int .i64 k')) (q1 : w.cell? ⟨g1, j * 6 + 1, none⟩ = some (.bool x')) (q2 : w.cell? ⟨g1, j * 6 + 2, none⟩ = some (.int .i64 n')) (q3 : w.cell? ⟨g1, j * 6 + 3, none⟩ = some (.int .i64 a')) (q4 : w.cell? ⟨g1, j * 6 + 4, none⟩ = some (.int .i64 l')) (q5 : w.cell? ⟨g1, j * 6 + 5, none⟩ = some (.string s'))
    (h2 : Hid (∀ wx, Below w.heap.size w wx → Calls Try.prog 94 #[ptr rb, obV k x n a l s] wx fun e w' => e = .returned (.tuple #[.int .i64 lo, .int .i64 zl, .int .i64 0]) ∧ Below wx.heap.size wx w')) :
    Calls Try.prog 70 #[ptr rb, obV k x n a l s, .int .i64 i] w fun e w' => e = .returned (.tuple #[obV k' x' n' a' l' s', .int .i64 0]) ∧ Below w.heap.size w w' := by
  have t0 : (0 : Int) ≤ n := by omega
  have t1 : (n : Int) < z := by omega
  have t2 : ¬ ((i : Int) < 0) := by omega
  have e5 : IntKind.i64.wrap ((lo : Int) + (i : Int)) = j := by rw [IntWalk.i64_in _ (by omega)]; omega
  have j0 : (0 : Int) ≤ j := by omega
  have j1 : (j : Int) < m1 := by omega
  have DD : Hid (w.cell? ⟨rb, 0, none⟩ = some (.slice (some ⟨g, 0, none⟩) z cap) ∧ w.cell? ⟨g, n * 4 + 1, none⟩ = some (.slice (some ⟨g1, 0, none⟩) m1 c1)) := Lib.hid ⟨h0, d1⟩
  have QQ : Hid (w.cell? ⟨g1, j * 6, none⟩ = some (.int .i64 k') ∧ w.cell? ⟨g1, j * 6 + 1, none⟩ = some (.bool x') ∧ w.cell? ⟨g1, j * 6 + 2, none⟩ = some (.int .i64 n') ∧ w.cell? ⟨g1, j * 6 + 3, none⟩ = some (.int .i64 a') ∧ w.cell? ⟨g1, j * 6 + 4, none⟩ = some (.int .i64 l') ∧ w.cell? ⟨g1, j * 6 + 5, none⟩ = some (.string s')) := Lib.hid ⟨q0, q1, q2, q3, q4, q5⟩
  clear h0 d1 q0 q1 q2 q3 q4 q5 hj hj1 hm hn
  go_enter Try.func70, Try.ntmps70
  go_upto_region 1 with fail
  obtain ⟨wb, eb, kb, ob, pb⟩ := get_box w k n a l x s
  rw [eb]
  have OB := Lib.hid ob
  obtain ⟨c0, c1', c2, c3, c4, c5⟩ := ob
  go_wp2_with fail
  refine (h2.out _ kb).mono ?_
  rintro e wc ⟨rfl, kc⟩
  have kk := below_and kb kc
  have KC := Lib.hid kk
  have PC : Hid (wc.heap[w.heap.size + 1]? = some emptyOb) := Lib.hid ((kc.block _ (blk_lt pb)).trans pb)
  have OC := OB.out.later kc
  clear eb kb pb kc c0 c1' c2 c3 c4 c5
  obtain ⟨c0, c1', c2, c3, c4, c5⟩ := OC
  go_upto_region 8 with fail
  have h0 := cell_later kk DD.out.1
  have d1 := cell_later kk DD.out.2
  have q0 := cell_later kk QQ.out.1
  have q1 := cell_later kk QQ.out.2.1
  have q2 := cell_later kk QQ.out.2.2.1
  have q3 := cell_later kk QQ.out.2.2.2.1
  have q4 := cell_later kk QQ.out.2.2.2.2.1
  have q5 := cell_later kk QQ.out.2.2.2.2.2
  clear kk
  go_still_tail 14, (by kernel_rfl)
  change wpList _ _ _ _ _ wc.drew
  have KD := Lib.hid (KC.out.drew)
  have PD : Hid (wc.drew.heap[w.heap.size + 1]? = some emptyOb) := PC
  generalize wc.drew = wd at KD PD ⊢
  obtain ⟨⟨r0, r1, r2, r3, r4, r5⟩, f0, f1, f2, f3, f4, f5⟩ := cells6 PD.out
  go_wp2
  (try simp only [Exit.inBlock, Exit.then])
  exact bodyPost_ret (ret_cell rfl _ _ _ _ _ _ _ _ rfl rfl (set6 PD.out _ _ _ _ _ _) Try.underlying30 rfl (by kernel_rfl)) rfl ⟨rfl, set6_below KD.out (by omega) _ _ _ _ _ _⟩
set_option maxHeartbeats 2000000 in
set_option maxRecDepth 100000 in
theorem rget_byte (rb g z cap n lo i j g1 m1 c1 : Nat) (a l zl c : Int) (x : Bool) (s : ByteArray) (w : World) (hn : n < z) (h0 : w.cell? ⟨rb, 0, none⟩ = some (.slice (some ⟨g, 0, none⟩) z cap))
    (d1 : w.cell? ⟨g, n * 4 + 2, none⟩ = some (.slice (some ⟨g1, 0, none⟩) m1 c1)) (hj : lo + i = j) (hj1 : j < m1) (hm : m1 ≤ 40000) (hi : (i : Int) < zl) (hc0 : 0 ≤ c) (hc1 : c ≤ 255)
    (q0 : w.cell? ⟨g1, j, none⟩ = some (.int .u8 c))
    (h2 : Hid (∀ wx, Below w.heap.size w wx → Calls Try.prog 94 #[ptr rb, obV 8 x n a l s] wx fun e w' => e = .returned (.tuple #[.int .i64 lo, .int .i64 zl, .int .i64 0]) ∧ Below wx.heap.size wx w')) :
    Calls Try.prog 70 #[ptr rb, obV 8 x n a l s, .int .i64 i] w fun e w' => e = .returned (.tuple #[obV 3 false c 0 0 ⟨#[]⟩, .int .i64 0]) ∧ Below w.heap.size w w' := by
  have t0 : (0 : Int) ≤ n := by omega
  have t1 : (n : Int) < z := by omega
  have t2 : ¬ ((i : Int) < 0) := by omega
  have e5 : IntKind.i64.wrap ((lo : Int) + (i : Int)) = j := by rw [IntWalk.i64_in _ (by omega)]; omega
  have j0 : (0 : Int) ≤ j := by omega
  have j1 : (j : Int) < m1 := by omega
  have DD : Hid (w.cell? ⟨rb, 0, none⟩ = some (.slice (some ⟨g, 0, none⟩) z cap) ∧ w.cell? ⟨g, n * 4 + 2, none⟩ = some (.slice (some ⟨g1, 0, none⟩) m1 c1)) := Lib.hid ⟨h0, d1⟩
  have QQ := Lib.hid q0
  have ec : IntKind.i64.wrap c = c := IntWalk.i64_in _ (by omega)
  clear h0 d1 q0 hj hj1 hm hn hc0 hc1
  go_enter Try.func70, Try.ntmps70
  go_upto_region 1 with fail
  obtain ⟨wb, eb, kb, ob, pb⟩ := get_box w 8 n a l x s
  rw [eb]
  have OB := Lib.hid ob
  obtain ⟨c0, c1', c2, c3, c4, c5⟩ := ob
  go_wp2_with fail
  refine (h2.out _ kb).mono ?_
  rintro e wc ⟨rfl, kc⟩
  have kk := below_and kb kc
  have KC := Lib.hid kk
  have PC : Hid (wc.heap[w.heap.size + 1]? = some emptyOb) := Lib.hid ((kc.block _ (blk_lt pb)).trans pb)
  have OC := OB.out.later kc
  clear eb kb pb kc c0 c1' c2 c3 c4 c5
  obtain ⟨c0, c1', c2, c3, c4, c5⟩ := OC
  go_upto_region 7 with fail
  have h0 := cell_later kk DD.out.1
  have d1 := cell_later kk DD.out.2
  have q0 := cell_later kk QQ.out
  clear kk
  go_still_tail 16, (by kernel_rfl)
  change wpList _ _ _ _ _ wc.drew
  have KD := Lib.hid (KC.out.drew)
  have PD : Hid (wc.drew.heap[w.heap.size + 1]? = some emptyOb) := PC
  generalize wc.drew = wd at KD PD ⊢
  obtain ⟨⟨r0, r1, r2, r3, r4, r5⟩, f0, f1, f2, f3, f4, f5⟩ := cells6 PD.out
  go_wp2
  (try simp only [Exit.inBlock, Exit.then])
  exact bodyPost_ret (ret_cell rfl _ _ _ _ _ _ _ _ rfl rfl (set6 PD.out _ _ _ _ _ _) Try.underlying30 rfl (by kernel_rfl)) rfl ⟨rfl, set6_below KD.out (by omega) _ _ _ _ _ _⟩
end Go.Proofs.Ytlkbnldpecolbaa

/- tympanref11: what an object of the heap opens; Get, Size, whatever is asked. -/
namespace Go.Proofs.Ytlkbnldpecolbaa
open Go.RowKit
set_option linter.unusedVariables false

/-- What an object that stands for a cell opens. -/
structure Opened (R : List RC) (v : Value) (rb : Nat) (o : Ob) (w : World) (r : RC) (n lo len g cap : Nat) : Prop where
  get : R[n]? = some r
  num : o.n = n
  nat : o.n.toNat = n
  at_ : atO (cels R) o = lo
  a : o.a = lo
  leno : lenO (cels R) o = len
  cell : cellOf (cels R) o = r.c
  fits : lo + len ≤ r.c.size
  lt : n < R.length
  row : v = .slice (some ⟨g, 0, none⟩) R.length cap
  h0 : w.cell? ⟨rb, 0, none⟩ = some (.slice (some ⟨g, 0, none⟩) R.length cap)
  d0 : w.cell? ⟨g, n * 4, none⟩ = some (.int .i64 r.c.k)
  d1 : w.cell? ⟨g, n * 4 + 1, none⟩ = some r.it
  d2 : w.cell? ⟨g, n * 4 + 2, none⟩ = some r.bs
  d3 : w.cell? ⟨g, n * 4 + 3, none⟩ = some (.bool r.c.lk)
  kind : r.c.k = o.k
  size : r.c.size ≤ 40000
  str : o.k = 8 → r.c.it = []
  itm : o.k ≠ 8 → r.c.bs = []
  val : o.val = obV o.k o.x (n : Nat) o.a o.l o.s
section
variable {own : Nat → Prop} {rb : Nat} {v : Value} {R : List RC} {w : World}
theorem RH.opened (h : RH own rb v R w) (o : Ob) (ho : okO (cels R) o = true) : ∃ r n lo len g cap, Opened R v rb o w r n lo len g cap ∧ own g ∧ g ≠ rb ∧ g < w.heap.size := by
  obtain ⟨b0, b1, b2, b3, b4, b5, b6, b7, b8⟩ := ok_bd ho
  obtain ⟨n0, n1⟩ := len_in ho
  rw [cels_length] at b1
  obtain ⟨r, hrr⟩ : ∃ r, R[o.n.toNat]? = some r := ⟨_, List.getElem?_eq_getElem (by omega)⟩
  obtain ⟨g, cap, ev, og, gr, gl, d0, d1, d2, d3⟩ := h.at hrr
  have h0 := h.hcell
  rw [ev] at h0
  have hco := h.cellOf (o := o) hrr
  rw [hco] at b6 n1
  have hz := h.wf.size (cels_get hrr)
  have en : ((o.n.toNat : Nat) : Int) = o.n := by omega
  have ea : ((o.a.toNat : Nat) : Int) = o.a := by omega
  have el : (((lenO (cels R) o).toNat : Nat) : Int) = lenO (cels R) o := by omega
  refine ⟨r, o.n.toNat, o.a.toNat, (lenO (cels R) o).toNat, g, cap, ⟨hrr, en.symm, rfl, by rw [ea]; simp [atO, ho], ea.symm, el.symm, hco, by omega, by omega, ev, h0, d0, d1, d2, d3, b6, hz, fun hk => ?_, fun hk => ?_, by rw [en]; rfl⟩, og, gr, gl⟩
  · rcases h.wf.kind r.c (cell_mem (cels_get hrr)) with ⟨_, q⟩ | ⟨q, _⟩
    · exact q
    · omega
  · rcases h.wf.kind r.c (cell_mem (cels_get hrr)) with ⟨q, _⟩ | ⟨_, q⟩
    · omega
    · exact q
/-- The items of a cell, where it has some. -/
theorem RH.items (h : RH own rb v R w) {n j : Nat} {r : RC} {x : Ob} (hr : R[n]? = some r) (hx : r.c.it[j]? = some x) : ∃ g1 c1, r.it = .slice (some ⟨g1, 0, none⟩) r.c.it.length c1 ∧ ∀ m u, x.cells[m]? = some u → w.cell? ⟨g1, j * 6 + m, none⟩ = some u := by
  have hl := (List.getElem?_eq_some_iff.1 hx).1
  rcases (h.sub _ r hr).1 with ⟨_, q, _⟩ | ⟨g1, c1, q, _, _, _, hc⟩
  · omega
  · refine ⟨g1, c1, q, fun m u hm => hc _ _ ?_⟩
    have hm6 : m < 6 := by have := (List.getElem?_eq_some_iff.1 hm).1; simpa [Ob.cells] using this
    rw [obCells_get hx hm6]
    exact hm
theorem RH.bytes (h : RH own rb v R w) {n j : Nat} {r : RC} {x : UInt8} (hr : R[n]? = some r) (hx : r.c.bs[j]? = some x) : ∃ g1 c1, r.bs = .slice (some ⟨g1, 0, none⟩) r.c.bs.length c1 ∧ w.cell? ⟨g1, j, none⟩ = some (.int .u8 x.toNat) := by
  have hl := (List.getElem?_eq_some_iff.1 hx).1
  rcases (h.sub _ r hr).2 with ⟨_, q, _⟩ | ⟨g1, c1, q, _, _, _, hc⟩
  · omega
  · exact ⟨g1, c1, q, hc _ _ (by rw [byCells_get, hx]; rfl)⟩
theorem rget_tot (h : RH own rb v R w) (o : Ob) (i : Int) : Calls Try.prog 70 #[ptr rb, o.val, .int .i64 i] w fun e w' => e = .returned (.tuple #[(getO (cels R) o i).val, .int .i64 (getE (cels R) o i)]) ∧ Below w.heap.size w w' := by
  have hr := Lib.hid (fun wx (kx : Below w.heap.size w wx) => rroom_any (h.below kx) o)
  cases ho : okO (cels R) o
  · have hE := errO_no ho
    have e1 : getE (cels R) o i = errO (cels R) o := by simp [getE, ho]
    have e2 : getO (cels R) o i = Ob.zero := by simp [getO, e1, hE]
    rw [e1, e2]
    exact rget_err rb o.k o.n o.a o.l i _ _ (errO (cels R) o) o.x o.s w (by simpa using hE) hr
  · have hE := errO_ok ho
    rw [hE] at hr
    by_cases hi : 0 ≤ i ∧ i < lenO (cels R) o
    · have e1 : getE (cels R) o i = 0 := by simp [getE, ho, hi]
      obtain ⟨r, n, lo, len, g, cap, O, _⟩ := h.opened o ho
      rw [O.at_, O.leno] at hr
      rw [O.leno] at hi
      obtain ⟨m, rfl⟩ := Int.eq_ofNat_of_zero_le hi.1
      have hm : m < len := by omega
      have hfit := O.fits
      have hsz := O.size
      rw [e1, getO, e1, if_pos rfl, O.cell, O.a, show ((lo : Int) + (m : Int)).toNat = lo + m from by omega]
      by_cases hk : o.k = 8
      · have hit := O.str hk
        have hs : r.c.size = r.c.bs.length := by simp [Cel.size, hit]
        obtain ⟨x, hx⟩ : ∃ x, r.c.bs[lo + m]? = some x := ⟨_, List.getElem?_eq_getElem (by omega)⟩
        obtain ⟨g1, c1, e2, hc⟩ := h.bytes O.get hx
        have hd := O.d2
        rw [e2] at hd
        have hO : itemAt r.c (lo + m) = Ob.num x.toNat := by
          rw [itemAt, O.kind, if_pos hk, List.getD_eq_getElem?_getD, hx]
          rfl
        rw [hO]
        rw [O.val, hk] at hr ⊢
        have hxb := x.toNat_lt
        exact rget_byte rb g R.length cap n lo m (lo + m) g1 r.c.bs.length c1 o.a o.l _ x.toNat o.x o.s w O.lt O.h0 hd rfl (by omega) (by omega) (by omega) (by omega) (by omega) hc hr
      · have hit := O.itm hk
        have hs : r.c.size = r.c.it.length := by simp [Cel.size, hit]
        obtain ⟨x, hx⟩ : ∃ x, r.c.it[lo + m]? = some x := ⟨_, List.getElem?_eq_getElem (by omega)⟩
        obtain ⟨g1, c1, e2, hc⟩ := h.items O.get hx
        have hd := O.d1
        rw [e2] at hd
        have hO : itemAt r.c (lo + m) = x := by
          rw [itemAt, O.kind, if_neg hk, List.getD_eq_getElem?_getD, hx]
          rfl
        rw [hO]
        rw [O.val] at hr ⊢
        exact rget_item rb g R.length cap n lo m (lo + m) g1 r.c.it.length c1 o.k o.a o.l _ x.k x.n x.a x.l o.x x.x o.s x.s w O.lt O.h0 hd rfl (by omega) (by omega) (by omega) (by simpa using hk) (hc 0 _ rfl) (hc 1 _ rfl) (hc 2 _ rfl) (hc 3 _ rfl) (hc 4 _ rfl) (hc 5 _ rfl) hr
    · have e1 : getE (cels R) o i = 12 := by simp [getE, ho, hi]
      have e2 : getO (cels R) o i = Ob.zero := by simp [getO, e1]
      rw [e1, e2]
      refine rget_index rb o.k o.n o.a o.l i _ _ o.x o.s w ?_ hr
      by_cases q : i < 0
      · exact .inl (decide_eq_true q)
      · exact .inr ⟨decide_eq_false q, decide_eq_true (by omega)⟩
theorem rsize_tot (h : RH own rb v R w) (o : Ob) : Calls Try.prog 96 #[ptr rb, o.val] w fun e w' => e = .returned (.tuple #[.int .i64 (lenO (cels R) o), .int .i64 (errO (cels R) o)]) ∧ Below w.heap.size w w' := by
  have hr := Lib.hid (fun wx (kx : Below w.heap.size w wx) => rroom_any (h.below kx) o)
  generalize atO (cels R) o = u at hr
  generalize lenO (cels R) o = z at hr ⊢
  generalize errO (cels R) o = E at hr ⊢
  obtain ⟨k, x, n, a, l, s⟩ := o
  simp only [Ob.val] at hr ⊢
  clear h
  go_enter Try.func96, Try.ntmps96
  go_upto_region 1 with fail
  obtain ⟨wb, eb, kb, zb, oa⟩ := ob_box w k n a l x s
  rw [eb]
  obtain ⟨c0, c1, c2, c3, c4, c5⟩ := oa
  go_wp2_with fail
  refine (hr.out _ kb).mono ?_
  rintro e wc ⟨rfl, kc⟩
  have KC := Lib.hid (below_and kb kc)
  clear eb kb kc c0 c1 c2 c3 c4 c5
  go_wp2
  go_ret2
  exact ⟨rfl, KC.out⟩
end
end Go.Proofs.Ytlkbnldpecolbaa

/- Walks of tympanref11: Items. -/
namespace Go.Proofs.Ytlkbnldpecolbaa
open Go.RowKit
set_option linter.unusedVariables false

/-- A list of objects of its own. -/
structure ItemsOf (w : World) (l : List Ob) (v' : Value) (w' : World) : Prop where
  own : w'.ownsRow w.heap.size 30 6 v' l.length (obCells l)
  below : Below w.heap.size w w'
theorem append0O (p : Option Addr) (cap : Nat) (ty : TypeId) (wx : World) : (Builtin.append_ #[46, 46] ty #[.slice none 0 0, .slice p 0 cap]).run Try.prog wx = .ok (.slice none 0 0) wx := by
  obtain ⟨i0, hi, hz0, hz1, hz2⟩ := info_parts info24
  have hu := Try.underlying46
  cases p <;> simp [Builtin.append_, run_underlying hu, sizeOf, typeInfo, hi, Builtin.lenOf, Builtin.firstCells, loadCells, loadCellsFrom]
theorem app_items {w : World} {I : Nat → Prop} {p : Option Addr} {n cap : Nat} {its : List Ob} (h : rowC w I (.slice p n cap) n (obCells its)) (lo m : Nat) (hlm : lo + m ≤ n) (hn : n ≤ 40000) (hl : its.length = n) (ty : TypeId) :
    ∃ v' w', (Builtin.append_ #[46, 46] ty #[.slice none 0 0, .slice (if cap = lo then p else p.map (·.add (lo * 6))) m (cap - lo)]).run Try.prog w = .ok v' w' ∧ ItemsOf w ((its.drop lo).take m) v' w' := by
  have hlen : ((its.drop lo).take m).length = m := by simp; omega
  by_cases hm : m = 0
  · subst hm
    exact ⟨_, _, append0O _ _ _ _, World.ownsRow_nil _ _ _ _, Below.refl _ _⟩
  · rcases h with ⟨q, q2, _⟩ | ⟨g, cap', q, q2, _, _, hc⟩
    · omega
    · injection q with w1 w2 w3
      subst w1 w3
      rw [if_neg (by omega)]
      obtain ⟨i0, hi, hz0, hz1, hz2⟩ := info_parts info24
      obtain ⟨v', w', hr, h2, h3, h4⟩ := run_append_own (P := Try.prog) w w.heap.size 46 ty 30 i0 _ 6 56 Try.underlying46 hi hz0 hz1 hz2 rfl (by decide) (.slice none 0 0) 0 [] (World.ownsRow_nil _ _ _ _) (Addr.add ⟨g, 0, none⟩ (lo * 6)) m (cap - lo) (obCells ((its.drop lo).take m))
        (by rw [obCells_length, hlen]) (fun j u hj => by rw [Addr.add_mid, Addr.add_mid, Nat.zero_add]; exact hc _ _ (obCells_mid hj)) (obCells_one _) (by unfold maxLen; omega) (by omega) (Nat.le_refl _)
      rw [Nat.zero_add, List.nil_append] at h2
      exact ⟨v', w', hr, by rw [hlen]; exact h2, (Below.refl _ w).grown h3 (Nat.le_refl _) (fun k e => by cases e)⟩
set_option maxHeartbeats 1000000 in
set_option maxRecDepth 100000 in
theorem ritems_err (rb : Nat) (k n a l u z E : Int) (x : Bool) (s : ByteArray) (w : World) (hE : (E != 0) = true)
    (h2 : Hid (∀ wx, Below w.heap.size w wx → Calls Try.prog 94 #[ptr rb, obV k x n a l s] wx fun e w' => e = .returned (.tuple #[.int .i64 u, .int .i64 z, .int .i64 E]) ∧ Below wx.heap.size wx w')) :
    Calls Try.prog 73 #[ptr rb, obV k x n a l s] w fun e w' => e = .returned (.tuple #[.slice none 0 0, .int .i64 E]) ∧ Below w.heap.size w w' := by
  go_enter Try.func73, Try.ntmps73
  go_upto_region 1 with fail
  obtain ⟨wb, eb, kb, zb, oa⟩ := ob_box w k n a l x s
  rw [eb]
  obtain ⟨c0, c1, c2, c3, c4, c5⟩ := oa
  go_wp2_with fail
  refine (h2.out _ kb).mono ?_
  rintro e wc ⟨rfl, kc⟩
  have KC := Lib.hid (below_and kb kc)
  clear eb kb kc c0 c1 c2 c3 c4 c5
  go_wp2
  go_ret2
  exact ⟨rfl, KC.out⟩
set_option maxHeartbeats 1000000 in
set_option maxRecDepth 100000 in
theorem ritems_type (rb : Nat) (n a l u z : Int) (x : Bool) (s : ByteArray) (w : World)
    (h2 : Hid (∀ wx, Below w.heap.size w wx → Calls Try.prog 94 #[ptr rb, obV 8 x n a l s] wx fun e w' => e = .returned (.tuple #[.int .i64 u, .int .i64 z, .int .i64 0]) ∧ Below wx.heap.size wx w')) :
    Calls Try.prog 73 #[ptr rb, obV 8 x n a l s] w fun e w' => e = .returned (.tuple #[.slice none 0 0, .int .i64 6]) ∧ Below w.heap.size w w' := by
  go_enter Try.func73, Try.ntmps73
  go_upto_region 1 with fail
  obtain ⟨wb, eb, kb, zb, oa⟩ := ob_box w 8 n a l x s
  rw [eb]
  have OA := Lib.hid oa
  obtain ⟨c0, c1, c2, c3, c4, c5⟩ := oa
  go_wp2_with fail
  refine (h2.out _ kb).mono ?_
  rintro e wc ⟨rfl, kc⟩
  have KC := Lib.hid (below_and kb kc)
  have OC := OA.out.later kc
  clear eb kb kc c0 c1 c2 c3 c4 c5
  obtain ⟨c0, c1, c2, c3, c4, c5⟩ := OC
  go_wp2
  go_ret2
  exact ⟨rfl, KC.out⟩
set_option maxHeartbeats 2000000 in
set_option maxRecDepth 100000 in
theorem ritems_walk (rb g z cap n lo m hi : Nat) (it V : Value) (k a l : Int) (x : Bool) (s : ByteArray) (L : List Ob) (w : World) (hn : n < z) (hk : (k == 8) = false) (h0 : w.cell? ⟨rb, 0, none⟩ = some (.slice (some ⟨g, 0, none⟩) z cap))
    (d1 : w.cell? ⟨g, n * 4 + 1, none⟩ = some it) (e1 : IntKind.i64.wrap ((lo : Int) + m) = hi)
    (hsl : ∀ w : World, (Instr.slice 46 it (some (.int .i64 lo)) (some (.int .i64 hi)) none).run Try.prog w = .ok V w)
    (happ : Hid (∀ wx ty, Below w.heap.size w wx → ∃ v' w', (Builtin.append_ #[46, 46] ty #[.slice none 0 0, V]).run Try.prog wx = .ok v' w' ∧ ItemsOf wx L v' w'))
    (h2 : Hid (∀ wx, Below w.heap.size w wx → Calls Try.prog 94 #[ptr rb, obV k x n a l s] wx fun e w' => e = .returned (.tuple #[.int .i64 lo, .int .i64 m, .int .i64 0]) ∧ Below wx.heap.size wx w')) :
    Calls Try.prog 73 #[ptr rb, obV k x n a l s] w fun e w' => ∃ v, e = .returned (.tuple #[v, .int .i64 0]) ∧ ItemsOf w L v w' := by
  have t0 : (0 : Int) ≤ n := by omega
  have t1 : (n : Int) < z := by omega
  have DD : Hid (w.cell? ⟨rb, 0, none⟩ = some (.slice (some ⟨g, 0, none⟩) z cap) ∧ w.cell? ⟨g, n * 4 + 1, none⟩ = some it) := Lib.hid ⟨h0, d1⟩
  clear h0 d1
  go_enter Try.func73, Try.ntmps73
  go_upto_region 1 with fail
  obtain ⟨wb, eb, kb, zb, oa⟩ := ob_box w k n a l x s
  rw [eb]
  have OA := Lib.hid oa
  obtain ⟨c0, c1, c2', c3, c4, c5⟩ := oa
  go_wp2_with fail
  refine (h2.out _ kb).mono ?_
  rintro e wc ⟨rfl, kc⟩
  have kk := below_and kb kc
  have KC := Lib.hid kk
  have OC := OA.out.later kc
  have h0 := cell_later kk DD.out.1
  have d1 := cell_later kk DD.out.2
  clear eb kb kc c0 c1 c2' c3 c4 c5 kk
  obtain ⟨c0, c1, c2', c3, c4, c5⟩ := OC
  go_upto_region 6 with fail
  go_still_tail 14, (by kernel_rfl)
  change wpList _ _ _ _ _ wc.drew
  have KD := Lib.hid (KC.out.drew)
  generalize wc.drew = wd at KD ⊢
  refine wpList_append_ex rfl _ _ 46 rfl (.slice none 0 0) V rfl rfl _ (happ.out wd _ KD.out) ?_
  intro v' w' hI
  have HI := Lib.hid hI
  clear hI
  go_wp2
  go_ret2
  exact ⟨v', rfl, HI.out.own.mono KD.out.size, below_and KD.out HI.out.below⟩
end Go.Proofs.Ytlkbnldpecolbaa
