/- JA: J1, J2, J3, J4. -/
import Derived.Test.YtgmklagnngjlgaaGY
/- Walks of tympanref14: Peek, Pop. -/
namespace Go.Proofs.Ytgmklagnngjlgaa
open Go.RowKit
set_option linter.unusedVariables false
set_option linter.unusedSimpArgs false
set_option maxHeartbeats 1000000
set_option maxRecDepth 100000

section
variable {sb : Nat} {v : Value} {X : List Ob} {w : World}
theorem rpeek_neg (h : Stk 92 sb v X w) (i : Int) (hi : i < 0) : Calls Try.prog 73 #[ptr sb, .int .i64 i] w fun e w' => e = .returned (.tuple #[zeroOb, .int .i64 2]) ∧ Below w.heap.size w w' := by
  obtain ⟨p, cap, rfl⟩ := h.form
  clear h
  go_enter Try.func73, Try.ntmps73
  go_upto_region 1 with fail
  obtain ⟨wa, ea, ka, za, oa⟩ := zero_box w
  rw [ea]
  have KA := Lib.hid ka
  have OA := Lib.hid oa
  obtain ⟨⟨o0, o1, o2, o3, o4, o5⟩, g0, g1, g2, g3, g4, g5⟩ := cells6 oa
  clear ea ka za oa
  go_wp2
  (try simp only [Exit.inBlock, Exit.then])
  exact bodyPost_ret (ret_cell rfl _ _ _ _ _ _ _ _ rfl rfl (set6 OA.out _ _ _ _ _ _) Try.underlying24 rfl (by kernel_rfl)) rfl ⟨rfl, set6_below KA.out (Nat.le_refl _) _ _ _ _ _ _⟩
theorem rpeek_under (h : Stk 92 sb v X w) (i : Int) (hi : 0 ≤ i) (hl : X.length ≤ i) : Calls Try.prog 73 #[ptr sb, .int .i64 i] w fun e w' => e = .returned (.tuple #[zeroOb, .int .i64 7]) ∧ Below w.heap.size w w' := by
  obtain ⟨p, cap, rfl⟩ := h.form
  have h0 := h.cell
  have t0 : ¬ (i < 0) := by omega
  have t1 : i ≥ (X.length : Int) := by omega
  clear h
  go_enter Try.func73, Try.ntmps73
  go_upto_region 1 with fail
  obtain ⟨wa, ea, ka, za, oa⟩ := zero_box w
  rw [ea]
  have KA := Lib.hid ka
  have OA := Lib.hid oa
  obtain ⟨⟨o0, o1, o2, o3, o4, o5⟩, g0, g1, g2, g3, g4, g5⟩ := cells6 oa
  replace h0 := cell_later ka h0
  clear ea ka za oa
  go_wp2
  (try simp only [Exit.inBlock, Exit.then])
  exact bodyPost_ret (ret_cell rfl _ _ _ _ _ _ _ _ rfl rfl (set6 OA.out _ _ _ _ _ _) Try.underlying24 rfl (by kernel_rfl)) rfl ⟨rfl, set6_below KA.out (Nat.le_refl _) _ _ _ _ _ _⟩
theorem rpeek_ok (h : Stk 92 sb v X w) (i m : Nat) (hl : X.length = m + i + 1) (k n a l : Int) (x : Bool) (s : ByteArray) (hm : X[m]? = some ⟨k, x, n, a, l, s⟩) : Calls Try.prog 73 #[ptr sb, .int .i64 i] w fun e w' => e = .returned (.tuple #[obV k x n a l s, .int .i64 0]) ∧ Below w.heap.size w w' := by
  obtain ⟨g, cap, rfl, c0, c1, c2, c3, c4, c5⟩ := row_item h.row hm
  have h0 := h.cell
  have hlen := h.len
  clear h hm
  dsimp only at c0 c1 c2 c3 c4 c5
  have t0 : ¬ ((i : Int) < 0) := by omega
  have t1 : ¬ ((i : Int) ≥ (X.length : Int)) := by omega
  have e1 : IntKind.i64.wrap ((X.length : Int) - 1) = (m : Int) + i := by rw [IntWalk.i64_in _ (by omega)]; omega
  have e2 : IntKind.i64.wrap (m : Int) = (m : Int) := IntWalk.i64_in _ (by omega)
  have e3 : wrap64 (m : Int) = (m : Int) := by rw [← IntWalk.i64_left]; exact e2
  have q0 : (0 : Int) ≤ m := by omega
  have q1 : (m : Int) < X.length := by omega
  clear hl hlen
  go_enter Try.func73, Try.ntmps73
  go_upto_region 1 with fail
  obtain ⟨wa, ea, ka, za, oa⟩ := zero_box w
  rw [ea]
  have KA := Lib.hid ka
  have OA := Lib.hid oa
  obtain ⟨⟨o0, o1, o2, o3, o4, o5⟩, f0, f1, f2, f3, f4, f5⟩ := cells6 oa
  replace h0 := cell_later ka h0
  replace c0 := cell_later ka c0
  replace c1 := cell_later ka c1
  replace c2 := cell_later ka c2
  replace c3 := cell_later ka c3
  replace c4 := cell_later ka c4
  replace c5 := cell_later ka c5
  clear ea ka za oa
  go_upto_region 5 with fail
  go_still_tail 14, (by kernel_rfl)
  change wpList _ _ _ _ _ wa.drew
  have OD : Hid (wa.drew.heap[w.heap.size]? = some emptyOb) := Lib.hid OA.out
  have KD : Hid (Below w.heap.size w wa.drew) := Lib.hid KA.out.drew
  clear h0 c0 c1 c2 c3 c4 c5 o0 o1 o2 o3 o4 o5 f0 f1 f2 f3 f4 f5 OA KA
  generalize wa.drew = wd at OD KD ⊢
  obtain ⟨⟨o0, o1, o2, o3, o4, o5⟩, f0, f1, f2, f3, f4, f5⟩ := cells6 OD.out
  go_wp2
  (try simp only [Exit.inBlock, Exit.then])
  exact bodyPost_ret (ret_cell rfl _ _ _ _ _ _ _ _ rfl rfl (set6 OD.out _ _ _ _ _ _) Try.underlying24 rfl (by kernel_rfl)) rfl ⟨rfl, set6_below KD.out (Nat.le_refl _) _ _ _ _ _ _⟩
theorem rpeek_is (h : Stk 92 sb v X w) (i : Int) : Calls Try.prog 73 #[ptr sb, .int .i64 i] w fun e w' => e = .returned (.tuple #[(peekO X i).val, .int .i64 (peekE X i)]) ∧ Below w.heap.size w w' := by
  by_cases h1 : i < 0
  · refine (rpeek_neg h i h1).mono ?_
    rintro e w' ⟨rfl, k⟩
    simp only [peekO, peekE, h1, if_true]
    exact ⟨by trivial, k⟩
  by_cases h2 : X.length ≤ i
  · refine (rpeek_under h i (by omega) h2).mono ?_
    rintro e w' ⟨rfl, k⟩
    simp only [peekO, peekE, h1, h2, if_true, if_false]
    exact ⟨by trivial, k⟩
  obtain ⟨a, rfl⟩ : ∃ a : Nat, i = a := ⟨i.toNat, by omega⟩
  have hm : X[X.length - 1 - a]? = some (X.getD (X.length - 1 - a) Ob.zero) := by
    rw [List.getD_eq_getElem?_getD, List.getElem?_eq_getElem (by omega)]
    rfl
  have e0 : peekE X a = 0 := by simp [peekE, h1, h2]
  have e1 : peekO X a = X.getD (X.length - 1 - a) Ob.zero := by simp [peekO, e0]
  rw [e0, e1]
  generalize X.getD (X.length - 1 - a) Ob.zero = o at hm ⊢
  exact rpeek_ok h a (X.length - 1 - a) (by omega) o.k o.n o.a o.l o.x o.s hm
theorem rpop_under (h : Stk 92 sb v [] w) : Calls Try.prog 64 #[ptr sb] w fun e w' => e = .returned (.tuple #[zeroOb, .int .i64 7]) ∧ Below w.heap.size w w' := by
  obtain ⟨p, cap, rfl⟩ := h.form
  have h0 : w.cell? ⟨sb, 0, none⟩ = some (.slice p 0 cap) := h.cell
  clear h
  go_enter Try.func64, Try.ntmps64
  go_upto_region 1 with fail
  obtain ⟨wa, ea, ka, za, oa⟩ := zero_box w
  rw [ea]
  have KA := Lib.hid ka
  have OA := Lib.hid oa
  obtain ⟨⟨o0, o1, o2, o3, o4, o5⟩, g0, g1, g2, g3, g4, g5⟩ := cells6 oa
  replace h0 := cell_later ka h0
  clear ea ka za oa
  go_wp2
  (try simp only [Exit.inBlock, Exit.then])
  exact bodyPost_ret (ret_cell rfl _ _ _ _ _ _ _ _ rfl rfl (set6 OA.out _ _ _ _ _ _) Try.underlying24 rfl (by kernel_rfl)) rfl ⟨rfl, set6_below KA.out (Nat.le_refl _) _ _ _ _ _ _⟩
/-- The last one is cut off. -/
theorem Stk.cut {T : TypeId} {g cap m : Nat} (h : Stk T sb (.slice (some ⟨g, 0, none⟩) X.length cap) X w) (hm : m ≤ X.length) : Did T sb (.slice (some ⟨g, 0, none⟩) X.length cap) w (X.take m) (w.setCell ⟨sb, 0, none⟩ (.slice (some ⟨g, 0, none⟩) m cap)) := by
  have hlen : (X.take m).length = m := by simp; omega
  refine Did.store h ⟨rfl, rfl, rfl, Nat.le_refl _, fun _ _ => rfl⟩ ?_ (fun g e => .inl e) (by have := h.len; omega)
  rcases h.row.2 with ⟨e, _⟩ | ⟨g', cap', cur, e, _, hg, hc, hM, hcs, ht⟩
  · cases e
  · obtain ⟨rfl, rfl⟩ : g = g' ∧ cap = cap' := by simpa using e
    refine ⟨by rw [obCells_length], .inr ⟨g, cap, cur, by rw [hlen], Nat.zero_le _, hg, by omega, hM, hcs, ?_⟩⟩
    rw [hlen, ← take_obCells, ← ht, List.take_take, Nat.min_eq_left (by omega)]
theorem rpop_ok (h : Stk 92 sb v X w) (m : Nat) (hl : X.length = m + 1) (k n a l : Int) (x : Bool) (s : ByteArray) (hm : X[m]? = some ⟨k, x, n, a, l, s⟩) : Calls Try.prog 64 #[ptr sb] w fun e w' => e = .returned (.tuple #[obV k x n a l s, .int .i64 0]) ∧ Did 92 sb v w (X.take m) w' := by
  obtain ⟨g, cap, rfl, c0, c1, c2, c3, c4, c5⟩ := row_item h.row hm
  have H := Lib.hid h
  have h0 := h.cell
  rw [hl] at h0
  have hlen := h.len
  have hsl := slice33_h (some ⟨g, 0, none⟩) (m + 1) cap m (by
    rcases h.row.2 with ⟨e, _⟩ | ⟨g', cap', cur, e, _, _, hn, _⟩
    · cases e
    · obtain ⟨_, rfl⟩ : g = g' ∧ cap = cap' := by simpa using e
      omega)
  have q1 : sliced (some ⟨g, 0, none⟩) 0 m cap 6 = .slice (some ⟨g, 0, none⟩) m cap := by
    unfold sliced
    simp [Addr.add]
  rw [q1] at hsl
  have e2 : IntKind.i64.wrap (m : Int) = (m : Int) := IntWalk.i64_in _ (by omega)
  have e3 : wrap64 (m : Int) = (m : Int) := by rw [← IntWalk.i64_left]; exact e2
  have HL := Lib.hid hl
  dsimp only at c0 c1 c2 c3 c4 c5
  clear h hm hl hlen q1
  go_enter Try.func64, Try.ntmps64
  go_upto_region 1 with fail
  obtain ⟨wa, ea, ka, za, oa⟩ := zero_box w
  rw [ea]
  have KA := Lib.hid ka
  have OA := Lib.hid oa
  replace h0 := cell_later ka h0
  replace c0 := cell_later ka c0
  replace c1 := cell_later ka c1
  replace c2 := cell_later ka c2
  replace c3 := cell_later ka c3
  replace c4 := cell_later ka c4
  replace c5 := cell_later ka c5
  clear ea ka za oa
  go_upto_region 5 with fail
  obtain ⟨wb, eb, kb, zb, ob⟩ := ob_box wa k n a l x s
  rw [eb]
  have KB := Lib.hid (below_and KA.out kb)
  have OB := Lib.hid ob
  have ZB := Lib.hid ((kb.block _ (blk_lt OA.out)).trans OA.out)
  have HB := Lib.hid (H.out.below KB.out)
  have SW := Lib.hid (blk_lt OA.out)
  clear eb kb zb ob h0 c0 c1 c2 c3 c4 c5 OA
  have h0 := HB.out.cell
  rw [HL.out] at h0
  have f0 := HB.out.free
  go_upto_region 6 with fail
  have D := HB.out.cut (m := m) (by have := HL.out; omega)
  clear h0 f0 hsl
  obtain ⟨wc, ec⟩ : ∃ wc, wb.setCell ⟨sb, 0, none⟩ (.slice (some ⟨g, 0, none⟩) m cap) = wc := ⟨_, rfl⟩
  have hsb := H.out.lt
  have on : Only sb wb wc := by rw [← ec]; exact (Only.refl _ _).set 0 _
  rw [ec] at D ⊢
  have DH := Lib.hid D
  have ZC := Lib.hid ((on.block w.heap.size (by omega)).trans ZB.out)
  obtain ⟨c0, c1, c2, c3, c4, c5⟩ := OB.out.only on (by have := SW.out; omega)
  clear D on ec hsb
  obtain ⟨⟨o0, o1, o2, o3, o4, o5⟩, f0, f1, f2, f3, f4, f5⟩ := cells6 ZC.out
  go_wp2
  (try simp only [Exit.inBlock, Exit.then])
  obtain ⟨wq, eq, bq, onl⟩ := set6_box ZC.out (.int .i64 k) (.bool x) (.int .i64 n) (.int .i64 a) (.int .i64 l) (.string s)
  rw [eq]
  have K : Did 92 sb (.slice (some ⟨g, 0, none⟩) X.length cap) w (X.take m) wq := by
    obtain ⟨⟨v', s', q⟩, k⟩ := DH.out
    have hsb := H.out.lt
    have hw := SW.out
    refine ⟨⟨v', s'.same fun b e => onl.block b fun e' => ?_, fun g' e => (q g' e).imp id fun r => Nat.le_trans KB.out.size r⟩, onl.os.trans (k.os.trans KB.out.os), onl.tape.trans (k.tape.trans KB.out.tape), onl.output.trans (k.output.trans KB.out.output), ?_, fun b e => ?_⟩
    · subst e'
      rcases e with e | e
      · omega
      · rcases q _ e with r | r
        · have := (H.out.row.lt _ r).2
          omega
        · have := blk_lt ZB.out
          omega
    · have := onl.size
      have := k.size
      have := KB.out.size
      omega
    · exact (onl.block b (by omega)).trans ((k.block b ⟨Nat.lt_of_lt_of_le e.1 KB.out.size, e.2⟩).trans (KB.out.block b e.1))
  exact bodyPost_ret (ret_cell rfl _ _ _ _ _ _ _ _ rfl rfl bq Try.underlying24 rfl (by kernel_rfl)) rfl ⟨rfl, K⟩
theorem rpop_is (h : Stk 92 sb v X w) : Calls Try.prog 64 #[ptr sb] w fun e w' => e = .returned (.tuple #[(peekO X 0).val, .int .i64 (peekE X 0)]) ∧ Did 92 sb v w (popP X) w' := by
  by_cases h2 : X = []
  · subst h2
    refine (rpop_under h).mono ?_
    rintro e w' ⟨rfl, k⟩
    exact ⟨rfl, h.did k⟩
  have hl : 0 < X.length := List.length_pos_iff.2 h2
  have hm : X[X.length - 1]? = some (X.getD (X.length - 1) Ob.zero) := by
    rw [List.getD_eq_getElem?_getD, List.getElem?_eq_getElem (by omega)]
    rfl
  have e0 : peekE X 0 = 0 := by simp [peekE]; omega
  have e1 : peekO X 0 = X.getD (X.length - 1) Ob.zero := by simp [peekO, e0]
  rw [e0, e1]
  generalize X.getD (X.length - 1) Ob.zero = o at hm ⊢
  exact rpop_ok h (X.length - 1) (by omega) o.k o.n o.a o.l o.x o.s hm
end
end Go.Proofs.Ytgmklagnngjlgaa

/- Walks of tympanref14: Push. -/
namespace Go.Proofs.Ytgmklagnngjlgaa
open Go.RowKit
set_option linter.unusedVariables false
set_option linter.unusedSimpArgs false
set_option maxHeartbeats 1000000
set_option maxRecDepth 100000

section
variable {T : TypeId} {sb base : Nat} {v v1 v' : Value} {X Y L : List Ob} {w w4 w5 : World}
/-- A slice that is new since w has grown. -/
theorem AppOf.below (a : AppOf base v1 Y w4 v' w5) (k : Below w.heap.size w w4) (hv : ∀ g, v1.ownBlock = some g → w.heap.size ≤ g) : Below w.heap.size w w5 ∧ ∀ g, v'.ownBlock = some g → w.heap.size ≤ g :=
  ⟨k.grown a.grow k.size hv, fun g e => (a.own g e).elim (hv g) fun q => Nat.le_trans k.size q⟩
theorem Stk.after2 (h : Stk T sb v X w) (k : Below w.heap.size w w5) (row : w5.ownsRow base 24 6 v' Y.length (obCells Y)) (hv : ∀ g, v'.ownBlock = some g → w.heap.size ≤ g) (hY : Y.length ≤ 200) : Did T sb v w Y (w5.setCell ⟨sb, 0, none⟩ v') :=
  Did.store h ⟨k.os, k.tape, k.output, k.size, fun b q => k.block b q.1⟩ (row.mono (Nat.zero_le _)) (fun g e => .inr (hv g e)) hY
/-- append(nil, v...). -/
theorem nil_append (s : Seg w v1 L) (hL : L.length ≤ 1000) (ty : TypeId) : ∃ v' w', (Builtin.append_ #[33, 33] ty #[.slice none 0 0, v1]).run Try.prog w = .ok v' w' ∧ AppOf 0 (.slice none 0 0) L w v' w' := by
  have := seg_append (base := 0) (X := []) (World.ownsRow_nil w 0 24 6) s (Nat.zero_le _) (by simp) hL ty
  simpa using this
end
section
variable {sb : Nat} {v : Value} {X : List Ob} {w : World}
theorem rpush_arg (h : Stk 92 sb v X w) (o : Ob) (hm : o.may = false) : Calls Try.prog 62 #[ptr sb, o.val] w fun e w' => e = .returned (.int .i64 1) ∧ Below w.heap.size w w' := by
  change Calls Try.prog _ #[ptr sb, obV o.k o.x o.n o.a o.l o.s] w _
  have hmay := Lib.hid (fun wx => rmayO_any o.k o.n o.a o.l o.x o.s wx)
  rw [show mayO o.k o.n o.a o.l o.s = false from hm] at hmay
  clear h
  go_enter Try.func62, Try.ntmps62
  go_upto_region 1 with fail
  obtain ⟨wa, ea, ka, za, oa⟩ := ob_box w o.k o.n o.a o.l o.x o.s
  rw [ea]
  have KA := Lib.hid ka
  obtain ⟨c0, c1, c2, c3, c4, c5⟩ := oa
  clear ea ka za
  go_wp2_with fail
  refine (hmay.out _).mono ?_
  rintro e wb ⟨rfl, kb⟩
  have KB := Lib.hid (below_and KA.out kb)
  clear kb c0 c1 c2 c3 c4 c5
  go_wp2
  go_ret
  exact ⟨rfl, KB.out⟩
theorem rpush_over (h : Stk 92 sb v X w) (o : Ob) (hm : o.may = true) (hl : X.length = 200) : Calls Try.prog 62 #[ptr sb, o.val] w fun e w' => e = .returned (.int .i64 8) ∧ Below w.heap.size w w' := by
  change Calls Try.prog _ #[ptr sb, obV o.k o.x o.n o.a o.l o.s] w _
  have hmay := Lib.hid (fun wx => rmayO_any o.k o.n o.a o.l o.x o.s wx)
  rw [show mayO o.k o.n o.a o.l o.s = true from hm] at hmay
  obtain ⟨p, cap, rfl⟩ := h.form
  rw [hl] at h
  have h0 := h.cell
  clear h
  go_enter Try.func62, Try.ntmps62
  go_upto_region 1 with fail
  obtain ⟨wa, ea, ka, za, oa⟩ := ob_box w o.k o.n o.a o.l o.x o.s
  rw [ea]
  have KA := Lib.hid ka
  obtain ⟨c0, c1, c2, c3, c4, c5⟩ := oa
  clear ea ka za
  go_wp2_with fail
  refine (hmay.out _).mono ?_
  rintro e wb ⟨rfl, kb⟩
  have KB := Lib.hid (below_and KA.out kb)
  replace h0 := cell_later (below_and KA.out kb) h0
  clear kb c0 c1 c2 c3 c4 c5
  go_wp2
  go_ret
  exact ⟨rfl, KB.out⟩
theorem rpush_ok (h : Stk 92 sb v X w) (o : Ob) (hm : o.may = true) (hl : X.length < 200) : Calls Try.prog 62 #[ptr sb, o.val] w fun e w' => e = .returned (.int .i64 0) ∧ Did 92 sb v w (X ++ [o]) w' := by
  change Calls Try.prog _ #[ptr sb, obV o.k o.x o.n o.a o.l o.s] w _
  have hmay := Lib.hid (fun wx => rmayO_any o.k o.n o.a o.l o.x o.s wx)
  rw [show mayO o.k o.n o.a o.l o.s = true from hm] at hmay
  obtain ⟨p, cap, rfl⟩ := h.form
  have H := Lib.hid h
  have HL := Lib.hid hl
  have h0 := h.cell
  have t0 : ¬ ((X.length : Int) ≥ 200) := by omega
  clear h hl
  go_enter Try.func62, Try.ntmps62
  go_upto_region 1 with fail
  obtain ⟨wa, ea, ka, za, oa⟩ := ob_box w o.k o.n o.a o.l o.x o.s
  rw [ea]
  have KA := Lib.hid ka
  have OA := Lib.hid oa
  obtain ⟨c0, c1, c2, c3, c4, c5⟩ := oa
  clear ea ka za
  go_wp2_with fail
  refine (hmay.out _).mono ?_
  rintro e wb ⟨rfl, kb⟩
  have KB := Lib.hid (below_and KA.out kb)
  have OB := Lib.hid (OA.out.later kb)
  replace h0 := cell_later (below_and KA.out kb) h0
  clear kb c0 c1 c2 c3 c4 c5
  go_upto_region 5 with fail
  clear h0
  have WB : Hid (w.heap.size < wb.heap.size) := Lib.hid OB.out.lt
  have sx0 : ObAt wb.drew w.heap.size o.k o.x o.n o.a o.l o.s := OB.out.drew
  have k0 : Below w.heap.size w wb.drew := KB.out.drew
  (try refine wp_region_noPanic ?_)
  refine wp_region_held_drew (S := fun wx => ObAt wx w.heap.size o.k o.x o.n o.a o.l o.s) (by kernel_rfl) sx0 (fun _ => ?_)
  have z0 : wb.heap.size ≤ wb.drew.heap.size := Nat.le_refl _
  generalize wb.drew = wd at sx0 k0 z0 ⊢
  have SX := Lib.hid sx0
  have GB := Lib.hid k0
  have ZB := Lib.hid z0
  clear sx0 k0 z0
  refine wpAnyH_take (i := 0) (v := ptr sb) rfl (by kernel_rfl) (by kernel_rfl) (by kernel_rfl) (fun _ _ _ h => h) (Or.inl ⟨by rfl, fun wx hS => ?_⟩) SX.out ?_
  · go_simp
  try simp only [Act.put, List.getElem_toArray, List.getElem_cons_succ, List.getElem_cons_zero, List.setIfInBounds_toArray, List.set_cons_zero, List.set_cons_succ]
  refine wpAnyH_take (i := 1) (v := ptr sb) rfl (by kernel_rfl) (by kernel_rfl) (by kernel_rfl) (fun _ _ _ h => h) (Or.inl ⟨by rfl, fun wx hS => ?_⟩) SX.out ?_
  · go_simp
  try simp only [Act.put, List.getElem_toArray, List.getElem_cons_succ, List.getElem_cons_zero, List.setIfInBounds_toArray, List.set_cons_zero, List.set_cons_succ]
  refine wpAnyH_take (i := 2) (v := ptr sb) rfl (by kernel_rfl) (by kernel_rfl) (by kernel_rfl) (fun _ _ _ h => h) (Or.inl ⟨by rfl, fun wx hS => ?_⟩) SX.out ?_
  · go_simp
  try simp only [Act.put, List.getElem_toArray, List.getElem_cons_succ, List.getElem_cons_zero, List.setIfInBounds_toArray, List.set_cons_zero, List.set_cons_succ]
  refine wpAnyH_take (i := 3) (v := .pointer (some ⟨sb, 0, none⟩)) rfl (by kernel_rfl) (by kernel_rfl) (by kernel_rfl) (fun _ _ _ h => h) (Or.inl ⟨by rfl, fun wx hS => ?_⟩) SX.out ?_
  · go_simp
  try simp only [Act.put, List.getElem_toArray, List.getElem_cons_succ, List.getElem_cons_zero, List.setIfInBounds_toArray, List.set_cons_zero, List.set_cons_succ]
  refine wpAnyH_take (i := 6) (v := obV o.k o.x o.n o.a o.l o.s) rfl (by kernel_rfl) (by kernel_rfl) (by kernel_rfl) (fun _ _ _ h => h) (Or.inl ⟨by rfl, fun wx hS => ?_⟩) SX.out ?_
  · obtain ⟨c0, c1, c2, c3, c4, c5⟩ := hS; go_simp
  try simp only [Act.put, List.getElem_toArray, List.getElem_cons_succ, List.getElem_cons_zero, List.setIfInBounds_toArray, List.set_cons_zero, List.set_cons_succ]
  refine wpAnyH_ready (rs := [4, 7]) (by kernel_rfl) (by simp) ?_
  refine AllReadyH.cons rfl (fun K hK => ?_) (AllReadyH.cons rfl (fun K hK => ?_) AllReadyH.nil)
  · have h0 : wd.cell? ⟨sb, 0, none⟩ = some (.slice p X.length cap) := (H.out.below GB.out).cell
    go_simp
    clear h0
    refine hK.out _ _ SX.out (fun _ => ?_)
    clear hK
    try simp only [Act.put, List.getElem_toArray, List.getElem_cons_succ, List.getElem_cons_zero, List.setIfInBounds_toArray, List.set_cons_zero, List.set_cons_succ]
    refine wpAnyH_ready (rs := [5, 7]) (by kernel_rfl) (by simp) ?_
    refine AllReadyH.cons rfl (fun K hK => ?_) (AllReadyH.cons rfl (fun K hK => ?_) AllReadyH.nil)
    · refine step_append_ex rfl _ _ 33 rfl (.slice none 0 0) (.slice p X.length cap) rfl rfl _ (nil_append (Seg.of_owns (H.out.below GB.out).row) (by have := HL.out; omega) _) ?_
      rintro v1 wA ap
      obtain ⟨p1, c1, rfl⟩ := owns_form ap.row
      have kb1 : Below wd.heap.size wd wA := (Below.refl _ _).grown ap.grow (Nat.le_refl _) fun g e => by simp [Value.ownBlock] at e
      have A1 := Lib.hid ap.row
      have N1 : Hid (∀ g, (Value.slice p1 X.length c1).ownBlock = some g → w.heap.size < g) := Lib.hid fun g e => by
        rcases ap.own g e with q | q
        · simp [Value.ownBlock] at q
        · have := WB.out
          have := ZB.out
          omega
      replace GB := Lib.hid (below_and GB.out kb1)
      have sx1 := SX.out.later kb1
      replace SX := Lib.hid sx1
      replace ZB : Hid (wb.heap.size ≤ wA.heap.size) := Lib.hid (Nat.le_trans ZB.out kb1.size)
      clear ap kb1 sx1
      refine hK.out _ _ SX.out (fun _ => ?_)
      clear hK
      try simp only [Act.put, List.getElem_toArray, List.getElem_cons_succ, List.getElem_cons_zero, List.setIfInBounds_toArray, List.set_cons_zero, List.set_cons_succ]
      refine wpAnyH_ready (rs := [7]) (by kernel_rfl) (by simp) ?_
      refine AllReadyH.cons rfl (fun K hK => ?_) AllReadyH.nil
      go_simp
      obtain ⟨wB, e4, k4, s4⟩ := seg_box wA o.k o.n o.a o.l o.x o.s
      rw [e4]
      have S4 := Lib.hid s4
      replace A1 := Lib.hid (owns_at A1.out fun g e => k4.block g (A1.out.lt g e).2)
      have sx1 := SX.out.later k4
      replace SX := Lib.hid sx1
      replace GB := Lib.hid (below_and GB.out k4)
      replace ZB : Hid (wb.heap.size ≤ wB.heap.size) := Lib.hid (Nat.le_trans ZB.out k4.size)
      clear e4 k4 s4 sx1
      refine hK.out _ _ SX.out (fun _ => ?_)
      clear hK
      try simp only [Act.put, List.getElem_toArray, List.getElem_cons_succ, List.getElem_cons_zero, List.setIfInBounds_toArray, List.set_cons_zero, List.set_cons_succ]
      refine wpAnyH_ready (rs := [8]) (by kernel_rfl) (by simp) ?_
      refine AllReadyH.cons rfl (fun K hK => ?_) AllReadyH.nil
      refine step_append_ex rfl _ _ 33 rfl (.slice p1 X.length c1) (.slice (some ⟨wA.heap.size, 0, none⟩) 1 1) rfl rfl _ (seg_append A1.out S4.out (Nat.zero_le _) (by have := HL.out; omega) (by simp) _) ?_
      rintro v5 w5 ap
      replace ap : AppOf 0 (.slice p1 X.length c1) (X ++ [o]) wB v5 w5 := ap
      obtain ⟨p5, c5, e5⟩ : ∃ p5 c5, v5 = .slice p5 (X.length + 1) c5 := by
        obtain ⟨p5, c5, e⟩ := owns_form ap.row
        exact ⟨p5, c5, by rw [e]; simp⟩
      subst e5
      obtain ⟨bl, nv⟩ := ap.below GB.out (fun g e => Nat.le_of_lt (N1.out g e))
      have c0 : w5.cell? ⟨sb, 0, none⟩ = some (.slice p X.length cap) := (H.out.below bl).cell
      have f0 : w5.frozen? ⟨sb, 0, none⟩ = false := (H.out.below bl).free
      have sx1 : ObAt w5 w.heap.size o.k o.x o.n o.a o.l o.s := SX.out.same (ap.grow.block _ SX.out.lt fun e => by have := N1.out _ e.symm; omega)
      replace SX := Lib.hid sx1
      have DD : Hid (Did 92 sb (.slice p X.length cap) w (X ++ [o]) (w5.setCell ⟨sb, 0, none⟩ (.slice p5 (X.length + 1) c5))) := Lib.hid (H.out.after2 bl ap.row nv (by have := HL.out; simp; omega))
      clear ap bl nv sx1
      refine hK.out _ _ SX.out (fun _ => ?_)
      clear hK
      try simp only [Act.put, List.getElem_toArray, List.getElem_cons_succ, List.getElem_cons_zero, List.setIfInBounds_toArray, List.set_cons_zero, List.set_cons_succ]
      refine wpAnyH_take (i := 9) (v := ptr sb) rfl (by kernel_rfl) (by kernel_rfl) (by kernel_rfl) (fun _ _ _ h => h) (Or.inl ⟨by rfl, fun wx hS => ?_⟩) SX.out ?_
      · go_simp
      try simp only [Act.put, List.getElem_toArray, List.getElem_cons_succ, List.getElem_cons_zero, List.setIfInBounds_toArray, List.set_cons_zero, List.set_cons_succ]
      refine wpAnyH_take (i := 10) (v := .pointer (some ⟨sb, 0, none⟩)) rfl (by kernel_rfl) (by kernel_rfl) (by kernel_rfl) (fun _ _ _ h => h) (Or.inl ⟨by rfl, fun wx hS => ?_⟩) SX.out ?_
      · go_simp
      try simp only [Act.put, List.getElem_toArray, List.getElem_cons_succ, List.getElem_cons_zero, List.setIfInBounds_toArray, List.set_cons_zero, List.set_cons_succ]
      refine wpAnyH_ready (rs := [11]) (by kernel_rfl) (by simp) ?_
      refine AllReadyH.cons rfl (fun K hK => ?_) AllReadyH.nil
      go_simp
      have sx6 : ObAt (w5.setCell ⟨sb, 0, none⟩ (.slice p5 (X.length + 1) c5)) w.heap.size o.k o.x o.n o.a o.l o.s := SX.out.same (heap_setCell_other _ _ _ _ (by have := H.out.lt; simp; omega))
      clear c0 f0
      generalize w5.setCell ⟨sb, 0, none⟩ (.slice p5 (X.length + 1) c5) = w6 at sx6 DD ⊢
      refine hK.out _ _ sx6 (fun _ => ?_)
      clear hK sx6
      refine wpAnyH_done (by kernel_rfl) ?_ _
      (try refine no_panic ?_)
      go_wp2
      go_ret
      exact ⟨rfl, DD.out⟩
    · go_simp
      obtain ⟨wB, e4, k4, s4⟩ := seg_box wd o.k o.n o.a o.l o.x o.s
      rw [e4]
      have S4 := Lib.hid s4
      have sx1 := SX.out.later k4
      replace SX := Lib.hid sx1
      replace GB := Lib.hid (below_and GB.out k4)
      replace ZB : Hid (wb.heap.size ≤ wB.heap.size) := Lib.hid (Nat.le_trans ZB.out k4.size)
      clear e4 k4 s4 sx1
      refine hK.out _ _ SX.out (fun _ => ?_)
      clear hK
      try simp only [Act.put, List.getElem_toArray, List.getElem_cons_succ, List.getElem_cons_zero, List.setIfInBounds_toArray, List.set_cons_zero, List.set_cons_succ]
      refine wpAnyH_ready (rs := [5]) (by kernel_rfl) (by simp) ?_
      refine AllReadyH.cons rfl (fun K hK => ?_) AllReadyH.nil
      refine step_append_ex rfl _ _ 33 rfl (.slice none 0 0) (.slice p X.length cap) rfl rfl _ (nil_append (Seg.of_owns (H.out.below GB.out).row) (by have := HL.out; omega) _) ?_
      rintro v1 wA ap
      obtain ⟨p1, c1, rfl⟩ := owns_form ap.row
      have kb1 : Below wB.heap.size wB wA := (Below.refl _ _).grown ap.grow (Nat.le_refl _) fun g e => by simp [Value.ownBlock] at e
      have A1 := Lib.hid ap.row
      have N1 : Hid (∀ g, (Value.slice p1 X.length c1).ownBlock = some g → w.heap.size < g) := Lib.hid fun g e => by
        rcases ap.own g e with q | q
        · simp [Value.ownBlock] at q
        · have := WB.out
          have := ZB.out
          omega
      replace S4 := Lib.hid (S4.out.later kb1)
      replace GB := Lib.hid (below_and GB.out kb1)
      have sx1 := SX.out.later kb1
      replace SX := Lib.hid sx1
      replace ZB : Hid (wb.heap.size ≤ wA.heap.size) := Lib.hid (Nat.le_trans ZB.out kb1.size)
      clear ap kb1 sx1
      refine hK.out _ _ SX.out (fun _ => ?_)
      clear hK
      try simp only [Act.put, List.getElem_toArray, List.getElem_cons_succ, List.getElem_cons_zero, List.setIfInBounds_toArray, List.set_cons_zero, List.set_cons_succ]
      refine wpAnyH_ready (rs := [8]) (by kernel_rfl) (by simp) ?_
      refine AllReadyH.cons rfl (fun K hK => ?_) AllReadyH.nil
      refine step_append_ex rfl _ _ 33 rfl (.slice p1 X.length c1) (.slice (some ⟨wd.heap.size, 0, none⟩) 1 1) rfl rfl _ (seg_append A1.out S4.out (Nat.zero_le _) (by have := HL.out; omega) (by simp) _) ?_
      rintro v5 w5 ap
      replace ap : AppOf 0 (.slice p1 X.length c1) (X ++ [o]) wA v5 w5 := ap
      obtain ⟨p5, c5, e5⟩ : ∃ p5 c5, v5 = .slice p5 (X.length + 1) c5 := by
        obtain ⟨p5, c5, e⟩ := owns_form ap.row
        exact ⟨p5, c5, by rw [e]; simp⟩
      subst e5
      obtain ⟨bl, nv⟩ := ap.below GB.out (fun g e => Nat.le_of_lt (N1.out g e))
      have c0 : w5.cell? ⟨sb, 0, none⟩ = some (.slice p X.length cap) := (H.out.below bl).cell
      have f0 : w5.frozen? ⟨sb, 0, none⟩ = false := (H.out.below bl).free
      have sx1 : ObAt w5 w.heap.size o.k o.x o.n o.a o.l o.s := SX.out.same (ap.grow.block _ SX.out.lt fun e => by have := N1.out _ e.symm; omega)
      replace SX := Lib.hid sx1
      have DD : Hid (Did 92 sb (.slice p X.length cap) w (X ++ [o]) (w5.setCell ⟨sb, 0, none⟩ (.slice p5 (X.length + 1) c5))) := Lib.hid (H.out.after2 bl ap.row nv (by have := HL.out; simp; omega))
      clear ap bl nv sx1
      refine hK.out _ _ SX.out (fun _ => ?_)
      clear hK
      try simp only [Act.put, List.getElem_toArray, List.getElem_cons_succ, List.getElem_cons_zero, List.setIfInBounds_toArray, List.set_cons_zero, List.set_cons_succ]
      refine wpAnyH_take (i := 9) (v := ptr sb) rfl (by kernel_rfl) (by kernel_rfl) (by kernel_rfl) (fun _ _ _ h => h) (Or.inl ⟨by rfl, fun wx hS => ?_⟩) SX.out ?_
      · go_simp
      try simp only [Act.put, List.getElem_toArray, List.getElem_cons_succ, List.getElem_cons_zero, List.setIfInBounds_toArray, List.set_cons_zero, List.set_cons_succ]
      refine wpAnyH_take (i := 10) (v := .pointer (some ⟨sb, 0, none⟩)) rfl (by kernel_rfl) (by kernel_rfl) (by kernel_rfl) (fun _ _ _ h => h) (Or.inl ⟨by rfl, fun wx hS => ?_⟩) SX.out ?_
      · go_simp
      try simp only [Act.put, List.getElem_toArray, List.getElem_cons_succ, List.getElem_cons_zero, List.setIfInBounds_toArray, List.set_cons_zero, List.set_cons_succ]
      refine wpAnyH_ready (rs := [11]) (by kernel_rfl) (by simp) ?_
      refine AllReadyH.cons rfl (fun K hK => ?_) AllReadyH.nil
      go_simp
      have sx6 : ObAt (w5.setCell ⟨sb, 0, none⟩ (.slice p5 (X.length + 1) c5)) w.heap.size o.k o.x o.n o.a o.l o.s := SX.out.same (heap_setCell_other _ _ _ _ (by have := H.out.lt; simp; omega))
      clear c0 f0
      generalize w5.setCell ⟨sb, 0, none⟩ (.slice p5 (X.length + 1) c5) = w6 at sx6 DD ⊢
      refine hK.out _ _ sx6 (fun _ => ?_)
      clear hK sx6
      refine wpAnyH_done (by kernel_rfl) ?_ _
      (try refine no_panic ?_)
      go_wp2
      go_ret
      exact ⟨rfl, DD.out⟩
  · go_simp
    obtain ⟨wB, e4, k4, s4⟩ := seg_box wd o.k o.n o.a o.l o.x o.s
    rw [e4]
    have S4 := Lib.hid s4
    have sx1 := SX.out.later k4
    replace SX := Lib.hid sx1
    replace GB := Lib.hid (below_and GB.out k4)
    replace ZB : Hid (wb.heap.size ≤ wB.heap.size) := Lib.hid (Nat.le_trans ZB.out k4.size)
    clear e4 k4 s4 sx1
    refine hK.out _ _ SX.out (fun _ => ?_)
    clear hK
    try simp only [Act.put, List.getElem_toArray, List.getElem_cons_succ, List.getElem_cons_zero, List.setIfInBounds_toArray, List.set_cons_zero, List.set_cons_succ]
    refine wpAnyH_ready (rs := [4]) (by kernel_rfl) (by simp) ?_
    refine AllReadyH.cons rfl (fun K hK => ?_) AllReadyH.nil
    have h0 : wB.cell? ⟨sb, 0, none⟩ = some (.slice p X.length cap) := (H.out.below GB.out).cell
    go_simp
    clear h0
    refine hK.out _ _ SX.out (fun _ => ?_)
    clear hK
    try simp only [Act.put, List.getElem_toArray, List.getElem_cons_succ, List.getElem_cons_zero, List.setIfInBounds_toArray, List.set_cons_zero, List.set_cons_succ]
    refine wpAnyH_ready (rs := [5]) (by kernel_rfl) (by simp) ?_
    refine AllReadyH.cons rfl (fun K hK => ?_) AllReadyH.nil
    refine step_append_ex rfl _ _ 33 rfl (.slice none 0 0) (.slice p X.length cap) rfl rfl _ (nil_append (Seg.of_owns (H.out.below GB.out).row) (by have := HL.out; omega) _) ?_
    rintro v1 wA ap
    obtain ⟨p1, c1, rfl⟩ := owns_form ap.row
    have kb1 : Below wB.heap.size wB wA := (Below.refl _ _).grown ap.grow (Nat.le_refl _) fun g e => by simp [Value.ownBlock] at e
    have A1 := Lib.hid ap.row
    have N1 : Hid (∀ g, (Value.slice p1 X.length c1).ownBlock = some g → w.heap.size < g) := Lib.hid fun g e => by
      rcases ap.own g e with q | q
      · simp [Value.ownBlock] at q
      · have := WB.out
        have := ZB.out
        omega
    replace S4 := Lib.hid (S4.out.later kb1)
    replace GB := Lib.hid (below_and GB.out kb1)
    have sx1 := SX.out.later kb1
    replace SX := Lib.hid sx1
    replace ZB : Hid (wb.heap.size ≤ wA.heap.size) := Lib.hid (Nat.le_trans ZB.out kb1.size)
    clear ap kb1 sx1
    refine hK.out _ _ SX.out (fun _ => ?_)
    clear hK
    try simp only [Act.put, List.getElem_toArray, List.getElem_cons_succ, List.getElem_cons_zero, List.setIfInBounds_toArray, List.set_cons_zero, List.set_cons_succ]
    refine wpAnyH_ready (rs := [8]) (by kernel_rfl) (by simp) ?_
    refine AllReadyH.cons rfl (fun K hK => ?_) AllReadyH.nil
    refine step_append_ex rfl _ _ 33 rfl (.slice p1 X.length c1) (.slice (some ⟨wd.heap.size, 0, none⟩) 1 1) rfl rfl _ (seg_append A1.out S4.out (Nat.zero_le _) (by have := HL.out; omega) (by simp) _) ?_
    rintro v5 w5 ap
    replace ap : AppOf 0 (.slice p1 X.length c1) (X ++ [o]) wA v5 w5 := ap
    obtain ⟨p5, c5, e5⟩ : ∃ p5 c5, v5 = .slice p5 (X.length + 1) c5 := by
      obtain ⟨p5, c5, e⟩ := owns_form ap.row
      exact ⟨p5, c5, by rw [e]; simp⟩
    subst e5
    obtain ⟨bl, nv⟩ := ap.below GB.out (fun g e => Nat.le_of_lt (N1.out g e))
    have c0 : w5.cell? ⟨sb, 0, none⟩ = some (.slice p X.length cap) := (H.out.below bl).cell
    have f0 : w5.frozen? ⟨sb, 0, none⟩ = false := (H.out.below bl).free
    have sx1 : ObAt w5 w.heap.size o.k o.x o.n o.a o.l o.s := SX.out.same (ap.grow.block _ SX.out.lt fun e => by have := N1.out _ e.symm; omega)
    replace SX := Lib.hid sx1
    have DD : Hid (Did 92 sb (.slice p X.length cap) w (X ++ [o]) (w5.setCell ⟨sb, 0, none⟩ (.slice p5 (X.length + 1) c5))) := Lib.hid (H.out.after2 bl ap.row nv (by have := HL.out; simp; omega))
    clear ap bl nv sx1
    refine hK.out _ _ SX.out (fun _ => ?_)
    clear hK
    try simp only [Act.put, List.getElem_toArray, List.getElem_cons_succ, List.getElem_cons_zero, List.setIfInBounds_toArray, List.set_cons_zero, List.set_cons_succ]
    refine wpAnyH_take (i := 9) (v := ptr sb) rfl (by kernel_rfl) (by kernel_rfl) (by kernel_rfl) (fun _ _ _ h => h) (Or.inl ⟨by rfl, fun wx hS => ?_⟩) SX.out ?_
    · go_simp
    try simp only [Act.put, List.getElem_toArray, List.getElem_cons_succ, List.getElem_cons_zero, List.setIfInBounds_toArray, List.set_cons_zero, List.set_cons_succ]
    refine wpAnyH_take (i := 10) (v := .pointer (some ⟨sb, 0, none⟩)) rfl (by kernel_rfl) (by kernel_rfl) (by kernel_rfl) (fun _ _ _ h => h) (Or.inl ⟨by rfl, fun wx hS => ?_⟩) SX.out ?_
    · go_simp
    try simp only [Act.put, List.getElem_toArray, List.getElem_cons_succ, List.getElem_cons_zero, List.setIfInBounds_toArray, List.set_cons_zero, List.set_cons_succ]
    refine wpAnyH_ready (rs := [11]) (by kernel_rfl) (by simp) ?_
    refine AllReadyH.cons rfl (fun K hK => ?_) AllReadyH.nil
    go_simp
    have sx6 : ObAt (w5.setCell ⟨sb, 0, none⟩ (.slice p5 (X.length + 1) c5)) w.heap.size o.k o.x o.n o.a o.l o.s := SX.out.same (heap_setCell_other _ _ _ _ (by have := H.out.lt; simp; omega))
    clear c0 f0
    generalize w5.setCell ⟨sb, 0, none⟩ (.slice p5 (X.length + 1) c5) = w6 at sx6 DD ⊢
    refine hK.out _ _ sx6 (fun _ => ?_)
    clear hK sx6
    refine wpAnyH_done (by kernel_rfl) ?_ _
    (try refine no_panic ?_)
    go_wp2
    go_ret
    exact ⟨rfl, DD.out⟩
theorem rpush_did (h : Stk 92 sb v X w) (o : Ob) : Calls Try.prog 62 #[ptr sb, o.val] w fun e w' => e = .returned (.int .i64 (pushE X o)) ∧ Did 92 sb v w (pushP X o) w' := by
  cases hm : o.may with
  | false =>
    refine (rpush_arg h o hm).mono ?_
    rintro e w' ⟨rfl, k⟩
    simp only [pushE, pushP, hm]
    exact ⟨by trivial, h.did k⟩
  | true =>
    by_cases hl : X.length < 200
    · refine (rpush_ok h o hm hl).mono ?_
      rintro e w' ⟨rfl, k⟩
      simp only [pushE, pushP, hm, hl, if_true]
      exact ⟨by trivial, k⟩
    · have := h.len
      refine (rpush_over h o hm (by omega)).mono ?_
      rintro e w' ⟨rfl, k⟩
      simp only [pushE, pushP, hm, hl, if_true, if_false]
      exact ⟨by trivial, h.did k⟩
end
end Go.Proofs.Ytgmklagnngjlgaa

/- Walks of tympanref14: Dup. -/
namespace Go.Proofs.Ytgmklagnngjlgaa
open Go.RowKit
set_option linter.unusedVariables false
set_option linter.unusedSimpArgs false
set_option maxHeartbeats 1000000
set_option maxRecDepth 100000

theorem owns_cap0 {w : World} {p : Option Addr} {n cap : Nat} {xs : List Value} (r : w.ownsRow 0 24 6 (.slice p n cap) n xs) : n ≤ cap := by
  rcases r.2 with ⟨e, h0⟩ | ⟨g, c, cur, e, _, _, hn, _⟩
  · omega
  · have : cap = c := (Value.slice.inj e).2.2
    omega
section
variable {sb : Nat} {v : Value} {X : List Ob} {w : World}
theorem Stk.cap_le {T : TypeId} {p : Option Addr} {cap : Nat} (h : Stk T sb (.slice p X.length cap) X w) : X.length ≤ cap := owns_cap0 h.row
theorem rdup_neg (h : Stk 92 sb v X w) (n : Int) (hi : n < 0) : Calls Try.prog 66 #[ptr sb, .int .i64 n] w fun e w' => e = .returned (.int .i64 2) ∧ Below w.heap.size w w' := by
  obtain ⟨p, cap, rfl⟩ := h.form
  have h0 := h.cell
  clear h
  go_enter Try.func66, Try.ntmps66
  go_wp2
  go_ret
  exact ⟨rfl, Below.refl _ _⟩
theorem rroll_neg (h : Stk 92 sb v X w) (n : Int) (j : Int) (hi : n < 0) : Calls Try.prog 68 #[ptr sb, .int .i64 n, .int .i64 j] w fun e w' => e = .returned (.int .i64 2) ∧ Below w.heap.size w w' := by
  obtain ⟨p, cap, rfl⟩ := h.form
  have h0 := h.cell
  clear h
  go_enter Try.func68, Try.ntmps68
  go_wp2
  go_ret
  exact ⟨rfl, Below.refl _ _⟩
theorem rdup_under (h : Stk 92 sb v X w) (n : Int) (hi : 0 ≤ n) (hl : X.length < n) : Calls Try.prog 66 #[ptr sb, .int .i64 n] w fun e w' => e = .returned (.int .i64 7) ∧ Below w.heap.size w w' := by
  obtain ⟨p, cap, rfl⟩ := h.form
  have h0 := h.cell
  have t0 : ¬ (n < 0) := by omega
  have t1 : n > (X.length : Int) := hl
  clear h
  go_enter Try.func66, Try.ntmps66
  go_wp2
  go_ret
  exact ⟨rfl, Below.refl _ _⟩
theorem rroll_under (h : Stk 92 sb v X w) (n : Int) (j : Int) (hi : 0 ≤ n) (hl : X.length < n) : Calls Try.prog 68 #[ptr sb, .int .i64 n, .int .i64 j] w fun e w' => e = .returned (.int .i64 7) ∧ Below w.heap.size w w' := by
  obtain ⟨p, cap, rfl⟩ := h.form
  have h0 := h.cell
  have t0 : ¬ (n < 0) := by omega
  have t1 : n > (X.length : Int) := hl
  clear h
  go_enter Try.func68, Try.ntmps68
  go_wp2
  go_ret
  exact ⟨rfl, Below.refl _ _⟩
theorem rdup_over (h : Stk 92 sb v X w) (n : Nat) (hl : n ≤ X.length) (ho : 200 < X.length + n) : Calls Try.prog 66 #[ptr sb, .int .i64 n] w fun e w' => e = .returned (.int .i64 8) ∧ Below w.heap.size w w' := by
  obtain ⟨p, cap, rfl⟩ := h.form
  have h0 := h.cell
  have t0 : ¬ ((n : Int) < 0) := by omega
  have t2 : ¬ ((n : Int) > (X.length : Int)) := by omega
  have e1 : IntKind.i64.wrap ((X.length : Int) + n) = (X.length : Int) + n := by have := h.len; rw [IntWalk.i64_in _ (by omega)]
  have t1 : (X.length : Int) + n > 200 := by omega
  clear h hl ho
  go_enter Try.func66, Try.ntmps66
  go_wp2
  go_ret
  exact ⟨rfl, Below.refl _ _⟩
theorem rdup_ok (h : Stk 92 sb v X w) (n m : Nat) (hl : X.length = m + n) (ho : X.length + n ≤ 200) : Calls Try.prog 66 #[ptr sb, .int .i64 n] w fun e w' => e = .returned (.int .i64 0) ∧ Did 92 sb v w (X ++ X.drop m) w' := by
  obtain ⟨p, cap, rfl⟩ := h.form
  have H := Lib.hid h
  have HL := Lib.hid hl
  have HO := Lib.hid ho
  have h0 := h.cell
  have t0 : ¬ ((n : Int) < 0) := by omega
  have t2 : ¬ ((n : Int) > (X.length : Int)) := by omega
  have e1 : IntKind.i64.wrap ((X.length : Int) + n) = (X.length : Int) + n := by have := h.len; rw [IntWalk.i64_in _ (by omega)]
  have t1 : ¬ ((X.length : Int) + n > 200) := by omega
  have e2 : IntKind.i64.wrap ((X.length : Int) - n) = m := by have := h.len; rw [IntWalk.i64_in _ (by omega)]; omega
  have hsl := slice33_l p X.length cap m (by omega)
  obtain ⟨V, hV⟩ : ∃ V, sliced p m X.length cap 6 = V := ⟨_, rfl⟩
  rw [hV] at hsl
  have HV : Hid (∀ wx, Below w.heap.size w wx → Seg wx V (X.drop m)) := Lib.hid fun wx kx => by
    have h2 := (Seg.of_owns (h.below kx).row).sub m X.length cap (by omega) (Nat.le_refl _) h.cap_le (Nat.le_refl _)
    rw [List.take_of_length_le (by simp), hV] at h2
    exact h2
  clear h hl ho hV
  go_enter Try.func66, Try.ntmps66
  go_upto_region 7 with fail
  clear h0 e1 t0 t1 t2
  have SX : Hid True := Lib.hid trivial
  have GB : Hid (Below w.heap.size w w.drew) := Lib.hid (Below.refl _ _).drew
  (try refine wp_region_noPanic ?_)
  refine wp_region_held_drew (S := fun _ => True) (by kernel_rfl) trivial (fun _ => ?_)
  generalize w.drew = wd at GB ⊢
  refine wpAnyH_take (i := 0) (v := ptr sb) rfl (by kernel_rfl) (by kernel_rfl) (by kernel_rfl) (fun _ _ _ h => h) (Or.inl ⟨by rfl, fun wx hS => ?_⟩) SX.out ?_
  · go_simp
  try simp only [Act.put, List.getElem_toArray, List.getElem_cons_succ, List.getElem_cons_zero, List.setIfInBounds_toArray, List.set_cons_zero, List.set_cons_succ]
  refine wpAnyH_take (i := 1) (v := ptr sb) rfl (by kernel_rfl) (by kernel_rfl) (by kernel_rfl) (fun _ _ _ h => h) (Or.inl ⟨by rfl, fun wx hS => ?_⟩) SX.out ?_
  · go_simp
  try simp only [Act.put, List.getElem_toArray, List.getElem_cons_succ, List.getElem_cons_zero, List.setIfInBounds_toArray, List.set_cons_zero, List.set_cons_succ]
  refine wpAnyH_take (i := 2) (v := ptr sb) rfl (by kernel_rfl) (by kernel_rfl) (by kernel_rfl) (fun _ _ _ h => h) (Or.inl ⟨by rfl, fun wx hS => ?_⟩) SX.out ?_
  · go_simp
  try simp only [Act.put, List.getElem_toArray, List.getElem_cons_succ, List.getElem_cons_zero, List.setIfInBounds_toArray, List.set_cons_zero, List.set_cons_succ]
  refine wpAnyH_take (i := 3) (v := .pointer (some ⟨sb, 0, none⟩)) rfl (by kernel_rfl) (by kernel_rfl) (by kernel_rfl) (fun _ _ _ h => h) (Or.inl ⟨by rfl, fun wx hS => ?_⟩) SX.out ?_
  · go_simp
  try simp only [Act.put, List.getElem_toArray, List.getElem_cons_succ, List.getElem_cons_zero, List.setIfInBounds_toArray, List.set_cons_zero, List.set_cons_succ]
  refine wpAnyH_take (i := 6) (v := ptr sb) rfl (by kernel_rfl) (by kernel_rfl) (by kernel_rfl) (fun _ _ _ h => h) (Or.inl ⟨by rfl, fun wx hS => ?_⟩) SX.out ?_
  · go_simp
  try simp only [Act.put, List.getElem_toArray, List.getElem_cons_succ, List.getElem_cons_zero, List.setIfInBounds_toArray, List.set_cons_zero, List.set_cons_succ]
  refine wpAnyH_take (i := 7) (v := ptr sb) rfl (by kernel_rfl) (by kernel_rfl) (by kernel_rfl) (fun _ _ _ h => h) (Or.inl ⟨by rfl, fun wx hS => ?_⟩) SX.out ?_
  · go_simp
  try simp only [Act.put, List.getElem_toArray, List.getElem_cons_succ, List.getElem_cons_zero, List.setIfInBounds_toArray, List.set_cons_zero, List.set_cons_succ]
  refine wpAnyH_take (i := 8) (v := .pointer (some ⟨sb, 0, none⟩)) rfl (by kernel_rfl) (by kernel_rfl) (by kernel_rfl) (fun _ _ _ h => h) (Or.inl ⟨by rfl, fun wx hS => ?_⟩) SX.out ?_
  · go_simp
  try simp only [Act.put, List.getElem_toArray, List.getElem_cons_succ, List.getElem_cons_zero, List.setIfInBounds_toArray, List.set_cons_zero, List.set_cons_succ]
  refine wpAnyH_take (i := 10) (v := ptr sb) rfl (by kernel_rfl) (by kernel_rfl) (by kernel_rfl) (fun _ _ _ h => h) (Or.inl ⟨by rfl, fun wx hS => ?_⟩) SX.out ?_
  · go_simp
  try simp only [Act.put, List.getElem_toArray, List.getElem_cons_succ, List.getElem_cons_zero, List.setIfInBounds_toArray, List.set_cons_zero, List.set_cons_succ]
  refine wpAnyH_take (i := 11) (v := ptr sb) rfl (by kernel_rfl) (by kernel_rfl) (by kernel_rfl) (fun _ _ _ h => h) (Or.inl ⟨by rfl, fun wx hS => ?_⟩) SX.out ?_
  · go_simp
  try simp only [Act.put, List.getElem_toArray, List.getElem_cons_succ, List.getElem_cons_zero, List.setIfInBounds_toArray, List.set_cons_zero, List.set_cons_succ]
  refine wpAnyH_take (i := 12) (v := .pointer (some ⟨sb, 0, none⟩)) rfl (by kernel_rfl) (by kernel_rfl) (by kernel_rfl) (fun _ _ _ h => h) (Or.inl ⟨by rfl, fun wx hS => ?_⟩) SX.out ?_
  · go_simp
  try simp only [Act.put, List.getElem_toArray, List.getElem_cons_succ, List.getElem_cons_zero, List.setIfInBounds_toArray, List.set_cons_zero, List.set_cons_succ]
  refine wpAnyH_take (i := 15) (v := .int .i64 n) rfl (by kernel_rfl) (by kernel_rfl) (by kernel_rfl) (fun _ _ _ h => h) (Or.inl ⟨by rfl, fun wx hS => ?_⟩) SX.out ?_
  · go_simp
  try simp only [Act.put, List.getElem_toArray, List.getElem_cons_succ, List.getElem_cons_zero, List.setIfInBounds_toArray, List.set_cons_zero, List.set_cons_succ]
  refine wpAnyH_ready (rs := [4, 9, 13]) (by kernel_rfl) (by simp) ?_
  refine AllReadyH.cons rfl (fun K hK => ?_) (AllReadyH.cons rfl (fun K hK => ?_) (AllReadyH.cons rfl (fun K hK => ?_) (AllReadyH.nil)))
  · have h0 : wd.cell? ⟨sb, 0, none⟩ = some (.slice p X.length cap) := (H.out.below GB.out).cell
    go_simp
    clear h0
    refine hK.out _ _ SX.out (fun _ => ?_)
    clear hK
    try simp only [Act.put, List.getElem_toArray, List.getElem_cons_succ, List.getElem_cons_zero, List.setIfInBounds_toArray, List.set_cons_zero, List.set_cons_succ]
    refine wpAnyH_ready (rs := [5, 9, 13]) (by kernel_rfl) (by simp) ?_
    refine AllReadyH.cons rfl (fun K hK => ?_) (AllReadyH.cons rfl (fun K hK => ?_) (AllReadyH.cons rfl (fun K hK => ?_) (AllReadyH.nil)))
    · refine step_append_ex rfl _ _ 33 rfl (.slice none 0 0) (.slice p X.length cap) rfl rfl _ (nil_append (Seg.of_owns (H.out.below GB.out).row) (by have := HO.out; omega) _) ?_
      rintro v1 wA ap
      obtain ⟨p1, c1, rfl⟩ := owns_form ap.row
      have kb1 : Below wd.heap.size wd wA := (Below.refl _ _).grown ap.grow (Nat.le_refl _) fun g e => by simp [Value.ownBlock] at e
      have A1 := Lib.hid ap.row
      have N1 : Hid (∀ g, (Value.slice p1 X.length c1).ownBlock = some g → w.heap.size ≤ g) := Lib.hid fun g e => by
        rcases ap.own g e with q | q
        · simp [Value.ownBlock] at q
        · exact Nat.le_trans GB.out.size q
      replace GB := Lib.hid (below_and GB.out kb1)
      clear ap kb1
      refine hK.out _ _ SX.out (fun _ => ?_)
      clear hK
      try simp only [Act.put, List.getElem_toArray, List.getElem_cons_succ, List.getElem_cons_zero, List.setIfInBounds_toArray, List.set_cons_zero, List.set_cons_succ]
      refine wpAnyH_ready (rs := [9, 13]) (by kernel_rfl) (by simp) ?_
      refine AllReadyH.cons rfl (fun K hK => ?_) (AllReadyH.cons rfl (fun K hK => ?_) (AllReadyH.nil))
      · have h0 : wA.cell? ⟨sb, 0, none⟩ = some (.slice p X.length cap) := (H.out.below GB.out).cell
        go_simp
        clear h0
        refine hK.out _ _ SX.out (fun _ => ?_)
        clear hK
        try simp only [Act.put, List.getElem_toArray, List.getElem_cons_succ, List.getElem_cons_zero, List.setIfInBounds_toArray, List.set_cons_zero, List.set_cons_succ]
        refine wpAnyH_ready (rs := [13]) (by kernel_rfl) (by simp) ?_
        refine AllReadyH.cons rfl (fun K hK => ?_) AllReadyH.nil
        have h0 : wA.cell? ⟨sb, 0, none⟩ = some (.slice p X.length cap) := (H.out.below GB.out).cell
        go_simp
        clear h0
        refine hK.out _ _ SX.out (fun _ => ?_)
        clear hK
        try simp only [Act.put, List.getElem_toArray, List.getElem_cons_succ, List.getElem_cons_zero, List.setIfInBounds_toArray, List.set_cons_zero, List.set_cons_succ]
        refine wpAnyH_take (i := 14) (v := .int .i64 X.length) rfl (by kernel_rfl) (by kernel_rfl) (by kernel_rfl) (fun _ _ _ h => h) (Or.inl ⟨by rfl, fun wx hS => ?_⟩) SX.out ?_
        · go_simp
        try simp only [Act.put, List.getElem_toArray, List.getElem_cons_succ, List.getElem_cons_zero, List.setIfInBounds_toArray, List.set_cons_zero, List.set_cons_succ]
        refine wpAnyH_take (i := 16) (v := .int .i64 m) rfl (by kernel_rfl) (by kernel_rfl) (by kernel_rfl) (fun _ _ _ h => h) (Or.inl ⟨by rfl, fun wx hS => ?_⟩) SX.out ?_
        · go_simp
        try simp only [Act.put, List.getElem_toArray, List.getElem_cons_succ, List.getElem_cons_zero, List.setIfInBounds_toArray, List.set_cons_zero, List.set_cons_succ]
        refine wpAnyH_take (i := 17) (v := V) rfl (by kernel_rfl) (by kernel_rfl) (by kernel_rfl) (fun _ _ _ h => h) (Or.inl ⟨by rfl, fun wx hS => ?_⟩) SX.out ?_
        · go_simp
        try simp only [Act.put, List.getElem_toArray, List.getElem_cons_succ, List.getElem_cons_zero, List.setIfInBounds_toArray, List.set_cons_zero, List.set_cons_succ]
        refine wpAnyH_ready (rs := [18]) (by kernel_rfl) (by simp) ?_
        refine AllReadyH.cons rfl (fun K hK => ?_) AllReadyH.nil
        refine step_append_ex rfl _ _ 33 rfl (.slice p1 X.length c1) V rfl rfl _ (seg_append A1.out (HV.out _ GB.out) (Nat.zero_le _) (by have := HO.out; omega) (by have := HO.out; simp; omega) _) ?_
        rintro v5 w5 ap
        replace ap : AppOf 0 (.slice p1 X.length c1) (X ++ X.drop m) wA v5 w5 := ap
        obtain ⟨bl, nv⟩ := ap.below GB.out N1.out
        have c0 : w5.cell? ⟨sb, 0, none⟩ = some (.slice p X.length cap) := (H.out.below bl).cell
        have f0 : w5.frozen? ⟨sb, 0, none⟩ = false := (H.out.below bl).free
        have DD := Lib.hid (H.out.after2 bl ap.row nv (by have := HL.out; have := HO.out; simp; omega))
        obtain ⟨p5, c5, e5⟩ := owns_form ap.row
        subst e5
        clear ap bl nv
        refine hK.out _ _ SX.out (fun _ => ?_)
        clear hK
        try simp only [Act.put, List.getElem_toArray, List.getElem_cons_succ, List.getElem_cons_zero, List.setIfInBounds_toArray, List.set_cons_zero, List.set_cons_succ]
        refine wpAnyH_take (i := 19) (v := ptr sb) rfl (by kernel_rfl) (by kernel_rfl) (by kernel_rfl) (fun _ _ _ h => h) (Or.inl ⟨by rfl, fun wx hS => ?_⟩) SX.out ?_
        · go_simp
        try simp only [Act.put, List.getElem_toArray, List.getElem_cons_succ, List.getElem_cons_zero, List.setIfInBounds_toArray, List.set_cons_zero, List.set_cons_succ]
        refine wpAnyH_take (i := 20) (v := .pointer (some ⟨sb, 0, none⟩)) rfl (by kernel_rfl) (by kernel_rfl) (by kernel_rfl) (fun _ _ _ h => h) (Or.inl ⟨by rfl, fun wx hS => ?_⟩) SX.out ?_
        · go_simp
        try simp only [Act.put, List.getElem_toArray, List.getElem_cons_succ, List.getElem_cons_zero, List.setIfInBounds_toArray, List.set_cons_zero, List.set_cons_succ]
        refine wpAnyH_ready (rs := [21]) (by kernel_rfl) (by simp) ?_
        refine AllReadyH.cons rfl (fun K hK => ?_) AllReadyH.nil
        go_simp
        clear c0 f0
        refine hK.out _ _ trivial (fun _ => ?_)
        clear hK
        refine wpAnyH_done (by kernel_rfl) ?_ _
        (try refine no_panic ?_)
        go_wp2
        go_ret
        exact ⟨rfl, by simpa using DD.out⟩
      · have h0 : wA.cell? ⟨sb, 0, none⟩ = some (.slice p X.length cap) := (H.out.below GB.out).cell
        go_simp
        clear h0
        refine hK.out _ _ SX.out (fun _ => ?_)
        clear hK
        try simp only [Act.put, List.getElem_toArray, List.getElem_cons_succ, List.getElem_cons_zero, List.setIfInBounds_toArray, List.set_cons_zero, List.set_cons_succ]
        refine wpAnyH_take (i := 14) (v := .int .i64 X.length) rfl (by kernel_rfl) (by kernel_rfl) (by kernel_rfl) (fun _ _ _ h => h) (Or.inl ⟨by rfl, fun wx hS => ?_⟩) SX.out ?_
        · go_simp
        try simp only [Act.put, List.getElem_toArray, List.getElem_cons_succ, List.getElem_cons_zero, List.setIfInBounds_toArray, List.set_cons_zero, List.set_cons_succ]
        refine wpAnyH_take (i := 16) (v := .int .i64 m) rfl (by kernel_rfl) (by kernel_rfl) (by kernel_rfl) (fun _ _ _ h => h) (Or.inl ⟨by rfl, fun wx hS => ?_⟩) SX.out ?_
        · go_simp
        try simp only [Act.put, List.getElem_toArray, List.getElem_cons_succ, List.getElem_cons_zero, List.setIfInBounds_toArray, List.set_cons_zero, List.set_cons_succ]
        refine wpAnyH_ready (rs := [9]) (by kernel_rfl) (by simp) ?_
        refine AllReadyH.cons rfl (fun K hK => ?_) AllReadyH.nil
        have h0 : wA.cell? ⟨sb, 0, none⟩ = some (.slice p X.length cap) := (H.out.below GB.out).cell
        go_simp
        clear h0
        refine hK.out _ _ SX.out (fun _ => ?_)
        clear hK
        try simp only [Act.put, List.getElem_toArray, List.getElem_cons_succ, List.getElem_cons_zero, List.setIfInBounds_toArray, List.set_cons_zero, List.set_cons_succ]
        refine wpAnyH_take (i := 17) (v := V) rfl (by kernel_rfl) (by kernel_rfl) (by kernel_rfl) (fun _ _ _ h => h) (Or.inl ⟨by rfl, fun wx hS => ?_⟩) SX.out ?_
        · go_simp
        try simp only [Act.put, List.getElem_toArray, List.getElem_cons_succ, List.getElem_cons_zero, List.setIfInBounds_toArray, List.set_cons_zero, List.set_cons_succ]
        refine wpAnyH_ready (rs := [18]) (by kernel_rfl) (by simp) ?_
        refine AllReadyH.cons rfl (fun K hK => ?_) AllReadyH.nil
        refine step_append_ex rfl _ _ 33 rfl (.slice p1 X.length c1) V rfl rfl _ (seg_append A1.out (HV.out _ GB.out) (Nat.zero_le _) (by have := HO.out; omega) (by have := HO.out; simp; omega) _) ?_
        rintro v5 w5 ap
        replace ap : AppOf 0 (.slice p1 X.length c1) (X ++ X.drop m) wA v5 w5 := ap
        obtain ⟨bl, nv⟩ := ap.below GB.out N1.out
        have c0 : w5.cell? ⟨sb, 0, none⟩ = some (.slice p X.length cap) := (H.out.below bl).cell
        have f0 : w5.frozen? ⟨sb, 0, none⟩ = false := (H.out.below bl).free
        have DD := Lib.hid (H.out.after2 bl ap.row nv (by have := HL.out; have := HO.out; simp; omega))
        obtain ⟨p5, c5, e5⟩ := owns_form ap.row
        subst e5
        clear ap bl nv
        refine hK.out _ _ SX.out (fun _ => ?_)
        clear hK
        try simp only [Act.put, List.getElem_toArray, List.getElem_cons_succ, List.getElem_cons_zero, List.setIfInBounds_toArray, List.set_cons_zero, List.set_cons_succ]
        refine wpAnyH_take (i := 19) (v := ptr sb) rfl (by kernel_rfl) (by kernel_rfl) (by kernel_rfl) (fun _ _ _ h => h) (Or.inl ⟨by rfl, fun wx hS => ?_⟩) SX.out ?_
        · go_simp
        try simp only [Act.put, List.getElem_toArray, List.getElem_cons_succ, List.getElem_cons_zero, List.setIfInBounds_toArray, List.set_cons_zero, List.set_cons_succ]
        refine wpAnyH_take (i := 20) (v := .pointer (some ⟨sb, 0, none⟩)) rfl (by kernel_rfl) (by kernel_rfl) (by kernel_rfl) (fun _ _ _ h => h) (Or.inl ⟨by rfl, fun wx hS => ?_⟩) SX.out ?_
        · go_simp
        try simp only [Act.put, List.getElem_toArray, List.getElem_cons_succ, List.getElem_cons_zero, List.setIfInBounds_toArray, List.set_cons_zero, List.set_cons_succ]
        refine wpAnyH_ready (rs := [21]) (by kernel_rfl) (by simp) ?_
        refine AllReadyH.cons rfl (fun K hK => ?_) AllReadyH.nil
        go_simp
        clear c0 f0
        refine hK.out _ _ trivial (fun _ => ?_)
        clear hK
        refine wpAnyH_done (by kernel_rfl) ?_ _
        (try refine no_panic ?_)
        go_wp2
        go_ret
        exact ⟨rfl, by simpa using DD.out⟩
    · have h0 : wd.cell? ⟨sb, 0, none⟩ = some (.slice p X.length cap) := (H.out.below GB.out).cell
      go_simp
      clear h0
      refine hK.out _ _ SX.out (fun _ => ?_)
      clear hK
      try simp only [Act.put, List.getElem_toArray, List.getElem_cons_succ, List.getElem_cons_zero, List.setIfInBounds_toArray, List.set_cons_zero, List.set_cons_succ]
      refine wpAnyH_ready (rs := [5, 13]) (by kernel_rfl) (by simp) ?_
      refine AllReadyH.cons rfl (fun K hK => ?_) (AllReadyH.cons rfl (fun K hK => ?_) (AllReadyH.nil))
      · refine step_append_ex rfl _ _ 33 rfl (.slice none 0 0) (.slice p X.length cap) rfl rfl _ (nil_append (Seg.of_owns (H.out.below GB.out).row) (by have := HO.out; omega) _) ?_
        rintro v1 wA ap
        obtain ⟨p1, c1, rfl⟩ := owns_form ap.row
        have kb1 : Below wd.heap.size wd wA := (Below.refl _ _).grown ap.grow (Nat.le_refl _) fun g e => by simp [Value.ownBlock] at e
        have A1 := Lib.hid ap.row
        have N1 : Hid (∀ g, (Value.slice p1 X.length c1).ownBlock = some g → w.heap.size ≤ g) := Lib.hid fun g e => by
          rcases ap.own g e with q | q
          · simp [Value.ownBlock] at q
          · exact Nat.le_trans GB.out.size q
        replace GB := Lib.hid (below_and GB.out kb1)
        clear ap kb1
        refine hK.out _ _ SX.out (fun _ => ?_)
        clear hK
        try simp only [Act.put, List.getElem_toArray, List.getElem_cons_succ, List.getElem_cons_zero, List.setIfInBounds_toArray, List.set_cons_zero, List.set_cons_succ]
        refine wpAnyH_ready (rs := [13]) (by kernel_rfl) (by simp) ?_
        refine AllReadyH.cons rfl (fun K hK => ?_) AllReadyH.nil
        have h0 : wA.cell? ⟨sb, 0, none⟩ = some (.slice p X.length cap) := (H.out.below GB.out).cell
        go_simp
        clear h0
        refine hK.out _ _ SX.out (fun _ => ?_)
        clear hK
        try simp only [Act.put, List.getElem_toArray, List.getElem_cons_succ, List.getElem_cons_zero, List.setIfInBounds_toArray, List.set_cons_zero, List.set_cons_succ]
        refine wpAnyH_take (i := 14) (v := .int .i64 X.length) rfl (by kernel_rfl) (by kernel_rfl) (by kernel_rfl) (fun _ _ _ h => h) (Or.inl ⟨by rfl, fun wx hS => ?_⟩) SX.out ?_
        · go_simp
        try simp only [Act.put, List.getElem_toArray, List.getElem_cons_succ, List.getElem_cons_zero, List.setIfInBounds_toArray, List.set_cons_zero, List.set_cons_succ]
        refine wpAnyH_take (i := 16) (v := .int .i64 m) rfl (by kernel_rfl) (by kernel_rfl) (by kernel_rfl) (fun _ _ _ h => h) (Or.inl ⟨by rfl, fun wx hS => ?_⟩) SX.out ?_
        · go_simp
        try simp only [Act.put, List.getElem_toArray, List.getElem_cons_succ, List.getElem_cons_zero, List.setIfInBounds_toArray, List.set_cons_zero, List.set_cons_succ]
        refine wpAnyH_take (i := 17) (v := V) rfl (by kernel_rfl) (by kernel_rfl) (by kernel_rfl) (fun _ _ _ h => h) (Or.inl ⟨by rfl, fun wx hS => ?_⟩) SX.out ?_
        · go_simp
        try simp only [Act.put, List.getElem_toArray, List.getElem_cons_succ, List.getElem_cons_zero, List.setIfInBounds_toArray, List.set_cons_zero, List.set_cons_succ]
        refine wpAnyH_ready (rs := [18]) (by kernel_rfl) (by simp) ?_
        refine AllReadyH.cons rfl (fun K hK => ?_) AllReadyH.nil
        refine step_append_ex rfl _ _ 33 rfl (.slice p1 X.length c1) V rfl rfl _ (seg_append A1.out (HV.out _ GB.out) (Nat.zero_le _) (by have := HO.out; omega) (by have := HO.out; simp; omega) _) ?_
        rintro v5 w5 ap
        replace ap : AppOf 0 (.slice p1 X.length c1) (X ++ X.drop m) wA v5 w5 := ap
        obtain ⟨bl, nv⟩ := ap.below GB.out N1.out
        have c0 : w5.cell? ⟨sb, 0, none⟩ = some (.slice p X.length cap) := (H.out.below bl).cell
        have f0 : w5.frozen? ⟨sb, 0, none⟩ = false := (H.out.below bl).free
        have DD := Lib.hid (H.out.after2 bl ap.row nv (by have := HL.out; have := HO.out; simp; omega))
        obtain ⟨p5, c5, e5⟩ := owns_form ap.row
        subst e5
        clear ap bl nv
        refine hK.out _ _ SX.out (fun _ => ?_)
        clear hK
        try simp only [Act.put, List.getElem_toArray, List.getElem_cons_succ, List.getElem_cons_zero, List.setIfInBounds_toArray, List.set_cons_zero, List.set_cons_succ]
        refine wpAnyH_take (i := 19) (v := ptr sb) rfl (by kernel_rfl) (by kernel_rfl) (by kernel_rfl) (fun _ _ _ h => h) (Or.inl ⟨by rfl, fun wx hS => ?_⟩) SX.out ?_
        · go_simp
        try simp only [Act.put, List.getElem_toArray, List.getElem_cons_succ, List.getElem_cons_zero, List.setIfInBounds_toArray, List.set_cons_zero, List.set_cons_succ]
        refine wpAnyH_take (i := 20) (v := .pointer (some ⟨sb, 0, none⟩)) rfl (by kernel_rfl) (by kernel_rfl) (by kernel_rfl) (fun _ _ _ h => h) (Or.inl ⟨by rfl, fun wx hS => ?_⟩) SX.out ?_
        · go_simp
        try simp only [Act.put, List.getElem_toArray, List.getElem_cons_succ, List.getElem_cons_zero, List.setIfInBounds_toArray, List.set_cons_zero, List.set_cons_succ]
        refine wpAnyH_ready (rs := [21]) (by kernel_rfl) (by simp) ?_
        refine AllReadyH.cons rfl (fun K hK => ?_) AllReadyH.nil
        go_simp
        clear c0 f0
        refine hK.out _ _ trivial (fun _ => ?_)
        clear hK
        refine wpAnyH_done (by kernel_rfl) ?_ _
        (try refine no_panic ?_)
        go_wp2
        go_ret
        exact ⟨rfl, by simpa using DD.out⟩
      · have h0 : wd.cell? ⟨sb, 0, none⟩ = some (.slice p X.length cap) := (H.out.below GB.out).cell
        go_simp
        clear h0
        refine hK.out _ _ SX.out (fun _ => ?_)
        clear hK
        try simp only [Act.put, List.getElem_toArray, List.getElem_cons_succ, List.getElem_cons_zero, List.setIfInBounds_toArray, List.set_cons_zero, List.set_cons_succ]
        refine wpAnyH_take (i := 14) (v := .int .i64 X.length) rfl (by kernel_rfl) (by kernel_rfl) (by kernel_rfl) (fun _ _ _ h => h) (Or.inl ⟨by rfl, fun wx hS => ?_⟩) SX.out ?_
        · go_simp
        try simp only [Act.put, List.getElem_toArray, List.getElem_cons_succ, List.getElem_cons_zero, List.setIfInBounds_toArray, List.set_cons_zero, List.set_cons_succ]
        refine wpAnyH_take (i := 16) (v := .int .i64 m) rfl (by kernel_rfl) (by kernel_rfl) (by kernel_rfl) (fun _ _ _ h => h) (Or.inl ⟨by rfl, fun wx hS => ?_⟩) SX.out ?_
        · go_simp
        try simp only [Act.put, List.getElem_toArray, List.getElem_cons_succ, List.getElem_cons_zero, List.setIfInBounds_toArray, List.set_cons_zero, List.set_cons_succ]
        refine wpAnyH_take (i := 17) (v := V) rfl (by kernel_rfl) (by kernel_rfl) (by kernel_rfl) (fun _ _ _ h => h) (Or.inl ⟨by rfl, fun wx hS => ?_⟩) SX.out ?_
        · go_simp
        try simp only [Act.put, List.getElem_toArray, List.getElem_cons_succ, List.getElem_cons_zero, List.setIfInBounds_toArray, List.set_cons_zero, List.set_cons_succ]
        refine wpAnyH_ready (rs := [5]) (by kernel_rfl) (by simp) ?_
        refine AllReadyH.cons rfl (fun K hK => ?_) AllReadyH.nil
        refine step_append_ex rfl _ _ 33 rfl (.slice none 0 0) (.slice p X.length cap) rfl rfl _ (nil_append (Seg.of_owns (H.out.below GB.out).row) (by have := HO.out; omega) _) ?_
        rintro v1 wA ap
        obtain ⟨p1, c1, rfl⟩ := owns_form ap.row
        have kb1 : Below wd.heap.size wd wA := (Below.refl _ _).grown ap.grow (Nat.le_refl _) fun g e => by simp [Value.ownBlock] at e
        have A1 := Lib.hid ap.row
        have N1 : Hid (∀ g, (Value.slice p1 X.length c1).ownBlock = some g → w.heap.size ≤ g) := Lib.hid fun g e => by
          rcases ap.own g e with q | q
          · simp [Value.ownBlock] at q
          · exact Nat.le_trans GB.out.size q
        replace GB := Lib.hid (below_and GB.out kb1)
        clear ap kb1
        refine hK.out _ _ SX.out (fun _ => ?_)
        clear hK
        try simp only [Act.put, List.getElem_toArray, List.getElem_cons_succ, List.getElem_cons_zero, List.setIfInBounds_toArray, List.set_cons_zero, List.set_cons_succ]
        refine wpAnyH_ready (rs := [18]) (by kernel_rfl) (by simp) ?_
        refine AllReadyH.cons rfl (fun K hK => ?_) AllReadyH.nil
        refine step_append_ex rfl _ _ 33 rfl (.slice p1 X.length c1) V rfl rfl _ (seg_append A1.out (HV.out _ GB.out) (Nat.zero_le _) (by have := HO.out; omega) (by have := HO.out; simp; omega) _) ?_
        rintro v5 w5 ap
        replace ap : AppOf 0 (.slice p1 X.length c1) (X ++ X.drop m) wA v5 w5 := ap
        obtain ⟨bl, nv⟩ := ap.below GB.out N1.out
        have c0 : w5.cell? ⟨sb, 0, none⟩ = some (.slice p X.length cap) := (H.out.below bl).cell
        have f0 : w5.frozen? ⟨sb, 0, none⟩ = false := (H.out.below bl).free
        have DD := Lib.hid (H.out.after2 bl ap.row nv (by have := HL.out; have := HO.out; simp; omega))
        obtain ⟨p5, c5, e5⟩ := owns_form ap.row
        subst e5
        clear ap bl nv
        refine hK.out _ _ SX.out (fun _ => ?_)
        clear hK
        try simp only [Act.put, List.getElem_toArray, List.getElem_cons_succ, List.getElem_cons_zero, List.setIfInBounds_toArray, List.set_cons_zero, List.set_cons_succ]
        refine wpAnyH_take (i := 19) (v := ptr sb) rfl (by kernel_rfl) (by kernel_rfl) (by kernel_rfl) (fun _ _ _ h => h) (Or.inl ⟨by rfl, fun wx hS => ?_⟩) SX.out ?_
        · go_simp
        try simp only [Act.put, List.getElem_toArray, List.getElem_cons_succ, List.getElem_cons_zero, List.setIfInBounds_toArray, List.set_cons_zero, List.set_cons_succ]
        refine wpAnyH_take (i := 20) (v := .pointer (some ⟨sb, 0, none⟩)) rfl (by kernel_rfl) (by kernel_rfl) (by kernel_rfl) (fun _ _ _ h => h) (Or.inl ⟨by rfl, fun wx hS => ?_⟩) SX.out ?_
        · go_simp
        try simp only [Act.put, List.getElem_toArray, List.getElem_cons_succ, List.getElem_cons_zero, List.setIfInBounds_toArray, List.set_cons_zero, List.set_cons_succ]
        refine wpAnyH_ready (rs := [21]) (by kernel_rfl) (by simp) ?_
        refine AllReadyH.cons rfl (fun K hK => ?_) AllReadyH.nil
        go_simp
        clear c0 f0
        refine hK.out _ _ trivial (fun _ => ?_)
        clear hK
        refine wpAnyH_done (by kernel_rfl) ?_ _
        (try refine no_panic ?_)
        go_wp2
        go_ret
        exact ⟨rfl, by simpa using DD.out⟩
    · have h0 : wd.cell? ⟨sb, 0, none⟩ = some (.slice p X.length cap) := (H.out.below GB.out).cell
      go_simp
      clear h0
      refine hK.out _ _ SX.out (fun _ => ?_)
      clear hK
      try simp only [Act.put, List.getElem_toArray, List.getElem_cons_succ, List.getElem_cons_zero, List.setIfInBounds_toArray, List.set_cons_zero, List.set_cons_succ]
      refine wpAnyH_take (i := 14) (v := .int .i64 X.length) rfl (by kernel_rfl) (by kernel_rfl) (by kernel_rfl) (fun _ _ _ h => h) (Or.inl ⟨by rfl, fun wx hS => ?_⟩) SX.out ?_
      · go_simp
      try simp only [Act.put, List.getElem_toArray, List.getElem_cons_succ, List.getElem_cons_zero, List.setIfInBounds_toArray, List.set_cons_zero, List.set_cons_succ]
      refine wpAnyH_take (i := 16) (v := .int .i64 m) rfl (by kernel_rfl) (by kernel_rfl) (by kernel_rfl) (fun _ _ _ h => h) (Or.inl ⟨by rfl, fun wx hS => ?_⟩) SX.out ?_
      · go_simp
      try simp only [Act.put, List.getElem_toArray, List.getElem_cons_succ, List.getElem_cons_zero, List.setIfInBounds_toArray, List.set_cons_zero, List.set_cons_succ]
      refine wpAnyH_ready (rs := [5, 9]) (by kernel_rfl) (by simp) ?_
      refine AllReadyH.cons rfl (fun K hK => ?_) (AllReadyH.cons rfl (fun K hK => ?_) (AllReadyH.nil))
      · refine step_append_ex rfl _ _ 33 rfl (.slice none 0 0) (.slice p X.length cap) rfl rfl _ (nil_append (Seg.of_owns (H.out.below GB.out).row) (by have := HO.out; omega) _) ?_
        rintro v1 wA ap
        obtain ⟨p1, c1, rfl⟩ := owns_form ap.row
        have kb1 : Below wd.heap.size wd wA := (Below.refl _ _).grown ap.grow (Nat.le_refl _) fun g e => by simp [Value.ownBlock] at e
        have A1 := Lib.hid ap.row
        have N1 : Hid (∀ g, (Value.slice p1 X.length c1).ownBlock = some g → w.heap.size ≤ g) := Lib.hid fun g e => by
          rcases ap.own g e with q | q
          · simp [Value.ownBlock] at q
          · exact Nat.le_trans GB.out.size q
        replace GB := Lib.hid (below_and GB.out kb1)
        clear ap kb1
        refine hK.out _ _ SX.out (fun _ => ?_)
        clear hK
        try simp only [Act.put, List.getElem_toArray, List.getElem_cons_succ, List.getElem_cons_zero, List.setIfInBounds_toArray, List.set_cons_zero, List.set_cons_succ]
        refine wpAnyH_ready (rs := [9]) (by kernel_rfl) (by simp) ?_
        refine AllReadyH.cons rfl (fun K hK => ?_) AllReadyH.nil
        have h0 : wA.cell? ⟨sb, 0, none⟩ = some (.slice p X.length cap) := (H.out.below GB.out).cell
        go_simp
        clear h0
        refine hK.out _ _ SX.out (fun _ => ?_)
        clear hK
        try simp only [Act.put, List.getElem_toArray, List.getElem_cons_succ, List.getElem_cons_zero, List.setIfInBounds_toArray, List.set_cons_zero, List.set_cons_succ]
        refine wpAnyH_take (i := 17) (v := V) rfl (by kernel_rfl) (by kernel_rfl) (by kernel_rfl) (fun _ _ _ h => h) (Or.inl ⟨by rfl, fun wx hS => ?_⟩) SX.out ?_
        · go_simp
        try simp only [Act.put, List.getElem_toArray, List.getElem_cons_succ, List.getElem_cons_zero, List.setIfInBounds_toArray, List.set_cons_zero, List.set_cons_succ]
        refine wpAnyH_ready (rs := [18]) (by kernel_rfl) (by simp) ?_
        refine AllReadyH.cons rfl (fun K hK => ?_) AllReadyH.nil
        refine step_append_ex rfl _ _ 33 rfl (.slice p1 X.length c1) V rfl rfl _ (seg_append A1.out (HV.out _ GB.out) (Nat.zero_le _) (by have := HO.out; omega) (by have := HO.out; simp; omega) _) ?_
        rintro v5 w5 ap
        replace ap : AppOf 0 (.slice p1 X.length c1) (X ++ X.drop m) wA v5 w5 := ap
        obtain ⟨bl, nv⟩ := ap.below GB.out N1.out
        have c0 : w5.cell? ⟨sb, 0, none⟩ = some (.slice p X.length cap) := (H.out.below bl).cell
        have f0 : w5.frozen? ⟨sb, 0, none⟩ = false := (H.out.below bl).free
        have DD := Lib.hid (H.out.after2 bl ap.row nv (by have := HL.out; have := HO.out; simp; omega))
        obtain ⟨p5, c5, e5⟩ := owns_form ap.row
        subst e5
        clear ap bl nv
        refine hK.out _ _ SX.out (fun _ => ?_)
        clear hK
        try simp only [Act.put, List.getElem_toArray, List.getElem_cons_succ, List.getElem_cons_zero, List.setIfInBounds_toArray, List.set_cons_zero, List.set_cons_succ]
        refine wpAnyH_take (i := 19) (v := ptr sb) rfl (by kernel_rfl) (by kernel_rfl) (by kernel_rfl) (fun _ _ _ h => h) (Or.inl ⟨by rfl, fun wx hS => ?_⟩) SX.out ?_
        · go_simp
        try simp only [Act.put, List.getElem_toArray, List.getElem_cons_succ, List.getElem_cons_zero, List.setIfInBounds_toArray, List.set_cons_zero, List.set_cons_succ]
        refine wpAnyH_take (i := 20) (v := .pointer (some ⟨sb, 0, none⟩)) rfl (by kernel_rfl) (by kernel_rfl) (by kernel_rfl) (fun _ _ _ h => h) (Or.inl ⟨by rfl, fun wx hS => ?_⟩) SX.out ?_
        · go_simp
        try simp only [Act.put, List.getElem_toArray, List.getElem_cons_succ, List.getElem_cons_zero, List.setIfInBounds_toArray, List.set_cons_zero, List.set_cons_succ]
        refine wpAnyH_ready (rs := [21]) (by kernel_rfl) (by simp) ?_
        refine AllReadyH.cons rfl (fun K hK => ?_) AllReadyH.nil
        go_simp
        clear c0 f0
        refine hK.out _ _ trivial (fun _ => ?_)
        clear hK
        refine wpAnyH_done (by kernel_rfl) ?_ _
        (try refine no_panic ?_)
        go_wp2
        go_ret
        exact ⟨rfl, by simpa using DD.out⟩
      · have h0 : wd.cell? ⟨sb, 0, none⟩ = some (.slice p X.length cap) := (H.out.below GB.out).cell
        go_simp
        clear h0
        refine hK.out _ _ SX.out (fun _ => ?_)
        clear hK
        try simp only [Act.put, List.getElem_toArray, List.getElem_cons_succ, List.getElem_cons_zero, List.setIfInBounds_toArray, List.set_cons_zero, List.set_cons_succ]
        refine wpAnyH_take (i := 17) (v := V) rfl (by kernel_rfl) (by kernel_rfl) (by kernel_rfl) (fun _ _ _ h => h) (Or.inl ⟨by rfl, fun wx hS => ?_⟩) SX.out ?_
        · go_simp
        try simp only [Act.put, List.getElem_toArray, List.getElem_cons_succ, List.getElem_cons_zero, List.setIfInBounds_toArray, List.set_cons_zero, List.set_cons_succ]
        refine wpAnyH_ready (rs := [5]) (by kernel_rfl) (by simp) ?_
        refine AllReadyH.cons rfl (fun K hK => ?_) AllReadyH.nil
        refine step_append_ex rfl _ _ 33 rfl (.slice none 0 0) (.slice p X.length cap) rfl rfl _ (nil_append (Seg.of_owns (H.out.below GB.out).row) (by have := HO.out; omega) _) ?_
        rintro v1 wA ap
        obtain ⟨p1, c1, rfl⟩ := owns_form ap.row
        have kb1 : Below wd.heap.size wd wA := (Below.refl _ _).grown ap.grow (Nat.le_refl _) fun g e => by simp [Value.ownBlock] at e
        have A1 := Lib.hid ap.row
        have N1 : Hid (∀ g, (Value.slice p1 X.length c1).ownBlock = some g → w.heap.size ≤ g) := Lib.hid fun g e => by
          rcases ap.own g e with q | q
          · simp [Value.ownBlock] at q
          · exact Nat.le_trans GB.out.size q
        replace GB := Lib.hid (below_and GB.out kb1)
        clear ap kb1
        refine hK.out _ _ SX.out (fun _ => ?_)
        clear hK
        try simp only [Act.put, List.getElem_toArray, List.getElem_cons_succ, List.getElem_cons_zero, List.setIfInBounds_toArray, List.set_cons_zero, List.set_cons_succ]
        refine wpAnyH_ready (rs := [18]) (by kernel_rfl) (by simp) ?_
        refine AllReadyH.cons rfl (fun K hK => ?_) AllReadyH.nil
        refine step_append_ex rfl _ _ 33 rfl (.slice p1 X.length c1) V rfl rfl _ (seg_append A1.out (HV.out _ GB.out) (Nat.zero_le _) (by have := HO.out; omega) (by have := HO.out; simp; omega) _) ?_
        rintro v5 w5 ap
        replace ap : AppOf 0 (.slice p1 X.length c1) (X ++ X.drop m) wA v5 w5 := ap
        obtain ⟨bl, nv⟩ := ap.below GB.out N1.out
        have c0 : w5.cell? ⟨sb, 0, none⟩ = some (.slice p X.length cap) := (H.out.below bl).cell
        have f0 : w5.frozen? ⟨sb, 0, none⟩ = false := (H.out.below bl).free
        have DD := Lib.hid (H.out.after2 bl ap.row nv (by have := HL.out; have := HO.out; simp; omega))
        obtain ⟨p5, c5, e5⟩ := owns_form ap.row
        subst e5
        clear ap bl nv
        refine hK.out _ _ SX.out (fun _ => ?_)
        clear hK
        try simp only [Act.put, List.getElem_toArray, List.getElem_cons_succ, List.getElem_cons_zero, List.setIfInBounds_toArray, List.set_cons_zero, List.set_cons_succ]
        refine wpAnyH_take (i := 19) (v := ptr sb) rfl (by kernel_rfl) (by kernel_rfl) (by kernel_rfl) (fun _ _ _ h => h) (Or.inl ⟨by rfl, fun wx hS => ?_⟩) SX.out ?_
        · go_simp
        try simp only [Act.put, List.getElem_toArray, List.getElem_cons_succ, List.getElem_cons_zero, List.setIfInBounds_toArray, List.set_cons_zero, List.set_cons_succ]
        refine wpAnyH_take (i := 20) (v := .pointer (some ⟨sb, 0, none⟩)) rfl (by kernel_rfl) (by kernel_rfl) (by kernel_rfl) (fun _ _ _ h => h) (Or.inl ⟨by rfl, fun wx hS => ?_⟩) SX.out ?_
        · go_simp
        try simp only [Act.put, List.getElem_toArray, List.getElem_cons_succ, List.getElem_cons_zero, List.setIfInBounds_toArray, List.set_cons_zero, List.set_cons_succ]
        refine wpAnyH_ready (rs := [21]) (by kernel_rfl) (by simp) ?_
        refine AllReadyH.cons rfl (fun K hK => ?_) AllReadyH.nil
        go_simp
        clear c0 f0
        refine hK.out _ _ trivial (fun _ => ?_)
        clear hK
        refine wpAnyH_done (by kernel_rfl) ?_ _
        (try refine no_panic ?_)
        go_wp2
        go_ret
        exact ⟨rfl, by simpa using DD.out⟩
  · have h0 : wd.cell? ⟨sb, 0, none⟩ = some (.slice p X.length cap) := (H.out.below GB.out).cell
    go_simp
    clear h0
    refine hK.out _ _ SX.out (fun _ => ?_)
    clear hK
    try simp only [Act.put, List.getElem_toArray, List.getElem_cons_succ, List.getElem_cons_zero, List.setIfInBounds_toArray, List.set_cons_zero, List.set_cons_succ]
    refine wpAnyH_ready (rs := [4, 13]) (by kernel_rfl) (by simp) ?_
    refine AllReadyH.cons rfl (fun K hK => ?_) (AllReadyH.cons rfl (fun K hK => ?_) (AllReadyH.nil))
    · have h0 : wd.cell? ⟨sb, 0, none⟩ = some (.slice p X.length cap) := (H.out.below GB.out).cell
      go_simp
      clear h0
      refine hK.out _ _ SX.out (fun _ => ?_)
      clear hK
      try simp only [Act.put, List.getElem_toArray, List.getElem_cons_succ, List.getElem_cons_zero, List.setIfInBounds_toArray, List.set_cons_zero, List.set_cons_succ]
      refine wpAnyH_ready (rs := [5, 13]) (by kernel_rfl) (by simp) ?_
      refine AllReadyH.cons rfl (fun K hK => ?_) (AllReadyH.cons rfl (fun K hK => ?_) (AllReadyH.nil))
      · refine step_append_ex rfl _ _ 33 rfl (.slice none 0 0) (.slice p X.length cap) rfl rfl _ (nil_append (Seg.of_owns (H.out.below GB.out).row) (by have := HO.out; omega) _) ?_
        rintro v1 wA ap
        obtain ⟨p1, c1, rfl⟩ := owns_form ap.row
        have kb1 : Below wd.heap.size wd wA := (Below.refl _ _).grown ap.grow (Nat.le_refl _) fun g e => by simp [Value.ownBlock] at e
        have A1 := Lib.hid ap.row
        have N1 : Hid (∀ g, (Value.slice p1 X.length c1).ownBlock = some g → w.heap.size ≤ g) := Lib.hid fun g e => by
          rcases ap.own g e with q | q
          · simp [Value.ownBlock] at q
          · exact Nat.le_trans GB.out.size q
        replace GB := Lib.hid (below_and GB.out kb1)
        clear ap kb1
        refine hK.out _ _ SX.out (fun _ => ?_)
        clear hK
        try simp only [Act.put, List.getElem_toArray, List.getElem_cons_succ, List.getElem_cons_zero, List.setIfInBounds_toArray, List.set_cons_zero, List.set_cons_succ]
        refine wpAnyH_ready (rs := [13]) (by kernel_rfl) (by simp) ?_
        refine AllReadyH.cons rfl (fun K hK => ?_) AllReadyH.nil
        have h0 : wA.cell? ⟨sb, 0, none⟩ = some (.slice p X.length cap) := (H.out.below GB.out).cell
        go_simp
        clear h0
        refine hK.out _ _ SX.out (fun _ => ?_)
        clear hK
        try simp only [Act.put, List.getElem_toArray, List.getElem_cons_succ, List.getElem_cons_zero, List.setIfInBounds_toArray, List.set_cons_zero, List.set_cons_succ]
        refine wpAnyH_take (i := 14) (v := .int .i64 X.length) rfl (by kernel_rfl) (by kernel_rfl) (by kernel_rfl) (fun _ _ _ h => h) (Or.inl ⟨by rfl, fun wx hS => ?_⟩) SX.out ?_
        · go_simp
        try simp only [Act.put, List.getElem_toArray, List.getElem_cons_succ, List.getElem_cons_zero, List.setIfInBounds_toArray, List.set_cons_zero, List.set_cons_succ]
        refine wpAnyH_take (i := 16) (v := .int .i64 m) rfl (by kernel_rfl) (by kernel_rfl) (by kernel_rfl) (fun _ _ _ h => h) (Or.inl ⟨by rfl, fun wx hS => ?_⟩) SX.out ?_
        · go_simp
        try simp only [Act.put, List.getElem_toArray, List.getElem_cons_succ, List.getElem_cons_zero, List.setIfInBounds_toArray, List.set_cons_zero, List.set_cons_succ]
        refine wpAnyH_take (i := 17) (v := V) rfl (by kernel_rfl) (by kernel_rfl) (by kernel_rfl) (fun _ _ _ h => h) (Or.inl ⟨by rfl, fun wx hS => ?_⟩) SX.out ?_
        · go_simp
        try simp only [Act.put, List.getElem_toArray, List.getElem_cons_succ, List.getElem_cons_zero, List.setIfInBounds_toArray, List.set_cons_zero, List.set_cons_succ]
        refine wpAnyH_ready (rs := [18]) (by kernel_rfl) (by simp) ?_
        refine AllReadyH.cons rfl (fun K hK => ?_) AllReadyH.nil
        refine step_append_ex rfl _ _ 33 rfl (.slice p1 X.length c1) V rfl rfl _ (seg_append A1.out (HV.out _ GB.out) (Nat.zero_le _) (by have := HO.out; omega) (by have := HO.out; simp; omega) _) ?_
        rintro v5 w5 ap
        replace ap : AppOf 0 (.slice p1 X.length c1) (X ++ X.drop m) wA v5 w5 := ap
        obtain ⟨bl, nv⟩ := ap.below GB.out N1.out
        have c0 : w5.cell? ⟨sb, 0, none⟩ = some (.slice p X.length cap) := (H.out.below bl).cell
        have f0 : w5.frozen? ⟨sb, 0, none⟩ = false := (H.out.below bl).free
        have DD := Lib.hid (H.out.after2 bl ap.row nv (by have := HL.out; have := HO.out; simp; omega))
        obtain ⟨p5, c5, e5⟩ := owns_form ap.row
        subst e5
        clear ap bl nv
        refine hK.out _ _ SX.out (fun _ => ?_)
        clear hK
        try simp only [Act.put, List.getElem_toArray, List.getElem_cons_succ, List.getElem_cons_zero, List.setIfInBounds_toArray, List.set_cons_zero, List.set_cons_succ]
        refine wpAnyH_take (i := 19) (v := ptr sb) rfl (by kernel_rfl) (by kernel_rfl) (by kernel_rfl) (fun _ _ _ h => h) (Or.inl ⟨by rfl, fun wx hS => ?_⟩) SX.out ?_
        · go_simp
        try simp only [Act.put, List.getElem_toArray, List.getElem_cons_succ, List.getElem_cons_zero, List.setIfInBounds_toArray, List.set_cons_zero, List.set_cons_succ]
        refine wpAnyH_take (i := 20) (v := .pointer (some ⟨sb, 0, none⟩)) rfl (by kernel_rfl) (by kernel_rfl) (by kernel_rfl) (fun _ _ _ h => h) (Or.inl ⟨by rfl, fun wx hS => ?_⟩) SX.out ?_
        · go_simp
        try simp only [Act.put, List.getElem_toArray, List.getElem_cons_succ, List.getElem_cons_zero, List.setIfInBounds_toArray, List.set_cons_zero, List.set_cons_succ]
        refine wpAnyH_ready (rs := [21]) (by kernel_rfl) (by simp) ?_
        refine AllReadyH.cons rfl (fun K hK => ?_) AllReadyH.nil
        go_simp
        clear c0 f0
        refine hK.out _ _ trivial (fun _ => ?_)
        clear hK
        refine wpAnyH_done (by kernel_rfl) ?_ _
        (try refine no_panic ?_)
        go_wp2
        go_ret
        exact ⟨rfl, by simpa using DD.out⟩
      · have h0 : wd.cell? ⟨sb, 0, none⟩ = some (.slice p X.length cap) := (H.out.below GB.out).cell
        go_simp
        clear h0
        refine hK.out _ _ SX.out (fun _ => ?_)
        clear hK
        try simp only [Act.put, List.getElem_toArray, List.getElem_cons_succ, List.getElem_cons_zero, List.setIfInBounds_toArray, List.set_cons_zero, List.set_cons_succ]
        refine wpAnyH_take (i := 14) (v := .int .i64 X.length) rfl (by kernel_rfl) (by kernel_rfl) (by kernel_rfl) (fun _ _ _ h => h) (Or.inl ⟨by rfl, fun wx hS => ?_⟩) SX.out ?_
        · go_simp
        try simp only [Act.put, List.getElem_toArray, List.getElem_cons_succ, List.getElem_cons_zero, List.setIfInBounds_toArray, List.set_cons_zero, List.set_cons_succ]
        refine wpAnyH_take (i := 16) (v := .int .i64 m) rfl (by kernel_rfl) (by kernel_rfl) (by kernel_rfl) (fun _ _ _ h => h) (Or.inl ⟨by rfl, fun wx hS => ?_⟩) SX.out ?_
        · go_simp
        try simp only [Act.put, List.getElem_toArray, List.getElem_cons_succ, List.getElem_cons_zero, List.setIfInBounds_toArray, List.set_cons_zero, List.set_cons_succ]
        refine wpAnyH_take (i := 17) (v := V) rfl (by kernel_rfl) (by kernel_rfl) (by kernel_rfl) (fun _ _ _ h => h) (Or.inl ⟨by rfl, fun wx hS => ?_⟩) SX.out ?_
        · go_simp
        try simp only [Act.put, List.getElem_toArray, List.getElem_cons_succ, List.getElem_cons_zero, List.setIfInBounds_toArray, List.set_cons_zero, List.set_cons_succ]
        refine wpAnyH_ready (rs := [5]) (by kernel_rfl) (by simp) ?_
        refine AllReadyH.cons rfl (fun K hK => ?_) AllReadyH.nil
        refine step_append_ex rfl _ _ 33 rfl (.slice none 0 0) (.slice p X.length cap) rfl rfl _ (nil_append (Seg.of_owns (H.out.below GB.out).row) (by have := HO.out; omega) _) ?_
        rintro v1 wA ap
        obtain ⟨p1, c1, rfl⟩ := owns_form ap.row
        have kb1 : Below wd.heap.size wd wA := (Below.refl _ _).grown ap.grow (Nat.le_refl _) fun g e => by simp [Value.ownBlock] at e
        have A1 := Lib.hid ap.row
        have N1 : Hid (∀ g, (Value.slice p1 X.length c1).ownBlock = some g → w.heap.size ≤ g) := Lib.hid fun g e => by
          rcases ap.own g e with q | q
          · simp [Value.ownBlock] at q
          · exact Nat.le_trans GB.out.size q
        replace GB := Lib.hid (below_and GB.out kb1)
        clear ap kb1
        refine hK.out _ _ SX.out (fun _ => ?_)
        clear hK
        try simp only [Act.put, List.getElem_toArray, List.getElem_cons_succ, List.getElem_cons_zero, List.setIfInBounds_toArray, List.set_cons_zero, List.set_cons_succ]
        refine wpAnyH_ready (rs := [18]) (by kernel_rfl) (by simp) ?_
        refine AllReadyH.cons rfl (fun K hK => ?_) AllReadyH.nil
        refine step_append_ex rfl _ _ 33 rfl (.slice p1 X.length c1) V rfl rfl _ (seg_append A1.out (HV.out _ GB.out) (Nat.zero_le _) (by have := HO.out; omega) (by have := HO.out; simp; omega) _) ?_
        rintro v5 w5 ap
        replace ap : AppOf 0 (.slice p1 X.length c1) (X ++ X.drop m) wA v5 w5 := ap
        obtain ⟨bl, nv⟩ := ap.below GB.out N1.out
        have c0 : w5.cell? ⟨sb, 0, none⟩ = some (.slice p X.length cap) := (H.out.below bl).cell
        have f0 : w5.frozen? ⟨sb, 0, none⟩ = false := (H.out.below bl).free
        have DD := Lib.hid (H.out.after2 bl ap.row nv (by have := HL.out; have := HO.out; simp; omega))
        obtain ⟨p5, c5, e5⟩ := owns_form ap.row
        subst e5
        clear ap bl nv
        refine hK.out _ _ SX.out (fun _ => ?_)
        clear hK
        try simp only [Act.put, List.getElem_toArray, List.getElem_cons_succ, List.getElem_cons_zero, List.setIfInBounds_toArray, List.set_cons_zero, List.set_cons_succ]
        refine wpAnyH_take (i := 19) (v := ptr sb) rfl (by kernel_rfl) (by kernel_rfl) (by kernel_rfl) (fun _ _ _ h => h) (Or.inl ⟨by rfl, fun wx hS => ?_⟩) SX.out ?_
        · go_simp
        try simp only [Act.put, List.getElem_toArray, List.getElem_cons_succ, List.getElem_cons_zero, List.setIfInBounds_toArray, List.set_cons_zero, List.set_cons_succ]
        refine wpAnyH_take (i := 20) (v := .pointer (some ⟨sb, 0, none⟩)) rfl (by kernel_rfl) (by kernel_rfl) (by kernel_rfl) (fun _ _ _ h => h) (Or.inl ⟨by rfl, fun wx hS => ?_⟩) SX.out ?_
        · go_simp
        try simp only [Act.put, List.getElem_toArray, List.getElem_cons_succ, List.getElem_cons_zero, List.setIfInBounds_toArray, List.set_cons_zero, List.set_cons_succ]
        refine wpAnyH_ready (rs := [21]) (by kernel_rfl) (by simp) ?_
        refine AllReadyH.cons rfl (fun K hK => ?_) AllReadyH.nil
        go_simp
        clear c0 f0
        refine hK.out _ _ trivial (fun _ => ?_)
        clear hK
        refine wpAnyH_done (by kernel_rfl) ?_ _
        (try refine no_panic ?_)
        go_wp2
        go_ret
        exact ⟨rfl, by simpa using DD.out⟩
    · have h0 : wd.cell? ⟨sb, 0, none⟩ = some (.slice p X.length cap) := (H.out.below GB.out).cell
      go_simp
      clear h0
      refine hK.out _ _ SX.out (fun _ => ?_)
      clear hK
      try simp only [Act.put, List.getElem_toArray, List.getElem_cons_succ, List.getElem_cons_zero, List.setIfInBounds_toArray, List.set_cons_zero, List.set_cons_succ]
      refine wpAnyH_take (i := 14) (v := .int .i64 X.length) rfl (by kernel_rfl) (by kernel_rfl) (by kernel_rfl) (fun _ _ _ h => h) (Or.inl ⟨by rfl, fun wx hS => ?_⟩) SX.out ?_
      · go_simp
      try simp only [Act.put, List.getElem_toArray, List.getElem_cons_succ, List.getElem_cons_zero, List.setIfInBounds_toArray, List.set_cons_zero, List.set_cons_succ]
      refine wpAnyH_take (i := 16) (v := .int .i64 m) rfl (by kernel_rfl) (by kernel_rfl) (by kernel_rfl) (fun _ _ _ h => h) (Or.inl ⟨by rfl, fun wx hS => ?_⟩) SX.out ?_
      · go_simp
      try simp only [Act.put, List.getElem_toArray, List.getElem_cons_succ, List.getElem_cons_zero, List.setIfInBounds_toArray, List.set_cons_zero, List.set_cons_succ]
      refine wpAnyH_take (i := 17) (v := V) rfl (by kernel_rfl) (by kernel_rfl) (by kernel_rfl) (fun _ _ _ h => h) (Or.inl ⟨by rfl, fun wx hS => ?_⟩) SX.out ?_
      · go_simp
      try simp only [Act.put, List.getElem_toArray, List.getElem_cons_succ, List.getElem_cons_zero, List.setIfInBounds_toArray, List.set_cons_zero, List.set_cons_succ]
      refine wpAnyH_ready (rs := [4]) (by kernel_rfl) (by simp) ?_
      refine AllReadyH.cons rfl (fun K hK => ?_) AllReadyH.nil
      have h0 : wd.cell? ⟨sb, 0, none⟩ = some (.slice p X.length cap) := (H.out.below GB.out).cell
      go_simp
      clear h0
      refine hK.out _ _ SX.out (fun _ => ?_)
      clear hK
      try simp only [Act.put, List.getElem_toArray, List.getElem_cons_succ, List.getElem_cons_zero, List.setIfInBounds_toArray, List.set_cons_zero, List.set_cons_succ]
      refine wpAnyH_ready (rs := [5]) (by kernel_rfl) (by simp) ?_
      refine AllReadyH.cons rfl (fun K hK => ?_) AllReadyH.nil
      refine step_append_ex rfl _ _ 33 rfl (.slice none 0 0) (.slice p X.length cap) rfl rfl _ (nil_append (Seg.of_owns (H.out.below GB.out).row) (by have := HO.out; omega) _) ?_
      rintro v1 wA ap
      obtain ⟨p1, c1, rfl⟩ := owns_form ap.row
      have kb1 : Below wd.heap.size wd wA := (Below.refl _ _).grown ap.grow (Nat.le_refl _) fun g e => by simp [Value.ownBlock] at e
      have A1 := Lib.hid ap.row
      have N1 : Hid (∀ g, (Value.slice p1 X.length c1).ownBlock = some g → w.heap.size ≤ g) := Lib.hid fun g e => by
        rcases ap.own g e with q | q
        · simp [Value.ownBlock] at q
        · exact Nat.le_trans GB.out.size q
      replace GB := Lib.hid (below_and GB.out kb1)
      clear ap kb1
      refine hK.out _ _ SX.out (fun _ => ?_)
      clear hK
      try simp only [Act.put, List.getElem_toArray, List.getElem_cons_succ, List.getElem_cons_zero, List.setIfInBounds_toArray, List.set_cons_zero, List.set_cons_succ]
      refine wpAnyH_ready (rs := [18]) (by kernel_rfl) (by simp) ?_
      refine AllReadyH.cons rfl (fun K hK => ?_) AllReadyH.nil
      refine step_append_ex rfl _ _ 33 rfl (.slice p1 X.length c1) V rfl rfl _ (seg_append A1.out (HV.out _ GB.out) (Nat.zero_le _) (by have := HO.out; omega) (by have := HO.out; simp; omega) _) ?_
      rintro v5 w5 ap
      replace ap : AppOf 0 (.slice p1 X.length c1) (X ++ X.drop m) wA v5 w5 := ap
      obtain ⟨bl, nv⟩ := ap.below GB.out N1.out
      have c0 : w5.cell? ⟨sb, 0, none⟩ = some (.slice p X.length cap) := (H.out.below bl).cell
      have f0 : w5.frozen? ⟨sb, 0, none⟩ = false := (H.out.below bl).free
      have DD := Lib.hid (H.out.after2 bl ap.row nv (by have := HL.out; have := HO.out; simp; omega))
      obtain ⟨p5, c5, e5⟩ := owns_form ap.row
      subst e5
      clear ap bl nv
      refine hK.out _ _ SX.out (fun _ => ?_)
      clear hK
      try simp only [Act.put, List.getElem_toArray, List.getElem_cons_succ, List.getElem_cons_zero, List.setIfInBounds_toArray, List.set_cons_zero, List.set_cons_succ]
      refine wpAnyH_take (i := 19) (v := ptr sb) rfl (by kernel_rfl) (by kernel_rfl) (by kernel_rfl) (fun _ _ _ h => h) (Or.inl ⟨by rfl, fun wx hS => ?_⟩) SX.out ?_
      · go_simp
      try simp only [Act.put, List.getElem_toArray, List.getElem_cons_succ, List.getElem_cons_zero, List.setIfInBounds_toArray, List.set_cons_zero, List.set_cons_succ]
      refine wpAnyH_take (i := 20) (v := .pointer (some ⟨sb, 0, none⟩)) rfl (by kernel_rfl) (by kernel_rfl) (by kernel_rfl) (fun _ _ _ h => h) (Or.inl ⟨by rfl, fun wx hS => ?_⟩) SX.out ?_
      · go_simp
      try simp only [Act.put, List.getElem_toArray, List.getElem_cons_succ, List.getElem_cons_zero, List.setIfInBounds_toArray, List.set_cons_zero, List.set_cons_succ]
      refine wpAnyH_ready (rs := [21]) (by kernel_rfl) (by simp) ?_
      refine AllReadyH.cons rfl (fun K hK => ?_) AllReadyH.nil
      go_simp
      clear c0 f0
      refine hK.out _ _ trivial (fun _ => ?_)
      clear hK
      refine wpAnyH_done (by kernel_rfl) ?_ _
      (try refine no_panic ?_)
      go_wp2
      go_ret
      exact ⟨rfl, by simpa using DD.out⟩
  · have h0 : wd.cell? ⟨sb, 0, none⟩ = some (.slice p X.length cap) := (H.out.below GB.out).cell
    go_simp
    clear h0
    refine hK.out _ _ SX.out (fun _ => ?_)
    clear hK
    try simp only [Act.put, List.getElem_toArray, List.getElem_cons_succ, List.getElem_cons_zero, List.setIfInBounds_toArray, List.set_cons_zero, List.set_cons_succ]
    refine wpAnyH_take (i := 14) (v := .int .i64 X.length) rfl (by kernel_rfl) (by kernel_rfl) (by kernel_rfl) (fun _ _ _ h => h) (Or.inl ⟨by rfl, fun wx hS => ?_⟩) SX.out ?_
    · go_simp
    try simp only [Act.put, List.getElem_toArray, List.getElem_cons_succ, List.getElem_cons_zero, List.setIfInBounds_toArray, List.set_cons_zero, List.set_cons_succ]
    refine wpAnyH_take (i := 16) (v := .int .i64 m) rfl (by kernel_rfl) (by kernel_rfl) (by kernel_rfl) (fun _ _ _ h => h) (Or.inl ⟨by rfl, fun wx hS => ?_⟩) SX.out ?_
    · go_simp
    try simp only [Act.put, List.getElem_toArray, List.getElem_cons_succ, List.getElem_cons_zero, List.setIfInBounds_toArray, List.set_cons_zero, List.set_cons_succ]
    refine wpAnyH_ready (rs := [4, 9]) (by kernel_rfl) (by simp) ?_
    refine AllReadyH.cons rfl (fun K hK => ?_) (AllReadyH.cons rfl (fun K hK => ?_) (AllReadyH.nil))
    · have h0 : wd.cell? ⟨sb, 0, none⟩ = some (.slice p X.length cap) := (H.out.below GB.out).cell
      go_simp
      clear h0
      refine hK.out _ _ SX.out (fun _ => ?_)
      clear hK
      try simp only [Act.put, List.getElem_toArray, List.getElem_cons_succ, List.getElem_cons_zero, List.setIfInBounds_toArray, List.set_cons_zero, List.set_cons_succ]
      refine wpAnyH_ready (rs := [5, 9]) (by kernel_rfl) (by simp) ?_
      refine AllReadyH.cons rfl (fun K hK => ?_) (AllReadyH.cons rfl (fun K hK => ?_) (AllReadyH.nil))
      · refine step_append_ex rfl _ _ 33 rfl (.slice none 0 0) (.slice p X.length cap) rfl rfl _ (nil_append (Seg.of_owns (H.out.below GB.out).row) (by have := HO.out; omega) _) ?_
        rintro v1 wA ap
        obtain ⟨p1, c1, rfl⟩ := owns_form ap.row
        have kb1 : Below wd.heap.size wd wA := (Below.refl _ _).grown ap.grow (Nat.le_refl _) fun g e => by simp [Value.ownBlock] at e
        have A1 := Lib.hid ap.row
        have N1 : Hid (∀ g, (Value.slice p1 X.length c1).ownBlock = some g → w.heap.size ≤ g) := Lib.hid fun g e => by
          rcases ap.own g e with q | q
          · simp [Value.ownBlock] at q
          · exact Nat.le_trans GB.out.size q
        replace GB := Lib.hid (below_and GB.out kb1)
        clear ap kb1
        refine hK.out _ _ SX.out (fun _ => ?_)
        clear hK
        try simp only [Act.put, List.getElem_toArray, List.getElem_cons_succ, List.getElem_cons_zero, List.setIfInBounds_toArray, List.set_cons_zero, List.set_cons_succ]
        refine wpAnyH_ready (rs := [9]) (by kernel_rfl) (by simp) ?_
        refine AllReadyH.cons rfl (fun K hK => ?_) AllReadyH.nil
        have h0 : wA.cell? ⟨sb, 0, none⟩ = some (.slice p X.length cap) := (H.out.below GB.out).cell
        go_simp
        clear h0
        refine hK.out _ _ SX.out (fun _ => ?_)
        clear hK
        try simp only [Act.put, List.getElem_toArray, List.getElem_cons_succ, List.getElem_cons_zero, List.setIfInBounds_toArray, List.set_cons_zero, List.set_cons_succ]
        refine wpAnyH_take (i := 17) (v := V) rfl (by kernel_rfl) (by kernel_rfl) (by kernel_rfl) (fun _ _ _ h => h) (Or.inl ⟨by rfl, fun wx hS => ?_⟩) SX.out ?_
        · go_simp
        try simp only [Act.put, List.getElem_toArray, List.getElem_cons_succ, List.getElem_cons_zero, List.setIfInBounds_toArray, List.set_cons_zero, List.set_cons_succ]
        refine wpAnyH_ready (rs := [18]) (by kernel_rfl) (by simp) ?_
        refine AllReadyH.cons rfl (fun K hK => ?_) AllReadyH.nil
        refine step_append_ex rfl _ _ 33 rfl (.slice p1 X.length c1) V rfl rfl _ (seg_append A1.out (HV.out _ GB.out) (Nat.zero_le _) (by have := HO.out; omega) (by have := HO.out; simp; omega) _) ?_
        rintro v5 w5 ap
        replace ap : AppOf 0 (.slice p1 X.length c1) (X ++ X.drop m) wA v5 w5 := ap
        obtain ⟨bl, nv⟩ := ap.below GB.out N1.out
        have c0 : w5.cell? ⟨sb, 0, none⟩ = some (.slice p X.length cap) := (H.out.below bl).cell
        have f0 : w5.frozen? ⟨sb, 0, none⟩ = false := (H.out.below bl).free
        have DD := Lib.hid (H.out.after2 bl ap.row nv (by have := HL.out; have := HO.out; simp; omega))
        obtain ⟨p5, c5, e5⟩ := owns_form ap.row
        subst e5
        clear ap bl nv
        refine hK.out _ _ SX.out (fun _ => ?_)
        clear hK
        try simp only [Act.put, List.getElem_toArray, List.getElem_cons_succ, List.getElem_cons_zero, List.setIfInBounds_toArray, List.set_cons_zero, List.set_cons_succ]
        refine wpAnyH_take (i := 19) (v := ptr sb) rfl (by kernel_rfl) (by kernel_rfl) (by kernel_rfl) (fun _ _ _ h => h) (Or.inl ⟨by rfl, fun wx hS => ?_⟩) SX.out ?_
        · go_simp
        try simp only [Act.put, List.getElem_toArray, List.getElem_cons_succ, List.getElem_cons_zero, List.setIfInBounds_toArray, List.set_cons_zero, List.set_cons_succ]
        refine wpAnyH_take (i := 20) (v := .pointer (some ⟨sb, 0, none⟩)) rfl (by kernel_rfl) (by kernel_rfl) (by kernel_rfl) (fun _ _ _ h => h) (Or.inl ⟨by rfl, fun wx hS => ?_⟩) SX.out ?_
        · go_simp
        try simp only [Act.put, List.getElem_toArray, List.getElem_cons_succ, List.getElem_cons_zero, List.setIfInBounds_toArray, List.set_cons_zero, List.set_cons_succ]
        refine wpAnyH_ready (rs := [21]) (by kernel_rfl) (by simp) ?_
        refine AllReadyH.cons rfl (fun K hK => ?_) AllReadyH.nil
        go_simp
        clear c0 f0
        refine hK.out _ _ trivial (fun _ => ?_)
        clear hK
        refine wpAnyH_done (by kernel_rfl) ?_ _
        (try refine no_panic ?_)
        go_wp2
        go_ret
        exact ⟨rfl, by simpa using DD.out⟩
      · have h0 : wd.cell? ⟨sb, 0, none⟩ = some (.slice p X.length cap) := (H.out.below GB.out).cell
        go_simp
        clear h0
        refine hK.out _ _ SX.out (fun _ => ?_)
        clear hK
        try simp only [Act.put, List.getElem_toArray, List.getElem_cons_succ, List.getElem_cons_zero, List.setIfInBounds_toArray, List.set_cons_zero, List.set_cons_succ]
        refine wpAnyH_take (i := 17) (v := V) rfl (by kernel_rfl) (by kernel_rfl) (by kernel_rfl) (fun _ _ _ h => h) (Or.inl ⟨by rfl, fun wx hS => ?_⟩) SX.out ?_
        · go_simp
        try simp only [Act.put, List.getElem_toArray, List.getElem_cons_succ, List.getElem_cons_zero, List.setIfInBounds_toArray, List.set_cons_zero, List.set_cons_succ]
        refine wpAnyH_ready (rs := [5]) (by kernel_rfl) (by simp) ?_
        refine AllReadyH.cons rfl (fun K hK => ?_) AllReadyH.nil
        refine step_append_ex rfl _ _ 33 rfl (.slice none 0 0) (.slice p X.length cap) rfl rfl _ (nil_append (Seg.of_owns (H.out.below GB.out).row) (by have := HO.out; omega) _) ?_
        rintro v1 wA ap
        obtain ⟨p1, c1, rfl⟩ := owns_form ap.row
        have kb1 : Below wd.heap.size wd wA := (Below.refl _ _).grown ap.grow (Nat.le_refl _) fun g e => by simp [Value.ownBlock] at e
        have A1 := Lib.hid ap.row
        have N1 : Hid (∀ g, (Value.slice p1 X.length c1).ownBlock = some g → w.heap.size ≤ g) := Lib.hid fun g e => by
          rcases ap.own g e with q | q
          · simp [Value.ownBlock] at q
          · exact Nat.le_trans GB.out.size q
        replace GB := Lib.hid (below_and GB.out kb1)
        clear ap kb1
        refine hK.out _ _ SX.out (fun _ => ?_)
        clear hK
        try simp only [Act.put, List.getElem_toArray, List.getElem_cons_succ, List.getElem_cons_zero, List.setIfInBounds_toArray, List.set_cons_zero, List.set_cons_succ]
        refine wpAnyH_ready (rs := [18]) (by kernel_rfl) (by simp) ?_
        refine AllReadyH.cons rfl (fun K hK => ?_) AllReadyH.nil
        refine step_append_ex rfl _ _ 33 rfl (.slice p1 X.length c1) V rfl rfl _ (seg_append A1.out (HV.out _ GB.out) (Nat.zero_le _) (by have := HO.out; omega) (by have := HO.out; simp; omega) _) ?_
        rintro v5 w5 ap
        replace ap : AppOf 0 (.slice p1 X.length c1) (X ++ X.drop m) wA v5 w5 := ap
        obtain ⟨bl, nv⟩ := ap.below GB.out N1.out
        have c0 : w5.cell? ⟨sb, 0, none⟩ = some (.slice p X.length cap) := (H.out.below bl).cell
        have f0 : w5.frozen? ⟨sb, 0, none⟩ = false := (H.out.below bl).free
        have DD := Lib.hid (H.out.after2 bl ap.row nv (by have := HL.out; have := HO.out; simp; omega))
        obtain ⟨p5, c5, e5⟩ := owns_form ap.row
        subst e5
        clear ap bl nv
        refine hK.out _ _ SX.out (fun _ => ?_)
        clear hK
        try simp only [Act.put, List.getElem_toArray, List.getElem_cons_succ, List.getElem_cons_zero, List.setIfInBounds_toArray, List.set_cons_zero, List.set_cons_succ]
        refine wpAnyH_take (i := 19) (v := ptr sb) rfl (by kernel_rfl) (by kernel_rfl) (by kernel_rfl) (fun _ _ _ h => h) (Or.inl ⟨by rfl, fun wx hS => ?_⟩) SX.out ?_
        · go_simp
        try simp only [Act.put, List.getElem_toArray, List.getElem_cons_succ, List.getElem_cons_zero, List.setIfInBounds_toArray, List.set_cons_zero, List.set_cons_succ]
        refine wpAnyH_take (i := 20) (v := .pointer (some ⟨sb, 0, none⟩)) rfl (by kernel_rfl) (by kernel_rfl) (by kernel_rfl) (fun _ _ _ h => h) (Or.inl ⟨by rfl, fun wx hS => ?_⟩) SX.out ?_
        · go_simp
        try simp only [Act.put, List.getElem_toArray, List.getElem_cons_succ, List.getElem_cons_zero, List.setIfInBounds_toArray, List.set_cons_zero, List.set_cons_succ]
        refine wpAnyH_ready (rs := [21]) (by kernel_rfl) (by simp) ?_
        refine AllReadyH.cons rfl (fun K hK => ?_) AllReadyH.nil
        go_simp
        clear c0 f0
        refine hK.out _ _ trivial (fun _ => ?_)
        clear hK
        refine wpAnyH_done (by kernel_rfl) ?_ _
        (try refine no_panic ?_)
        go_wp2
        go_ret
        exact ⟨rfl, by simpa using DD.out⟩
    · have h0 : wd.cell? ⟨sb, 0, none⟩ = some (.slice p X.length cap) := (H.out.below GB.out).cell
      go_simp
      clear h0
      refine hK.out _ _ SX.out (fun _ => ?_)
      clear hK
      try simp only [Act.put, List.getElem_toArray, List.getElem_cons_succ, List.getElem_cons_zero, List.setIfInBounds_toArray, List.set_cons_zero, List.set_cons_succ]
      refine wpAnyH_take (i := 17) (v := V) rfl (by kernel_rfl) (by kernel_rfl) (by kernel_rfl) (fun _ _ _ h => h) (Or.inl ⟨by rfl, fun wx hS => ?_⟩) SX.out ?_
      · go_simp
      try simp only [Act.put, List.getElem_toArray, List.getElem_cons_succ, List.getElem_cons_zero, List.setIfInBounds_toArray, List.set_cons_zero, List.set_cons_succ]
      refine wpAnyH_ready (rs := [4]) (by kernel_rfl) (by simp) ?_
      refine AllReadyH.cons rfl (fun K hK => ?_) AllReadyH.nil
      have h0 : wd.cell? ⟨sb, 0, none⟩ = some (.slice p X.length cap) := (H.out.below GB.out).cell
      go_simp
      clear h0
      refine hK.out _ _ SX.out (fun _ => ?_)
      clear hK
      try simp only [Act.put, List.getElem_toArray, List.getElem_cons_succ, List.getElem_cons_zero, List.setIfInBounds_toArray, List.set_cons_zero, List.set_cons_succ]
      refine wpAnyH_ready (rs := [5]) (by kernel_rfl) (by simp) ?_
      refine AllReadyH.cons rfl (fun K hK => ?_) AllReadyH.nil
      refine step_append_ex rfl _ _ 33 rfl (.slice none 0 0) (.slice p X.length cap) rfl rfl _ (nil_append (Seg.of_owns (H.out.below GB.out).row) (by have := HO.out; omega) _) ?_
      rintro v1 wA ap
      obtain ⟨p1, c1, rfl⟩ := owns_form ap.row
      have kb1 : Below wd.heap.size wd wA := (Below.refl _ _).grown ap.grow (Nat.le_refl _) fun g e => by simp [Value.ownBlock] at e
      have A1 := Lib.hid ap.row
      have N1 : Hid (∀ g, (Value.slice p1 X.length c1).ownBlock = some g → w.heap.size ≤ g) := Lib.hid fun g e => by
        rcases ap.own g e with q | q
        · simp [Value.ownBlock] at q
        · exact Nat.le_trans GB.out.size q
      replace GB := Lib.hid (below_and GB.out kb1)
      clear ap kb1
      refine hK.out _ _ SX.out (fun _ => ?_)
      clear hK
      try simp only [Act.put, List.getElem_toArray, List.getElem_cons_succ, List.getElem_cons_zero, List.setIfInBounds_toArray, List.set_cons_zero, List.set_cons_succ]
      refine wpAnyH_ready (rs := [18]) (by kernel_rfl) (by simp) ?_
      refine AllReadyH.cons rfl (fun K hK => ?_) AllReadyH.nil
      refine step_append_ex rfl _ _ 33 rfl (.slice p1 X.length c1) V rfl rfl _ (seg_append A1.out (HV.out _ GB.out) (Nat.zero_le _) (by have := HO.out; omega) (by have := HO.out; simp; omega) _) ?_
      rintro v5 w5 ap
      replace ap : AppOf 0 (.slice p1 X.length c1) (X ++ X.drop m) wA v5 w5 := ap
      obtain ⟨bl, nv⟩ := ap.below GB.out N1.out
      have c0 : w5.cell? ⟨sb, 0, none⟩ = some (.slice p X.length cap) := (H.out.below bl).cell
      have f0 : w5.frozen? ⟨sb, 0, none⟩ = false := (H.out.below bl).free
      have DD := Lib.hid (H.out.after2 bl ap.row nv (by have := HL.out; have := HO.out; simp; omega))
      obtain ⟨p5, c5, e5⟩ := owns_form ap.row
      subst e5
      clear ap bl nv
      refine hK.out _ _ SX.out (fun _ => ?_)
      clear hK
      try simp only [Act.put, List.getElem_toArray, List.getElem_cons_succ, List.getElem_cons_zero, List.setIfInBounds_toArray, List.set_cons_zero, List.set_cons_succ]
      refine wpAnyH_take (i := 19) (v := ptr sb) rfl (by kernel_rfl) (by kernel_rfl) (by kernel_rfl) (fun _ _ _ h => h) (Or.inl ⟨by rfl, fun wx hS => ?_⟩) SX.out ?_
      · go_simp
      try simp only [Act.put, List.getElem_toArray, List.getElem_cons_succ, List.getElem_cons_zero, List.setIfInBounds_toArray, List.set_cons_zero, List.set_cons_succ]
      refine wpAnyH_take (i := 20) (v := .pointer (some ⟨sb, 0, none⟩)) rfl (by kernel_rfl) (by kernel_rfl) (by kernel_rfl) (fun _ _ _ h => h) (Or.inl ⟨by rfl, fun wx hS => ?_⟩) SX.out ?_
      · go_simp
      try simp only [Act.put, List.getElem_toArray, List.getElem_cons_succ, List.getElem_cons_zero, List.setIfInBounds_toArray, List.set_cons_zero, List.set_cons_succ]
      refine wpAnyH_ready (rs := [21]) (by kernel_rfl) (by simp) ?_
      refine AllReadyH.cons rfl (fun K hK => ?_) AllReadyH.nil
      go_simp
      clear c0 f0
      refine hK.out _ _ trivial (fun _ => ?_)
      clear hK
      refine wpAnyH_done (by kernel_rfl) ?_ _
      (try refine no_panic ?_)
      go_wp2
      go_ret
      exact ⟨rfl, by simpa using DD.out⟩
theorem rdup_did (h : Stk 92 sb v X w) (n : Int) : Calls Try.prog 66 #[ptr sb, .int .i64 n] w fun e w' => e = .returned (.int .i64 (dupE X n)) ∧ Did 92 sb v w (dupP X n) w' := by
  by_cases h1 : n < 0
  · refine (rdup_neg h n h1).mono ?_
    rintro e w' ⟨rfl, k⟩
    simp only [dupE, dupP, h1, if_true]
    exact ⟨by trivial, h.did k⟩
  by_cases h2 : X.length < n
  · refine (rdup_under h n (by omega) h2).mono ?_
    rintro e w' ⟨rfl, k⟩
    simp only [dupE, dupP, h1, h2, if_true, if_false]
    exact ⟨by trivial, h.did k⟩
  obtain ⟨a, rfl⟩ : ∃ a : Nat, n = a := ⟨n.toNat, by omega⟩
  by_cases h3 : 200 < (X.length : Int) + a
  · refine (rdup_over h a (by omega) (by omega)).mono ?_
    rintro e w' ⟨rfl, k⟩
    simp only [dupE, dupP, h1, h2, h3, if_true, if_false]
    exact ⟨by trivial, h.did k⟩
  · refine (rdup_ok h a (X.length - a) (by omega) (by omega)).mono ?_
    rintro e w' ⟨rfl, k⟩
    simp only [dupE, dupP, h1, h2, h3, if_true, if_false]
    exact ⟨by trivial, k⟩
end
end Go.Proofs.Ytgmklagnngjlgaa

/- Walks of tympanref14: Roll. -/
namespace Go.Proofs.Ytgmklagnngjlgaa
open Go.RowKit
set_option linter.unusedVariables false
set_option linter.unusedSimpArgs false
set_option maxHeartbeats 1000000
set_option maxRecDepth 100000

section
variable {sb : Nat} {v : Value} {X : List Ob} {w : World}
theorem rroll_none (h : Stk 92 sb v X w) (j : Int) : Calls Try.prog 68 #[ptr sb, .int .i64 0, .int .i64 j] w fun e w' => e = .returned (.int .i64 0) ∧ Below w.heap.size w w' := by
  obtain ⟨p, cap, rfl⟩ := h.form
  have h0 := h.cell
  have t2 : ¬ ((0 : Int) > (X.length : Int)) := by omega
  clear h
  go_enter Try.func68, Try.ntmps68
  go_wp2
  go_ret
  exact ⟨rfl, Below.refl _ _⟩
theorem rroll_ok (h : Stk 92 sb v X w) (n : Nat) (j : Int) (hn : 0 < n) (hl : n ≤ X.length) : Calls Try.prog 68 #[ptr sb, .int .i64 n, .int .i64 j] w fun e w' => e = .returned (.int .i64 0) ∧ Did 92 sb v w (rollP X n j) w' := by
  have hlen := h.len
  obtain ⟨p, cap, rfl⟩ := h.form
  have hc := h.cap_le
  obtain ⟨m, hm⟩ : ∃ m, X.length = m + n := ⟨X.length - n, by omega⟩
  have h0' := Int.emod_nonneg j (by omega : (n : Int) ≠ 0)
  have h1' := Int.emod_lt_of_pos j (by omega : (0 : Int) < n)
  obtain ⟨u, hu⟩ : ∃ u : Nat, j % (n : Int) = u := ⟨(j % n).toNat, by omega⟩
  obtain ⟨cut, hcut⟩ : ∃ cut, n = cut + u := ⟨n - u, by omega⟩
  obtain ⟨q, hq⟩ : ∃ q, q = m + cut := ⟨_, rfl⟩
  have hp : rollP X n j = X.take m ++ X.drop q ++ (X.drop m).take cut := by
    unfold rollP rollL
    rw [hu, show X.length - n = m from by omega, Int.toNat_natCast, List.length_drop, show X.length - m - u = cut from by omega, List.drop_drop, ← hq, List.append_assoc]
  obtain ⟨t, ht⟩ : ∃ t, j.tmod n = t := ⟨_, rfl⟩
  have htu : t < 0 ∧ t + n = u ∨ 0 ≤ t ∧ t = u := by
    have := tmod_cases j n (by omega)
    rw [ht] at this
    omega
  have s1 := slice33_h p X.length cap m (by omega)
  have s2 := slice33_l p X.length cap q (by omega)
  have s3 := slice33_lh p X.length cap m q (by omega) (by omega)
  obtain ⟨V1, hV1⟩ : ∃ V, sliced p 0 m cap 6 = V := ⟨_, rfl⟩
  obtain ⟨V2, hV2⟩ : ∃ V, sliced p q X.length cap 6 = V := ⟨_, rfl⟩
  obtain ⟨V3, hV3⟩ : ∃ V, sliced p m q cap 6 = V := ⟨_, rfl⟩
  rw [hV1] at s1
  rw [hV2] at s2
  rw [hV3] at s3
  have G1 : Hid (∀ wx, Below w.heap.size w wx → Seg wx V1 (X.take m)) := Lib.hid fun wx kx => by
    have h2 := (Seg.of_owns (h.below kx).row).sub 0 m cap (Nat.zero_le _) (by omega) (by omega) (Nat.le_refl _)
    rwa [List.drop_zero, Nat.sub_zero, hV1] at h2
  have G2 : Hid (∀ wx, Below w.heap.size w wx → Seg wx V2 (X.drop q)) := Lib.hid fun wx kx => by
    have h2 := (Seg.of_owns (h.below kx).row).sub q X.length cap (by omega) (Nat.le_refl _) hc (Nat.le_refl _)
    rw [List.take_of_length_le (by simp), hV2] at h2
    exact h2
  have G3 : Hid (∀ wx, Below w.heap.size w wx → Seg wx V3 ((X.drop m).take cut)) := Lib.hid fun wx kx => by
    have h2 := (Seg.of_owns (h.below kx).row).sub m q cap (by omega) (by omega) (by omega) (Nat.le_refl _)
    rwa [hV3, show q - m = cut from by omega] at h2
  have H := Lib.hid h
  have HL := Lib.hid hlen
  have HP := Lib.hid hp
  have l1 : (X.take m).length = m := by simp; omega
  have l2 : (X.drop q).length = u := by simp; omega
  have l3 : ((X.drop m).take cut).length = cut := by simp; omega
  have LL := Lib.hid (And.intro l1 (And.intro l2 (And.intro l3 (show m + u + cut = X.length by omega))))
  have h0 := h.cell
  have t0 : ¬ ((n : Int) < 0) := by omega
  have t2 : ¬ ((n : Int) > (X.length : Int)) := by omega
  have n0 : ¬ ((n : Int) = 0) := by omega
  have n1 : ¬ (n = 0) := by omega
  have e1 : IntKind.i64.wrap ((X.length : Int) - n) = m := by rw [IntWalk.i64_in _ (by omega)]; omega
  have e4 : IntKind.i64.wrap ((X.length : Int) - u) = q := by rw [IntWalk.i64_in _ (by omega)]; omega
  have ebd : -200 ≤ t ∧ t ≤ 200 := by omega
  have en : (n : Int) ≤ 200 := by omega
  clear h hlen hc hm h0' h1' hu hcut hq hp hV1 hV2 hV3 l1 l2 l3 hl hn
  rcases htu with ⟨htn, htu⟩ | ⟨htn, htu⟩
  · have e5 : IntKind.i64.wrap (t + n) = u := by rw [IntWalk.i64_in _ (by omega)]; omega
    clear htu
    go_enter Try.func68, Try.ntmps68
    go_wp2_with (first
      | (at_builtin; refine wpList_append_ex rfl _ _ 33 rfl (.slice none 0 0) V1 rfl rfl _ (nil_append (G1.out w (Below.refl _ _)) (by rw [LL.out.1]; have := HL.out; have := LL.out.2.2.2; omega) _) ?_))
    rintro va wa ap
    have ka : Below w.heap.size w wa := (Below.refl _ _).grown ap.grow (Nat.le_refl _) fun g e => by simp [Value.ownBlock] at e
    have AA := Lib.hid ap.row
    have NA : Hid (∀ g, va.ownBlock = some g → w.heap.size ≤ g) := Lib.hid fun g e => by
      rcases ap.own g e with q | q
      · simp [Value.ownBlock] at q
      · exact q
    have KA := Lib.hid ka
    obtain ⟨pa, ca, rfl⟩ : ∃ pa ca, va = .slice pa m ca := by
      obtain ⟨pa, ca, e⟩ := owns_form ap.row
      exact ⟨pa, ca, by rw [e, LL.out.1]⟩
    clear ap ka h0
    go_upto_region 12 with fail
    have sx0 : wa.drew.cell? ⟨sb, 0, none⟩ = some (.slice p X.length cap) := (H.out.below KA.out).cell
    (try refine wp_region_noPanic ?_)
    refine wp_region_held_drew (S := fun wx => wx.cell? ⟨sb, 0, none⟩ = some (.slice p X.length cap)) (by kernel_rfl) sx0 (fun _ => ?_)
    have k0 : Below w.heap.size w wa.drew := KA.out.drew
    have a0 := Lib.hid (owns_at (w' := wa.drew) AA.out fun g e => rfl)
    generalize wa.drew = wb at sx0 k0 a0 ⊢
    have SX := Lib.hid sx0
    have GB := Lib.hid k0
    clear sx0 k0
    refine wpAnyH_take (i := 0) (v := .slice pa m ca) rfl (by kernel_rfl) (by kernel_rfl) (by kernel_rfl) (fun _ _ _ h => h) (Or.inl ⟨by rfl, fun wx hS => ?_⟩) SX.out ?_
    · go_simp
    try simp only [Act.put, List.getElem_toArray, List.getElem_cons_succ, List.getElem_cons_zero, List.setIfInBounds_toArray, List.set_cons_zero, List.set_cons_succ]
    refine wpAnyH_take (i := 1) (v := ptr sb) rfl (by kernel_rfl) (by kernel_rfl) (by kernel_rfl) (fun _ _ _ h => h) (Or.inl ⟨by rfl, fun wx hS => ?_⟩) SX.out ?_
    · go_simp
    try simp only [Act.put, List.getElem_toArray, List.getElem_cons_succ, List.getElem_cons_zero, List.setIfInBounds_toArray, List.set_cons_zero, List.set_cons_succ]
    refine wpAnyH_take (i := 2) (v := ptr sb) rfl (by kernel_rfl) (by kernel_rfl) (by kernel_rfl) (fun _ _ _ h => h) (Or.inl ⟨by rfl, fun wx hS => ?_⟩) SX.out ?_
    · go_simp
    try simp only [Act.put, List.getElem_toArray, List.getElem_cons_succ, List.getElem_cons_zero, List.setIfInBounds_toArray, List.set_cons_zero, List.set_cons_succ]
    refine wpAnyH_take (i := 3) (v := .pointer (some ⟨sb, 0, none⟩)) rfl (by kernel_rfl) (by kernel_rfl) (by kernel_rfl) (fun _ _ _ h => h) (Or.inl ⟨by rfl, fun wx hS => ?_⟩) SX.out ?_
    · go_simp
    try simp only [Act.put, List.getElem_toArray, List.getElem_cons_succ, List.getElem_cons_zero, List.setIfInBounds_toArray, List.set_cons_zero, List.set_cons_succ]
    refine wpAnyH_take (i := 4) (v := .slice p X.length cap) rfl (by kernel_rfl) (by kernel_rfl) (by kernel_rfl) (fun _ _ _ h => h) (Or.inl ⟨by rfl, fun wx hS => ?_⟩) SX.out ?_
    · go_simp
    try simp only [Act.put, List.getElem_toArray, List.getElem_cons_succ, List.getElem_cons_zero, List.setIfInBounds_toArray, List.set_cons_zero, List.set_cons_succ]
    refine wpAnyH_take (i := 5) (v := ptr sb) rfl (by kernel_rfl) (by kernel_rfl) (by kernel_rfl) (fun _ _ _ h => h) (Or.inl ⟨by rfl, fun wx hS => ?_⟩) SX.out ?_
    · go_simp
    try simp only [Act.put, List.getElem_toArray, List.getElem_cons_succ, List.getElem_cons_zero, List.setIfInBounds_toArray, List.set_cons_zero, List.set_cons_succ]
    refine wpAnyH_take (i := 6) (v := ptr sb) rfl (by kernel_rfl) (by kernel_rfl) (by kernel_rfl) (fun _ _ _ h => h) (Or.inl ⟨by rfl, fun wx hS => ?_⟩) SX.out ?_
    · go_simp
    try simp only [Act.put, List.getElem_toArray, List.getElem_cons_succ, List.getElem_cons_zero, List.setIfInBounds_toArray, List.set_cons_zero, List.set_cons_succ]
    refine wpAnyH_take (i := 7) (v := .pointer (some ⟨sb, 0, none⟩)) rfl (by kernel_rfl) (by kernel_rfl) (by kernel_rfl) (fun _ _ _ h => h) (Or.inl ⟨by rfl, fun wx hS => ?_⟩) SX.out ?_
    · go_simp
    try simp only [Act.put, List.getElem_toArray, List.getElem_cons_succ, List.getElem_cons_zero, List.setIfInBounds_toArray, List.set_cons_zero, List.set_cons_succ]
    refine wpAnyH_take (i := 8) (v := .slice p X.length cap) rfl (by kernel_rfl) (by kernel_rfl) (by kernel_rfl) (fun _ _ _ h => h) (Or.inl ⟨by rfl, fun wx hS => ?_⟩) SX.out ?_
    · go_simp
    try simp only [Act.put, List.getElem_toArray, List.getElem_cons_succ, List.getElem_cons_zero, List.setIfInBounds_toArray, List.set_cons_zero, List.set_cons_succ]
    refine wpAnyH_take (i := 9) (v := .int .i64 X.length) rfl (by kernel_rfl) (by kernel_rfl) (by kernel_rfl) (fun _ _ _ h => h) (Or.inl ⟨by rfl, fun wx hS => ?_⟩) SX.out ?_
    · go_simp
    try simp only [Act.put, List.getElem_toArray, List.getElem_cons_succ, List.getElem_cons_zero, List.setIfInBounds_toArray, List.set_cons_zero, List.set_cons_succ]
    refine wpAnyH_take (i := 10) (v := .int .i64 u) rfl (by kernel_rfl) (by kernel_rfl) (by kernel_rfl) (fun _ _ _ h => h) (Or.inl ⟨by rfl, fun wx hS => ?_⟩) SX.out ?_
    · go_simp
    try simp only [Act.put, List.getElem_toArray, List.getElem_cons_succ, List.getElem_cons_zero, List.setIfInBounds_toArray, List.set_cons_zero, List.set_cons_succ]
    refine wpAnyH_take (i := 11) (v := .int .i64 q) rfl (by kernel_rfl) (by kernel_rfl) (by kernel_rfl) (fun _ _ _ h => h) (Or.inl ⟨by rfl, fun wx hS => ?_⟩) SX.out ?_
    · go_simp
    try simp only [Act.put, List.getElem_toArray, List.getElem_cons_succ, List.getElem_cons_zero, List.setIfInBounds_toArray, List.set_cons_zero, List.set_cons_succ]
    refine wpAnyH_take (i := 12) (v := V2) rfl (by kernel_rfl) (by kernel_rfl) (by kernel_rfl) (fun _ _ _ h => h) (Or.inl ⟨by rfl, fun wx hS => ?_⟩) SX.out ?_
    · go_simp
    try simp only [Act.put, List.getElem_toArray, List.getElem_cons_succ, List.getElem_cons_zero, List.setIfInBounds_toArray, List.set_cons_zero, List.set_cons_succ]
    refine wpAnyH_ready (rs := [13]) (by kernel_rfl) (by simp) ?_
    refine AllReadyH.cons rfl (fun K hK => ?_) AllReadyH.nil
    refine step_append_ex rfl _ _ 33 rfl (.slice pa m ca) V2 rfl rfl _ (seg_append a0.out (G2.out _ GB.out) (Nat.zero_le _) (by rw [LL.out.1]; have := HL.out; have := LL.out.2.2.2; omega) (by rw [LL.out.2.1]; have := HL.out; have := LL.out.2.2.2; omega) _) ?_
    rintro vb w2 ap
    replace ap : AppOf 0 (.slice pa m ca) (X.take m ++ X.drop q) wb vb w2 := ap
    obtain ⟨bl, nv⟩ := ap.below GB.out NA.out
    have A2 := Lib.hid ap.row
    have N2 := Lib.hid nv
    have K2 := Lib.hid bl
    have sx2 : w2.cell? ⟨sb, 0, none⟩ = some (.slice p X.length cap) := (H.out.below bl).cell
    obtain ⟨p2, c2, rfl⟩ : ∃ p2 c2, vb = .slice p2 (m + u) c2 := by
      obtain ⟨p2, c2, e⟩ := owns_form ap.row
      exact ⟨p2, c2, by rw [e, List.length_append, LL.out.1, LL.out.2.1]⟩
    clear ap bl nv
    refine hK.out _ _ sx2 (fun _ => ?_)
    clear hK SX
    have SX := Lib.hid sx2
    clear sx2
    try simp only [Act.put, List.getElem_toArray, List.getElem_cons_succ, List.getElem_cons_zero, List.setIfInBounds_toArray, List.set_cons_zero, List.set_cons_succ]
    refine wpAnyH_take (i := 14) (v := .slice p2 (m + u) c2) rfl (by kernel_rfl) (by kernel_rfl) (by kernel_rfl) (fun _ _ _ h => h) (Or.inl ⟨by rfl, fun wx hS => ?_⟩) SX.out ?_
    · go_simp
    try simp only [Act.put, List.getElem_toArray, List.getElem_cons_succ, List.getElem_cons_zero, List.setIfInBounds_toArray, List.set_cons_zero, List.set_cons_succ]
    refine wpAnyH_done (by kernel_rfl) ?_ _
    (try refine no_panic ?_)
    clear SX GB a0 AA NA KA
    go_upto_region 13 with fail
    have SX : Hid True := Lib.hid trivial
    have GB : Hid (Below w.heap.size w w2.drew) := Lib.hid K2.out.drew
    have a0 := Lib.hid (owns_at (w' := w2.drew) A2.out fun g e => rfl)
    (try refine wp_region_noPanic ?_)
    refine wp_region_held_drew (S := fun _ => True) (by kernel_rfl) trivial (fun _ => ?_)
    generalize w2.drew = wd at GB a0 ⊢
    refine wpAnyH_take (i := 0) (v := ptr sb) rfl (by kernel_rfl) (by kernel_rfl) (by kernel_rfl) (fun _ _ _ h => h) (Or.inl ⟨by rfl, fun wx hS => ?_⟩) SX.out ?_
    · go_simp
    try simp only [Act.put, List.getElem_toArray, List.getElem_cons_succ, List.getElem_cons_zero, List.setIfInBounds_toArray, List.set_cons_zero, List.set_cons_succ]
    refine wpAnyH_take (i := 1) (v := .slice p2 (m + u) c2) rfl (by kernel_rfl) (by kernel_rfl) (by kernel_rfl) (fun _ _ _ h => h) (Or.inl ⟨by rfl, fun wx hS => ?_⟩) SX.out ?_
    · go_simp
    try simp only [Act.put, List.getElem_toArray, List.getElem_cons_succ, List.getElem_cons_zero, List.setIfInBounds_toArray, List.set_cons_zero, List.set_cons_succ]
    refine wpAnyH_take (i := 2) (v := ptr sb) rfl (by kernel_rfl) (by kernel_rfl) (by kernel_rfl) (fun _ _ _ h => h) (Or.inl ⟨by rfl, fun wx hS => ?_⟩) SX.out ?_
    · go_simp
    try simp only [Act.put, List.getElem_toArray, List.getElem_cons_succ, List.getElem_cons_zero, List.setIfInBounds_toArray, List.set_cons_zero, List.set_cons_succ]
    refine wpAnyH_take (i := 3) (v := ptr sb) rfl (by kernel_rfl) (by kernel_rfl) (by kernel_rfl) (fun _ _ _ h => h) (Or.inl ⟨by rfl, fun wx hS => ?_⟩) SX.out ?_
    · go_simp
    try simp only [Act.put, List.getElem_toArray, List.getElem_cons_succ, List.getElem_cons_zero, List.setIfInBounds_toArray, List.set_cons_zero, List.set_cons_succ]
    refine wpAnyH_take (i := 4) (v := .pointer (some ⟨sb, 0, none⟩)) rfl (by kernel_rfl) (by kernel_rfl) (by kernel_rfl) (fun _ _ _ h => h) (Or.inl ⟨by rfl, fun wx hS => ?_⟩) SX.out ?_
    · go_simp
    try simp only [Act.put, List.getElem_toArray, List.getElem_cons_succ, List.getElem_cons_zero, List.setIfInBounds_toArray, List.set_cons_zero, List.set_cons_succ]
    refine wpAnyH_take (i := 6) (v := .int .i64 m) rfl (by kernel_rfl) (by kernel_rfl) (by kernel_rfl) (fun _ _ _ h => h) (Or.inl ⟨by rfl, fun wx hS => ?_⟩) SX.out ?_
    · go_simp
    try simp only [Act.put, List.getElem_toArray, List.getElem_cons_succ, List.getElem_cons_zero, List.setIfInBounds_toArray, List.set_cons_zero, List.set_cons_succ]
    refine wpAnyH_take (i := 7) (v := ptr sb) rfl (by kernel_rfl) (by kernel_rfl) (by kernel_rfl) (fun _ _ _ h => h) (Or.inl ⟨by rfl, fun wx hS => ?_⟩) SX.out ?_
    · go_simp
    try simp only [Act.put, List.getElem_toArray, List.getElem_cons_succ, List.getElem_cons_zero, List.setIfInBounds_toArray, List.set_cons_zero, List.set_cons_succ]
    refine wpAnyH_take (i := 8) (v := ptr sb) rfl (by kernel_rfl) (by kernel_rfl) (by kernel_rfl) (fun _ _ _ h => h) (Or.inl ⟨by rfl, fun wx hS => ?_⟩) SX.out ?_
    · go_simp
    try simp only [Act.put, List.getElem_toArray, List.getElem_cons_succ, List.getElem_cons_zero, List.setIfInBounds_toArray, List.set_cons_zero, List.set_cons_succ]
    refine wpAnyH_take (i := 9) (v := .pointer (some ⟨sb, 0, none⟩)) rfl (by kernel_rfl) (by kernel_rfl) (by kernel_rfl) (fun _ _ _ h => h) (Or.inl ⟨by rfl, fun wx hS => ?_⟩) SX.out ?_
    · go_simp
    try simp only [Act.put, List.getElem_toArray, List.getElem_cons_succ, List.getElem_cons_zero, List.setIfInBounds_toArray, List.set_cons_zero, List.set_cons_succ]
    refine wpAnyH_take (i := 12) (v := .int .i64 u) rfl (by kernel_rfl) (by kernel_rfl) (by kernel_rfl) (fun _ _ _ h => h) (Or.inl ⟨by rfl, fun wx hS => ?_⟩) SX.out ?_
    · go_simp
    try simp only [Act.put, List.getElem_toArray, List.getElem_cons_succ, List.getElem_cons_zero, List.setIfInBounds_toArray, List.set_cons_zero, List.set_cons_succ]
    refine wpAnyH_ready (rs := [5, 10]) (by kernel_rfl) (by simp) ?_
    refine AllReadyH.cons rfl (fun K hK => ?_) (AllReadyH.cons rfl (fun K hK => ?_) AllReadyH.nil)
    · have h0 : wd.cell? ⟨sb, 0, none⟩ = some (.slice p X.length cap) := (H.out.below GB.out).cell
      go_simp
      clear h0
      refine hK.out _ _ SX.out (fun _ => ?_)
      clear hK
      try simp only [Act.put, List.getElem_toArray, List.getElem_cons_succ, List.getElem_cons_zero, List.setIfInBounds_toArray, List.set_cons_zero, List.set_cons_succ]
      refine wpAnyH_ready (rs := [10]) (by kernel_rfl) (by simp) ?_
      refine AllReadyH.cons rfl (fun K hK => ?_) AllReadyH.nil
      have h0 : wd.cell? ⟨sb, 0, none⟩ = some (.slice p X.length cap) := (H.out.below GB.out).cell
      go_simp
      clear h0
      refine hK.out _ _ SX.out (fun _ => ?_)
      clear hK
      try simp only [Act.put, List.getElem_toArray, List.getElem_cons_succ, List.getElem_cons_zero, List.setIfInBounds_toArray, List.set_cons_zero, List.set_cons_succ]
      refine wpAnyH_take (i := 11) (v := .int .i64 X.length) rfl (by kernel_rfl) (by kernel_rfl) (by kernel_rfl) (fun _ _ _ h => h) (Or.inl ⟨by rfl, fun wx hS => ?_⟩) SX.out ?_
      · go_simp
      try simp only [Act.put, List.getElem_toArray, List.getElem_cons_succ, List.getElem_cons_zero, List.setIfInBounds_toArray, List.set_cons_zero, List.set_cons_succ]
      refine wpAnyH_take (i := 13) (v := .int .i64 q) rfl (by kernel_rfl) (by kernel_rfl) (by kernel_rfl) (fun _ _ _ h => h) (Or.inl ⟨by rfl, fun wx hS => ?_⟩) SX.out ?_
      · go_simp
      try simp only [Act.put, List.getElem_toArray, List.getElem_cons_succ, List.getElem_cons_zero, List.setIfInBounds_toArray, List.set_cons_zero, List.set_cons_succ]
      refine wpAnyH_take (i := 14) (v := V3) rfl (by kernel_rfl) (by kernel_rfl) (by kernel_rfl) (fun _ _ _ h => h) (Or.inl ⟨by rfl, fun wx hS => ?_⟩) SX.out ?_
      · go_simp
      try simp only [Act.put, List.getElem_toArray, List.getElem_cons_succ, List.getElem_cons_zero, List.setIfInBounds_toArray, List.set_cons_zero, List.set_cons_succ]
      refine wpAnyH_ready (rs := [15]) (by kernel_rfl) (by simp) ?_
      refine AllReadyH.cons rfl (fun K hK => ?_) AllReadyH.nil
      refine step_append_ex rfl _ _ 33 rfl (.slice p2 (m + u) c2) V3 rfl rfl _ (seg_append a0.out (G3.out _ GB.out) (Nat.zero_le _) (by rw [List.length_append, LL.out.1, LL.out.2.1]; have := HL.out; have := LL.out.2.2.2; omega) (by rw [LL.out.2.2.1]; have := HL.out; have := LL.out.2.2.2; omega) _) ?_
      rintro v5 w5 ap
      replace ap : AppOf 0 (.slice p2 (m + u) c2) (X.take m ++ X.drop q ++ (X.drop m).take cut) wd v5 w5 := ap
      obtain ⟨bl, nv⟩ := ap.below GB.out N2.out
      have c0 : w5.cell? ⟨sb, 0, none⟩ = some (.slice p X.length cap) := (H.out.below bl).cell
      have f0 : w5.frozen? ⟨sb, 0, none⟩ = false := (H.out.below bl).free
      have DD := Lib.hid (H.out.after2 bl ap.row nv (by rw [List.length_append, List.length_append, LL.out.1, LL.out.2.1, LL.out.2.2.1]; have := HL.out; have := LL.out.2.2.2; omega))
      obtain ⟨p5, c5, e5'⟩ := owns_form ap.row
      have hl5 : (X.take m ++ X.drop q ++ (X.drop m).take cut).length = X.length := by rw [List.length_append, List.length_append, LL.out.1, LL.out.2.1, LL.out.2.2.1]; exact LL.out.2.2.2
      rw [hl5] at e5'
      subst e5'
      clear ap bl nv hl5
      refine hK.out _ _ SX.out (fun _ => ?_)
      clear hK
      try simp only [Act.put, List.getElem_toArray, List.getElem_cons_succ, List.getElem_cons_zero, List.setIfInBounds_toArray, List.set_cons_zero, List.set_cons_succ]
      refine wpAnyH_take (i := 16) (v := ptr sb) rfl (by kernel_rfl) (by kernel_rfl) (by kernel_rfl) (fun _ _ _ h => h) (Or.inl ⟨by rfl, fun wx hS => ?_⟩) SX.out ?_
      · go_simp
      try simp only [Act.put, List.getElem_toArray, List.getElem_cons_succ, List.getElem_cons_zero, List.setIfInBounds_toArray, List.set_cons_zero, List.set_cons_succ]
      refine wpAnyH_take (i := 17) (v := .pointer (some ⟨sb, 0, none⟩)) rfl (by kernel_rfl) (by kernel_rfl) (by kernel_rfl) (fun _ _ _ h => h) (Or.inl ⟨by rfl, fun wx hS => ?_⟩) SX.out ?_
      · go_simp
      try simp only [Act.put, List.getElem_toArray, List.getElem_cons_succ, List.getElem_cons_zero, List.setIfInBounds_toArray, List.set_cons_zero, List.set_cons_succ]
      refine wpAnyH_ready (rs := [18]) (by kernel_rfl) (by simp) ?_
      refine AllReadyH.cons rfl (fun K hK => ?_) AllReadyH.nil
      go_simp
      clear c0 f0
      refine hK.out _ _ trivial (fun _ => ?_)
      clear hK
      refine wpAnyH_done (by kernel_rfl) ?_ _
      (try refine no_panic ?_)
      go_wp2
      go_ret
      exact ⟨rfl, by rw [HP.out]; exact DD.out⟩
    · have h0 : wd.cell? ⟨sb, 0, none⟩ = some (.slice p X.length cap) := (H.out.below GB.out).cell
      go_simp
      clear h0
      refine hK.out _ _ SX.out (fun _ => ?_)
      clear hK
      try simp only [Act.put, List.getElem_toArray, List.getElem_cons_succ, List.getElem_cons_zero, List.setIfInBounds_toArray, List.set_cons_zero, List.set_cons_succ]
      refine wpAnyH_take (i := 11) (v := .int .i64 X.length) rfl (by kernel_rfl) (by kernel_rfl) (by kernel_rfl) (fun _ _ _ h => h) (Or.inl ⟨by rfl, fun wx hS => ?_⟩) SX.out ?_
      · go_simp
      try simp only [Act.put, List.getElem_toArray, List.getElem_cons_succ, List.getElem_cons_zero, List.setIfInBounds_toArray, List.set_cons_zero, List.set_cons_succ]
      refine wpAnyH_take (i := 13) (v := .int .i64 q) rfl (by kernel_rfl) (by kernel_rfl) (by kernel_rfl) (fun _ _ _ h => h) (Or.inl ⟨by rfl, fun wx hS => ?_⟩) SX.out ?_
      · go_simp
      try simp only [Act.put, List.getElem_toArray, List.getElem_cons_succ, List.getElem_cons_zero, List.setIfInBounds_toArray, List.set_cons_zero, List.set_cons_succ]
      refine wpAnyH_ready (rs := [5]) (by kernel_rfl) (by simp) ?_
      refine AllReadyH.cons rfl (fun K hK => ?_) AllReadyH.nil
      have h0 : wd.cell? ⟨sb, 0, none⟩ = some (.slice p X.length cap) := (H.out.below GB.out).cell
      go_simp
      clear h0
      refine hK.out _ _ SX.out (fun _ => ?_)
      clear hK
      try simp only [Act.put, List.getElem_toArray, List.getElem_cons_succ, List.getElem_cons_zero, List.setIfInBounds_toArray, List.set_cons_zero, List.set_cons_succ]
      refine wpAnyH_take (i := 14) (v := V3) rfl (by kernel_rfl) (by kernel_rfl) (by kernel_rfl) (fun _ _ _ h => h) (Or.inl ⟨by rfl, fun wx hS => ?_⟩) SX.out ?_
      · go_simp
      try simp only [Act.put, List.getElem_toArray, List.getElem_cons_succ, List.getElem_cons_zero, List.setIfInBounds_toArray, List.set_cons_zero, List.set_cons_succ]
      refine wpAnyH_ready (rs := [15]) (by kernel_rfl) (by simp) ?_
      refine AllReadyH.cons rfl (fun K hK => ?_) AllReadyH.nil
      refine step_append_ex rfl _ _ 33 rfl (.slice p2 (m + u) c2) V3 rfl rfl _ (seg_append a0.out (G3.out _ GB.out) (Nat.zero_le _) (by rw [List.length_append, LL.out.1, LL.out.2.1]; have := HL.out; have := LL.out.2.2.2; omega) (by rw [LL.out.2.2.1]; have := HL.out; have := LL.out.2.2.2; omega) _) ?_
      rintro v5 w5 ap
      replace ap : AppOf 0 (.slice p2 (m + u) c2) (X.take m ++ X.drop q ++ (X.drop m).take cut) wd v5 w5 := ap
      obtain ⟨bl, nv⟩ := ap.below GB.out N2.out
      have c0 : w5.cell? ⟨sb, 0, none⟩ = some (.slice p X.length cap) := (H.out.below bl).cell
      have f0 : w5.frozen? ⟨sb, 0, none⟩ = false := (H.out.below bl).free
      have DD := Lib.hid (H.out.after2 bl ap.row nv (by rw [List.length_append, List.length_append, LL.out.1, LL.out.2.1, LL.out.2.2.1]; have := HL.out; have := LL.out.2.2.2; omega))
      obtain ⟨p5, c5, e5'⟩ := owns_form ap.row
      have hl5 : (X.take m ++ X.drop q ++ (X.drop m).take cut).length = X.length := by rw [List.length_append, List.length_append, LL.out.1, LL.out.2.1, LL.out.2.2.1]; exact LL.out.2.2.2
      rw [hl5] at e5'
      subst e5'
      clear ap bl nv hl5
      refine hK.out _ _ SX.out (fun _ => ?_)
      clear hK
      try simp only [Act.put, List.getElem_toArray, List.getElem_cons_succ, List.getElem_cons_zero, List.setIfInBounds_toArray, List.set_cons_zero, List.set_cons_succ]
      refine wpAnyH_take (i := 16) (v := ptr sb) rfl (by kernel_rfl) (by kernel_rfl) (by kernel_rfl) (fun _ _ _ h => h) (Or.inl ⟨by rfl, fun wx hS => ?_⟩) SX.out ?_
      · go_simp
      try simp only [Act.put, List.getElem_toArray, List.getElem_cons_succ, List.getElem_cons_zero, List.setIfInBounds_toArray, List.set_cons_zero, List.set_cons_succ]
      refine wpAnyH_take (i := 17) (v := .pointer (some ⟨sb, 0, none⟩)) rfl (by kernel_rfl) (by kernel_rfl) (by kernel_rfl) (fun _ _ _ h => h) (Or.inl ⟨by rfl, fun wx hS => ?_⟩) SX.out ?_
      · go_simp
      try simp only [Act.put, List.getElem_toArray, List.getElem_cons_succ, List.getElem_cons_zero, List.setIfInBounds_toArray, List.set_cons_zero, List.set_cons_succ]
      refine wpAnyH_ready (rs := [18]) (by kernel_rfl) (by simp) ?_
      refine AllReadyH.cons rfl (fun K hK => ?_) AllReadyH.nil
      go_simp
      clear c0 f0
      refine hK.out _ _ trivial (fun _ => ?_)
      clear hK
      refine wpAnyH_done (by kernel_rfl) ?_ _
      (try refine no_panic ?_)
      go_wp2
      go_ret
      exact ⟨rfl, by rw [HP.out]; exact DD.out⟩
  · subst htu
    go_enter Try.func68, Try.ntmps68
    go_wp2_with (first
      | (at_builtin; refine wpList_append_ex rfl _ _ 33 rfl (.slice none 0 0) V1 rfl rfl _ (nil_append (G1.out w (Below.refl _ _)) (by rw [LL.out.1]; have := HL.out; have := LL.out.2.2.2; omega) _) ?_))
    rintro va wa ap
    have ka : Below w.heap.size w wa := (Below.refl _ _).grown ap.grow (Nat.le_refl _) fun g e => by simp [Value.ownBlock] at e
    have AA := Lib.hid ap.row
    have NA : Hid (∀ g, va.ownBlock = some g → w.heap.size ≤ g) := Lib.hid fun g e => by
      rcases ap.own g e with q | q
      · simp [Value.ownBlock] at q
      · exact q
    have KA := Lib.hid ka
    obtain ⟨pa, ca, rfl⟩ : ∃ pa ca, va = .slice pa m ca := by
      obtain ⟨pa, ca, e⟩ := owns_form ap.row
      exact ⟨pa, ca, by rw [e, LL.out.1]⟩
    clear ap ka h0
    go_upto_region 12 with fail
    have sx0 : wa.drew.cell? ⟨sb, 0, none⟩ = some (.slice p X.length cap) := (H.out.below KA.out).cell
    (try refine wp_region_noPanic ?_)
    refine wp_region_held_drew (S := fun wx => wx.cell? ⟨sb, 0, none⟩ = some (.slice p X.length cap)) (by kernel_rfl) sx0 (fun _ => ?_)
    have k0 : Below w.heap.size w wa.drew := KA.out.drew
    have a0 := Lib.hid (owns_at (w' := wa.drew) AA.out fun g e => rfl)
    generalize wa.drew = wb at sx0 k0 a0 ⊢
    have SX := Lib.hid sx0
    have GB := Lib.hid k0
    clear sx0 k0
    refine wpAnyH_take (i := 0) (v := .slice pa m ca) rfl (by kernel_rfl) (by kernel_rfl) (by kernel_rfl) (fun _ _ _ h => h) (Or.inl ⟨by rfl, fun wx hS => ?_⟩) SX.out ?_
    · go_simp
    try simp only [Act.put, List.getElem_toArray, List.getElem_cons_succ, List.getElem_cons_zero, List.setIfInBounds_toArray, List.set_cons_zero, List.set_cons_succ]
    refine wpAnyH_take (i := 1) (v := ptr sb) rfl (by kernel_rfl) (by kernel_rfl) (by kernel_rfl) (fun _ _ _ h => h) (Or.inl ⟨by rfl, fun wx hS => ?_⟩) SX.out ?_
    · go_simp
    try simp only [Act.put, List.getElem_toArray, List.getElem_cons_succ, List.getElem_cons_zero, List.setIfInBounds_toArray, List.set_cons_zero, List.set_cons_succ]
    refine wpAnyH_take (i := 2) (v := ptr sb) rfl (by kernel_rfl) (by kernel_rfl) (by kernel_rfl) (fun _ _ _ h => h) (Or.inl ⟨by rfl, fun wx hS => ?_⟩) SX.out ?_
    · go_simp
    try simp only [Act.put, List.getElem_toArray, List.getElem_cons_succ, List.getElem_cons_zero, List.setIfInBounds_toArray, List.set_cons_zero, List.set_cons_succ]
    refine wpAnyH_take (i := 3) (v := .pointer (some ⟨sb, 0, none⟩)) rfl (by kernel_rfl) (by kernel_rfl) (by kernel_rfl) (fun _ _ _ h => h) (Or.inl ⟨by rfl, fun wx hS => ?_⟩) SX.out ?_
    · go_simp
    try simp only [Act.put, List.getElem_toArray, List.getElem_cons_succ, List.getElem_cons_zero, List.setIfInBounds_toArray, List.set_cons_zero, List.set_cons_succ]
    refine wpAnyH_take (i := 4) (v := .slice p X.length cap) rfl (by kernel_rfl) (by kernel_rfl) (by kernel_rfl) (fun _ _ _ h => h) (Or.inl ⟨by rfl, fun wx hS => ?_⟩) SX.out ?_
    · go_simp
    try simp only [Act.put, List.getElem_toArray, List.getElem_cons_succ, List.getElem_cons_zero, List.setIfInBounds_toArray, List.set_cons_zero, List.set_cons_succ]
    refine wpAnyH_take (i := 5) (v := ptr sb) rfl (by kernel_rfl) (by kernel_rfl) (by kernel_rfl) (fun _ _ _ h => h) (Or.inl ⟨by rfl, fun wx hS => ?_⟩) SX.out ?_
    · go_simp
    try simp only [Act.put, List.getElem_toArray, List.getElem_cons_succ, List.getElem_cons_zero, List.setIfInBounds_toArray, List.set_cons_zero, List.set_cons_succ]
    refine wpAnyH_take (i := 6) (v := ptr sb) rfl (by kernel_rfl) (by kernel_rfl) (by kernel_rfl) (fun _ _ _ h => h) (Or.inl ⟨by rfl, fun wx hS => ?_⟩) SX.out ?_
    · go_simp
    try simp only [Act.put, List.getElem_toArray, List.getElem_cons_succ, List.getElem_cons_zero, List.setIfInBounds_toArray, List.set_cons_zero, List.set_cons_succ]
    refine wpAnyH_take (i := 7) (v := .pointer (some ⟨sb, 0, none⟩)) rfl (by kernel_rfl) (by kernel_rfl) (by kernel_rfl) (fun _ _ _ h => h) (Or.inl ⟨by rfl, fun wx hS => ?_⟩) SX.out ?_
    · go_simp
    try simp only [Act.put, List.getElem_toArray, List.getElem_cons_succ, List.getElem_cons_zero, List.setIfInBounds_toArray, List.set_cons_zero, List.set_cons_succ]
    refine wpAnyH_take (i := 8) (v := .slice p X.length cap) rfl (by kernel_rfl) (by kernel_rfl) (by kernel_rfl) (fun _ _ _ h => h) (Or.inl ⟨by rfl, fun wx hS => ?_⟩) SX.out ?_
    · go_simp
    try simp only [Act.put, List.getElem_toArray, List.getElem_cons_succ, List.getElem_cons_zero, List.setIfInBounds_toArray, List.set_cons_zero, List.set_cons_succ]
    refine wpAnyH_take (i := 9) (v := .int .i64 X.length) rfl (by kernel_rfl) (by kernel_rfl) (by kernel_rfl) (fun _ _ _ h => h) (Or.inl ⟨by rfl, fun wx hS => ?_⟩) SX.out ?_
    · go_simp
    try simp only [Act.put, List.getElem_toArray, List.getElem_cons_succ, List.getElem_cons_zero, List.setIfInBounds_toArray, List.set_cons_zero, List.set_cons_succ]
    refine wpAnyH_take (i := 10) (v := .int .i64 u) rfl (by kernel_rfl) (by kernel_rfl) (by kernel_rfl) (fun _ _ _ h => h) (Or.inl ⟨by rfl, fun wx hS => ?_⟩) SX.out ?_
    · go_simp
    try simp only [Act.put, List.getElem_toArray, List.getElem_cons_succ, List.getElem_cons_zero, List.setIfInBounds_toArray, List.set_cons_zero, List.set_cons_succ]
    refine wpAnyH_take (i := 11) (v := .int .i64 q) rfl (by kernel_rfl) (by kernel_rfl) (by kernel_rfl) (fun _ _ _ h => h) (Or.inl ⟨by rfl, fun wx hS => ?_⟩) SX.out ?_
    · go_simp
    try simp only [Act.put, List.getElem_toArray, List.getElem_cons_succ, List.getElem_cons_zero, List.setIfInBounds_toArray, List.set_cons_zero, List.set_cons_succ]
    refine wpAnyH_take (i := 12) (v := V2) rfl (by kernel_rfl) (by kernel_rfl) (by kernel_rfl) (fun _ _ _ h => h) (Or.inl ⟨by rfl, fun wx hS => ?_⟩) SX.out ?_
    · go_simp
    try simp only [Act.put, List.getElem_toArray, List.getElem_cons_succ, List.getElem_cons_zero, List.setIfInBounds_toArray, List.set_cons_zero, List.set_cons_succ]
    refine wpAnyH_ready (rs := [13]) (by kernel_rfl) (by simp) ?_
    refine AllReadyH.cons rfl (fun K hK => ?_) AllReadyH.nil
    refine step_append_ex rfl _ _ 33 rfl (.slice pa m ca) V2 rfl rfl _ (seg_append a0.out (G2.out _ GB.out) (Nat.zero_le _) (by rw [LL.out.1]; have := HL.out; have := LL.out.2.2.2; omega) (by rw [LL.out.2.1]; have := HL.out; have := LL.out.2.2.2; omega) _) ?_
    rintro vb w2 ap
    replace ap : AppOf 0 (.slice pa m ca) (X.take m ++ X.drop q) wb vb w2 := ap
    obtain ⟨bl, nv⟩ := ap.below GB.out NA.out
    have A2 := Lib.hid ap.row
    have N2 := Lib.hid nv
    have K2 := Lib.hid bl
    have sx2 : w2.cell? ⟨sb, 0, none⟩ = some (.slice p X.length cap) := (H.out.below bl).cell
    obtain ⟨p2, c2, rfl⟩ : ∃ p2 c2, vb = .slice p2 (m + u) c2 := by
      obtain ⟨p2, c2, e⟩ := owns_form ap.row
      exact ⟨p2, c2, by rw [e, List.length_append, LL.out.1, LL.out.2.1]⟩
    clear ap bl nv
    refine hK.out _ _ sx2 (fun _ => ?_)
    clear hK SX
    have SX := Lib.hid sx2
    clear sx2
    try simp only [Act.put, List.getElem_toArray, List.getElem_cons_succ, List.getElem_cons_zero, List.setIfInBounds_toArray, List.set_cons_zero, List.set_cons_succ]
    refine wpAnyH_take (i := 14) (v := .slice p2 (m + u) c2) rfl (by kernel_rfl) (by kernel_rfl) (by kernel_rfl) (fun _ _ _ h => h) (Or.inl ⟨by rfl, fun wx hS => ?_⟩) SX.out ?_
    · go_simp
    try simp only [Act.put, List.getElem_toArray, List.getElem_cons_succ, List.getElem_cons_zero, List.setIfInBounds_toArray, List.set_cons_zero, List.set_cons_succ]
    refine wpAnyH_done (by kernel_rfl) ?_ _
    (try refine no_panic ?_)
    clear SX GB a0 AA NA KA
    go_upto_region 13 with fail
    have SX : Hid True := Lib.hid trivial
    have GB : Hid (Below w.heap.size w w2.drew) := Lib.hid K2.out.drew
    have a0 := Lib.hid (owns_at (w' := w2.drew) A2.out fun g e => rfl)
    (try refine wp_region_noPanic ?_)
    refine wp_region_held_drew (S := fun _ => True) (by kernel_rfl) trivial (fun _ => ?_)
    generalize w2.drew = wd at GB a0 ⊢
    refine wpAnyH_take (i := 0) (v := ptr sb) rfl (by kernel_rfl) (by kernel_rfl) (by kernel_rfl) (fun _ _ _ h => h) (Or.inl ⟨by rfl, fun wx hS => ?_⟩) SX.out ?_
    · go_simp
    try simp only [Act.put, List.getElem_toArray, List.getElem_cons_succ, List.getElem_cons_zero, List.setIfInBounds_toArray, List.set_cons_zero, List.set_cons_succ]
    refine wpAnyH_take (i := 1) (v := .slice p2 (m + u) c2) rfl (by kernel_rfl) (by kernel_rfl) (by kernel_rfl) (fun _ _ _ h => h) (Or.inl ⟨by rfl, fun wx hS => ?_⟩) SX.out ?_
    · go_simp
    try simp only [Act.put, List.getElem_toArray, List.getElem_cons_succ, List.getElem_cons_zero, List.setIfInBounds_toArray, List.set_cons_zero, List.set_cons_succ]
    refine wpAnyH_take (i := 2) (v := ptr sb) rfl (by kernel_rfl) (by kernel_rfl) (by kernel_rfl) (fun _ _ _ h => h) (Or.inl ⟨by rfl, fun wx hS => ?_⟩) SX.out ?_
    · go_simp
    try simp only [Act.put, List.getElem_toArray, List.getElem_cons_succ, List.getElem_cons_zero, List.setIfInBounds_toArray, List.set_cons_zero, List.set_cons_succ]
    refine wpAnyH_take (i := 3) (v := ptr sb) rfl (by kernel_rfl) (by kernel_rfl) (by kernel_rfl) (fun _ _ _ h => h) (Or.inl ⟨by rfl, fun wx hS => ?_⟩) SX.out ?_
    · go_simp
    try simp only [Act.put, List.getElem_toArray, List.getElem_cons_succ, List.getElem_cons_zero, List.setIfInBounds_toArray, List.set_cons_zero, List.set_cons_succ]
    refine wpAnyH_take (i := 4) (v := .pointer (some ⟨sb, 0, none⟩)) rfl (by kernel_rfl) (by kernel_rfl) (by kernel_rfl) (fun _ _ _ h => h) (Or.inl ⟨by rfl, fun wx hS => ?_⟩) SX.out ?_
    · go_simp
    try simp only [Act.put, List.getElem_toArray, List.getElem_cons_succ, List.getElem_cons_zero, List.setIfInBounds_toArray, List.set_cons_zero, List.set_cons_succ]
    refine wpAnyH_take (i := 6) (v := .int .i64 m) rfl (by kernel_rfl) (by kernel_rfl) (by kernel_rfl) (fun _ _ _ h => h) (Or.inl ⟨by rfl, fun wx hS => ?_⟩) SX.out ?_
    · go_simp
    try simp only [Act.put, List.getElem_toArray, List.getElem_cons_succ, List.getElem_cons_zero, List.setIfInBounds_toArray, List.set_cons_zero, List.set_cons_succ]
    refine wpAnyH_take (i := 7) (v := ptr sb) rfl (by kernel_rfl) (by kernel_rfl) (by kernel_rfl) (fun _ _ _ h => h) (Or.inl ⟨by rfl, fun wx hS => ?_⟩) SX.out ?_
    · go_simp
    try simp only [Act.put, List.getElem_toArray, List.getElem_cons_succ, List.getElem_cons_zero, List.setIfInBounds_toArray, List.set_cons_zero, List.set_cons_succ]
    refine wpAnyH_take (i := 8) (v := ptr sb) rfl (by kernel_rfl) (by kernel_rfl) (by kernel_rfl) (fun _ _ _ h => h) (Or.inl ⟨by rfl, fun wx hS => ?_⟩) SX.out ?_
    · go_simp
    try simp only [Act.put, List.getElem_toArray, List.getElem_cons_succ, List.getElem_cons_zero, List.setIfInBounds_toArray, List.set_cons_zero, List.set_cons_succ]
    refine wpAnyH_take (i := 9) (v := .pointer (some ⟨sb, 0, none⟩)) rfl (by kernel_rfl) (by kernel_rfl) (by kernel_rfl) (fun _ _ _ h => h) (Or.inl ⟨by rfl, fun wx hS => ?_⟩) SX.out ?_
    · go_simp
    try simp only [Act.put, List.getElem_toArray, List.getElem_cons_succ, List.getElem_cons_zero, List.setIfInBounds_toArray, List.set_cons_zero, List.set_cons_succ]
    refine wpAnyH_take (i := 12) (v := .int .i64 u) rfl (by kernel_rfl) (by kernel_rfl) (by kernel_rfl) (fun _ _ _ h => h) (Or.inl ⟨by rfl, fun wx hS => ?_⟩) SX.out ?_
    · go_simp
    try simp only [Act.put, List.getElem_toArray, List.getElem_cons_succ, List.getElem_cons_zero, List.setIfInBounds_toArray, List.set_cons_zero, List.set_cons_succ]
    refine wpAnyH_ready (rs := [5, 10]) (by kernel_rfl) (by simp) ?_
    refine AllReadyH.cons rfl (fun K hK => ?_) (AllReadyH.cons rfl (fun K hK => ?_) AllReadyH.nil)
    · have h0 : wd.cell? ⟨sb, 0, none⟩ = some (.slice p X.length cap) := (H.out.below GB.out).cell
      go_simp
      clear h0
      refine hK.out _ _ SX.out (fun _ => ?_)
      clear hK
      try simp only [Act.put, List.getElem_toArray, List.getElem_cons_succ, List.getElem_cons_zero, List.setIfInBounds_toArray, List.set_cons_zero, List.set_cons_succ]
      refine wpAnyH_ready (rs := [10]) (by kernel_rfl) (by simp) ?_
      refine AllReadyH.cons rfl (fun K hK => ?_) AllReadyH.nil
      have h0 : wd.cell? ⟨sb, 0, none⟩ = some (.slice p X.length cap) := (H.out.below GB.out).cell
      go_simp
      clear h0
      refine hK.out _ _ SX.out (fun _ => ?_)
      clear hK
      try simp only [Act.put, List.getElem_toArray, List.getElem_cons_succ, List.getElem_cons_zero, List.setIfInBounds_toArray, List.set_cons_zero, List.set_cons_succ]
      refine wpAnyH_take (i := 11) (v := .int .i64 X.length) rfl (by kernel_rfl) (by kernel_rfl) (by kernel_rfl) (fun _ _ _ h => h) (Or.inl ⟨by rfl, fun wx hS => ?_⟩) SX.out ?_
      · go_simp
      try simp only [Act.put, List.getElem_toArray, List.getElem_cons_succ, List.getElem_cons_zero, List.setIfInBounds_toArray, List.set_cons_zero, List.set_cons_succ]
      refine wpAnyH_take (i := 13) (v := .int .i64 q) rfl (by kernel_rfl) (by kernel_rfl) (by kernel_rfl) (fun _ _ _ h => h) (Or.inl ⟨by rfl, fun wx hS => ?_⟩) SX.out ?_
      · go_simp
      try simp only [Act.put, List.getElem_toArray, List.getElem_cons_succ, List.getElem_cons_zero, List.setIfInBounds_toArray, List.set_cons_zero, List.set_cons_succ]
      refine wpAnyH_take (i := 14) (v := V3) rfl (by kernel_rfl) (by kernel_rfl) (by kernel_rfl) (fun _ _ _ h => h) (Or.inl ⟨by rfl, fun wx hS => ?_⟩) SX.out ?_
      · go_simp
      try simp only [Act.put, List.getElem_toArray, List.getElem_cons_succ, List.getElem_cons_zero, List.setIfInBounds_toArray, List.set_cons_zero, List.set_cons_succ]
      refine wpAnyH_ready (rs := [15]) (by kernel_rfl) (by simp) ?_
      refine AllReadyH.cons rfl (fun K hK => ?_) AllReadyH.nil
      refine step_append_ex rfl _ _ 33 rfl (.slice p2 (m + u) c2) V3 rfl rfl _ (seg_append a0.out (G3.out _ GB.out) (Nat.zero_le _) (by rw [List.length_append, LL.out.1, LL.out.2.1]; have := HL.out; have := LL.out.2.2.2; omega) (by rw [LL.out.2.2.1]; have := HL.out; have := LL.out.2.2.2; omega) _) ?_
      rintro v5 w5 ap
      replace ap : AppOf 0 (.slice p2 (m + u) c2) (X.take m ++ X.drop q ++ (X.drop m).take cut) wd v5 w5 := ap
      obtain ⟨bl, nv⟩ := ap.below GB.out N2.out
      have c0 : w5.cell? ⟨sb, 0, none⟩ = some (.slice p X.length cap) := (H.out.below bl).cell
      have f0 : w5.frozen? ⟨sb, 0, none⟩ = false := (H.out.below bl).free
      have DD := Lib.hid (H.out.after2 bl ap.row nv (by rw [List.length_append, List.length_append, LL.out.1, LL.out.2.1, LL.out.2.2.1]; have := HL.out; have := LL.out.2.2.2; omega))
      obtain ⟨p5, c5, e5'⟩ := owns_form ap.row
      have hl5 : (X.take m ++ X.drop q ++ (X.drop m).take cut).length = X.length := by rw [List.length_append, List.length_append, LL.out.1, LL.out.2.1, LL.out.2.2.1]; exact LL.out.2.2.2
      rw [hl5] at e5'
      subst e5'
      clear ap bl nv hl5
      refine hK.out _ _ SX.out (fun _ => ?_)
      clear hK
      try simp only [Act.put, List.getElem_toArray, List.getElem_cons_succ, List.getElem_cons_zero, List.setIfInBounds_toArray, List.set_cons_zero, List.set_cons_succ]
      refine wpAnyH_take (i := 16) (v := ptr sb) rfl (by kernel_rfl) (by kernel_rfl) (by kernel_rfl) (fun _ _ _ h => h) (Or.inl ⟨by rfl, fun wx hS => ?_⟩) SX.out ?_
      · go_simp
      try simp only [Act.put, List.getElem_toArray, List.getElem_cons_succ, List.getElem_cons_zero, List.setIfInBounds_toArray, List.set_cons_zero, List.set_cons_succ]
      refine wpAnyH_take (i := 17) (v := .pointer (some ⟨sb, 0, none⟩)) rfl (by kernel_rfl) (by kernel_rfl) (by kernel_rfl) (fun _ _ _ h => h) (Or.inl ⟨by rfl, fun wx hS => ?_⟩) SX.out ?_
      · go_simp
      try simp only [Act.put, List.getElem_toArray, List.getElem_cons_succ, List.getElem_cons_zero, List.setIfInBounds_toArray, List.set_cons_zero, List.set_cons_succ]
      refine wpAnyH_ready (rs := [18]) (by kernel_rfl) (by simp) ?_
      refine AllReadyH.cons rfl (fun K hK => ?_) AllReadyH.nil
      go_simp
      clear c0 f0
      refine hK.out _ _ trivial (fun _ => ?_)
      clear hK
      refine wpAnyH_done (by kernel_rfl) ?_ _
      (try refine no_panic ?_)
      go_wp2
      go_ret
      exact ⟨rfl, by rw [HP.out]; exact DD.out⟩
    · have h0 : wd.cell? ⟨sb, 0, none⟩ = some (.slice p X.length cap) := (H.out.below GB.out).cell
      go_simp
      clear h0
      refine hK.out _ _ SX.out (fun _ => ?_)
      clear hK
      try simp only [Act.put, List.getElem_toArray, List.getElem_cons_succ, List.getElem_cons_zero, List.setIfInBounds_toArray, List.set_cons_zero, List.set_cons_succ]
      refine wpAnyH_take (i := 11) (v := .int .i64 X.length) rfl (by kernel_rfl) (by kernel_rfl) (by kernel_rfl) (fun _ _ _ h => h) (Or.inl ⟨by rfl, fun wx hS => ?_⟩) SX.out ?_
      · go_simp
      try simp only [Act.put, List.getElem_toArray, List.getElem_cons_succ, List.getElem_cons_zero, List.setIfInBounds_toArray, List.set_cons_zero, List.set_cons_succ]
      refine wpAnyH_take (i := 13) (v := .int .i64 q) rfl (by kernel_rfl) (by kernel_rfl) (by kernel_rfl) (fun _ _ _ h => h) (Or.inl ⟨by rfl, fun wx hS => ?_⟩) SX.out ?_
      · go_simp
      try simp only [Act.put, List.getElem_toArray, List.getElem_cons_succ, List.getElem_cons_zero, List.setIfInBounds_toArray, List.set_cons_zero, List.set_cons_succ]
      refine wpAnyH_ready (rs := [5]) (by kernel_rfl) (by simp) ?_
      refine AllReadyH.cons rfl (fun K hK => ?_) AllReadyH.nil
      have h0 : wd.cell? ⟨sb, 0, none⟩ = some (.slice p X.length cap) := (H.out.below GB.out).cell
      go_simp
      clear h0
      refine hK.out _ _ SX.out (fun _ => ?_)
      clear hK
      try simp only [Act.put, List.getElem_toArray, List.getElem_cons_succ, List.getElem_cons_zero, List.setIfInBounds_toArray, List.set_cons_zero, List.set_cons_succ]
      refine wpAnyH_take (i := 14) (v := V3) rfl (by kernel_rfl) (by kernel_rfl) (by kernel_rfl) (fun _ _ _ h => h) (Or.inl ⟨by rfl, fun wx hS => ?_⟩) SX.out ?_
      · go_simp
      try simp only [Act.put, List.getElem_toArray, List.getElem_cons_succ, List.getElem_cons_zero, List.setIfInBounds_toArray, List.set_cons_zero, List.set_cons_succ]
      refine wpAnyH_ready (rs := [15]) (by kernel_rfl) (by simp) ?_
      refine AllReadyH.cons rfl (fun K hK => ?_) AllReadyH.nil
      refine step_append_ex rfl _ _ 33 rfl (.slice p2 (m + u) c2) V3 rfl rfl _ (seg_append a0.out (G3.out _ GB.out) (Nat.zero_le _) (by rw [List.length_append, LL.out.1, LL.out.2.1]; have := HL.out; have := LL.out.2.2.2; omega) (by rw [LL.out.2.2.1]; have := HL.out; have := LL.out.2.2.2; omega) _) ?_
      rintro v5 w5 ap
      replace ap : AppOf 0 (.slice p2 (m + u) c2) (X.take m ++ X.drop q ++ (X.drop m).take cut) wd v5 w5 := ap
      obtain ⟨bl, nv⟩ := ap.below GB.out N2.out
      have c0 : w5.cell? ⟨sb, 0, none⟩ = some (.slice p X.length cap) := (H.out.below bl).cell
      have f0 : w5.frozen? ⟨sb, 0, none⟩ = false := (H.out.below bl).free
      have DD := Lib.hid (H.out.after2 bl ap.row nv (by rw [List.length_append, List.length_append, LL.out.1, LL.out.2.1, LL.out.2.2.1]; have := HL.out; have := LL.out.2.2.2; omega))
      obtain ⟨p5, c5, e5'⟩ := owns_form ap.row
      have hl5 : (X.take m ++ X.drop q ++ (X.drop m).take cut).length = X.length := by rw [List.length_append, List.length_append, LL.out.1, LL.out.2.1, LL.out.2.2.1]; exact LL.out.2.2.2
      rw [hl5] at e5'
      subst e5'
      clear ap bl nv hl5
      refine hK.out _ _ SX.out (fun _ => ?_)
      clear hK
      try simp only [Act.put, List.getElem_toArray, List.getElem_cons_succ, List.getElem_cons_zero, List.setIfInBounds_toArray, List.set_cons_zero, List.set_cons_succ]
      refine wpAnyH_take (i := 16) (v := ptr sb) rfl (by kernel_rfl) (by kernel_rfl) (by kernel_rfl) (fun _ _ _ h => h) (Or.inl ⟨by rfl, fun wx hS => ?_⟩) SX.out ?_
      · go_simp
      try simp only [Act.put, List.getElem_toArray, List.getElem_cons_succ, List.getElem_cons_zero, List.setIfInBounds_toArray, List.set_cons_zero, List.set_cons_succ]
      refine wpAnyH_take (i := 17) (v := .pointer (some ⟨sb, 0, none⟩)) rfl (by kernel_rfl) (by kernel_rfl) (by kernel_rfl) (fun _ _ _ h => h) (Or.inl ⟨by rfl, fun wx hS => ?_⟩) SX.out ?_
      · go_simp
      try simp only [Act.put, List.getElem_toArray, List.getElem_cons_succ, List.getElem_cons_zero, List.setIfInBounds_toArray, List.set_cons_zero, List.set_cons_succ]
      refine wpAnyH_ready (rs := [18]) (by kernel_rfl) (by simp) ?_
      refine AllReadyH.cons rfl (fun K hK => ?_) AllReadyH.nil
      go_simp
      clear c0 f0
      refine hK.out _ _ trivial (fun _ => ?_)
      clear hK
      refine wpAnyH_done (by kernel_rfl) ?_ _
      (try refine no_panic ?_)
      go_wp2
      go_ret
      exact ⟨rfl, by rw [HP.out]; exact DD.out⟩
theorem rroll_did (h : Stk 92 sb v X w) (n j : Int) : Calls Try.prog 68 #[ptr sb, .int .i64 n, .int .i64 j] w fun e w' => e = .returned (.int .i64 (rollE X n)) ∧ Did 92 sb v w (rollQ X n j) w' := by
  by_cases h1 : n < 0
  · refine (rroll_neg h n j h1).mono ?_
    rintro e w' ⟨rfl, k⟩
    simp only [rollE, rollQ, h1, if_true]
    exact ⟨by trivial, h.did k⟩
  by_cases h2 : X.length < n
  · refine (rroll_under h n j (by omega) h2).mono ?_
    rintro e w' ⟨rfl, k⟩
    simp only [rollE, rollQ, h1, h2, if_true, if_false]
    exact ⟨by trivial, h.did k⟩
  have e0 : rollE X n = 0 := by simp [rollE, h1, h2]
  have e1 : rollQ X n j = rollP X n.toNat j := by simp [rollQ, e0]
  rw [e0, e1]
  obtain ⟨a, rfl⟩ : ∃ a : Nat, n = a := ⟨n.toNat, by omega⟩
  rw [Int.toNat_natCast]
  by_cases h3 : a = 0
  · subst h3
    rw [rollP_zero]
    refine (rroll_none h j).mono ?_
    rintro e w' ⟨rfl, k⟩
    exact ⟨rfl, h.did k⟩
  · exact rroll_ok h a j (by omega) (by omega)
end
end Go.Proofs.Ytgmklagnngjlgaa
