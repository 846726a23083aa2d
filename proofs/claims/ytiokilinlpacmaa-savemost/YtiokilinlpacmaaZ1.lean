/- The walk of SaveMost. -/
import Derived.Test.YtiokilinlpacmaaS6
namespace Go.Proofs.Ytiokilinlpacmaa
open Go.RowKit
set_option linter.unusedVariables false

/-- The objects of the saves 1 to j. -/
def svObs (j : Nat) : List Ob := (List.range j).map fun i => ⟨11, false, ((i + 1 : Nat) : Int), 0, 0, ⟨#[]⟩⟩
theorem svObs_succ (j : Nat) : svObs (j + 1) = svObs j ++ [⟨11, false, ((j + 1 : Nat) : Int), 0, 0, ⟨#[]⟩⟩] := by
  simp [svObs, List.range_succ]
theorem svObs_length (j : Nat) : (svObs j).length = j := by simp [svObs]
theorem svObs_get {j k : Nat} (h : k < j) : (svObs j)[k]? = some ⟨11, false, ((k + 1 : Nat) : Int), 0, 0, ⟨#[]⟩⟩ := by
  simp [svObs, h]
theorem cells6_new (w : World) (o : Ob) (t : TypeId) : ∀ j u, o.cells[j]? = some u → (w.alloc (.cells o.cells.toArray t)).cell? (Addr.add ⟨w.heap.size, 0, none⟩ j) = some u := fun j u h => by
  rw [Addr.add_mid, Nat.zero_add, cellAt (heap_alloc_new _ _)]
  simpa using h

theorem owns_at {w w' : World} {base : Nat} {e : TypeId} {size : Nat} {v : Value} {n : Nat} {xs : List Value} (h : w.ownsRow base e size v n xs) (k : ∀ g, v.ownBlock = some g → w'.heap[g]? = w.heap[g]?) : w'.ownsRow base e size v n xs := by
  refine ⟨h.1, ?_⟩
  rcases h.2 with hn | ⟨g, cap, cur, rfl, hb, hgg, rest⟩
  · exact .inl hn
  · refine .inr ⟨g, cap, cur, rfl, hb, ?_, rest⟩
    rw [k g rfl]
    exact hgg
/-- Behind the j-th save. -/
structure MostSt (n0 : Nat) (w0 : World) (hb sb j : Nat) (v : Value) (w : World) : Prop where
  sh : ∃ L, SH (fun b => b < n0 ∨ v.ownBlock = some b) hb [] sb L j w ∧ Nums L j
  row : w.ownsRow n0 29 6 v j (obCells (svObs j))
  below : Below n0 w0 w

set_option maxHeartbeats 1000000 in
set_option maxRecDepth 100000 in
theorem most_walk (a : Int) (K : Nat) (w : World) (ha0 : 0 ≤ a) (ha1 : a ≤ 255) (hK : a % 10 = K) :
    Calls Try.prog 3 #[.int .u8 a] w fun e w' => e = .returned (.bool true) ∧ Below w.heap.size w w' := by
  have HK := Lib.hid hK
  have HA : Hid (0 ≤ a ∧ a ≤ 255) := Lib.hid ⟨ha0, ha1⟩
  clear hK
  go_enter Try.func3, Try.ntmps3
  go_wp2_with fail
  refine (sknown_any w).mono ?_
  rintro e w0 ⟨rfl, b0⟩
  have B0 := Lib.hid b0
  clear b0
  go_wp2_with fail
  refine (new_any w0).mono ?_
  rintro e w1 ⟨rfl, rfl⟩
  obtain ⟨w1, e1, s1, b1⟩ : ∃ w1, w0.alloc (.cells #[.slice none 0 0, .int .i64 0] 92) = w1 ∧ Sep (fun b => b < w0.heap.size) w0.heap.size [] w1 ∧ Below w0.heap.size w0 w1 := ⟨_, rfl, Sep.new w0, box_below _ _⟩
  rw [e1]
  have S1 := Lib.hid s1
  have B1 := Lib.hid b1
  clear e1 s1 b1
  go_wp2_with fail
  refine (svNew S1.out).mono ?_
  rintro e w2 ⟨rfl, s2, k2⟩
  have ST : Hid (MostSt w0.heap.size w0 w0.heap.size w1.heap.size 0 (.slice none 0 0) w2) := Lib.hid ⟨⟨[], s2.sub fun b q => q.elim id fun q => by simp [Value.ownBlock] at q, Nums.zero⟩, World.ownsRow_nil _ _ _ _, B1.out.trans (k2.below fun _ h => h)⟩
  clear s2 k2 B1
  obtain ⟨i0, hi, hz0, hz1, hz2⟩ := info_parts info24
  go_wp2
  go_loopw [5, 6] (fun v i wr => ∃ j : Nat, j ≤ 10 ∧ i = .int .i64 j ∧ MostSt w0.heap.size w0 w0.heap.size w1.heap.size j v wr) (fun _ i _ => 10 - (intOf i).toNat)
  case atStart => exact ⟨0, by decide, rfl, ST.out⟩
  case round =>
    obtain ⟨j, hj, rfl, hst⟩ := hrel
    obtain ⟨px, cx, rfl⟩ := owns_form (hst.row.mono (Nat.zero_le _))
    have HS := Lib.hid hst
    clear hst ST
    by_cases hlt : j < 10
    · have t1 : (j : Int) < 10 := by omega
      obtain ⟨L, SS, NN⟩ := HS.out.sh
      have HSS := Lib.hid SS
      have HNN := Lib.hid NN
      have HL := Lib.hid hlt
      clear SS NN
      go_wp2_with fail
      refine (svSave HSS.out (by rw [HNN.out.1]; exact HL.out) (by have := HL.out; omega) (j + 1) ((j : Int) + 1) rfl rfl).mono ?_
      rintro e wa ⟨rfl, ⟨g, sa⟩, ka⟩
      have SA := Lib.hid sa
      have KA := Lib.hid ka
      clear sa ka
      go_upto_region 9 with fail
      obtain ⟨wb, eb, sb', kb, ob⟩ := SA.out.box_ob 11 false ((j : Int) + 1) 0 0 ⟨#[]⟩
      rw [eb]
      have SB := Lib.hid sb'
      have KB := Lib.hid (KA.out.trans kb)
      have OB := Lib.hid ob
      have q : ∀ w, (binOp .eql 29 (.agg #[.int .i64 11, .bool false, .int .i64 ((j : Int) + 1), .int .i64 0, .int .i64 0, .string ⟨#[]⟩]) (.agg #[.int .i64 11, .bool false, .int .i64 ((j : Int) + 1), .int .i64 0, .int .i64 0, .string ⟨#[]⟩])).run Try.prog w = .ok (.bool true) w := fun w => by rw [eqO]; simp
      obtain ⟨c0, c1, c2, c3, c4, c5⟩ := ob_cells ob
      clear eb sb' kb ob
      go_upto_region 11 with fail
      clear c0 c1 c2 c3 c4 c5 q
      obtain ⟨c0, c1, c2, c3, c4, c5⟩ := ob_cells OB.out
      have RB := Lib.hid (owns_at HS.out.row fun g e => (KB.out.block g (.inr e)))
      go_wp2_with (first
        | (at_builtin; refine wpList_append_lies _ rfl _ _ 27 rfl w0.heap.size 29 i0 _ 6 56 Try.underlying27 hi hz0 hz1 hz2 rfl (by decide) _ _ _ rfl (RB.out.alloc _) ⟨wb.heap.size, 0, none⟩ 1 1 (Ob.cells ⟨11, false, (j : Int) + 1, 0, 0, ⟨#[]⟩⟩) rfl rfl (cells6_new wb ⟨11, false, (j : Int) + 1, 0, 0, ⟨#[]⟩⟩ _) (ob_one _) (by decide) (by have := HL.out; unfold maxLen; omega) (by have := HL.out; omega) (by have := HS.out.below.size; have := KB.out.size; simp; omega) _ rfl ?_))
      intro g9 cap9 w9 hown hgrow hg9 hlt9
      have hsz := hgrow.size
      have bw : Below w0.heap.size w0 (wb.alloc (.cells (Ob.cells ⟨11, false, (j : Int) + 1, 0, 0, ⟨#[]⟩⟩).toArray 29)) := (HS.out.below.trans (KB.out.below fun _ h => .inl h)).alloc (by have := HS.out.below.size; have := KB.out.size; omega) _
      have SG := (SB.out.box (.cells (Ob.cells ⟨11, false, (j : Int) + 1, 0, 0, ⟨#[]⟩⟩).toArray 29)).grow hgrow (fun g e => .inl (.inl (.inr e)))
      have N9 : Hid (MostSt w0.heap.size w0 w0.heap.size w1.heap.size (j + 1) (.slice (some ⟨g9, 0, none⟩) (j + 1) cap9) w9) := Lib.hid ⟨⟨_, SG.sub fun b q => by
          rcases q with q | q
          · exact .inl (.inl (.inl (.inl q)))
          · have e : g9 = b := by simpa [Value.ownBlock] using q
            subst e
            rcases hg9 with q | q
            · exact .inl (.inl (.inl (.inr q)))
            · exact .inr ⟨by rw [q]; simp, hlt9⟩, HNN.out.push g []⟩, by rw [svObs_succ, obCells_append]; simpa [obCells] using hown, bw.grown hgrow bw.size fun g e => (HS.out.row.lt g e).1⟩
      clear hown hgrow hg9 hlt9 hsz bw SG c0 c1 c2 c3 c4 c5
      go_wp2
      go_roundw
      case rel => exact ⟨j + 1, HL.out, rfl, N9.out⟩
      case measure => exact measure_up 10 j _ rfl HL.out
    · have ej : j = 10 := by omega
      subst ej
      obtain ⟨L, SS, NN⟩ := HS.out.sh
      have HSS := Lib.hid SS
      have HNN := Lib.hid NN
      clear SS NN
      have t1 : ¬ (((10 : Nat) : Int) < 10) := by omega
      go_wp2_with fail
      refine (svSave_full HSS.out HNN.out.1).mono ?_
      rintro e wa ⟨rfl, sa, ka⟩
      have SA := Lib.hid sa
      have RA := Lib.hid (owns_at HS.out.row fun g e => ka.block g (.inr e))
      have BA : Hid (Below w0.heap.size w0 wa) := Lib.hid (HS.out.below.trans (ka.below fun _ h => .inl h))
      clear sa ka
      go_upto_region 13 with fail
      obtain ⟨wb, eb, sb', kb, ob⟩ := SA.out.box_ob 0 false 0 0 0 ⟨#[]⟩
      rw [eb]
      have SB := Lib.hid (sb'.sub (own' := fun b => b < w0.heap.size ∨ (Value.slice px 10 cx).ownBlock = some b) fun _ h => .inl h)
      have RB := Lib.hid (owns_at RA.out fun g e => kb.block g (.inr e))
      have BB : Hid (Below w0.heap.size w0 wb) := Lib.hid (BA.out.trans (kb.below fun _ h => .inl h))
      clear eb sb' kb ob
      have k0 : (0 : Int) ≤ K := by omega
      have k1 : (K : Int) < 10 := by have := HK.out; omega
      have HKL : Hid (K < 10) := Lib.hid (by omega)
      have ek : Int.tmod a 10 = K := by rw [Int.tmod_eq_emod_of_nonneg ha0]; exact HK.out
      have ek2 := HK.out
      go_upto_region 14 with fail
      obtain ⟨gr, cap', ev, c0, c1, c2, c3, c4, c5⟩ := row_item (l := svObs 10) (by rw [svObs_length]; exact RB.out.mono (Nat.zero_le _)) (svObs_get HKL.out)
      rw [svObs_length] at ev
      obtain ⟨rfl, rfl⟩ : px = some ⟨gr, 0, none⟩ ∧ cx = cap' := by simpa using ev
      dsimp only at c0 c1 c2 c3 c4 c5
      have HAT := Lib.hid (HNN.out.at HKL.out false)
      obtain ⟨t, ht⟩ : ∃ t, L[K]? = some t := ⟨_, List.getElem?_eq_getElem (by rw [HNN.out.1]; exact HKL.out)⟩
      have HT := Lib.hid ht
      clear ev ht
      go_wp2_with fail
      refine (svBack_ok SB.out ⟨11, false, ((K + 1 : Nat) : Int), 0, 0, ⟨#[]⟩⟩ HAT.out HT.out).mono ?_
      rintro e wc ⟨rfl, sc, kc⟩
      have NC := Lib.hid (HNN.out.take (Nat.le_of_lt HKL.out))
      have SC := Lib.hid sc
      have BC : Hid (Below w0.heap.size w0 wc) := Lib.hid (BB.out.trans (kc.below fun _ h => .inl h))
      clear sc kc c0 c1 c2 c3 c4 c5
      go_wp2_with fail
      refine (svSave SC.out (by rw [NC.out.1]; exact HKL.out) (by decide) 11 11 rfl rfl).mono ?_
      rintro e wd ⟨rfl, ⟨g2, sd⟩, kd⟩
      have SD := Lib.hid sd
      have BD : Hid (Below w0.heap.size w0 wd) := Lib.hid (BC.out.trans (kd.below fun _ h => .inl h))
      clear sd kd
      go_upto_region 16 with fail
      obtain ⟨we, ee, se, ke, oe⟩ := SD.out.box_ob 11 false 11 0 0 ⟨#[]⟩
      rw [ee]
      have SE := Lib.hid se
      have BE : Hid (Below w0.heap.size w0 we) := Lib.hid (BD.out.trans (ke.below fun _ h => .inl h))
      obtain ⟨c0, c1, c2, c3, c4, c5⟩ := ob_cells oe
      clear ee se ke oe
      have hlen := svLen SE.out.sat
      have el : ((L.take K ++ [(⟨11, g2, t.q⟩ : Sv)]).length : Int) = (K : Int) + 1 := by
        rw [List.length_append, NC.out.1]
        rfl
      rw [el] at hlen
      have HLEN := Lib.hid hlen
      clear hlen el
      go_wp2_with fail
      refine HLEN.out.mono ?_
      rintro e wf ⟨rfl, rfl⟩
      go_wp2
      go_ret
      exact ⟨rfl, B0.out.trans (BE.out.mono B0.out.size)⟩
end Go.Proofs.Ytiokilinlpacmaa
