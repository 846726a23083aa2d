/- Y10: K22, K23, K24, K27. -/
import Derived.Test.YtlkbnldpecolbaaY09
import Derived.Test.YtlkbnldpecolbaaY08
import Derived.Deep.Cut
import Derived.Laws.CopyOwn
import Derived.Laws.IdiomStrings
import Derived.Deep.RegionHeldLaw
import Derived.Deep.RegionHeld3
/- Items and Lock of a whole heap. -/
namespace Go.Proofs.Ytlkbnldpecolbaa
open Go.RowKit
set_option linter.unusedVariables false

theorem slice33 (p : Option Addr) (z cap lo hi : Nat) (h1 : lo ≤ hi) (h2 : hi ≤ cap) (w : World) :
    (Instr.slice 46 (.slice p z cap) (some (.int .i64 lo)) (some (.int .i64 hi)) none).run Try.prog w = .ok (.slice (if cap = lo then p else p.map (·.add (lo * 6))) (hi - lo) (cap - lo)) w := by
  have hs : (sizeOf (Try.prog.elem 46)).run Try.prog w = .ok 6 w := by kernel_rfl
  rw [run_slice_lh w 46 p z cap (by kernel_rfl) .i64 .i64 lo hi (by omega) (by omega) (by omega), hs]
  simp [sliced]

def itemsL (P : List Cel) (o : Ob) : List Ob := ((cellOf P o).it.drop o.a.toNat).take (lenO P o).toNat
def lockP (P : List Cel) (o : Ob) : List Cel := P.set o.n.toNat { cellOf P o with lk := true }

theorem obCells_mid {l : List Ob} {i n j : Nat} {u : Value} (h : (obCells ((l.drop i).take n))[j]? = some u) : (obCells l)[i * 6 + j]? = some u := by
  have hj : j < (obCells ((l.drop i).take n)).length := (List.getElem?_eq_some_iff.1 h).1
  rw [obCells_length] at hj
  have hlt : j / 6 < ((l.drop i).take n).length := by omega
  obtain ⟨o, ho⟩ : ∃ o, ((l.drop i).take n)[j / 6]? = some o := ⟨_, List.getElem?_eq_getElem hlt⟩
  have h1 := obCells_get ho (j := j % 6) (by omega)
  rw [show j / 6 * 6 + j % 6 = j from by omega, h] at h1
  have h2 : l[i + j / 6]? = some o := by
    rw [List.getElem?_take] at ho
    split at ho
    · rwa [List.getElem?_drop] at ho
    · cases ho
  have h3 := obCells_get h2 (j := j % 6) (by omega)
  rw [show (i + j / 6) * 6 + j % 6 = i * 6 + j from by omega] at h3
  rw [h3, h1]

section
variable {role : Nat → Nat × Nat} {c hb : Nat} {vc : Value} {ivs : List Value} {pb : Nat → Nat} {rv : Nat → Value} {P : List Cel} {w w' : World}

theorem len_in {o : Ob} (ho : okO P o = true) : 0 ≤ lenO P o ∧ o.a + lenO P o ≤ (cellOf P o).size := by
  obtain ⟨b0, b1, b2, b3, b4, b5, b6, b7, b8⟩ := ok_bd ho
  simp only [lenO, ho, if_true]
  by_cases hk : o.k = 10
  · have := b8 hk
    simp only [hk, if_true]
    omega
  · simp only [hk, if_false]
    omega

theorem items_is (h : PH role c hb vc ivs pb rv P w) (o : Ob) (ho : okO P o = true) (hk : o.k ≠ 8) :
    Calls Try.prog 59 #[ptr hb, o.val] w fun e w' => ∃ v, e = .returned (.tuple #[v, .int .i64 0]) ∧ w'.ownsRow w.heap.size 30 6 v (itemsL P o).length (obCells (itemsL P o)) ∧ Below w.heap.size w w' := by
  have hf := fun wx kx => find_ok (h.below (w' := wx) kx) o ho
  obtain ⟨b0, b1, b2, b3, _, _, b6, _⟩ := ok_bd ho
  obtain ⟨n0, n1⟩ := len_in ho
  have hc := cellOf_get (P := P) (o := o) b0 b1
  have hz := h.wf.size hc
  obtain ⟨g0, cap0, rfl, _, _, hp⟩ := h.ivAt hc
  have hp' := hp
  rcases hp with ⟨eT, hC⟩ | ⟨eT, hC⟩
  · have eT : celT (cellOf P o) = 113 := by injection eT
    have hs : (cellOf P o).size = (cellOf P o).it.length := by simp [Cel.size, hC.bs]
    rw [eT] at hf hp'
    have ea : ((o.a.toNat : Nat) : Int) = o.a := by omega
    have el : (((lenO P o).toNat : Nat) : Int) = lenO P o := by omega
    have hlen : (itemsL P o).length = (lenO P o).toNat := by
      simp [itemsL]
      omega
    have h2 : w.cell? ⟨pb o.n.toNat, 2, none⟩ = some (rv o.n.toNat) := by
      rw [cellAt hC.blk]
      rfl
    rw [← ea, ← el] at hf
    have key : ∀ p cap, rv o.n.toNat = .slice p (cellOf P o).it.length cap → (cellOf P o).it.length ≤ cap → (∀ wx, Below w.heap.size w wx → Calls Try.prog 89 #[.slice (if cap = o.a.toNat then p else p.map (·.add (o.a.toNat * 6))) (lenO P o).toNat (cap - o.a.toNat)] wx fun e w' => ∃ v, e = .returned v ∧ w'.ownsRow wx.heap.size 30 6 v (lenO P o).toNat (obCells (itemsL P o)) ∧ Below wx.heap.size wx w') →
        Calls Try.prog 59 #[ptr hb, o.val] w fun e w' => ∃ v, e = .returned (.tuple #[v, .int .i64 0]) ∧ w'.ownsRow w.heap.size 30 6 v (itemsL P o).length (obCells (itemsL P o)) ∧ Below w.heap.size w w' := by
      intro p cap er hcap hcall
      rw [hlen]
      have hsl := slice33 p (cellOf P o).it.length cap o.a.toNat (o.a.toNat + (lenO P o).toNat) (by omega) (by omega)
      rw [show o.a.toNat + (lenO P o).toNat - o.a.toNat = (lenO P o).toNat from by omega] at hsl
      refine items_walk87 hb (pb o.n.toNat) (cellOf P o).it.length cap o.a.toNat (lenO P o).toNat (o.a.toNat + (lenO P o).toNat) p o.k o.n o.a o.l o.x o.s _ _ w (by rw [h2, er]) (by rw [wrapi_in _ (by omega) (by omega)]; omega) (Lib.hid hf) hsl (Lib.hid fun wx kx => (hcall wx kx).mono ?_)
      rintro e w' ⟨v, rfl, q1, q2⟩
      exact ⟨v, rfl, q1.mono kx.size, q2⟩
    rcases hC.row.2 with ⟨er, hn0⟩ | ⟨g, cap, cur, er, _, hg, hcap, _, hsz, htk⟩
    · refine key none 0 (by rw [hn0]; exact er) (by omega) fun wx kx => ?_
      have e1 : o.a.toNat = 0 := by omega
      have e2 : (lenO P o).toNat = 0 := by omega
      have e3 : itemsL P o = [] := by
        apply List.eq_nil_of_length_eq_zero
        omega
      rw [e1, e2, e3]
      exact copyItems_none wx
    · refine key (some ⟨g, 0, none⟩) cap er hcap fun wx kx => ?_
      have hx : wx.ownsRow 0 30 6 (.slice (some ⟨g, 0, none⟩) (cellOf P o).it.length cap) (cellOf P o).it.length (obCells (cellOf P o).it) := by
        have := hC.row
        rw [er] at this
        exact owns_same this fun q _ hq => kx.block q hq
      have cell : ∀ j u, (obCells (itemsL P o))[j]? = some u → wx.cell? ⟨g, o.a.toNat * 6 + j, none⟩ = some u := by
        intro j u hu
        have hj : j < (obCells (itemsL P o)).length := (List.getElem?_eq_some_iff.1 hu).1
        rw [obCells_length, hlen] at hj
        rw [hx.cellAt _ (by omega)]
        exact obCells_mid hu
      by_cases hcl : cap = o.a.toNat
      · rw [if_pos hcl]
        refine copyItems_some ⟨g, 0, none⟩ (lenO P o).toNat _ (itemsL P o) wx hlen (by omega) fun j u hu => ?_
        have hj : j < (obCells (itemsL P o)).length := (List.getElem?_eq_some_iff.1 hu).1
        rw [obCells_length, hlen] at hj
        omega
      · rw [if_neg hcl]
        simp only [Option.map_some]
        refine copyItems_some _ (lenO P o).toNat _ (itemsL P o) wx hlen (by omega) fun j u hu => ?_
        rw [Addr.add_mid, Addr.add_mid, Nat.zero_add]
        exact cell j u hu
  · exact absurd (by rw [← b6]; exact hC.kind) hk

theorem lock_is (h : PH role c hb vc ivs pb rv P w) (o : Ob) (ho : okO P o = true) :
    Calls Try.prog 75 #[ptr hb, o.val] w fun e w' => e = .returned (.int .i64 0) ∧ PH role c hb vc ivs pb rv (lockP P o) w' ∧ Keep role c w role w' := by
  have hf := fun wx kx => find_ok (h.below (w' := wx) kx) o ho
  obtain ⟨b0, b1, b2, b3, _, _, b6, _⟩ := ok_bd ho
  have hc := cellOf_get (P := P) (o := o) b0 b1
  obtain ⟨g0, cap0, rfl, _, _, hp⟩ := h.ivAt hc
  have hp' := hp
  obtain ⟨iv, g1, g2, g3, g4⟩ := h.cell o.n.toNat _ hc
  have fin : ∀ wx w2, Below w.heap.size w wx → w2 = wx.setCell ⟨pb o.n.toNat, 1, none⟩ (.bool true) → PH role c hb (.slice (some ⟨g0, 0, none⟩) P.length cap0) ivs pb rv (lockP P o) w2 ∧ Keep role c w role w2 := by
    rintro wx w2 kx rfl
    have only := (Only.refl (pb o.n.toNat) wx).set 1 (.bool true)
    have rne : ∀ q, (rv o.n.toNat).ownBlock = some q → q ≠ pb o.n.toNat := fun q hq e => by
      have := g4 q hq
      rw [e, g3] at this
      simp at this
    refine ⟨h.change hc (by simp [Cel.size]) ?_ ?_, only.os.trans kx.os, only.tape.trans kx.tape, only.output.trans kx.output, by rw [only.size]; exact kx.size, fun k hk hcc => ?_, fun _ _ => rfl⟩
    · rcases hp'.later kx with ⟨eT, hx⟩ | ⟨eT, hx⟩
      · rw [eT]
        refine .inl ⟨rfl, hx.kind, hx.bs, ?_, owns_same hx.row fun q hq _ => only.block q (rne q hq)⟩
        rw [heap_setCell_same _ _ _ _ 118 _ hx.blk]
        rfl
      · rw [eT]
        refine .inr ⟨rfl, hx.kind, hx.it, ?_, rowB_same hx.row fun q hq _ => only.block q (rne q hq)⟩
        rw [heap_setCell_same _ _ _ _ 144 _ hx.blk]
        rfl
    · intro k hk hne _
      rw [only.block k hne]
      exact kx.block k hk
    · rw [only.block k (fun e => hcc (by rw [e, g3]))]
      exact kx.block k hk
  rcases hp with ⟨eT, hC⟩ | ⟨eT, hC⟩
  · have eT : celT (cellOf P o) = 113 := by injection eT
    rw [eT] at hf hp'
    refine lock_walk87 hb (pb o.n.toNat) o.k o.n o.a o.l o.a (lenO P o) o.x o.s _ w (Lib.hid hf) (Lib.hid fun wx kx => ?_)
    have hblk := (kx.block _ (blk_lt hC.blk)).trans hC.blk
    refine (lock_any (pb o.n.toNat) _ wx (by rw [cellAt hblk]; rfl) (freeAt hblk 1)).mono ?_
    rintro e w2 ⟨rfl, e2⟩
    exact ⟨rfl, fin wx w2 kx e2⟩
  · have eT : celT (cellOf P o) = 134 := by injection eT
    rw [eT] at hf hp'
    refine lock_walk95 hb (pb o.n.toNat) o.k o.n o.a o.l o.a (lenO P o) o.x o.s _ w (Lib.hid hf) (Lib.hid fun wx kx => ?_)
    have hblk := (kx.block _ (blk_lt hC.blk)).trans hC.blk
    refine (lock_any (pb o.n.toNat) _ wx (by rw [cellAt hblk]; rfl) (freeAt hblk 1)).mono ?_
    rintro e w2 ⟨rfl, e2⟩
    exact ⟨rfl, fin wx w2 kx e2⟩
end
end Go.Proofs.Ytlkbnldpecolbaa

/- Walks of heap: Put. -/
namespace Go.Proofs.Ytlkbnldpecolbaa
open Go.RowKit
set_option linter.unusedVariables false

end Go.Proofs.Ytlkbnldpecolbaa

/- Walks of heap: what byte cells copy and hand out. -/
namespace Go.Proofs.Ytlkbnldpecolbaa
open Go.RowKit
set_option linter.unusedVariables false

theorem wpList_copy_run {P : Program} {w : World} {ops : Array Oper} {rest : List Oper} {o : Oper} {a : Act} {Q : Exit → Act → World → Prop} (hgd : o.guard = none) (d s : Operand) (dT sT : TypeId)
    (ho : o.op = .call { callee := .builtin .copy, args := #[d, s], argTypes := #[dT, sT] }) (V1 V2 : Value) (hd : a.eval d = V1) (hs : a.eval s = V2) (v : Value) (w' : World) (hrun : (Builtin.copy_ #[dT, sT] o.type #[V1, V2]).run P w = .ok v w')
    (h : wpList P ops Q rest (a.put o.dst v) w') : wpList P ops Q (o :: rest) a w := by
  refine wpList_plain hgd fun K hK => ?_
  unfold Oper.wp
  simp [execOp, ho, resolve, invoke, builtin, hd, hs, hrun, Result.andThen]
  exact hK _ _ h

/-- Bytes copied into a row that may bear a mark behind its end. -/
theorem run_copy_mid (w : World) (ty : TypeId) (g o dLen dCap : Nat) (a : Addr) (sLen sCap : Nat) (cs : List Value) (hn : cs.length = Nat.min sLen dLen)
    (hsrc : ∀ j v, cs[j]? = some v → w.cell? (a.add j) = some v) (ht : w.there g o cs.length) (h1 : ∀ v ∈ cs, v.oneCell' = true) :
    (Builtin.copy_ #[100, 100] ty #[.slice (some ⟨g, o, none⟩) dLen dCap, .slice (some a) sLen sCap]).run Try.prog w = .ok (goInt cs.length) (w.setCells g o cs) := by
  have hl := run_loadCells_list (P := Try.prog) w a cs hsrc
  have hst : (storeCells ⟨g, o, none⟩ cs).run Try.prog w = .ok () (w.setCells g o cs) := by
    have := run_storeCells_cells (P := Try.prog) g o cs 0 w (fun j hj => by simpa using (ht j hj).1) (fun j hj => by simpa using (ht j hj).2) h1
    simpa using this
  have hu := Try.underlying100
  have hq : (sizeOf 5).run Try.prog w = .ok 1 w := by kernel_rfl
  simp [Builtin.copy_, run_underlying hu, Builtin.lenOf, Builtin.firstCells, hq, ← hn, hl, hst]

theorem slice58 (p : Option Addr) (z cap lo hi : Nat) (h1 : lo ≤ hi) (h2 : hi ≤ cap) (w : World) :
    (Instr.slice 100 (.slice p z cap) (some (.int .i64 lo)) (some (.int .i64 hi)) none).run Try.prog w = .ok (.slice (if cap = lo then p else p.map (·.add lo)) (hi - lo) (cap - lo)) w := by
  have hs : (sizeOf (Try.prog.elem 100)).run Try.prog w = .ok 1 w := by kernel_rfl
  rw [run_slice_lh w 100 p z cap (by kernel_rfl) .i64 .i64 lo hi (by omega) (by omega) (by omega), hs]
  simp [sliced]
theorem slice58_l (p : Option Addr) (z cap lo : Nat) (h1 : lo ≤ z) (w : World) :
    (Instr.slice 100 (.slice p z cap) (some (.int .i64 lo)) none none).run Try.prog w = .ok (.slice (if cap = lo then p else p.map (·.add lo)) (z - lo) (cap - lo)) w := by
  have hs : (sizeOf (Try.prog.elem 100)).run Try.prog w = .ok 1 w := by kernel_rfl
  rw [run_slice_l w 100 p z cap (by kernel_rfl) .i64 lo (by omega) (by omega), hs]
  simp [sliced]

set_option maxRecDepth 100000 in
theorem bytes_walk95 (hb r z cap lo m hi : Nat) (p : Option Addr) (k n a l : Int) (x : Bool) (s t : ByteArray) (V : Value) (w : World)
    (h2 : w.cell? ⟨r, 2, none⟩ = some (.slice p z cap)) (e1 : IntKind.i64.wrap ((lo : Int) + m) = hi)
    (hf : Hid (∀ wx, Below w.heap.size w wx → Calls Try.prog 81 #[ptr hb, obV k x n a l s] wx fun e w' => e = .returned (.tuple #[pcV (.iface 134 (ptr r)) lo m, .int .i64 0]) ∧ Below wx.heap.size wx w'))
    (hsl : ∀ w : World, (Instr.slice 100 (.slice p z cap) (some (.int .i64 lo)) (some (.int .i64 hi)) none).run Try.prog w = .ok V w)
    (hc : Hid (∀ wx, Below w.heap.size w wx → (convert 100 9 V).run Try.prog wx = .ok (.string t) wx)) :
    Calls Try.prog 91 #[ptr hb, obV k x n a l s] w fun e w' => e = .returned (.tuple #[.string t, .int .i64 0]) ∧ Below w.heap.size w w' := by
  have ha := assert_95_95
  go_enter Try.func91, Try.ntmps91
  go_wp2_with fail
  obtain ⟨wb, eb, kb, zb, ob⟩ := ob_box w k n a l x s
  rw [eb]
  refine (hf.out _ kb).mono ?_
  rintro e wc ⟨rfl, kc⟩
  have KC := Lib.hid (below_and kb kc)
  clear eb kb zb kc ob
  go_upto_region 2 with fail
  obtain ⟨wd, ed, kd, zd, d0, d1, d2⟩ := pc_box wc (.iface 134 (ptr r)) lo m
  rw [ed]
  have kk := below_and KC.out kd
  have KD := Lib.hid kk
  replace h2 := cell_later kk h2
  have hcv : ∀ q, (convert 100 9 V).run Try.prog (wd.drewN q) = .ok (.string t) (wd.drewN q) := fun q => hc.out _ (below_and kk (below_drewN _ _))
  clear ed kd zd kk
  go_wp2_with fail
  go_quiet (fail)
  go_wp2
  go_ret2
  exact ⟨rfl, below_and KD.out (below_drewN _ _)⟩

def putB : List UInt8 → Nat → List UInt8 → List UInt8
  | l, _, [] => l
  | l, o, c :: cs => putB (l.set o c) (o + 1) cs
theorem putB_length : ∀ (xs : List UInt8) (l : List UInt8) (o : Nat), (putB l o xs).length = l.length
  | [], _, _ => rfl
  | c :: cs, l, o => by
    rw [putB, putB_length cs]
    simp
theorem putB_eq : ∀ (xs : List UInt8) (l : List UInt8) (o : Nat), o + xs.length ≤ l.length → putB l o xs = l.take o ++ xs ++ l.drop (o + xs.length)
  | [], l, o, h => by simp [putB]
  | c :: cs, l, o, h => by
    simp at h
    rw [putB, putB_eq cs _ _ (by simp; omega)]
    rw [List.take_set, List.drop_set_of_lt (by omega)]
    have e1 : (l.take (o + 1)).set o c = l.take o ++ [c] := by
      have hm : min o l.length = o := Nat.min_eq_left (by omega)
      rw [List.take_succ_eq_append_getElem (by omega), List.set_append_right _ _ (by simp [hm])]
      simp [hm]
    rw [e1, show o + 1 + cs.length = o + (c :: cs).length from by simp; omega]
    simp
theorem rowB_put : ∀ (xs : List UInt8) (o : Nat) (w : World) (l : List UInt8) {v : Value} {g n cap : Nat}, rowB w v l → v = .slice (some ⟨g, 0, none⟩) n cap → o + xs.length ≤ l.length → rowB (w.setCells g o (byCells xs)) v (putB l o xs) ∧ Only g w (w.setCells g o (byCells xs))
  | [], o, w, l, v, g, n, cap, h, hv, hl => ⟨h, Only.refl _ _⟩
  | c :: cs, o, w, l, v, g, n, cap, h, hv, hl => by
    simp at hl
    have hc := c.toNat_lt
    have h1 := rowB_set h hv (j := o) (m := (c.toNat : Int)) (by omega) (by omega) (by omega)
    have e : UInt8.ofNat ((c.toNat : Int)).toNat = c := by simp
    rw [e] at h1
    obtain ⟨q1, q2⟩ := rowB_put cs (o + 1) _ _ h1 hv (by simp; omega)
    have q3 := (Only.refl g w).set o (.int .u8 c.toNat)
    exact ⟨q1, q2.os.trans q3.os, q2.tape.trans q3.tape, q2.output.trans q3.output, q2.size.trans q3.size, fun k hk => (q2.block k hk).trans (q3.block k hk)⟩

theorem byCells_get (l : List UInt8) (j : Nat) : (byCells l)[j]? = l[j]?.map fun c => .int .u8 c.toNat := by simp [byCells]
theorem by_mid {l : List UInt8} {i n j : Nat} {u : Value} (h : (byCells ((l.drop i).take n))[j]? = some u) : (byCells l)[i + j]? = some u := by
  rw [byCells_get] at h ⊢
  rw [List.getElem?_take] at h
  split at h
  · rwa [List.getElem?_drop] at h
  · simp at h

section
variable {role : Nat → Nat × Nat} {c hb : Nat} {vc : Value} {ivs : List Value} {pb : Nat → Nat} {rv : Nat → Value} {P : List Cel} {w w' : World}
def bytesL (P : List Cel) (o : Ob) : List UInt8 := ((cellOf P o).bs.drop o.a.toNat).take (lenO P o).toNat

/-- A row of bytes, read. -/
theorem rowB_cell {w : World} {g n cap : Nat} {l : List UInt8} (h : rowB w (.slice (some ⟨g, 0, none⟩) n cap) l) {j : Nat} {u : Value} (hj : (byCells l)[j]? = some u) : w.cell? ⟨g, j, none⟩ = some u ∧ w.frozen? ⟨g, j, none⟩ = false := by
  rw [byCells_get] at hj
  cases e : l[j]? with
  | none => simp [e] at hj
  | some q =>
    obtain ⟨g', cap', ev, c1, c2⟩ := row_byte h e
    have : g' = g := by
      simp at ev
      exact ev.1.symm
    subst this
    rw [e] at hj
    simp at hj
    subst hj
    exact ⟨c1, c2⟩

theorem bytes_is (h : PH role c hb vc ivs pb rv P w) (o : Ob) (ho : okO P o = true) (hk : o.k = 8) (hpos : 0 < (cellOf P o).bs.length) :
    Calls Try.prog 91 #[ptr hb, o.val] w fun e w' => e = .returned (.tuple #[.string ⟨(bytesL P o).toArray⟩, .int .i64 0]) ∧ Below w.heap.size w w' := by
  have hf := fun wx kx => find_ok (h.below (w' := wx) kx) o ho
  obtain ⟨b0, b1, b2, b3, _, _, b6, _⟩ := ok_bd ho
  obtain ⟨n0, n1⟩ := len_in ho
  have hc := cellOf_get (P := P) (o := o) b0 b1
  have hz := h.wf.size hc
  obtain ⟨g0, cap0, rfl, _, _, hp⟩ := h.ivAt hc
  rcases hp with ⟨eT, hC⟩ | ⟨eT, hC⟩
  · have := hC.kind
    omega
  · have eT : celT (cellOf P o) = 134 := by injection eT
    have hs : (cellOf P o).size = (cellOf P o).bs.length := by simp [Cel.size, hC.it]
    rw [eT] at hf
    have ea : ((o.a.toNat : Nat) : Int) = o.a := by omega
    have el : (((lenO P o).toNat : Nat) : Int) = lenO P o := by omega
    have hlen : (bytesL P o).length = (lenO P o).toNat := by
      simp [bytesL]
      omega
    have h2 : w.cell? ⟨pb o.n.toNat, 2, none⟩ = some (rv o.n.toNat) := by
      rw [cellAt hC.blk]
      rfl
    rw [← ea, ← el] at hf
    have hrow := hC.row
    rcases hC.row with ⟨_, hnil⟩ | ⟨g, cap, cur, fr, er, hg, hfr, hcap, hsz, htk⟩
    · rw [hnil] at hpos
      simp at hpos
    · rw [er] at h2 hrow
      have hsl := slice58 (some ⟨g, 0, none⟩) (cellOf P o).bs.length cap o.a.toNat (o.a.toNat + (lenO P o).toNat) (by omega) (by omega)
      rw [show o.a.toNat + (lenO P o).toNat - o.a.toNat = (lenO P o).toNat from by omega] at hsl
      refine bytes_walk95 hb (pb o.n.toNat) (cellOf P o).bs.length cap o.a.toNat (lenO P o).toNat (o.a.toNat + (lenO P o).toNat) (some ⟨g, 0, none⟩) o.k o.n o.a o.l o.x o.s _ _ w h2 (by rw [wrapi_in _ (by omega) (by omega)]; omega) (Lib.hid hf) hsl (Lib.hid fun wx kx => ?_)
      have hx : rowB wx (.slice (some ⟨g, 0, none⟩) (cellOf P o).bs.length cap) (cellOf P o).bs := rowB_same hrow fun q _ hq => kx.block q hq
      rw [← hlen]
      by_cases hcl : cap = o.a.toNat
      · rw [if_pos hcl]
        refine run_convert_bytes_back wx 100 9 5 _ _ (bytesL P o) Try.underlying100 Try.underlying5 Try.underlying9 fun j hj => ?_
        omega
      · rw [if_neg hcl]
        simp only [Option.map_some]
        refine run_convert_bytes_back wx 100 9 5 _ _ (bytesL P o) Try.underlying100 Try.underlying5 Try.underlying9 fun j hj => ?_
        rw [Addr.add_mid, Addr.add_mid, Nat.zero_add]
        refine (rowB_cell hx (by_mid (l := (cellOf P o).bs) (i := o.a.toNat) (n := (lenO P o).toNat) ?_)).1
        show (byCells (bytesL P o))[j]? = _
        rw [byCells_get, List.getElem?_eq_getElem hj]
        rfl
end
end Go.Proofs.Ytlkbnldpecolbaa

/- Walks of heap: twin. -/
namespace Go.Proofs.Ytlkbnldpecolbaa
open Go.RowKit
set_option linter.unusedVariables false

/-- The three cells of a cell's block. -/
def Tri (w : World) (pb : Nat) (a b c : Value) : Prop := w.cell? ⟨pb, 0, none⟩ = some a ∧ w.cell? ⟨pb, 1, none⟩ = some b ∧ w.cell? ⟨pb, 2, none⟩ = some c
theorem Tri.later {w wx : World} {pb : Nat} {a b c : Value} (h : Tri w pb a b c) (k : Below w.heap.size w wx) : Tri wx pb a b c := ⟨cell_later k h.1, cell_later k h.2.1, cell_later k h.2.2⟩

set_option maxRecDepth 100000 in
theorem itwin_walk (pb m z cap : Nat) (p : Option Addr) (kk : Int) (lk : Bool) (l : List Ob) (w : World) (c0 : w.cell? ⟨pb, 0, none⟩ = some (.int .i64 kk)) (c1 : w.cell? ⟨pb, 1, none⟩ = some (.bool lk)) (c2 : w.cell? ⟨pb, 2, none⟩ = some (.slice p z cap))
    (hc : Hid (∀ wx, Below w.heap.size w wx → Calls Try.prog 89 #[.slice p z cap] wx fun e w' => ∃ v, e = .returned v ∧ w'.ownsRow wx.heap.size 30 6 v m (obCells l) ∧ Below wx.heap.size wx w')) :
    Calls Try.prog 131 #[ptr pb] w fun e w' => ∃ v w1, e = .returned (.iface 113 (ptr w1.heap.size)) ∧ w1.ownsRow w.heap.size 30 6 v m (obCells l) ∧ Below w.heap.size w w1 ∧ w' = w1.alloc (.cells #[.int .i64 kk, .bool lk, v] 118) := by
  go_enter Try.func131, Try.ntmps131
  go_wp2_with fail
  have gb : Hid (Below w.heap.size w w.drew) := Lib.hid (Below.refl _ w).drew
  have go : Hid (Tri w.drew pb (.int .i64 kk) (.bool lk) (.slice p z cap)) := Lib.hid ⟨c0, c1, c2⟩
  go_region_held3 (fun wx => wx.cell? ⟨pb, 0, none⟩ = some (.int .i64 kk) ∧ wx.cell? ⟨pb, 1, none⟩ = some (.bool lk) ∧ wx.cell? ⟨pb, 2, none⟩ = some (.slice p z cap))
    (first | exact go.out | exact (go.out.later (box_below _ _)) | go_keep)
    (first | (go_at_call 89; refine (hc.out _ gb.out).mono ?_; rintro e wy ⟨v, rfl, hv, ky⟩; have HV := Lib.hid (hv.mono gb.out.size); have KY := Lib.hid (below_and gb.out ky); replace go := Lib.hid (go.out.later ky); obtain ⟨p1, cap1, rfl⟩ := owns_form (hv.mono (Nat.zero_le _)); clear hv ky))
  go_wp2
  go_ret
  exact ⟨_, _, rfl, HV.out, KY.out, rfl⟩

theorem info5 : (Try.prog.info? 5).map (fun i => (i.zero, i.size, i.bytes)) = some (some (.int .u8 0), 1, 1) := by kernel_rfl
set_option maxRecDepth 100000 in
theorem btwin_walk (pb m cap : Nat) (ad : Addr) (kk : Int) (lk : Bool) (l : List UInt8) (w : World) (hl : l.length = m) (hm0 : 0 < m) (hm : m ≤ 40000) (c0 : w.cell? ⟨pb, 0, none⟩ = some (.int .i64 kk)) (c1 : w.cell? ⟨pb, 1, none⟩ = some (.bool lk)) (c2 : w.cell? ⟨pb, 2, none⟩ = some (.slice (some ad) m cap))
    (hnews : ∀ j u, (byCells l)[j]? = some u → w.cell? (ad.add j) = some u) :
    Calls Try.prog 137 #[ptr pb] w fun e w' => ∃ v w1, e = .returned (.iface 134 (ptr w1.heap.size)) ∧ w1.ownsRow w.heap.size 5 1 v m (byCells l) ∧ Below w.heap.size w w1 ∧ w' = w1.alloc (.cells #[.int .i64 kk, .bool lk, v] 144) := by
  obtain ⟨i0, hi, hz0, hz1, hz2⟩ := info_parts info5
  have HN := Lib.hid hnews
  have HL := Lib.hid hl
  have HM : Hid (0 < m ∧ m ≤ 40000) := Lib.hid ⟨hm0, hm⟩
  clear hnews hl hm0 hm
  go_enter Try.func137, Try.ntmps137
  go_wp2_with fail
  have go : Hid (Tri w.drew pb (.int .i64 kk) (.bool lk) (.slice (some ad) m cap)) := Lib.hid ⟨c0, c1, c2⟩
  go_region_held_law (fun wx => wx.cell? ⟨pb, 0, none⟩ = some (.int .i64 kk) ∧ wx.cell? ⟨pb, 1, none⟩ = some (.bool lk) ∧ wx.cell? ⟨pb, 2, none⟩ = some (.slice (some ad) m cap))
    (first | exact go.out | exact (go.out.later (box_below _ _)) | go_keep)
    (first | (refine step_append_lies _ rfl _ _ 100 rfl w.heap.size 5 i0 (.int .u8 0) 1 1 Try.underlying100 hi hz0 hz1 hz2 rfl (by decide) (.slice none 0 0) 0 [] rfl (World.ownsRow_nil _ _ _ _) ad m cap (byCells l) rfl (by rw [byCells_length, HL.out]; omega) HN.out (byCells_one l) HM.out.1 (by unfold maxLen; have := HM.out; omega) (by have := HM.out; omega) (Nat.le_refl _) w.heap.size rfl ?_; intro g cp w1 hown hgrow hat hlt; have HV : Hid (w1.ownsRow w.heap.size 5 1 (.slice (some ⟨g, 0, none⟩) (0 + m) cp) (0 + m) (byCells l)) := Lib.hid (by simpa using hown); have K1 : Hid (Below w.drew.heap.size w.drew w1) := Lib.hid ((Below.refl _ w.drew).grown hgrow (Nat.le_refl _) (fun k e => by cases e)); replace go := Lib.hid (go.out.later K1.out); clear hown hgrow hat hlt))
  go_wp2
  go_ret
  rw [Nat.zero_add] at HV
  exact ⟨_, w1, rfl, HV.out, (Below.refl _ w).drew.trans K1.out, rfl⟩

theorem step_append_run {P : Program} {w : World} {ops : Array Oper} {o : Oper} {a : Act} {K : Act → World → Prop} {Q : Exit → Act → World → Prop} {E : Prop} (hgd : o.guard = none) (s x : Operand) (t : TypeId)
    (ho : o.op = .call { callee := .builtin .append, args := #[s, x], argTypes := #[t, t] }) (V1 V2 : Value) (hs : a.eval s = V1) (hx : a.eval x = V2) (v : Value) (w' : World) (hrun : (Builtin.append_ #[t, t] o.type #[V1, V2]).run P w = .ok v w')
    (h : K (a.put o.dst v) w') : if Region.wanted o (yielded ops a.tmps) = true then Oper.wp P o a w K Q else E := by
  have hw : Region.wanted o (yielded ops a.tmps) = true := by simp [Region.wanted, hgd]
  rw [if_pos hw]
  unfold Oper.wp execOp
  simp only [ho, resolve, invoke, builtin, Sem.run_bind, Sem.run_pure, Result.andThen_ok, List.map_toArray, List.map_cons, List.map_nil, hs, hx, hrun]
  exact h

set_option maxRecDepth 100000 in
theorem btwin_nil (pb z : Nat) (p : Option Addr) (cap : Nat) (kk : Int) (lk : Bool) (w : World) (c0 : w.cell? ⟨pb, 0, none⟩ = some (.int .i64 kk)) (c1 : w.cell? ⟨pb, 1, none⟩ = some (.bool lk)) (c2 : w.cell? ⟨pb, 2, none⟩ = some (.slice p 0 cap))
    (hap : ∀ wx : World, (Builtin.append_ #[100, 100] 100 #[.slice none 0 0, .slice p 0 cap]).run Try.prog wx = .ok (.slice none 0 0) wx) :
    Calls Try.prog 137 #[ptr pb] w fun e w' => e = .returned (.iface 134 (ptr w.heap.size)) ∧ w' = w.drew.alloc (.cells #[.int .i64 kk, .bool lk, .slice none 0 0] 144) := by
  go_enter Try.func137, Try.ntmps137
  go_wp2_with fail
  have go : Hid (Tri w.drew pb (.int .i64 kk) (.bool lk) (.slice p 0 cap)) := Lib.hid ⟨c0, c1, c2⟩
  go_region_held_law (fun wx => wx.cell? ⟨pb, 0, none⟩ = some (.int .i64 kk) ∧ wx.cell? ⟨pb, 1, none⟩ = some (.bool lk) ∧ wx.cell? ⟨pb, 2, none⟩ = some (.slice p 0 cap))
    (first | exact go.out | exact (go.out.later (box_below _ _)) | go_keep)
    (first | (refine step_append_run rfl _ _ 100 rfl (.slice none 0 0) (.slice p 0 cap) rfl rfl (.slice none 0 0) _ (hap _) ?_))
  go_wp2
  go_ret
  exact ⟨rfl, rfl⟩

theorem append0 (p : Option Addr) (cap : Nat) (wx : World) : (Builtin.append_ #[100, 100] 100 #[.slice none 0 0, .slice p 0 cap]).run Try.prog wx = .ok (.slice none 0 0) wx := by
  obtain ⟨i0, hi, hz0, hz1, hz2⟩ := info_parts info5
  cases p <;> simp [Builtin.append_, run_underlying Try.underlying100, sizeOf, typeInfo, hi, Builtin.lenOf, Builtin.firstCells, loadCells, loadCellsFrom]
theorem rowB_of_owns {w : World} {base : Nat} {v : Value} {l : List UInt8} {m : Nat} (h : w.ownsRow base 5 1 v m (byCells l)) (hl : l.length = m) : rowB w v l := by
  subst hl
  rcases h.2 with ⟨rfl, h0⟩ | ⟨g, cap, cur, rfl, hb, hg, hn, hm, hs, ht⟩
  · exact .inl ⟨rfl, List.eq_nil_of_length_eq_zero h0⟩
  · exact .inr ⟨g, cap, cur, (0, 0), rfl, hg, .inl rfl, hn, by rw [hs]; omega, by simpa using ht⟩

/-- A cell's twin: new blocks that hold the same. -/
theorem twin_any {w : World} {iv row : Value} {pb : Nat} {c : Cel} (h : PCell w iv pb row c) (hz : c.size ≤ 40000) :
    Calls Try.prog (if celT c = 113 then 131 else 137) #[ptr pb] w fun e w' => ∃ b v, e = .returned (.iface (celT c) (ptr b)) ∧ w.heap.size ≤ b ∧ PCell w' (.iface (celT c) (ptr b)) b v c ∧ (∀ g, v.ownBlock = some g → w.heap.size ≤ g ∧ g ≠ b) ∧ Below w.heap.size w w' := by
  rcases h with ⟨e, h⟩ | ⟨e, h⟩
  · have eT : celT c = 113 := by
      rcases h.kind with q | q <;> simp [celT, q]
    rw [if_pos eT, eT]
    have hs : c.size = c.it.length := by simp [Cel.size, h.bs]
    obtain ⟨p, cap, ev⟩ := owns_form h.row
    have hrow := h.row
    have hb := h.blk
    rw [ev] at hb hrow
    refine (itwin_walk pb c.it.length c.it.length cap p c.k c.lk c.it w (cellAt hb 0) (cellAt hb 1) (cellAt hb 2) (Lib.hid fun wx kx => ?_)).mono ?_
    · rcases hrow.2 with ⟨q, h0⟩ | ⟨g, cap', cur, q, _⟩
      · have e0 : c.it = [] := List.eq_nil_of_length_eq_zero h0
        injection q with q1 q2 q3
        rw [q1, q3, e0]
        exact copyItems_none wx
      · injection q with q1 q2 q3
        subst q1
        refine copyItems_some ⟨g, 0, none⟩ c.it.length cap c.it wx rfl (by omega) fun j u hj => ?_
        exact cell_later kx (hrow.cells rfl j u hj)
    · rintro e w' ⟨v, w1, rfl, hv, k1, rfl⟩
      refine ⟨w1.heap.size, v, rfl, k1.size, .inl ⟨rfl, h.kind, h.bs, heap_alloc_new _ _, (hv.mono (Nat.zero_le _)).alloc _⟩, fun g e => ?_, k1.alloc k1.size _⟩
      have := hv.lt g e
      omega
  · have eT : celT c = 134 := by simp [celT, h.kind]
    rw [if_neg (by rw [eT]; decide), eT]
    have hs : c.size = c.bs.length := by simp [Cel.size, h.it]
    have hb := h.blk
    rcases h.row with ⟨ev, hnil⟩ | ⟨g, cap, cur, fr, ev, hg, hfr, hcap, hsz, htk⟩
    · rw [ev] at hb
      refine (btwin_nil pb 0 none 0 c.k c.lk w (cellAt hb 0) (cellAt hb 1) (cellAt hb 2) (append0 _ _)).mono ?_
      rintro e w' ⟨rfl, rfl⟩
      refine ⟨w.heap.size, .slice none 0 0, rfl, Nat.le_refl _, .inr ⟨rfl, h.kind, h.it, heap_alloc_new _ _, .inl ⟨rfl, hnil⟩⟩, fun g e => (by cases e), (Below.refl _ w).drew.alloc (Nat.le_refl _) _⟩
    · have hrow := h.row
      rw [ev] at hb hrow
      by_cases h0 : c.bs.length = 0
      · rw [h0] at hb
        refine (btwin_nil pb 0 _ cap c.k c.lk w (cellAt hb 0) (cellAt hb 1) (cellAt hb 2) (append0 _ _)).mono ?_
        rintro e w' ⟨rfl, rfl⟩
        refine ⟨w.heap.size, .slice none 0 0, rfl, Nat.le_refl _, .inr ⟨rfl, h.kind, h.it, heap_alloc_new _ _, .inl ⟨rfl, List.eq_nil_of_length_eq_zero h0⟩⟩, fun g e => (by cases e), (Below.refl _ w).drew.alloc (Nat.le_refl _) _⟩
      refine (btwin_walk pb c.bs.length cap ⟨g, 0, none⟩ c.k c.lk c.bs w rfl (by omega) (by omega) (cellAt hb 0) (cellAt hb 1) (cellAt hb 2) fun j u hj => ?_).mono ?_
      · rw [Addr.add_mid, Nat.zero_add]
        exact (rowB_cell hrow hj).1
      · rintro e w' ⟨v, w1, rfl, hv, k1, rfl⟩
        have hr := rowB_of_owns (hv.mono (Nat.zero_le _)) rfl
        refine ⟨w1.heap.size, v, rfl, k1.size, .inr ⟨rfl, h.kind, h.it, heap_alloc_new _ _, rowB_same hr fun q _ hq => Below.heap_alloc _ _ _ hq⟩, fun g e => ?_, k1.alloc k1.size _⟩
        have := hv.lt g e
        omega
end Go.Proofs.Ytlkbnldpecolbaa
