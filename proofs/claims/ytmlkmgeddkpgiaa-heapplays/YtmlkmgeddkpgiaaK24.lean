/- Walks of heap: what byte cells copy and hand out. -/
import Derived.Test.YtmlkmgeddkpgiaaK22
import Derived.Test.YtmlkmgeddkpgiaaK23
import Derived.Laws.CopyOwn
import Derived.Laws.IdiomStrings
namespace Go.Proofs.Ytmlkmgeddkpgiaa
open Go.RowKit
set_option linter.unusedVariables false

theorem wpList_copy_run {P : Program} {w : World} {ops : Array Oper} {rest : List Oper} {o : Oper} {a : Act} {Q : Exit → Act → World → Prop} (hgd : o.guard = none) (d s : Operand) (dT sT : TypeId)
    (ho : o.op = .call { callee := .builtin .copy, args := #[d, s], argTypes := #[dT, sT] }) (V1 V2 : Value) (hd : a.eval d = V1) (hs : a.eval s = V2) (v : Value) (w' : World) (hrun : (Builtin.copy_ #[dT, sT] o.type #[V1, V2]).run P w = .ok v w')
    (h : wpList P ops Q rest (a.put o.dst v) w') : wpList P ops Q (o :: rest) a w := by
  refine wpList_plain hgd fun K hK => ?_
  unfold Oper.wp
  simp [execOp, ho, resolve, invoke, builtin, hd, hs, hrun, Result.andThen]
  exact hK _ _ h

/-- Bytes copied into a row that may bear a mark behind its end. -/
theorem run_copy_mid (w : World) (ty : TypeId) (g o dLen dCap : Nat) (a : Addr) (sLen sCap : Nat) (cs : List Value) (hn : cs.length = Nat.min sLen dLen)
    (hsrc : ∀ j v, cs[j]? = some v → w.cell? (a.add j) = some v) (ht : w.there g o cs.length) (h1 : ∀ v ∈ cs, v.oneCell' = true) :
    (Builtin.copy_ #[108, 108] ty #[.slice (some ⟨g, o, none⟩) dLen dCap, .slice (some a) sLen sCap]).run Try.prog w = .ok (goInt cs.length) (w.setCells g o cs) := by
  have hl := run_loadCells_list (P := Try.prog) w a cs hsrc
  have hst : (storeCells ⟨g, o, none⟩ cs).run Try.prog w = .ok () (w.setCells g o cs) := by
    have := run_storeCells_cells (P := Try.prog) g o cs 0 w (fun j hj => by simpa using (ht j hj).1) (fun j hj => by simpa using (ht j hj).2) h1
    simpa using this
  have hu := Try.underlying108
  have hq : (sizeOf 5).run Try.prog w = .ok 1 w := by kernel_rfl
  simp [Builtin.copy_, run_underlying hu, Builtin.lenOf, Builtin.firstCells, hq, ← hn, hl, hst]

theorem slice58 (p : Option Addr) (z cap lo hi : Nat) (h1 : lo ≤ hi) (h2 : hi ≤ cap) (w : World) :
    (Instr.slice 108 (.slice p z cap) (some (.int .i64 lo)) (some (.int .i64 hi)) none).run Try.prog w = .ok (.slice (if cap = lo then p else p.map (·.add lo)) (hi - lo) (cap - lo)) w := by
  have hs : (sizeOf (Try.prog.elem 108)).run Try.prog w = .ok 1 w := by kernel_rfl
  rw [run_slice_lh w 108 p z cap (by kernel_rfl) .i64 .i64 lo hi (by omega) (by omega) (by omega), hs]
  simp [sliced]
theorem slice58_l (p : Option Addr) (z cap lo : Nat) (h1 : lo ≤ z) (w : World) :
    (Instr.slice 108 (.slice p z cap) (some (.int .i64 lo)) none none).run Try.prog w = .ok (.slice (if cap = lo then p else p.map (·.add lo)) (z - lo) (cap - lo)) w := by
  have hs : (sizeOf (Try.prog.elem 108)).run Try.prog w = .ok 1 w := by kernel_rfl
  rw [run_slice_l w 108 p z cap (by kernel_rfl) .i64 lo (by omega) (by omega), hs]
  simp [sliced]

set_option maxRecDepth 100000 in
theorem bytes_walk95 (hb r z cap lo m hi : Nat) (p : Option Addr) (k n a l : Int) (x : Bool) (s t : ByteArray) (V : Value) (w : World)
    (h2 : w.cell? ⟨r, 2, none⟩ = some (.slice p z cap)) (e1 : IntKind.i64.wrap ((lo : Int) + m) = hi)
    (hf : Hid (∀ wx, Below w.heap.size w wx → Calls Try.prog 71 #[ptr hb, obV k x n a l s] wx fun e w' => e = .returned (.tuple #[pcV (.iface 141 (ptr r)) lo m, .int .i64 0]) ∧ Below wx.heap.size wx w'))
    (hsl : ∀ w : World, (Instr.slice 108 (.slice p z cap) (some (.int .i64 lo)) (some (.int .i64 hi)) none).run Try.prog w = .ok V w)
    (hc : Hid (∀ wx, Below w.heap.size w wx → (convert 108 9 V).run Try.prog wx = .ok (.string t) wx)) :
    Calls Try.prog 51 #[ptr hb, obV k x n a l s] w fun e w' => e = .returned (.tuple #[.string t, .int .i64 0]) ∧ Below w.heap.size w w' := by
  have ha := assert_95_95
  go_enter Try.func51, Try.ntmps51
  go_wp2_with fail
  obtain ⟨wb, eb, kb, zb, ob⟩ := ob_box w k n a l x s
  rw [eb]
  refine (hf.out _ kb).mono ?_
  rintro e wc ⟨rfl, kc⟩
  have KC := Lib.hid (below_and kb kc)
  clear eb kb zb kc ob
  go_upto_region 2 with fail
  obtain ⟨wd, ed, kd, zd, d0, d1, d2⟩ := pc_box wc (.iface 141 (ptr r)) lo m
  rw [ed]
  have kk := below_and KC.out kd
  have KD := Lib.hid kk
  replace h2 := cell_later kk h2
  have hcv : ∀ q, (convert 108 9 V).run Try.prog (wd.drewN q) = .ok (.string t) (wd.drewN q) := fun q => hc.out _ (below_and kk (below_drewN _ _))
  clear ed kd zd kk
  go_wp2_with fail
  go_quiet (fail)
  go_wp2
  go_ret2
  exact ⟨rfl, below_and KD.out (below_drewN _ _)⟩

set_option maxRecDepth 100000 in
theorem bput_walk (r z cap r2 z2 cap2 d st m hi : Nat) (p p2 : Option Addr) (V1 V2 v : Value) (R : World → Prop) (w : World)
    (h2 : w.cell? ⟨r, 2, none⟩ = some (.slice p z cap)) (h3 : w.cell? ⟨r2, 2, none⟩ = some (.slice p2 z2 cap2)) (e1 : IntKind.i64.wrap ((st : Int) + m) = hi)
    (hs1 : ∀ w : World, (Instr.slice 108 (.slice p z cap) (some (.int .i64 d)) none none).run Try.prog w = .ok V1 w)
    (hs2 : ∀ w : World, (Instr.slice 108 (.slice p2 z2 cap2) (some (.int .i64 st)) (some (.int .i64 hi)) none).run Try.prog w = .ok V2 w)
    (hc : Hid (∃ w', (Builtin.copy_ #[108, 108] 3 #[V1, V2]).run Try.prog w.drew = .ok v w' ∧ R w')) :
    Calls Try.prog 152 #[ptr r, .int .i64 d, .iface 141 (ptr r2), .int .i64 st, .int .i64 m] w fun e w' => e = .returned (.tuple #[]) ∧ R w' := by
  have ha := assert_95_95
  go_enter Try.func152, Try.ntmps152
  go_wp2_with fail
  go_still_tail 15, (by kernel_rfl)
  obtain ⟨w', hrun, hR⟩ := hc.out
  refine wpList_copy_run rfl _ _ 108 108 rfl V1 V2 rfl rfl v w' ?_ ?_
  · exact hrun
  have HR := Lib.hid hR
  clear hR hrun
  go_wp2
  go_end0
  exact ⟨rfl, HR.out⟩

def putB : List UInt8 → Nat → List UInt8 → List UInt8
  | l, _, [] => l
  | l, o, c :: cs => putB (l.set o c) (o + 1) cs
theorem putB_length : ∀ (xs : List UInt8) (l : List UInt8) (o : Nat), (putB l o xs).length = l.length
  | [], _, _ => rfl
  | c :: cs, l, o => by
    rw [putB, putB_length cs]
    simp
theorem putB_eq : ∀ (xs : List UInt8) (l : List UInt8) (o : Nat), o + xs.length ≤ l.length → putB l o xs = l.take o ++ xs ++ l.drop (o + xs.length)
  | [], l, o, h => by simp [putB]
  | c :: cs, l, o, h => by
    simp at h
    rw [putB, putB_eq cs _ _ (by simp; omega)]
    rw [List.take_set, List.drop_set_of_lt (by omega)]
    have e1 : (l.take (o + 1)).set o c = l.take o ++ [c] := by
      have hm : min o l.length = o := Nat.min_eq_left (by omega)
      rw [List.take_succ_eq_append_getElem (by omega), List.set_append_right _ _ (by simp [hm])]
      simp [hm]
    rw [e1, show o + 1 + cs.length = o + (c :: cs).length from by simp; omega]
    simp
theorem rowB_put : ∀ (xs : List UInt8) (o : Nat) (w : World) (l : List UInt8) {v : Value} {g n cap : Nat}, rowB w v l → v = .slice (some ⟨g, 0, none⟩) n cap → o + xs.length ≤ l.length → rowB (w.setCells g o (byCells xs)) v (putB l o xs) ∧ Only g w (w.setCells g o (byCells xs))
  | [], o, w, l, v, g, n, cap, h, hv, hl => ⟨h, Only.refl _ _⟩
  | c :: cs, o, w, l, v, g, n, cap, h, hv, hl => by
    simp at hl
    have hc := c.toNat_lt
    have h1 := rowB_set h hv (j := o) (m := (c.toNat : Int)) (by omega) (by omega) (by omega)
    have e : UInt8.ofNat ((c.toNat : Int)).toNat = c := by simp
    rw [e] at h1
    obtain ⟨q1, q2⟩ := rowB_put cs (o + 1) _ _ h1 hv (by simp; omega)
    have q3 := (Only.refl g w).set o (.int .u8 c.toNat)
    exact ⟨q1, q2.os.trans q3.os, q2.tape.trans q3.tape, q2.output.trans q3.output, q2.size.trans q3.size, fun k hk => (q2.block k hk).trans (q3.block k hk)⟩

theorem byCells_get (l : List UInt8) (j : Nat) : (byCells l)[j]? = l[j]?.map fun c => .int .u8 c.toNat := by simp [byCells]
theorem by_mid {l : List UInt8} {i n j : Nat} {u : Value} (h : (byCells ((l.drop i).take n))[j]? = some u) : (byCells l)[i + j]? = some u := by
  rw [byCells_get] at h ⊢
  rw [List.getElem?_take] at h
  split at h
  · rwa [List.getElem?_drop] at h
  · simp at h

section
variable {role : Nat → Nat × Nat} {c hb : Nat} {vc : Value} {ivs : List Value} {pb : Nat → Nat} {rv : Nat → Value} {P : List Cel} {w w' : World}
def bytesL (P : List Cel) (o : Ob) : List UInt8 := ((cellOf P o).bs.drop o.a.toNat).take (lenO P o).toNat

/-- A row of bytes, read. -/
theorem rowB_cell {w : World} {g n cap : Nat} {l : List UInt8} (h : rowB w (.slice (some ⟨g, 0, none⟩) n cap) l) {j : Nat} {u : Value} (hj : (byCells l)[j]? = some u) : w.cell? ⟨g, j, none⟩ = some u ∧ w.frozen? ⟨g, j, none⟩ = false := by
  rw [byCells_get] at hj
  cases e : l[j]? with
  | none => simp [e] at hj
  | some q =>
    obtain ⟨g', cap', ev, c1, c2⟩ := row_byte h e
    have : g' = g := by
      simp at ev
      exact ev.1.symm
    subst this
    rw [e] at hj
    simp at hj
    subst hj
    exact ⟨c1, c2⟩

theorem bytes_is (h : PH role c hb vc ivs pb rv P w) (o : Ob) (ho : okO P o = true) (hk : o.k = 8) (hpos : 0 < (cellOf P o).bs.length) :
    Calls Try.prog 51 #[ptr hb, o.val] w fun e w' => e = .returned (.tuple #[.string ⟨(bytesL P o).toArray⟩, .int .i64 0]) ∧ Below w.heap.size w w' := by
  have hf := fun wx kx => find_ok (h.below (w' := wx) kx) o ho
  obtain ⟨b0, b1, b2, b3, _, _, b6, _⟩ := ok_bd ho
  obtain ⟨n0, n1⟩ := len_in ho
  have hc := cellOf_get (P := P) (o := o) b0 b1
  have hz := h.wf.size hc
  obtain ⟨g0, cap0, rfl, _, _, hp⟩ := h.ivAt hc
  rcases hp with ⟨eT, hC⟩ | ⟨eT, hC⟩
  · have := hC.kind
    omega
  · have eT : celT (cellOf P o) = 141 := by injection eT
    have hs : (cellOf P o).size = (cellOf P o).bs.length := by simp [Cel.size, hC.it]
    rw [eT] at hf
    have ea : ((o.a.toNat : Nat) : Int) = o.a := by omega
    have el : (((lenO P o).toNat : Nat) : Int) = lenO P o := by omega
    have hlen : (bytesL P o).length = (lenO P o).toNat := by
      simp [bytesL]
      omega
    have h2 : w.cell? ⟨pb o.n.toNat, 2, none⟩ = some (rv o.n.toNat) := by
      rw [cellAt hC.blk]
      rfl
    rw [← ea, ← el] at hf
    have hrow := hC.row
    rcases hC.row with ⟨_, hnil⟩ | ⟨g, cap, cur, fr, er, hg, hfr, hcap, hsz, htk⟩
    · rw [hnil] at hpos
      simp at hpos
    · rw [er] at h2 hrow
      have hsl := slice58 (some ⟨g, 0, none⟩) (cellOf P o).bs.length cap o.a.toNat (o.a.toNat + (lenO P o).toNat) (by omega) (by omega)
      rw [show o.a.toNat + (lenO P o).toNat - o.a.toNat = (lenO P o).toNat from by omega] at hsl
      refine bytes_walk95 hb (pb o.n.toNat) (cellOf P o).bs.length cap o.a.toNat (lenO P o).toNat (o.a.toNat + (lenO P o).toNat) (some ⟨g, 0, none⟩) o.k o.n o.a o.l o.x o.s _ _ w h2 (by rw [wrapi_in _ (by omega) (by omega)]; omega) (Lib.hid hf) hsl (Lib.hid fun wx kx => ?_)
      have hx : rowB wx (.slice (some ⟨g, 0, none⟩) (cellOf P o).bs.length cap) (cellOf P o).bs := rowB_same hrow fun q _ hq => kx.block q hq
      rw [← hlen]
      by_cases hcl : cap = o.a.toNat
      · rw [if_pos hcl]
        refine run_convert_bytes_back wx 108 9 5 _ _ (bytesL P o) Try.underlying108 Try.underlying5 Try.underlying9 fun j hj => ?_
        omega
      · rw [if_neg hcl]
        simp only [Option.map_some]
        refine run_convert_bytes_back wx 108 9 5 _ _ (bytesL P o) Try.underlying108 Try.underlying5 Try.underlying9 fun j hj => ?_
        rw [Addr.add_mid, Addr.add_mid, Nat.zero_add]
        refine (rowB_cell hx (by_mid (l := (cellOf P o).bs) (i := o.a.toNat) (n := (lenO P o).toNat) ?_)).1
        show (byCells (bytesL P o))[j]? = _
        rw [byCells_get, List.getElem?_eq_getElem hj]
        rfl
end
end Go.Proofs.Ytmlkmgeddkpgiaa
