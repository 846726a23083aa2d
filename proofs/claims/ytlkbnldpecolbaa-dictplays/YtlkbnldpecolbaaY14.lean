/- Y14: S3, S4, Q6, Q7. -/
import Derived.Test.YtlkbnldpecolbaaY13
/- Walks of save: New, Len, Newer. -/
namespace Go.Proofs.Ytlkbnldpecolbaa
open Go.RowKit
set_option linter.unusedVariables false

/-- Newer. -/
def newS (L : List Sv) (o x : Ob) : Bool :=
  match atS L o with
  | none => false
  | some i => if x.k = 9 ∨ x.k = 8 ∨ x.k = 10 then decide ((((L[i]?.map fun s => s.q.length).getD 0 : Nat) : Int) ≤ x.n) else decide (x.k = 11 ∧ o.n ≤ x.n)
section
variable {own : Nat → Prop} {hb sb last : Nat} {P : List Cel} {L : List Sv} {w : World}
end
end Go.Proofs.Ytlkbnldpecolbaa

/- Walks of save: Save. -/
namespace Go.Proofs.Ytlkbnldpecolbaa
open Go.RowKit
set_option linter.unusedVariables false
set_option linter.unusedSimpArgs false

theorem svC_one (n : Int) (g : Nat) : ∀ v ∈ svC n g, v.oneCell' = true := by
  intro v hv
  simp only [svC, List.mem_cons, List.not_mem_nil, or_false] at hv
  rcases hv with rfl | rfl | rfl | rfl | rfl | rfl | rfl <;> rfl
theorem no_panic {Q : Exit → Act → World → Prop} {a : Act} {w : World} (h : Q .normal a w) : NoPanic Q .normal a w := h
theorem kept_drew {own : Nat → Prop} {w w' : World} (h : Kept own w.drew w') : Kept own w w' := ⟨h.os, h.tape, h.output, h.size, h.block⟩
theorem SH.zero {own : Nat → Prop} {hb sb last : Nat} {P : List Cel} {L : List Sv} {w : World} (h : SH own hb P sb L last w) :
    ∃ w', w.alloc (.cells #[.int .i64 0, .bool false, .int .i64 0, .int .i64 0, .int .i64 0, .string ⟨#[]⟩] 30) = w' ∧ SH (fun b => own b ∨ b = w.heap.size) hb P sb L last w' ∧ Kept own w w' ∧ w'.heap[w.heap.size]? = some emptyOb := h.box_ob _ _ _ _ _ _
section
variable {own : Nat → Prop} {hb sb last last' A : Nat} {P : List Cel} {L L' : List Sv} {w w1 : World}
theorem SH.only (h : SH own hb P sb L last w) (k : Only sb w w1) (s : SAt w1 sb L' last') (hg : svG L' = svG L) : SH own hb P sb L' last' w1 ∧ Kept own w w1 :=
  ⟨⟨by rw [hg]; exact h.many.only (.inr rfl) k, s, h.nown⟩, kept_only k h.nown⟩
theorem SH.put (h : SH own hb P sb L last w) (hA : own A) (k : Only A w w1) : SH own hb P sb L last w1 :=
  ⟨h.many.only (.inl hA) k, h.sat.same (k.block _ fun e => h.nown (e ▸ hA)) (by rw [k.size]; exact Nat.le_refl _), h.nown⟩
end
/-- What the statement that stores an entry reads. -/
def SaveS (w : World) (sb A n : Nat) (m : Int) : Prop :=
  w.cell? ⟨sb, 70, none⟩ = some (.int .i64 n) ∧ w.cell? ⟨A, 0, none⟩ = some (.int .i64 11) ∧ w.cell? ⟨A, 1, none⟩ = some (.bool false) ∧ w.cell? ⟨A, 2, none⟩ = some (.int .i64 m) ∧ w.cell? ⟨A, 3, none⟩ = some (.int .i64 0) ∧ w.cell? ⟨A, 4, none⟩ = some (.int .i64 0) ∧ w.cell? ⟨A, 5, none⟩ = some (.string ⟨#[]⟩)
theorem SaveS.same {w w' : World} {sb A n : Nat} {m : Int} (h : SaveS w sb A n m) (h1 : w'.heap[sb]? = w.heap[sb]?) (h2 : w'.heap[A]? = w.heap[A]?) : SaveS w' sb A n m := by
  have c : ∀ j, w'.cell? ⟨sb, j, none⟩ = w.cell? ⟨sb, j, none⟩ := fun j => World.cell?_of_block (w := w) h1
  have d : ∀ j, w'.cell? ⟨A, j, none⟩ = w.cell? ⟨A, j, none⟩ := fun j => World.cell?_of_block (w := w) h2
  simp only [SaveS, c, d]
  exact h
theorem SaveS.put {w : World} {sb A n : Nat} {m : Int} (h : SaveS w sb A n m) (hA : A ≠ sb) (hn : n < 10) (vs : List Value) (hv : vs.length = 7) : SaveS (w.setCells sb (n * 7) vs) sb A n m := by
  have d : ∀ j, (w.setCells sb (n * 7) vs).cell? ⟨A, j, none⟩ = w.cell? ⟨A, j, none⟩ := fun j => World.cell?_setCells_out sb vs _ w _ (fun e _ => absurd e hA)
  have c : (w.setCells sb (n * 7) vs).cell? ⟨sb, 70, none⟩ = w.cell? ⟨sb, 70, none⟩ := World.cell?_setCells_out sb vs _ w _ (fun _ _ => .inr (by show n * 7 + vs.length ≤ 70; omega))
  simp only [SaveS, c, d]
  exact h
theorem SAt.room {w : World} {sb last : Nat} {L : List Sv} (h : SAt w sb L last) (hl : L.length < 10) : ∃ v0 v1 v2 v3 v4 v5 v6, (w.cell? ⟨sb, L.length * 7, none⟩ = some v0 ∧ w.cell? ⟨sb, L.length * 7 + 1, none⟩ = some v1 ∧ w.cell? ⟨sb, L.length * 7 + 2, none⟩ = some v2 ∧ w.cell? ⟨sb, L.length * 7 + 3, none⟩ = some v3 ∧ w.cell? ⟨sb, L.length * 7 + 4, none⟩ = some v4 ∧ w.cell? ⟨sb, L.length * 7 + 5, none⟩ = some v5 ∧ w.cell? ⟨sb, L.length * 7 + 6, none⟩ = some v6) ∧
    w.frozen? ⟨sb, L.length * 7, none⟩ = false ∧ w.frozen? ⟨sb, L.length * 7 + 1, none⟩ = false ∧ w.frozen? ⟨sb, L.length * 7 + 2, none⟩ = false ∧ w.frozen? ⟨sb, L.length * 7 + 3, none⟩ = false ∧ w.frozen? ⟨sb, L.length * 7 + 4, none⟩ = false ∧ w.frozen? ⟨sb, L.length * 7 + 5, none⟩ = false ∧ w.frozen? ⟨sb, L.length * 7 + 6, none⟩ = false := by
  have c : ∀ j, j < 7 → ∃ v, w.cell? ⟨sb, L.length * 7 + j, none⟩ = some v := fun j hj => by
    have := (h.there (L.length * 7 + j) (by omega)).1
    rw [Nat.zero_add] at this
    exact Option.isSome_iff_exists.1 this
  have f : ∀ j, j < 7 → w.frozen? ⟨sb, L.length * 7 + j, none⟩ = false := fun j hj => by
    have := (h.there (L.length * 7 + j) (by omega)).2
    rw [Nat.zero_add] at this
    exact this
  obtain ⟨v0, c0⟩ := c 0 (by decide)
  obtain ⟨v1, c1⟩ := c 1 (by decide)
  obtain ⟨v2, c2⟩ := c 2 (by decide)
  obtain ⟨v3, c3⟩ := c 3 (by decide)
  obtain ⟨v4, c4⟩ := c 4 (by decide)
  obtain ⟨v5, c5⟩ := c 5 (by decide)
  obtain ⟨v6, c6⟩ := c 6 (by decide)
  exact ⟨v0, v1, v2, v3, v4, v5, v6, ⟨c0, c1, c2, c3, c4, c5, c6⟩, f 0 (by decide), f 1 (by decide), f 2 (by decide), f 3 (by decide), f 4 (by decide), f 5 (by decide), f 6 (by decide)⟩
end Go.Proofs.Ytlkbnldpecolbaa

/- Walks of tympanref11: make. -/
namespace Go.Proofs.Ytlkbnldpecolbaa
open Go.RowKit
set_option linter.unusedVariables false
set_option linter.unusedSimpArgs false
set_option maxHeartbeats 1000000
set_option maxRecDepth 100000

/-- A cell boxed, and a zero object. -/
theorem rc_zero (w : World) (k : Int) (it bs : Value) (lk : Bool) : ∃ wb, (w.alloc (.cells #[.int .i64 k, it, bs, .bool lk] 102)).alloc (.cells #[.int .i64 0, .bool false, .int .i64 0, .int .i64 0, .int .i64 0, .string ⟨#[]⟩] 30) = wb ∧ Below w.heap.size w wb ∧ wb.heap.size = w.heap.size + 2 ∧
    wb.heap[w.heap.size]? = some (.cells #[.int .i64 k, it, bs, .bool lk] 102 (0, 0)) ∧ wb.heap[w.heap.size + 1]? = some emptyOb := by
  have h2 := heap_alloc_new (w.alloc (.cells #[.int .i64 k, it, bs, .bool lk] 102)) emptyOb
  exact ⟨_, rfl, below_and (box_below _ _) (box_below _ _), by simp, (Below.heap_alloc _ _ _ (by simp)).trans (heap_alloc_new _ _), by simpa using h2⟩
theorem rmake_full (rb z cap : Nat) (p : Option Addr) (k : Int) (it bs : Value) (lk : Bool) (w : World) (hz : 2000 ≤ z) (h0 : w.cell? ⟨rb, 0, none⟩ = some (.slice p z cap)) :
    Calls Try.prog 63 #[ptr rb, rcV k it bs lk] w fun e w' => e = .returned (.tuple #[zeroOb, .int .i64 5]) ∧ Below w.heap.size w w' := by
  have t0 : (z : Int) ≥ 2000 := by omega
  go_enter Try.func63, Try.ntmps63
  go_upto_region 1 with fail
  obtain ⟨wb, eb, kb, zb, cb, ob⟩ := rc_zero w k it bs lk
  rw [eb]
  have d0 := cell_later kb h0
  have KB := Lib.hid kb
  have OB := Lib.hid ob
  clear eb kb zb cb ob
  go_quiet (fail)
  have KQ : Hid (Below w.heap.size w (wb.drewN nq)) := Lib.hid (below_and KB.out (below_drewN _ _))
  have OQ : Hid ((wb.drewN nq).heap[w.heap.size + 1]? = some emptyOb) := Lib.hid OB.out
  generalize wb.drewN nq = wq at KQ OQ
  obtain ⟨⟨o0, o1, o2, o3, o4, o5⟩, g0, g1, g2, g3, g4, g5⟩ := cells6 OQ.out
  go_wp2
  (try simp only [Exit.inBlock, Exit.then])
  refine bodyPost_ret (ret_cell rfl _ _ _ _ _ _ _ _ rfl rfl (set6 OQ.out _ _ _ _ _ _) Try.underlying30 rfl (by kernel_rfl)) rfl ⟨rfl, set6_below KQ.out (Nat.le_succ _) _ _ _ _ _ _⟩
/-- append(nil, v...): a new row, or nil. -/
theorem app_copy {w : World} {I : Nat → Prop} {v : Value} {n : Nat} {cs : List Value} (h : rowC w I v n cs) (t e : TypeId) (i : TypeInfo) (z : Value) (size bytes : Nat) (ht : Try.prog.underlying t = some (.slice e)) (hi : Try.prog.info? e = some i) (hz : i.zero = some z)
    (hsize : i.size = size) (hby : i.bytes = bytes) (hzs : z.cells.size = size) (hsz : 0 < size) (hl : cs.length = n * size) (h1 : ∀ u ∈ cs, u.oneCell' = true) (h63 : n ≤ maxLen) (hbytes : n * bytes ≤ 140737488355328) (ty : TypeId) :
    ∃ v' w', (Builtin.append_ #[t, t] ty #[.slice none 0 0, v]).run Try.prog w = .ok v' w' ∧ w'.ownsRow w.heap.size e size v' n cs ∧ Below w.heap.size w w' ∧ (v' = .slice none 0 0 → n = 0) := by
  rcases h with ⟨rfl, rfl, rfl⟩ | ⟨g, cap, rfl, _, _, _, hc⟩
  · refine ⟨.slice none 0 0, w, ?_, World.ownsRow_nil _ _ _ _, Below.refl _ _, fun _ => rfl⟩
    simp [Builtin.append_, run_underlying ht, sizeOf, typeInfo, hi, Builtin.lenOf, Builtin.firstCells, loadCells, loadCellsFrom]
  · obtain ⟨v', w', hr, h2, h3, h4⟩ := run_append_own (P := Try.prog) w w.heap.size t ty e i z size bytes ht hi hz hsize hby hzs hsz (.slice none 0 0) 0 [] (World.ownsRow_nil _ _ _ _) ⟨g, 0, none⟩ n cap cs hl (fun j u hj => by rw [Addr.add_mid, Nat.zero_add]; exact hc j u hj) h1 (by omega) (by rw [Nat.zero_add]; exact hbytes) (Nat.le_refl _)
    rw [Nat.zero_add, List.nil_append] at h2
    exact ⟨v', w', hr, h2, (Below.refl _ w).grown h3 (Nat.le_refl _) (fun k e => by cases e), fun e => (h4.1 e).2⟩
theorem rowC_of_owns {w : World} {base : Nat} {e : TypeId} {size : Nat} {v : Value} {n : Nat} {cs : List Value} {I : Nat → Prop} (h : w.ownsRow base e size v n cs) (hI : ∀ g, v.ownBlock = some g → I g) (h0 : n = 0 → cs = []) : rowC w I v n cs := by
  rcases h.2 with ⟨rfl, hn⟩ | ⟨g, cap, cur, rfl, hb, hg, hc, hm, hs, ht⟩
  · exact .inl ⟨rfl, hn, h0 hn⟩
  · refine .inr ⟨g, cap, rfl, by omega, hI g rfl, blk_lt hg, fun j u hj => ?_⟩
    have := h.cells rfl j u hj
    rwa [Addr.add_mid, Nat.zero_add] at this
theorem rcCells_one (R : List RC) (h : ∀ r ∈ R, (∃ p n c, r.it = .slice p n c) ∧ ∃ p n c, r.bs = .slice p n c) : ∀ u ∈ rcCells R, u.oneCell' = true := by
  intro u hu
  obtain ⟨r, hr, hu⟩ := List.mem_flatMap.1 hu
  obtain ⟨⟨p, n, c, e1⟩, ⟨q, m, d, e2⟩⟩ := h r hr
  simp only [rcL, List.mem_cons, List.not_mem_nil, or_false] at hu
  rcases hu with rfl | rfl | rfl | rfl
  · rfl
  · rw [e1]; rfl
  · rw [e2]; rfl
  · rfl
theorem rcCells_append (R S : List RC) : rcCells (R ++ S) = rcCells R ++ rcCells S := by simp [rcCells]
theorem rcCells_single (r : RC) : rcCells [r] = rcL r := by simp [rcCells]
theorem cels_append (R S : List RC) : cels (R ++ S) = cels R ++ cels S := by simp [cels]
/-- All that was ours, and what is new. -/
def Plus (own : Nat → Prop) (w w' : World) (b : Nat) : Prop := own b ∨ (w.heap.size ≤ b ∧ b < w'.heap.size)
section
variable {own : Nat → Prop} {rb : Nat} {v : Value} {R : List RC} {w w3 : World}
theorem RH.made (h : RH own rb v R w) (ho : ∀ b, own b → b < w.heap.size) (r : RC) (hr : rowC w (Im own rb v) r.it r.c.it.length (obCells r.c.it) ∧ rowC w (Im own rb v) r.bs r.c.bs.length (byCells r.c.bs)) (hk : (r.c.k = 8 ∧ r.c.it = []) ∨ ((r.c.k = 9 ∨ r.c.k = 10) ∧ r.c.bs = [])) (hl : R.length < 2000) (hu : usedP (cels R) + r.c.size ≤ 40000)
    (k : Below w.heap.size w w3) (g cap : Nat) (hown : w3.ownsRow w.heap.size 102 4 (.slice (some ⟨g, 0, none⟩) (R.length + 1) cap) (R.length + 1) (rcCells R ++ rcL r)) :
    RH (Plus own w w3) rb (.slice (some ⟨g, 0, none⟩) (R.length + 1) cap) (R ++ [r]) (w3.setCell ⟨rb, 0, none⟩ (.slice (some ⟨g, 0, none⟩) (R.length + 1) cap)) := by
  have hrb := blk_lt h.hdr
  have hg := hown.lt g rfl
  have on : Only rb w3 (w3.setCell ⟨rb, 0, none⟩ (.slice (some ⟨g, 0, none⟩) (R.length + 1) cap)) := (Only.refl _ _).set 0 _
  have fx : ∀ b, Im own rb v b → b < w.heap.size → Im (Plus own w w3) rb (.slice (some ⟨g, 0, none⟩) (R.length + 1) cap) b ∧ (w3.setCell ⟨rb, 0, none⟩ (.slice (some ⟨g, 0, none⟩) (R.length + 1) cap)).heap[b]? = w.heap[b]? := fun b q hb =>
    ⟨⟨.inl q.1, q.2.1, fun e => by have : g = b := by simpa [Value.ownBlock] using e
                                   omega⟩, (on.block b q.2.1).trans (k.block b hb)⟩
  have hs : w.heap.size ≤ (w3.setCell ⟨rb, 0, none⟩ (.slice (some ⟨g, 0, none⟩) (R.length + 1) cap)).heap.size := by rw [on.size]; exact k.size
  refine ⟨?_, .inl h.mine, ?_, fun i x hx => ?_, ?_, fun b e j => by
    have : g = b := by simpa [Value.ownBlock] using e
    subst this
    rw [World.frozen?_of_block (w := w3) (a := ⟨g, j, none⟩) (on.block g (by omega))]
    exact hown.frozenAt j⟩
  · rw [heap_setCell_same _ _ _ _ 54 _ ((k.block _ hrb).trans h.hdr)]
    rfl
  · have q := rowC_of_owns (I := fun b => Plus own w w3 b ∧ b ≠ rb) hown (fun b e => by
      have : g = b := by simpa [Value.ownBlock] using e
      subst this
      exact ⟨.inr hg, by omega⟩) (fun e => by omega)
    rw [List.length_append, rcCells_append, rcCells_single]
    refine q.same (by rw [on.size]; exact Nat.le_refl _) fun b q _ => ⟨q, on.block b q.2⟩
  · rw [List.getElem?_append] at hx
    split at hx
    · exact ⟨(h.sub i x hx).1.same hs fx, (h.sub i x hx).2.same hs fx⟩
    · next hi =>
      have hi' : i - R.length = 0 := by
        have := (List.getElem?_eq_some_iff.1 hx).1
        simp at this
        omega
      rw [hi'] at hx
      obtain rfl : r = x := by simpa using hx
      exact ⟨hr.1.same hs fx, hr.2.same hs fx⟩
  · rw [cels_append]
    refine ⟨by simp [cels_length]; omega, ?_, fun c hc => ?_⟩
    · simpa [usedP, cels] using hu
    · rcases List.mem_append.1 hc with hc | hc
      · exact h.wf.kind c hc
      · obtain rfl : c = r.c := by simpa [cels] using hc
        exact hk
end
end Go.Proofs.Ytlkbnldpecolbaa

/- Walks of tympanref11: make. -/
namespace Go.Proofs.Ytlkbnldpecolbaa
open Go.RowKit
set_option linter.unusedVariables false
set_option linter.unusedSimpArgs false
set_option maxHeartbeats 1000000
set_option maxRecDepth 100000

/-- A boxed cell of the reference's, and the heap's slice. -/
def MkAt (w : World) (rb A : Nat) (v : Value) (k : Int) (it bs : Value) (lk : Bool) : Prop := w.cell? ⟨rb, 0, none⟩ = some v ∧ w.cell? ⟨A, 0, none⟩ = some (.int .i64 k) ∧ w.cell? ⟨A, 1, none⟩ = some it ∧ w.cell? ⟨A, 2, none⟩ = some bs ∧ w.cell? ⟨A, 3, none⟩ = some (.bool lk)
theorem MkAt.later {w wx : World} {rb A : Nat} {v : Value} {k : Int} {it bs : Value} {lk : Bool} (h : MkAt w rb A v k it bs lk) (kc : Below w.heap.size w wx) : MkAt wx rb A v k it bs lk := ⟨cell_later kc h.1, cell_later kc h.2.1, cell_later kc h.2.2.1, cell_later kc h.2.2.2.1, cell_later kc h.2.2.2.2⟩
theorem rmake_used (rb z cap u m : Nat) (p : Option Addr) (k : Int) (it bs : Value) (lk : Bool) (w : World) (hz : z < 2000) (h0 : w.cell? ⟨rb, 0, none⟩ = some (.slice p z cap)) (hu : 40000 < u + m) (hb : u ≤ 40000 ∧ m ≤ 80000)
    (h1 : Hid (∀ wx, Below w.heap.size w wx → Calls Try.prog 38 #[ptr rb] wx fun e w' => e = .returned (.int .i64 u) ∧ Below wx.heap.size wx w'))
    (h3 : Hid (∀ wx, Calls Try.prog 74 #[rcV k it bs lk] wx fun e w' => e = .returned (.int .i64 m) ∧ Below wx.heap.size wx w')) :
    Calls Try.prog 63 #[ptr rb, rcV k it bs lk] w fun e w' => e = .returned (.tuple #[zeroOb, .int .i64 5]) ∧ Below w.heap.size w w' := by
  have t0 : ¬ ((z : Int) ≥ 2000) := by omega
  have e1 : IntKind.i64.wrap ((u : Int) + (m : Int)) = ((u + m : Nat) : Int) := by rw [IntWalk.i64_in _ (by omega)]; omega
  have t1 : ((u + m : Nat) : Int) > 40000 := by omega
  go_enter Try.func63, Try.ntmps63
  go_upto_region 1 with fail
  obtain ⟨wb, eb, kb, zb, cb, ob⟩ := rc_zero w k it bs lk
  rw [eb]
  have gb : Hid (Below w.heap.size w wb.drew) := Lib.hid kb.drew
  have mk : MkAt wb rb w.heap.size (.slice p z cap) k it bs lk := ⟨cell_later kb h0, cellAt cb 0, cellAt cb 1, cellAt cb 2, cellAt cb 3⟩
  have go : Hid (MkAt wb.drew rb w.heap.size (.slice p z cap) k it bs lk) := Lib.hid mk
  have OB : Hid (wb.drew.heap[w.heap.size + 1]? = some emptyOb) := Lib.hid ob
  clear eb kb zb cb ob mk
  go_region_held3 (fun wx => wx.cell? ⟨rb, 0, none⟩ = some (.slice p z cap) ∧ wx.cell? ⟨w.heap.size, 0, none⟩ = some (.int .i64 k) ∧ wx.cell? ⟨w.heap.size, 1, none⟩ = some it ∧ wx.cell? ⟨w.heap.size, 2, none⟩ = some bs ∧ wx.cell? ⟨w.heap.size, 3, none⟩ = some (.bool lk))
    (first | exact go.out | go_keep)
    (first | (go_at_call 38; refine (h1.out _ gb.out).mono ?_; rintro e we ⟨rfl, ke⟩; replace gb := Lib.hid (below_and gb.out ke); replace go := Lib.hid (go.out.later ke); replace OB := Lib.hid ((ke.block _ (blk_lt OB.out)).trans OB.out); clear ke) | (go_at_call 74; refine (h3.out _).mono ?_; rintro e we ⟨rfl, ke⟩; replace gb := Lib.hid (below_and gb.out ke); replace go := Lib.hid (go.out.later ke); replace OB := Lib.hid ((ke.block _ (blk_lt OB.out)).trans OB.out); clear ke))
  all_goals
    obtain ⟨⟨o0, o1, o2, o3, o4, o5⟩, g0, g1, g2, g3, g4, g5⟩ := cells6 OB.out
    go_wp2
    (try simp only [Exit.inBlock, Exit.then])
    exact bodyPost_ret (ret_cell rfl _ _ _ _ _ _ _ _ rfl rfl (set6 OB.out _ _ _ _ _ _) Try.underlying30 rfl (by kernel_rfl)) rfl ⟨rfl, set6_below gb.out (Nat.le_succ _) _ _ _ _ _ _⟩
end Go.Proofs.Ytlkbnldpecolbaa
