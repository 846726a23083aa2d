/- Y07: K10, K11, K12, K13. -/
import Derived.Test.YtlkbnldpecolbaaY06
import Derived.Deep.Onto
import Derived.Lib.ConvBytes
import Derived.Laws.ResultCell
import Derived.Test.YtlkbnldpecolbaaY05
/- Walks of heap: newItems. -/
namespace Go.Proofs.Ytlkbnldpecolbaa
open Go.RowKit
set_option linter.unusedVariables false

theorem info24 : (Try.prog.info? 30).map (fun i => (i.zero, i.size, i.bytes)) = some (some (obV 0 false 0 0 0 ⟨#[]⟩), 6, 56) := by kernel_rfl

/-- The first k objects are Null, the others zero. -/
def nullsTo (n k : Nat) : List Ob := List.replicate k Ob.null ++ List.replicate (n - k) Ob.zero
theorem nullsTo_length {n k : Nat} (h : k ≤ n) : (nullsTo n k).length = n := by
  simp [nullsTo]
  omega
theorem nullsTo_set {n k : Nat} (h : k < n) : (obCells (nullsTo n k)).set (k * 6) (.int .i64 1) = obCells (nullsTo n (k + 1)) := by
  have e1 : nullsTo n k = List.replicate k Ob.null ++ (Ob.zero :: List.replicate (n - (k + 1)) Ob.zero) := by
    rw [nullsTo, ← List.replicate_succ, show n - k = n - (k + 1) + 1 from by omega]
  have e2 : nullsTo n (k + 1) = List.replicate k Ob.null ++ (Ob.null :: List.replicate (n - (k + 1)) Ob.zero) := by
    rw [nullsTo, List.replicate_succ', List.append_assoc]
    rfl
  rw [e1, e2, obCells_append, obCells_append, List.set_append_right _ _ (by rw [obCells_length]; simp), obCells_length]
  simp [obCells, Ob.cells, Ob.zero, Ob.null]
theorem nullsTo_get {n k : Nat} (h : k < n) : (nullsTo n k)[k]? = some Ob.zero := by
  rw [nullsTo, List.getElem?_append_right (by simp), List.length_replicate, Nat.sub_self, List.getElem?_replicate, if_pos (by omega)]
theorem nullsTo_all (n : Nat) : nullsTo n n = List.replicate n Ob.null := by simp [nullsTo]
theorem made_zero (n : Nat) : (madeCells #[.int .i64 0, .bool false, .int .i64 0, .int .i64 0, .int .i64 0, .string ⟨#[]⟩] (n * 6)).toList = obCells (nullsTo n 0) := by
  apply List.ext_getElem?
  intro j
  have hl : (obCells (nullsTo n 0)).length = n * 6 := by rw [obCells_length, nullsTo_length (Nat.zero_le _)]
  by_cases hj : j < n * 6
  · have e : j = j / 6 * 6 + j % 6 := by omega
    have hg : (nullsTo n 0)[j / 6]? = some Ob.zero := by
      rw [nullsTo, List.replicate_zero, List.nil_append, Nat.sub_zero, List.getElem?_replicate, if_pos (by omega)]
    have := obCells_get hg (j := j % 6) (by omega)
    rw [← e] at this
    rw [this]
    simp [madeCells, hj]
    have hr : j % 6 < 6 := by omega
    generalize j % 6 = r at hr
    match r, hr with
    | 0, _ => rfl
    | 1, _ => rfl
    | 2, _ => rfl
    | 3, _ => rfl
    | 4, _ => rfl
    | 5, _ => rfl
  · rw [List.getElem?_eq_none (by simp [madeCells]; omega), List.getElem?_eq_none (by omega)]

set_option maxRecDepth 100000 in
theorem newItems_any (kk : Int) (n : Nat) (hn : n ≤ 40000) (w : World) :
    Calls Try.prog 77 #[.int .i64 kk, .int .i64 n] w fun e w' => ∃ b row, e = .returned (ptr b) ∧ w.heap.size < b ∧ w'.heap[b]? = some (.cells #[.int .i64 kk, .bool false, row] 118 (0, 0)) ∧ w'.ownsRow 0 30 6 row n (obCells (List.replicate n Ob.null)) ∧ row.ownBlock = some w.heap.size ∧ Below w.heap.size w w' := by
  obtain ⟨i0, hi, hz0, hz1, hz2⟩ := info_parts info24
  go_enter Try.func77, Try.ntmps77
  go_wp2_with (first
    | (refine wpList_make_full w rfl _ _ 46 rfl w.heap.size 30 i0 (obV 0 false 0 0 0 ⟨#[]⟩) 6 Try.underlying46 hi hz0 hz1 .i64 .i64 _ _ n rfl rfl rfl rfl (by rw [hz2]; omega) (by unfold maxLen; omega) (Nat.le_refl _) ?_))
  intro w1 hown hgrow
  rw [made_zero] at hown
  have HO := Lib.hid hown
  have HB : Hid (Below w.heap.size w w1) := Lib.hid ((Below.refl _ w).grown hgrow (Nat.le_refl _) (fun k e => by cases e))
  have HL : Hid (w.heap.size < w1.heap.size) := Lib.hid (hown.lt _ rfl).2
  clear hown hgrow
  go_wp2
  go_loopw [11] (fun i wr => ∃ k : Nat, k ≤ n ∧ i = .int .i64 k ∧ wr.ownsRow w.heap.size 30 6 (.slice (some ⟨w.heap.size, 0, none⟩) n n) n (obCells (nullsTo n k)) ∧ Below w.heap.size w wr ∧ w.heap.size < wr.heap.size) (fun i _ => n - (intOf i).toNat)
  case atStart => exact ⟨0, Nat.zero_le _, rfl, HO.out, HB.out, HL.out⟩
  case round =>
    obtain ⟨k, hk, rfl, hown, hbel, hsz⟩ := hrel
    have R1 := Lib.hid hown
    have R2 := Lib.hid hbel
    have R3 := Lib.hid hsz
    have hc : k < n → wr.cell? ⟨w.heap.size, k * 6, none⟩ = some (.int .i64 0) := fun h => by
      have := obCells_get (nullsTo_get h) (j := 0) (by omega)
      rw [hown.cellAt (k * 6) (by omega)]
      simpa [Ob.cells, Ob.zero] using this
    have hf : wr.frozen? ⟨w.heap.size, k * 6, none⟩ = false := hown.frozenAt _
    clear hown hbel hsz
    go_wp2
    · have hlt : k < n := by assumption
      go_roundw
      case rel =>
        have S := R1.out.stored (k * 6) (.int .i64 1)
        rw [nullsTo_set hlt] at S
        exact ⟨k + 1, by omega, by go_num, S.1, R2.out.setCell (p := ⟨w.heap.size, k * 6, none⟩) (Nat.le_refl _) _, by have := R3.out; simpa [World.setCell] using this⟩
      case measure => simp [intOf]; omega
    · have e : k = n := by omega
      subst e
      go_ret
      have h1 := R1.out
      rw [nullsTo_all] at h1
      have h3 := R3.out
      exact ⟨wr.heap.size, _, rfl, h3, heap_alloc_new _ _, (h1.mono (Nat.zero_le _)).alloc _, rfl, R2.out.alloc (by omega) _⟩
end Go.Proofs.Ytlkbnldpecolbaa

/- Walks of heap: a cell more: Array, String, Dict. -/
namespace Go.Proofs.Ytlkbnldpecolbaa
open Go.RowKit
set_option linter.unusedVariables false

/-- The roles of the blocks from n on: b a cell's block, r its row's. -/
def newRole (role : Nat → Nat × Nat) (n c i b : Nat) (r : Option Nat) : Nat → Nat × Nat := paint role n fun k => if k = b then (c, 2 * i + 2) else if some k = r then (c, 2 * i + 3) else (c, 1)

theorem PCell.bound {w : World} {iv : Value} {pb : Nat} {row : Value} {c : Cel} (h : PCell w iv pb row c) : (c.k = 8 ∧ c.it = []) ∨ ((c.k = 9 ∨ c.k = 10) ∧ c.bs = []) := by
  rcases h with ⟨_, h⟩ | ⟨_, h⟩
  · exact .inr ⟨h.kind, h.bs⟩
  · exact .inl ⟨h.kind, h.it⟩
theorem used_append (P : List Cel) (c : Cel) : usedP (P ++ [c]) = usedP P + c.size := by simp [usedP]

/-- A heap that has got a cell more. -/
theorem PH.added {role : Nat → Nat × Nat} {c hb : Nat} {vc : Value} {ivs : List Value} {pb : Nat → Nat} {rv : Nat → Value} {P : List Cel} {w w1 w2 : World} (h : PH role c hb vc ivs pb rv P w) (k1 : Below w.heap.size w w1)
    {cl : Cel} {b : Nat} {iv row : Value} (hb1 : w.heap.size ≤ b) (hc : PCell w1 iv b row cl) (hr : ∀ g, row.ownBlock = some g → w.heap.size ≤ g ∧ g ≠ b) (hl : P.length < 2000) (hu : cl.size + usedP P ≤ 40000)
    {g cap : Nat} (e1 : w2.heap[hb]? = some (.cells #[.slice (some ⟨g, 0, none⟩) (P.length + 1) cap, .int .i64 ((usedP P : Int) + cl.size)] 72 (0, 0)))
    (e2 : w2.ownsRow 0 110 1 (.slice (some ⟨g, 0, none⟩) (P.length + 1) cap) (P.length + 1) (ivs ++ [iv])) (e3 : vc.ownBlock = some g ∨ w1.heap.size ≤ g) (e4 : w2.os = w1.os) (e5 : w2.tape = w1.tape) (e6 : w2.output = w1.output) (e7 : w1.heap.size ≤ w2.heap.size)
    (e8 : ∀ k, k < w1.heap.size → k ≠ hb → vc.ownBlock ≠ some k → w2.heap[k]? = w1.heap[k]?) :
    PHeap (newRole role w.heap.size c P.length b row.ownBlock) c hb (P ++ [cl]) w2 ∧ Keep role c w (newRole role w.heap.size c P.length b row.ownBlock) w2 := by
  have hbl := blk_lt h.hblk
  have hlen : ivs.length = P.length := by
    have := h.crow.1
    omega
  have old : ∀ k, k < w.heap.size → newRole role w.heap.size c P.length b row.ownBlock k = role k := fun k hk => paint_old hk
  have far : ∀ k, k < w.heap.size → role k ≠ (c, 0) → role k ≠ (c, 1) → w2.heap[k]? = w.heap[k]? := fun k hk h0 h1 =>
    (e8 k (Nat.lt_of_lt_of_le hk k1.size) (fun e => h0 (by rw [e]; exact h.hrole)) (fun e => h1 (h.crole k e))).trans (k1.block k hk)
  have far1 : ∀ k, w.heap.size ≤ k → k < w1.heap.size → w2.heap[k]? = w1.heap[k]? := fun k hk hk1 =>
    e8 k hk1 (by omega) (fun e => by
      have := (h.crow.lt k e).2
      omega)
  refine ⟨⟨.slice (some ⟨g, 0, none⟩) (P.length + 1) cap, ivs ++ [iv], fun i => if i = P.length then b else pb i, fun i => if i = P.length then row else rv i, ?_, ?_, ?_, ?_, ?_, ?_⟩, ?_⟩
  · refine ⟨by simp; omega, by rw [used_append]; omega, fun d hd => ?_⟩
    rcases List.mem_append.1 hd with hd | hd
    · exact h.wf.kind d hd
    · simp at hd
      subst hd
      exact hc.bound
  · rw [old hb hbl]
    exact h.hrole
  · rw [e1, used_append]
    simp
  · simpa using e2
  · intro k hk
    have : g = k := by simpa [Value.ownBlock] using hk
    subst this
    rcases e3 with e3 | e3
    · rw [old g (h.crow.lt g e3).2]
      exact h.crole g e3
    · have hg : w.heap.size ≤ g := Nat.le_trans k1.size e3
      rw [newRole, paint_new hg, if_neg, if_neg]
      · intro e
        have := hc.row_lt e.symm
        omega
      · intro e
        have := hc.lt
        omega
  · intro i cl' hi
    by_cases hin : i = P.length
    · subst hin
      have : cl = cl' := by simpa using hi
      subst this
      have hbw := hc.lt
      refine ⟨iv, by rw [List.getElem?_append_right (by omega), hlen]; simp, ?_, ?_, fun k hk => ?_⟩
      · simp only [if_true]
        exact hc.same (far1 b hb1 hbw) fun k e hk => far1 k (hr k e).1 hk
      · simp only [if_true]
        rw [newRole, paint_new hb1, if_pos rfl]
      · simp only [if_true] at hk
        rw [newRole, paint_new (hr k hk).1, if_neg (hr k hk).2, if_pos hk.symm]
    · have hi' : i < P.length := by
        have := (List.getElem?_eq_some_iff.1 hi).1
        simp at this
        omega
      rw [List.getElem?_append_left hi'] at hi
      obtain ⟨iv', h1, h2, h3, h4⟩ := h.cell i cl' hi
      simp only [if_neg hin]
      refine ⟨iv', by rw [List.getElem?_append_left (by omega)]; exact h1, ?_, ?_, fun k hk => ?_⟩
      · refine h2.same (far _ h2.lt ?_ ?_) fun k e hk => far k hk ?_ ?_
        · rw [h3]; simp
        · rw [h3]; simp
        · rw [h4 k e]; simp
        · rw [h4 k e]; simp
      · rw [old _ h2.lt]
        exact h3
      · rw [old _ (h2.row_lt hk)]
        exact h4 k hk
  · refine ⟨e4.trans k1.os, e5.trans k1.tape, e6.trans k1.output, Nat.le_trans k1.size e7, fun k hk hne => far k hk ?_ ?_, old⟩
    · intro e
      exact hne (by rw [e])
    · intro e
      exact hne (by rw [e])
end Go.Proofs.Ytlkbnldpecolbaa

/- Walks of heap: Array. -/
namespace Go.Proofs.Ytlkbnldpecolbaa
open Go.RowKit
set_option linter.unusedVariables false

/-- Only block A may have changed. -/
structure Only (A : Nat) (w w' : World) : Prop where
  os : w'.os = w.os
  tape : w'.tape = w.tape
  output : w'.output = w.output
  size : w'.heap.size = w.heap.size
  block : ∀ k, k ≠ A → w'.heap[k]? = w.heap[k]?
theorem Only.refl (A : Nat) (w : World) : Only A w w := ⟨rfl, rfl, rfl, rfl, fun _ _ => rfl⟩
theorem Only.set {A : Nat} {w w' : World} (h : Only A w w') (i : Nat) (v : Value) : Only A w (w'.setCell ⟨A, i, none⟩ v) :=
  ⟨h.os, h.tape, h.output, by rw [← h.size]; simp [World.setCell], fun k hk => (heap_setCell_other _ _ _ _ hk).trans (h.block k hk)⟩
theorem only6 (A : Nat) (w : World) (v0 v1 v2 v3 v4 v5 : Value) : Only A w ((((((w.setCell ⟨A, 0, none⟩ v0).setCell ⟨A, 1, none⟩ v1).setCell ⟨A, 2, none⟩ v2).setCell ⟨A, 3, none⟩ v3).setCell ⟨A, 4, none⟩ v4).setCell ⟨A, 5, none⟩ v5) :=
  ((((((Only.refl A w).set 0 v0).set 1 v1).set 2 v2).set 3 v3).set 4 v4).set 5 v5
theorem only3 (A : Nat) (w : World) (v0 v1 v2 : Value) : Only A w (((w.setCell ⟨A, 0, none⟩ v0).setCell ⟨A, 1, none⟩ v1).setCell ⟨A, 2, none⟩ v2) := (((Only.refl A w).set 0 v0).set 1 v1).set 2 v2
theorem Only.keep {A : Nat} {w0 w w' : World} {r0 r : Nat → Nat × Nat} {c : Nat} (h : Only A w w') (k : Keep r0 c w0 r w) (hA : w0.heap.size ≤ A) : Keep r0 c w0 r w' :=
  ⟨h.os.trans k.os, h.tape.trans k.tape, h.output.trans k.output, by rw [h.size]; exact k.size, fun i hi hc => (h.block i (by omega)).trans (k.block i hi hc), k.same⟩
theorem PHeap.only {role : Nat → Nat × Nat} {c hb A : Nat} {P : List Cel} {w w' : World} (h : PHeap role c hb P w) (k : Only A w w') (hA : (role A).1 ≠ c) : PHeap role c hb P w' := by
  obtain ⟨vc, ivs, pb, rv, h⟩ := h
  exact ⟨vc, ivs, pb, rv, h.same fun i hi hc => ⟨k.block i (fun e => hA (by rw [← e]; exact hc)), rfl⟩⟩

section
variable {role : Nat → Nat × Nat} {c hb : Nat} {vc : Value} {ivs : List Value} {pb : Nat → Nat} {rv : Nat → Value} {P : List Cel} {w w' : World}
/-- New blocks get whatever roles. -/
theorem PH.paint (h : PH role c hb vc ivs pb rv P w) (k : Below w.heap.size w w') (f : Nat → Nat × Nat) : PH (paint role w.heap.size f) c hb vc ivs pb rv P w' :=
  h.same fun i hi _ => ⟨k.block i hi, paint_old hi⟩
theorem Keep.paint (role : Nat → Nat × Nat) (c : Nat) (k : Below w.heap.size w w') (f : Nat → Nat × Nat) : Keep role c w (paint role w.heap.size f) w' :=
  ⟨k.os, k.tape, k.output, k.size, fun i hi _ => k.block i hi, fun i hi => paint_old hi⟩
theorem PH.used (h : PH role c hb vc ivs pb rv P w) : w.cell? ⟨hb, 1, none⟩ = some (.int .i64 (usedP P)) := by
  rw [cellAt h.hblk]
  rfl
theorem PH.cells (h : PH role c hb vc ivs pb rv P w) : ∃ p cap, vc = .slice p P.length cap ∧ w.cell? ⟨hb, 0, none⟩ = some (.slice p P.length cap) := by
  obtain ⟨p, cap, rfl⟩ := owns_form h.crow
  refine ⟨p, cap, rfl, ?_⟩
  rw [cellAt h.hblk]
  rfl
theorem PH.ne (h : PH role c hb vc ivs pb rv P w) : vc.ownBlock ≠ some hb := fun e => by
  have := h.crole hb e
  rw [h.hrole] at this
  simp at this
theorem hasRoom_is (h : PH role c hb vc ivs pb rv P w) (n : Int) (b : Bool) (hn : decide (P.length < 2000 ∧ n + usedP P ≤ 40000) = b) : Calls Try.prog 76 #[ptr hb, .int .i64 n] w fun e w' => e = .returned (.bool b) ∧ w = w' := by
  obtain ⟨p, cap, rfl, h0⟩ := h.cells
  have hu := h.wf.used
  have := room_any hb p P.length cap (usedP P) n w h0 h.used (by omega) (by omega)
  rw [hn] at this
  exact this

abbrev zeroOb : Value := obV 0 false 0 0 0 ⟨#[]⟩
abbrev emptyOb : Obj := .cells #[.int .i64 0, .bool false, .int .i64 0, .int .i64 0, .int .i64 0, .string ⟨#[]⟩] 30 (0, 0)
theorem zero_box (w : World) : ∃ wb, w.alloc (.cells #[.int .i64 0, .bool false, .int .i64 0, .int .i64 0, .int .i64 0, .string ⟨#[]⟩] 30) = wb ∧ Below w.heap.size w wb ∧ wb.heap.size = w.heap.size + 1 ∧ wb.heap[w.heap.size]? = some emptyOb :=
  ⟨_, rfl, box_below _ _, by simp, heap_alloc_new _ _⟩

end
end Go.Proofs.Ytlkbnldpecolbaa

/- Walks of heap: String; what Dict refuses; New. -/
namespace Go.Proofs.Ytlkbnldpecolbaa
open Go.RowKit
set_option linter.unusedVariables false

theorem bytes_take (w : World) (s : ByteArray) : (Lib.bytesCells w 5 s).toList.take s.data.toList.length = byCells s.data.toList := by
  simp [Lib.bytesCells, byCells]
theorem bytes_size (w : World) (s : ByteArray) (h : s.size ≤ grownCap w s.size 0 5) : (Lib.bytesCells w 5 s).size = grownCap w s.size 0 5 := by
  simp [Lib.bytesCells]
  have : s.data.size = s.size := rfl
  omega

theorem newBytes_any (s : ByteArray) (w : World) :
    Calls Try.prog 90 #[.string s] w fun e w' => ∃ b row, e = .returned (ptr b) ∧ w.heap.size < b ∧ w'.heap[b]? = some (.cells #[.int .i64 8, .bool false, row] 144 (0, 0)) ∧ rowB w' row s.data.toList ∧ row.ownBlock = some w.heap.size ∧ Below w.heap.size w w' := by
  have hcv := fun w => Lib.run_convert_string_bytes (P := Try.prog) w 9 100 5 s Try.underlying9 Try.underlying100 Try.underlying5
  go_enter Try.func90, Try.ntmps90
  go_wp2
  go_ret
  have hsz := Lib.bytesWorld_size w 5 s
  have hcap : s.size ≤ grownCap w s.size 0 5 := grownCap_ge _ _ _ _
  have hk : Below w.heap.size w (Lib.bytesWorld w 5 s) := ⟨rfl, rfl, rfl, by omega, fun k hk => Lib.bytesWorld_at_old w 5 s k hk⟩
  have hnew := Lib.bytesWorld_at_new w 5 s
  refine ⟨(Lib.bytesWorld w 5 s).heap.size, _, rfl, by omega, heap_alloc_new _ _, .inr ⟨w.heap.size, _, _, _, rfl, ?_, .inr rfl, ?_, bytes_size w s hcap, bytes_take w s⟩, rfl, hk.alloc (by omega) _⟩
  · rw [Below.heap_alloc _ _ _ (by omega)]
    exact hnew
  · exact hcap

section
variable {role : Nat → Nat × Nat} {c hb : Nat} {vc : Value} {ivs : List Value} {pb : Nat → Nat} {rv : Nat → Value} {P : List Cel} {w w' : World}

theorem string_limit (h : PH role c hb vc ivs pb rv P w) (s : ByteArray) (hl : ¬ (P.length < 2000 ∧ s.size + usedP P ≤ 40000)) : Calls Try.prog 61 #[ptr hb, .string s] w fun e w' => e = .returned (.tuple #[zeroOb, .int .i64 5]) ∧ Below w.heap.size w w' := by
  have H := Lib.hid h
  have HL : Hid (decide (P.length < 2000 ∧ (s.size : Int) + usedP P ≤ 40000) = false) := Lib.hid (decide_eq_false (by omega))
  clear h hl
  go_enter Try.func61, Try.ntmps61
  go_wp2_with fail
  obtain ⟨wa, ea, ka, za, oa⟩ := zero_box w
  rw [ea]
  refine (hasRoom_is (H.out.below ka) s.size false HL.out).mono ?_
  rintro e wc ⟨rfl, rfl⟩
  have KA := Lib.hid ka
  have OA := Lib.hid oa
  obtain ⟨⟨c0, c1, c2, c3, c4, c5⟩, f0, f1, f2, f3, f4, f5⟩ := cells6 oa
  clear ea ka za oa
  go_wp2
  (try simp only [Exit.inBlock, Exit.then])
  exact bodyPost_ret (ret_cell rfl _ _ _ _ _ _ _ _ rfl rfl (set6 OA.out _ _ _ _ _ _) Try.underlying30 rfl (by kernel_rfl)) rfl ⟨rfl, set6_below KA.out (Nat.le_refl _) _ _ _ _ _ _⟩

theorem string_ok (h : PH role c hb vc ivs pb rv P w) (s : ByteArray) (hl : P.length < 2000) (hu : s.size + usedP P ≤ 40000) :
    Calls Try.prog 61 #[ptr hb, .string s] w fun e w' => e = .returned (.tuple #[obV 8 false P.length 0 s.size ⟨#[]⟩, .int .i64 0]) ∧ ∃ role', PHeap role' c hb (P ++ [⟨8, false, [], s.data.toList⟩]) w' ∧ Keep role c w role' w' := by
  have H := Lib.hid h
  have HL : Hid (decide (P.length < 2000 ∧ (s.size : Int) + usedP P ≤ 40000) = true) := Lib.hid (decide_eq_true (by omega))
  have Hl := Lib.hid hl
  have Hu := Lib.hid hu
  clear h hl hu
  go_enter Try.func61, Try.ntmps61
  go_wp2_with fail
  obtain ⟨wa, ea, ka, za, oa⟩ := zero_box w
  rw [ea]
  have HA := Lib.hid (H.out.paint ka fun _ => (c + 1, 0))
  refine (hasRoom_is HA.out s.size true HL.out).mono ?_
  rintro e wc ⟨rfl, rfl⟩
  have KA := Lib.hid ka
  have OA := Lib.hid oa
  have ZA := Lib.hid za
  clear ea ka za oa
  go_wp2_with fail
  refine (newBytes_any s wa).mono ?_
  rintro e w1 ⟨b, row, rfl, hb1, eblk, erow, ern, k1⟩
  have B1 := Lib.hid hb1
  have B2 := Lib.hid eblk
  have B3 := Lib.hid erow
  have B4 := Lib.hid ern
  have B5 := Lib.hid k1
  have H1 := Lib.hid (HA.out.below k1)
  clear hb1 eblk erow ern k1
  go_wp2_with fail
  refine (cadd_any hb vc ivs P.length (usedP P) s.size 134 b w1 H1.out.hblk H1.out.crow H1.out.ne (by have := Hl.out; omega) (by omega) (by have := Hu.out; omega) (by omega) (by have := Hu.out; omega)).mono ?_
  rintro e w2 ⟨rfl, g, cap, e1, e2, e3, e4, e5, e6, e7, e8⟩
  have cl : PCell w1 (.iface 134 (ptr b)) b row ⟨8, false, [], s.data.toList⟩ := .inr ⟨rfl, rfl, rfl, B2.out, B3.out⟩
  have sz : (⟨8, false, [], s.data.toList⟩ : Cel).size = s.size := by
    simp [Cel.size]
  have AD := Lib.hid (HA.out.added B5.out (Nat.le_of_lt B1.out) cl (fun q hq => by
    rw [B4.out] at hq
    have : wa.heap.size = q := by simpa using hq
    have := B1.out
    omega) Hl.out (by rw [sz]; exact Hu.out) (by rw [sz]; exact e1) e2 e3 e4 e5 e6 e7 e8)
  have O2 : w2.heap[w.heap.size]? = some emptyOb := (AD.out.2.block _ (blk_lt OA.out) (by rw [paint_new (Nat.le_refl _)]; simp)).trans OA.out
  have P2 := Lib.hid O2
  obtain ⟨⟨c0, c1, c2, c3, c4, c5⟩, f0, f1, f2, f3, f4, f5⟩ := cells6 O2
  clear e1 e2 e3 e4 e5 e6 e7 e8 cl sz O2
  go_wp2
  (try simp only [Exit.inBlock, Exit.then])
  refine bodyPost_ret (ret_cell rfl _ _ _ _ _ _ _ _ rfl rfl (set6 P2.out _ _ _ _ _ _) Try.underlying30 rfl (by kernel_rfl)) rfl ⟨rfl, _, AD.out.1.only (only6 _ _ _ _ _ _ _ _) ?_, (only6 _ _ _ _ _ _ _ _).keep ((Keep.paint role c KA.out _).trans AD.out.2) (Nat.le_refl _)⟩
  rw [AD.out.2.same _ (blk_lt OA.out), paint_new (Nat.le_refl _)]
  simp

theorem dict_range (h : PH role c hb vc ivs pb rv P w) (n : Int) (hn : n < 0 ∨ 1000 < n) : Calls Try.prog 44 #[ptr hb, .int .i64 n] w fun e w' => e = .returned (.tuple #[zeroOb, .int .i64 2]) ∧ Below w.heap.size w w' := by
  clear h
  have H : (decide (n < 0) || decide (n > 1000)) = true := by
    simp
    omega
  rcases hn with hn | hn
  · go_enter Try.func44, Try.ntmps44
    go_wp2
    (try simp only [Exit.inBlock, Exit.then])
    exact bodyPost_ret (ret_cell rfl _ _ _ _ _ _ _ _ rfl rfl (heap_alloc_new _ _) Try.underlying30 rfl (by kernel_rfl)) rfl ⟨rfl, box_below _ _⟩
  · have h1 : decide (n < 0) = false := decide_eq_false (by omega)
    clear H
    go_enter Try.func44, Try.ntmps44
    go_wp2
    (try simp only [Exit.inBlock, Exit.then])
    exact bodyPost_ret (ret_cell rfl _ _ _ _ _ _ _ _ rfl rfl (heap_alloc_new _ _) Try.underlying30 rfl (by kernel_rfl)) rfl ⟨rfl, box_below _ _⟩

theorem dict_limit (h : PH role c hb vc ivs pb rv P w) (n : Int) (hn : 0 ≤ n) (hn' : n ≤ 1000) (hl : ¬ (P.length < 2000 ∧ 2 * n + 1 + usedP P ≤ 40000)) : Calls Try.prog 44 #[ptr hb, .int .i64 n] w fun e w' => e = .returned (.tuple #[zeroOb, .int .i64 5]) ∧ Below w.heap.size w w' := by
  obtain ⟨m, hm⟩ : ∃ m, m = 2 * n := ⟨_, rfl⟩
  have H := Lib.hid h
  have HL : Hid (decide (P.length < 2000 ∧ (m + 1) + usedP P ≤ 40000) = false) := Lib.hid (decide_eq_false (by omega))
  have h1 : decide (n < 0) = false := decide_eq_false (by omega)
  have h2 : decide (n > 1000) = false := decide_eq_false (by omega)
  have e1 : IntKind.i64.wrap (2 * n) = m := by rw [hm]; exact wrapi_in _ (by omega) (by omega)
  have e2 : IntKind.i64.wrap (m + 1) = m + 1 := wrapi_in _ (by omega) (by omega)
  clear h hl hm
  go_enter Try.func44, Try.ntmps44
  go_wp2_with fail
  obtain ⟨wa, ea, ka, za, oa⟩ := zero_box w
  rw [ea]
  refine (hasRoom_is (H.out.below ka) (m + 1) false HL.out).mono ?_
  rintro e wc ⟨rfl, rfl⟩
  have KA := Lib.hid ka
  have OA := Lib.hid oa
  obtain ⟨⟨c0, c1, c2, c3, c4, c5⟩, f0, f1, f2, f3, f4, f5⟩ := cells6 oa
  clear ea ka za oa
  go_wp2
  (try simp only [Exit.inBlock, Exit.then])
  exact bodyPost_ret (ret_cell rfl _ _ _ _ _ _ _ _ rfl rfl (set6 OA.out _ _ _ _ _ _) Try.underlying30 rfl (by kernel_rfl)) rfl ⟨rfl, set6_below KA.out (Nat.le_refl _) _ _ _ _ _ _⟩

/-- A new heap. -/
theorem newHeap (role : Nat → Nat × Nat) (c : Nat) (w : World) : PHeap (Go.Proofs.Ytlkbnldpecolbaa.paint role w.heap.size fun _ => (c, 0)) c w.heap.size [] (w.alloc (.cells #[.slice none 0 0, .int .i64 0] 72)) :=
  ⟨.slice none 0 0, [], fun _ => 0, fun _ => .slice none 0 0, ⟨by simp, by simp [usedP], by simp⟩, paint_new (Nat.le_refl _), heap_alloc_new _ _, World.ownsRow_nil _ _ _ _, (fun g e => by cases e), (fun i cl hi => by simp at hi)⟩
end
end Go.Proofs.Ytlkbnldpecolbaa
