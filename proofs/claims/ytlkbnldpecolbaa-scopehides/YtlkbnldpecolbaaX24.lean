/- X24: P3, P4, P5, P6. -/
import Derived.Test.YtlkbnldpecolbaaX16
import Derived.Test.YtlkbnldpecolbaaX23
import Derived.Deep.CutBlock
/- How a scope of layer 16 lies in memory; walks of isNone, Depth, check, Begin, End. -/
namespace Go.Proofs.Ytlkbnldpecolbaa
open Go.RowKit
set_option linter.unusedVariables false
set_option linter.unusedSimpArgs false
set_option maxHeartbeats 1000000
set_option maxRecDepth 100000

/-- A scope: its block sb, its heap, the slice v in it, its dictionaries L. -/
structure Sco (hb sb : Nat) (v : Value) (L : List Ob) (w : World) : Prop where
  hdr : w.heap[sb]? = some (.cells #[ptr hb, v] 76 (0, 0))
  row : w.ownsRow 0 30 6 v L.length (obCells L)
  ne : v.ownBlock ≠ some sb
  len : L.length ≤ 20
  two : 2 ≤ L.length
/-- What a call has done to a scope: it has the dictionaries L', and no other block has changed. -/
structure DidS (hb sb : Nat) (v : Value) (w : World) (L' : List Ob) (w' : World) : Prop where
  ex : ∃ v', Sco hb sb v' L' w' ∧ ∀ g, v'.ownBlock = some g → v.ownBlock = some g ∨ w.heap.size ≤ g
  kept : Kept (fun b => b < w.heap.size ∧ b ≠ sb ∧ v.ownBlock ≠ some b) w w'
section
variable {hb sb : Nat} {v : Value} {L : List Ob} {w w' : World}
theorem Sco.cell0 (h : Sco hb sb v L w) : w.cell? ⟨sb, 0, none⟩ = some (ptr hb) := by
  rw [cellAt h.hdr]
  rfl
theorem Sco.cell1 (h : Sco hb sb v L w) : w.cell? ⟨sb, 1, none⟩ = some v := by
  rw [cellAt h.hdr]
  rfl
theorem Sco.free (h : Sco hb sb v L w) : w.frozen? ⟨sb, 1, none⟩ = false := freeAt h.hdr 1
theorem Sco.lt (h : Sco hb sb v L w) : sb < w.heap.size := blk_lt h.hdr
theorem Sco.form (h : Sco hb sb v L w) : ∃ p cap, v = .slice p L.length cap := by
  obtain ⟨p, cap, e⟩ := owns_form h.row
  exact ⟨p, cap, e⟩
theorem Sco.same (h : Sco hb sb v L w) (k : ∀ b, b = sb ∨ v.ownBlock = some b → w'.heap[b]? = w.heap[b]?) : Sco hb sb v L w' :=
  ⟨(k _ (.inl rfl)).trans h.hdr, owns_at h.row fun g e => k g (.inr e), h.ne, h.len, h.two⟩
theorem Sco.blk (h : Sco hb sb v L w) {b : Nat} (q : b = sb ∨ v.ownBlock = some b) : b < w.heap.size := by
  rcases q with rfl | q
  · exact h.lt
  · exact (h.row.lt b q).2
theorem Sco.below (h : Sco hb sb v L w) (k : Below w.heap.size w w') : Sco hb sb v L w' := h.same fun b q => k.block b (h.blk q)
theorem Sco.did (h : Sco hb sb v L w) (k : Below w.heap.size w w') : DidS hb sb v w L w' := ⟨⟨v, h.below k, fun g e => .inl e⟩, kept_of k fun b q => q.1⟩
theorem DidS.store {v' : Value} {M : List Ob} (h : Sco hb sb v L w) (k : Kept (fun b => b < w.heap.size ∧ v.ownBlock ≠ some b) w w') (row : w'.ownsRow 0 30 6 v' M.length (obCells M)) (hg : ∀ g, v'.ownBlock = some g → v.ownBlock = some g ∨ w.heap.size ≤ g) (hM : M.length ≤ 20) (hT : 2 ≤ M.length) : DidS hb sb v w M (w'.setCell ⟨sb, 1, none⟩ v') := by
  have hl := h.lt
  have hne : v'.ownBlock ≠ some sb := fun e => by
    rcases hg sb e with q | q
    · exact h.ne q
    · omega
  have hh : w'.heap[sb]? = some (.cells #[ptr hb, v] 76 (0, 0)) := (k.block sb ⟨hl, h.ne⟩).trans h.hdr
  refine ⟨⟨v', ⟨?_, ownsRow_setCell_other row hne _, hne, hM, hT⟩, hg⟩, k.os, k.tape, k.output, ?_, fun b q => ?_⟩
  · rw [heap_setCell_same _ _ _ _ 76 _ hh]
    rfl
  · have := k.size
    simpa [World.setCell] using this
  · rw [heap_setCell_other _ _ _ _ q.2.1]
    exact k.block b ⟨q.1, q.2.2⟩
theorem Sco.after {base : Nat} {w4 w5 : World} {v' : Value} {M : List Ob} (h : Sco hb sb v L w) (k : Below w.heap.size w w4) (a : AppOf base v M w4 v' w5) (hM : M.length ≤ 20) (hT : 2 ≤ M.length) : DidS hb sb v w M (w5.setCell ⟨sb, 1, none⟩ v') :=
  DidS.store h ⟨a.grow.os.trans k.os, a.grow.tape.trans k.tape, a.grow.output.trans k.output, Nat.le_trans k.size a.grow.size, fun b q => (a.grow.block b (Nat.lt_of_lt_of_le q.1 k.size) fun e => q.2 (by simpa using e.symm)).trans (k.block b q.1)⟩ (a.row.mono (Nat.zero_le _)) (fun g e => (a.own g e).imp id fun q => Nat.le_trans k.size q) hM hT
theorem scNone (h : Sco hb sb v L w) : Calls Try.prog 42 #[ptr sb] w fun e w' => e = .returned (.bool false) ∧ w = w' := by
  have c0 := h.cell0
  clear h
  go_enter Try.func42, Try.ntmps42
  go_wp2
  go_ret
  exact ⟨rfl, rfl⟩
theorem scDepth (h : Sco hb sb v L w) : Calls Try.prog 16 #[ptr sb] w fun e w' => e = .returned (.int .i64 L.length) ∧ w = w' := by
  obtain ⟨p, cap, rfl⟩ := h.form
  have c1 := h.cell1
  clear h
  go_enter Try.func16, Try.ntmps16
  go_wp2
  go_ret
  exact ⟨rfl, rfl⟩
/-- May it be on the stack? -/
def chkE (P : List Cel) (d : Ob) : Int := if d.k = 10 then (if mayH P d then 0 else 1) else 6
theorem chk_type (h : Sco hb sb v L w) (k n a l : Int) (x : Bool) (s : ByteArray) (hk : ¬ k = 10) : Calls Try.prog 45 #[ptr sb, obV k x n a l s] w fun e w' => e = .returned (.int .i64 6) ∧ Below w.heap.size w w' := by
  have hn := Lib.hid (fun wx (kx : Below w.heap.size w wx) => scNone (h.below kx))
  have t0 : k ≠ 10 := hk
  clear h hk
  go_enter Try.func45, Try.ntmps45
  go_upto_region 1 with fail
  obtain ⟨wa, ea, ka, za, oa⟩ := ob_box w k n a l x s
  rw [ea]
  have KA := Lib.hid ka
  obtain ⟨c0, c1, c2, c3, c4, c5⟩ := oa
  clear ea ka za
  go_wp2_with fail
  refine (hn.out _ KA.out).mono ?_
  rintro e wb ⟨rfl, rfl⟩
  go_wp2
  go_ret
  exact ⟨rfl, KA.out⟩
theorem chk_may (h : Sco hb sb v L w) (n a l : Int) (x b : Bool) (s : ByteArray) (E : Int) (hE : E = if b then 0 else 1) (hm : Hid (∀ wx, Below w.heap.size w wx → Calls Try.prog 52 #[ptr hb, obV 10 x n a l s] wx fun e w' => e = .returned (.bool b) ∧ Below wx.heap.size wx w')) :
    Calls Try.prog 45 #[ptr sb, obV 10 x n a l s] w fun e w' => e = .returned (.int .i64 E) ∧ Below w.heap.size w w' := by
  have hn := Lib.hid (fun wx (kx : Below w.heap.size w wx) => scNone (h.below kx))
  have H := Lib.hid h
  clear h
  go_enter Try.func45, Try.ntmps45
  go_upto_region 1 with fail
  obtain ⟨wa, ea, ka, za, oa⟩ := ob_box w 10 n a l x s
  rw [ea]
  have KA := Lib.hid ka
  have OA := Lib.hid oa
  obtain ⟨c0, c1, c2, c3, c4, c5⟩ := oa
  clear ea ka za
  go_wp2_with fail
  refine (hn.out _ KA.out).mono ?_
  rintro e wb ⟨rfl, rfl⟩
  go_upto_region 5 with fail
  clear c0 c1 c2 c3 c4 c5
  have sx0 : Below wa.heap.size wa wa.drew := (Below.refl _ _).drew
  (try refine wp_region_noPanic ?_)
  refine wp_region_held_drew (S := fun wx => Below wa.heap.size wa wx) (by kernel_rfl) sx0 (fun _ => ?_)
  generalize wa.drew = wd at sx0 ⊢
  have SX := Lib.hid sx0
  clear sx0
  refine wpAnyH_take (i := 0) (v := ptr sb) rfl (by kernel_rfl) (by kernel_rfl) (by kernel_rfl) (fun _ _ _ h => h) (Or.inl ⟨by rfl, fun wx hS => ?_⟩) SX.out ?_
  · go_simp
  try simp only [Act.put, List.getElem_toArray, List.getElem_cons_succ, List.getElem_cons_zero, List.setIfInBounds_toArray, List.set_cons_zero, List.set_cons_succ]
  refine wpAnyH_take (i := 1) (v := ptr sb) rfl (by kernel_rfl) (by kernel_rfl) (by kernel_rfl) (fun _ _ _ h => h) (Or.inl ⟨by rfl, fun wx hS => ?_⟩) SX.out ?_
  · go_simp
  try simp only [Act.put, List.getElem_toArray, List.getElem_cons_succ, List.getElem_cons_zero, List.setIfInBounds_toArray, List.set_cons_zero, List.set_cons_succ]
  refine wpAnyH_take (i := 2) (v := .pointer (some ⟨sb, 0, none⟩)) rfl (by kernel_rfl) (by kernel_rfl) (by kernel_rfl) (fun _ _ _ h => h) (Or.inl ⟨by rfl, fun wx hS => ?_⟩) SX.out ?_
  · go_simp
  try simp only [Act.put, List.getElem_toArray, List.getElem_cons_succ, List.getElem_cons_zero, List.setIfInBounds_toArray, List.set_cons_zero, List.set_cons_succ]
  refine wpAnyH_take (i := 3) (v := ptr hb) rfl (by kernel_rfl) (by kernel_rfl) (by kernel_rfl) (fun _ _ _ h => h) (Or.inl ⟨by rfl, fun wx hS => ?_⟩) SX.out ?_
  · have c0 := (H.out.below (below_and KA.out hS)).cell0; go_simp
  try simp only [Act.put, List.getElem_toArray, List.getElem_cons_succ, List.getElem_cons_zero, List.setIfInBounds_toArray, List.set_cons_zero, List.set_cons_succ]
  refine wpAnyH_take (i := 4) (v := obV 10 x n a l s) rfl (by kernel_rfl) (by kernel_rfl) (by kernel_rfl) (fun _ _ _ h => h) (Or.inl ⟨by rfl, fun wx hS => ?_⟩) SX.out ?_
  · obtain ⟨c0, c1, c2, c3, c4, c5⟩ := OA.out.later hS; go_simp
  try simp only [Act.put, List.getElem_toArray, List.getElem_cons_succ, List.getElem_cons_zero, List.setIfInBounds_toArray, List.set_cons_zero, List.set_cons_succ]
  refine wpAnyH_ready (rs := [5]) (by kernel_rfl) (by simp) ?_
  refine AllReadyH.cons rfl (fun K hK => ?_) AllReadyH.nil
  go_simp
  refine (hm.out _ (below_and KA.out SX.out)).mono ?_
  rintro e wp ⟨rfl, kp⟩
  have SP : Hid (Below wa.heap.size wa wp) := Lib.hid (below_and SX.out kp)
  clear kp
  refine hK.out _ _ SP.out (fun _ => ?_)
  clear hK
  try simp only [Act.put, List.getElem_toArray, List.getElem_cons_succ, List.getElem_cons_zero, List.setIfInBounds_toArray, List.set_cons_zero, List.set_cons_succ]
  refine wpAnyH_take (i := 6) (v := .bool (!b)) rfl (by kernel_rfl) (by kernel_rfl) (by kernel_rfl) (fun _ _ _ h => h) (Or.inl ⟨by rfl, fun wx hS => ?_⟩) SP.out ?_
  · go_simp
  try simp only [Act.put, List.getElem_toArray, List.getElem_cons_succ, List.getElem_cons_zero, List.setIfInBounds_toArray, List.set_cons_zero, List.set_cons_succ]
  refine wpAnyH_take (i := 7) (v := .bool (!b)) rfl (by kernel_rfl) (by kernel_rfl) (by kernel_rfl) (fun _ _ _ h => h) (Or.inl ⟨by rfl, fun wx hS => ?_⟩) SP.out ?_
  · go_simp
  try simp only [Act.put, List.getElem_toArray, List.getElem_cons_succ, List.getElem_cons_zero, List.setIfInBounds_toArray, List.set_cons_zero, List.set_cons_succ]
  refine wpAnyH_done (by kernel_rfl) ?_ _
  (try refine no_panic ?_)
  cases b
  · subst hE
    go_wp2
    go_ret
    exact ⟨rfl, below_and KA.out SP.out⟩
  · subst hE
    go_wp2
    go_ret
    exact ⟨rfl, below_and KA.out SP.out⟩
theorem scCheck {own : Nat → Prop} {P : List Cel} (h : Sco hb sb v L w) (s : Sep own hb P w) (d : Ob) : Calls Try.prog 45 #[ptr sb, d.val] w fun e w' => e = .returned (.int .i64 (chkE P d)) ∧ Below w.heap.size w w' := by
  unfold chkE
  by_cases hk : d.k = 10
  · rw [if_pos hk]
    obtain ⟨k, x, n, a, l, t⟩ := d
    obtain rfl : k = 10 := hk
    refine chk_may h n a l x _ t _ rfl (Lib.hid fun wx kx => ?_)
    obtain ⟨role, ⟨vc, ivs, pb, rv, h1⟩, h2⟩ := (s.below kx).1
    exact mayH_is h1 ⟨10, x, n, a, l, t⟩
  · rw [if_neg hk]
    exact chk_type h d.k d.n d.a d.l d.x d.s hk
theorem begin_err (h : Sco hb sb v L w) (d : Ob) (E : Int) (hE : E ≠ 0) (hc : Hid (∀ wx, Below w.heap.size w wx → Calls Try.prog 45 #[ptr sb, d.val] wx fun e w' => e = .returned (.int .i64 E) ∧ Below wx.heap.size wx w')) :
    Calls Try.prog 13 #[ptr sb, d.val] w fun e w' => e = .returned (.int .i64 E) ∧ Below w.heap.size w w' := by
  change Calls Try.prog _ #[ptr sb, obV d.k d.x d.n d.a d.l d.s] w _
  have HE : (E != 0) = true := by simpa using hE
  clear h hE
  go_enter Try.func13, Try.ntmps13
  go_upto_region 1 with fail
  obtain ⟨wa, ea, ka, za, oa⟩ := ob_box w d.k d.n d.a d.l d.x d.s
  rw [ea]
  have KA := Lib.hid ka
  obtain ⟨c0, c1, c2, c3, c4, c5⟩ := oa
  clear ea ka za
  go_wp2_with fail
  refine (hc.out _ KA.out).mono ?_
  rintro e wb ⟨rfl, kb⟩
  have KB := Lib.hid (below_and KA.out kb)
  clear kb c0 c1 c2 c3 c4 c5
  go_wp2
  go_ret
  exact ⟨rfl, KB.out⟩
theorem begin_full (h : Sco hb sb v L w) (d : Ob) (hl : L.length = 20) (hc : Hid (∀ wx, Below w.heap.size w wx → Calls Try.prog 45 #[ptr sb, d.val] wx fun e w' => e = .returned (.int .i64 0) ∧ Below wx.heap.size wx w')) :
    Calls Try.prog 13 #[ptr sb, d.val] w fun e w' => e = .returned (.int .i64 11) ∧ Below w.heap.size w w' := by
  change Calls Try.prog _ #[ptr sb, obV d.k d.x d.n d.a d.l d.s] w _
  obtain ⟨p, cap, rfl⟩ := h.form
  have h0 := h.cell1
  rw [hl] at h0
  clear h
  go_enter Try.func13, Try.ntmps13
  go_upto_region 1 with fail
  obtain ⟨wa, ea, ka, za, oa⟩ := ob_box w d.k d.n d.a d.l d.x d.s
  rw [ea]
  have KA := Lib.hid ka
  obtain ⟨c0, c1, c2, c3, c4, c5⟩ := oa
  clear ea ka za
  go_wp2_with fail
  refine (hc.out _ KA.out).mono ?_
  rintro e wb ⟨rfl, kb⟩
  have KB := Lib.hid (below_and KA.out kb)
  replace h0 := cell_later (below_and KA.out kb) h0
  clear kb c0 c1 c2 c3 c4 c5
  go_wp2
  go_ret
  exact ⟨rfl, KB.out⟩
theorem begin_ok (h : Sco hb sb v L w) (o : Ob) (hl : L.length < 20) (hc : Hid (∀ wx, Below w.heap.size w wx → Calls Try.prog 45 #[ptr sb, o.val] wx fun e w' => e = .returned (.int .i64 0) ∧ Below wx.heap.size wx w')) :
    Calls Try.prog 13 #[ptr sb, o.val] w fun e w' => e = .returned (.int .i64 0) ∧ DidS hb sb v w (L ++ [o]) w' := by
  change Calls Try.prog _ #[ptr sb, obV o.k o.x o.n o.a o.l o.s] w _
  obtain ⟨p, cap, rfl⟩ := h.form
  have H := Lib.hid h
  have HL := Lib.hid hl
  have h0 := h.cell1
  have t0 : ¬ ((L.length : Int) ≥ 20) := by omega
  clear h hl
  go_enter Try.func13, Try.ntmps13
  go_upto_region 1 with fail
  obtain ⟨wa, ea, ka, za, oa⟩ := ob_box w o.k o.n o.a o.l o.x o.s
  rw [ea]
  have KA := Lib.hid ka
  have OA := Lib.hid oa
  obtain ⟨c0, c1, c2, c3, c4, c5⟩ := oa
  clear ea ka za
  go_wp2_with fail
  refine (hc.out _ KA.out).mono ?_
  rintro e wb ⟨rfl, kb⟩
  have KB := Lib.hid (below_and KA.out kb)
  have OB := Lib.hid (OA.out.later kb)
  replace h0 := cell_later (below_and KA.out kb) h0
  clear kb c0 c1 c2 c3 c4 c5
  go_upto_region 6 with fail
  clear h0
  have sx0 : ObAt wb.drew w.heap.size o.k o.x o.n o.a o.l o.s := OB.out.drew
  have k0 : Below w.heap.size w wb.drew := KB.out.drew
  (try refine wp_region_noPanic ?_)
  refine wp_region_held_drew (S := fun wx => ObAt wx w.heap.size o.k o.x o.n o.a o.l o.s) (by kernel_rfl) sx0 (fun _ => ?_)
  generalize wb.drew = wd at sx0 k0 ⊢
  have SX := Lib.hid sx0
  have GB := Lib.hid k0
  have h0 : wd.cell? ⟨sb, 1, none⟩ = some (.slice p L.length cap) := (H.out.below k0).cell1
  clear sx0 k0
  refine wpAnyH_take (i := 0) (v := ptr sb) rfl (by kernel_rfl) (by kernel_rfl) (by kernel_rfl) (fun _ _ _ h => h) (Or.inl ⟨by rfl, fun wx hS => ?_⟩) SX.out ?_
  · go_simp
  try simp only [Act.put, List.getElem_toArray, List.getElem_cons_succ, List.getElem_cons_zero, List.setIfInBounds_toArray, List.set_cons_zero, List.set_cons_succ]
  refine wpAnyH_take (i := 1) (v := ptr sb) rfl (by kernel_rfl) (by kernel_rfl) (by kernel_rfl) (fun _ _ _ h => h) (Or.inl ⟨by rfl, fun wx hS => ?_⟩) SX.out ?_
  · go_simp
  try simp only [Act.put, List.getElem_toArray, List.getElem_cons_succ, List.getElem_cons_zero, List.setIfInBounds_toArray, List.set_cons_zero, List.set_cons_succ]
  refine wpAnyH_take (i := 2) (v := ptr sb) rfl (by kernel_rfl) (by kernel_rfl) (by kernel_rfl) (fun _ _ _ h => h) (Or.inl ⟨by rfl, fun wx hS => ?_⟩) SX.out ?_
  · go_simp
  try simp only [Act.put, List.getElem_toArray, List.getElem_cons_succ, List.getElem_cons_zero, List.setIfInBounds_toArray, List.set_cons_zero, List.set_cons_succ]
  refine wpAnyH_take (i := 3) (v := .pointer (some ⟨sb, 1, none⟩)) rfl (by kernel_rfl) (by kernel_rfl) (by kernel_rfl) (fun _ _ _ h => h) (Or.inl ⟨by rfl, fun wx hS => ?_⟩) SX.out ?_
  · go_simp
  try simp only [Act.put, List.getElem_toArray, List.getElem_cons_succ, List.getElem_cons_zero, List.setIfInBounds_toArray, List.set_cons_zero, List.set_cons_succ]
  refine wpAnyH_take (i := 5) (v := obV o.k o.x o.n o.a o.l o.s) rfl (by kernel_rfl) (by kernel_rfl) (by kernel_rfl) (fun _ _ _ h => h) (Or.inl ⟨by rfl, fun wx hS => ?_⟩) SX.out ?_
  · obtain ⟨c0, c1, c2, c3, c4, c5⟩ := hS; go_simp
  try simp only [Act.put, List.getElem_toArray, List.getElem_cons_succ, List.getElem_cons_zero, List.setIfInBounds_toArray, List.set_cons_zero, List.set_cons_succ]
  refine wpAnyH_ready (rs := [4, 6]) (by kernel_rfl) (by simp) ?_
  refine AllReadyH.cons rfl (fun K hK => ?_) (AllReadyH.cons rfl (fun K hK => ?_) AllReadyH.nil)
  · go_simp
    refine hK.out _ _ SX.out (fun _ => ?_)
    clear hK
    try simp only [Act.put, List.getElem_toArray, List.getElem_cons_succ, List.getElem_cons_zero, List.setIfInBounds_toArray, List.set_cons_zero, List.set_cons_succ]
    refine wpAnyH_ready (rs := [6]) (by kernel_rfl) (by simp) ?_
    refine AllReadyH.cons rfl (fun K hK => ?_) AllReadyH.nil
    go_simp
    obtain ⟨w4, e4, k4, s4⟩ := seg_box wd o.k o.n o.a o.l o.x o.s
    rw [e4]
    have S4 := Lib.hid s4
    have sx1 := SX.out.later k4
    replace SX := Lib.hid sx1
    replace GB := Lib.hid (below_and GB.out k4)
    replace h0 := cell_later k4 h0
    clear e4 k4 s4 sx1
    refine hK.out _ _ SX.out (fun _ => ?_)
    clear hK
    try simp only [Act.put, List.getElem_toArray, List.getElem_cons_succ, List.getElem_cons_zero, List.setIfInBounds_toArray, List.set_cons_zero, List.set_cons_succ]
    refine wpAnyH_ready (rs := [7]) (by kernel_rfl) (by simp) ?_
    refine AllReadyH.cons rfl (fun K hK => ?_) AllReadyH.nil
    clear h0
    refine step_append_ex rfl _ _ 46 rfl (.slice p L.length cap) (.slice (some ⟨wd.heap.size, 0, none⟩) 1 1) rfl rfl _ (seg_append (H.out.below GB.out).row S4.out (Nat.zero_le _) (by have := HL.out; omega) (by simp) _) ?_
    rintro v5 w5 ap
    replace ap : AppOf 0 (.slice p L.length cap) (L ++ [o]) w4 v5 w5 := ap
    obtain ⟨p5, c5, e5⟩ : ∃ p5 c5, v5 = .slice p5 (L.length + 1) c5 := by
      obtain ⟨p5, c5, e⟩ := owns_form ap.row
      exact ⟨p5, c5, by rw [e]; simp⟩
    subst e5
    have AP := Lib.hid ap
    have hs5 := (H.out.below GB.out)
    have K5 : Hid (Kept (fun b => b < w4.heap.size ∧ (Value.slice p L.length cap).ownBlock ≠ some b) w4 w5) := Lib.hid ap.kept
    have nb : (Value.slice p L.length cap).ownBlock ≠ some w.heap.size := fun e => by have := (H.out.row.lt _ e).2; omega
    have c0 : w5.cell? ⟨sb, 1, none⟩ = some (.slice p L.length cap) := cellAt ((K5.out.block _ ⟨hs5.lt, hs5.ne⟩).trans hs5.hdr) 1
    have f0 : w5.frozen? ⟨sb, 1, none⟩ = false := freeAt ((K5.out.block _ ⟨hs5.lt, hs5.ne⟩).trans hs5.hdr) 1
    have sx1 : ObAt w5 w.heap.size o.k o.x o.n o.a o.l o.s := SX.out.same (K5.out.block _ ⟨SX.out.lt, nb⟩)
    replace SX := Lib.hid sx1
    clear ap hs5 nb sx1
    refine hK.out _ _ SX.out (fun _ => ?_)
    clear hK
    try simp only [Act.put, List.getElem_toArray, List.getElem_cons_succ, List.getElem_cons_zero, List.setIfInBounds_toArray, List.set_cons_zero, List.set_cons_succ]
    refine wpAnyH_take (i := 8) (v := ptr sb) rfl (by kernel_rfl) (by kernel_rfl) (by kernel_rfl) (fun _ _ _ h => h) (Or.inl ⟨by rfl, fun wx hS => ?_⟩) SX.out ?_
    · go_simp
    try simp only [Act.put, List.getElem_toArray, List.getElem_cons_succ, List.getElem_cons_zero, List.setIfInBounds_toArray, List.set_cons_zero, List.set_cons_succ]
    refine wpAnyH_take (i := 9) (v := .pointer (some ⟨sb, 1, none⟩)) rfl (by kernel_rfl) (by kernel_rfl) (by kernel_rfl) (fun _ _ _ h => h) (Or.inl ⟨by rfl, fun wx hS => ?_⟩) SX.out ?_
    · go_simp
    try simp only [Act.put, List.getElem_toArray, List.getElem_cons_succ, List.getElem_cons_zero, List.setIfInBounds_toArray, List.set_cons_zero, List.set_cons_succ]
    refine wpAnyH_ready (rs := [10]) (by kernel_rfl) (by simp) ?_
    refine AllReadyH.cons rfl (fun K hK => ?_) AllReadyH.nil
    go_simp
    have sx6 : ObAt (w5.setCell ⟨sb, 1, none⟩ (.slice p5 (L.length + 1) c5)) w.heap.size o.k o.x o.n o.a o.l o.s := SX.out.same (heap_setCell_other _ _ _ _ (by have := H.out.lt; simp; omega))
    have D : Hid (DidS hb sb (.slice p L.length cap) w (L ++ [o]) (w5.setCell ⟨sb, 1, none⟩ (.slice p5 (L.length + 1) c5))) := Lib.hid (H.out.after GB.out AP.out (by have := HL.out; simp; omega) (by have := H.out.two; simp; omega))
    clear c0 f0
    generalize w5.setCell ⟨sb, 1, none⟩ (.slice p5 (L.length + 1) c5) = w6 at sx6 D ⊢
    refine hK.out _ _ sx6 (fun _ => ?_)
    clear hK sx6
    refine wpAnyH_done (by kernel_rfl) ?_ _
    (try refine no_panic ?_)
    go_wp2
    go_ret
    exact ⟨rfl, D.out⟩
  · go_simp
    obtain ⟨w4, e4, k4, s4⟩ := seg_box wd o.k o.n o.a o.l o.x o.s
    rw [e4]
    have S4 := Lib.hid s4
    have sx1 := SX.out.later k4
    replace SX := Lib.hid sx1
    replace GB := Lib.hid (below_and GB.out k4)
    replace h0 := cell_later k4 h0
    clear e4 k4 s4 sx1
    refine hK.out _ _ SX.out (fun _ => ?_)
    clear hK
    try simp only [Act.put, List.getElem_toArray, List.getElem_cons_succ, List.getElem_cons_zero, List.setIfInBounds_toArray, List.set_cons_zero, List.set_cons_succ]
    refine wpAnyH_ready (rs := [4]) (by kernel_rfl) (by simp) ?_
    refine AllReadyH.cons rfl (fun K hK => ?_) AllReadyH.nil
    go_simp
    refine hK.out _ _ SX.out (fun _ => ?_)
    clear hK
    try simp only [Act.put, List.getElem_toArray, List.getElem_cons_succ, List.getElem_cons_zero, List.setIfInBounds_toArray, List.set_cons_zero, List.set_cons_succ]
    refine wpAnyH_ready (rs := [7]) (by kernel_rfl) (by simp) ?_
    refine AllReadyH.cons rfl (fun K hK => ?_) AllReadyH.nil
    clear h0
    refine step_append_ex rfl _ _ 46 rfl (.slice p L.length cap) (.slice (some ⟨wd.heap.size, 0, none⟩) 1 1) rfl rfl _ (seg_append (H.out.below GB.out).row S4.out (Nat.zero_le _) (by have := HL.out; omega) (by simp) _) ?_
    rintro v5 w5 ap
    replace ap : AppOf 0 (.slice p L.length cap) (L ++ [o]) w4 v5 w5 := ap
    obtain ⟨p5, c5, e5⟩ : ∃ p5 c5, v5 = .slice p5 (L.length + 1) c5 := by
      obtain ⟨p5, c5, e⟩ := owns_form ap.row
      exact ⟨p5, c5, by rw [e]; simp⟩
    subst e5
    have AP := Lib.hid ap
    have hs5 := (H.out.below GB.out)
    have K5 : Hid (Kept (fun b => b < w4.heap.size ∧ (Value.slice p L.length cap).ownBlock ≠ some b) w4 w5) := Lib.hid ap.kept
    have nb : (Value.slice p L.length cap).ownBlock ≠ some w.heap.size := fun e => by have := (H.out.row.lt _ e).2; omega
    have c0 : w5.cell? ⟨sb, 1, none⟩ = some (.slice p L.length cap) := cellAt ((K5.out.block _ ⟨hs5.lt, hs5.ne⟩).trans hs5.hdr) 1
    have f0 : w5.frozen? ⟨sb, 1, none⟩ = false := freeAt ((K5.out.block _ ⟨hs5.lt, hs5.ne⟩).trans hs5.hdr) 1
    have sx1 : ObAt w5 w.heap.size o.k o.x o.n o.a o.l o.s := SX.out.same (K5.out.block _ ⟨SX.out.lt, nb⟩)
    replace SX := Lib.hid sx1
    clear ap hs5 nb sx1
    refine hK.out _ _ SX.out (fun _ => ?_)
    clear hK
    try simp only [Act.put, List.getElem_toArray, List.getElem_cons_succ, List.getElem_cons_zero, List.setIfInBounds_toArray, List.set_cons_zero, List.set_cons_succ]
    refine wpAnyH_take (i := 8) (v := ptr sb) rfl (by kernel_rfl) (by kernel_rfl) (by kernel_rfl) (fun _ _ _ h => h) (Or.inl ⟨by rfl, fun wx hS => ?_⟩) SX.out ?_
    · go_simp
    try simp only [Act.put, List.getElem_toArray, List.getElem_cons_succ, List.getElem_cons_zero, List.setIfInBounds_toArray, List.set_cons_zero, List.set_cons_succ]
    refine wpAnyH_take (i := 9) (v := .pointer (some ⟨sb, 1, none⟩)) rfl (by kernel_rfl) (by kernel_rfl) (by kernel_rfl) (fun _ _ _ h => h) (Or.inl ⟨by rfl, fun wx hS => ?_⟩) SX.out ?_
    · go_simp
    try simp only [Act.put, List.getElem_toArray, List.getElem_cons_succ, List.getElem_cons_zero, List.setIfInBounds_toArray, List.set_cons_zero, List.set_cons_succ]
    refine wpAnyH_ready (rs := [10]) (by kernel_rfl) (by simp) ?_
    refine AllReadyH.cons rfl (fun K hK => ?_) AllReadyH.nil
    go_simp
    have sx6 : ObAt (w5.setCell ⟨sb, 1, none⟩ (.slice p5 (L.length + 1) c5)) w.heap.size o.k o.x o.n o.a o.l o.s := SX.out.same (heap_setCell_other _ _ _ _ (by have := H.out.lt; simp; omega))
    have D : Hid (DidS hb sb (.slice p L.length cap) w (L ++ [o]) (w5.setCell ⟨sb, 1, none⟩ (.slice p5 (L.length + 1) c5))) := Lib.hid (H.out.after GB.out AP.out (by have := HL.out; simp; omega) (by have := H.out.two; simp; omega))
    clear c0 f0
    generalize w5.setCell ⟨sb, 1, none⟩ (.slice p5 (L.length + 1) c5) = w6 at sx6 D ⊢
    refine hK.out _ _ sx6 (fun _ => ?_)
    clear hK sx6
    refine wpAnyH_done (by kernel_rfl) ?_ _
    (try refine no_panic ?_)
    go_wp2
    go_ret
    exact ⟨rfl, D.out⟩
theorem end_no (h : Sco hb sb v L w) (hl : L.length = 2) : Calls Try.prog 15 #[ptr sb] w fun e w' => e = .returned (.int .i64 11) ∧ w = w' := by
  obtain ⟨p, cap, rfl⟩ := h.form
  have h0 := h.cell1
  rw [hl] at h0
  have hn := Lib.hid (scNone h)
  clear h
  go_enter Try.func15, Try.ntmps15
  go_wp2_with fail
  refine hn.out.mono ?_
  rintro e wb ⟨rfl, rfl⟩
  go_wp2
  go_ret
  exact ⟨rfl, rfl⟩
theorem end_ok (h : Sco hb sb v L w) (m : Nat) (hl : L.length = m + 1) (hm : 2 ≤ m) : Calls Try.prog 15 #[ptr sb] w fun e w' => e = .returned (.int .i64 0) ∧ DidS hb sb v w (L.take m) w' := by
  have hlen := h.len
  rcases h.row.2 with ⟨_, h0⟩ | ⟨g, cap, cur, rfl, _, hg, hc, hM, hcs, ht⟩
  · omega
  have H := Lib.hid h
  have hne := h.ne
  have HG := Lib.hid hg
  have HX := Lib.hid hl
  have hn := Lib.hid (scNone h)
  have h0 : w.cell? ⟨sb, 1, none⟩ = some (.slice (some ⟨g, 0, none⟩) (m + 1) cap) := by rw [h.cell1, hl]
  rw [hl] at hc ht
  have hdel := Lib.hid (delete_last (w := w) hl hg hc hM hcs ht)
  have e1 : IntKind.i64.wrap (m : Int) = m := IntWalk.i64_in _ (by omega)
  have e2 : wrap64 (m : Int) = m := by rw [← IntWalk.i64_left]; exact e1
  have e3 : IntKind.i64.wrap ((m : Int) + 1) = (m : Int) + 1 := IntWalk.i64_in _ (by omega)
  have e4 : wrap64 ((m : Int) + 1) = (m : Int) + 1 := by rw [← IntWalk.i64_left]; exact e3
  have t0 : ¬ ((m : Int) + 1 ≤ 2) := by omega
  clear h hg hc hM hcs ht hne hlen
  go_enter Try.func15, Try.ntmps15
  go_wp2_with fail
  refine hn.out.mono ?_
  rintro e wb ⟨rfl, rfl⟩
  go_wp2_with fail
  refine hdel.out.mono ?_
  rintro e wz ⟨rfl, row, kz⟩
  have gs : g ≠ sb := fun e => H.out.ne (by simp [Value.ownBlock, e])
  have c0 : wz.cell? ⟨sb, 1, none⟩ = some (.slice (some ⟨g, 0, none⟩) L.length cap) := cellAt ((kz.block _ ⟨H.out.lt, gs.symm⟩).trans H.out.hdr) 1
  have f0 : wz.frozen? ⟨sb, 1, none⟩ = false := freeAt ((kz.block _ ⟨H.out.lt, gs.symm⟩).trans H.out.hdr) 1
  have D := Lib.hid (DidS.store H.out (w' := wz) ⟨kz.os, kz.tape, kz.output, kz.size, fun b q => kz.block b ⟨q.1, fun e => q.2 (by simp [Value.ownBlock, e])⟩⟩ row (fun g e => .inl e) (by have := H.out.len; simp; omega) (by have := HX.out; simp; omega))
  clear h0 row kz
  go_wp2
  go_ret
  exact ⟨rfl, D.out⟩
end
end Go.Proofs.Ytlkbnldpecolbaa

/- A scope and its heap, beside blocks of ours. -/
namespace Go.Proofs.Ytlkbnldpecolbaa
open Go.RowKit
set_option linter.unusedVariables false

theorem Sep.mut {own : Nat → Prop} {hb : Nat} {P : List Cel} {w w' : World} (h : Sep own hb P w) (k : Kept (fun b => b < w.heap.size ∧ ¬ own b) w w') : Sep (Plus own w w') hb P w' := by
  obtain ⟨role, ⟨vc, ivs, pb, rv, h1⟩, h2⟩ := h
  have ne : ∀ b, b < w.heap.size → (role b).1 = 1 → w'.heap[b]? = w.heap[b]? := fun b hb hc => k.block b ⟨hb, fun e => (h2 b e).2 hc⟩
  refine ⟨paint role w.heap.size fun _ => (0, 0), ⟨vc, ivs, pb, rv, h1.same fun b hb hc => ⟨ne b hb (by omega), paint_old hb⟩⟩, fun b q => ?_⟩
  rcases q with q | q
  · have := h2 b q
    exact ⟨Nat.lt_of_lt_of_le this.1 k.size, by rw [paint_old this.1]; exact this.2⟩
  · exact ⟨q.2, by rw [paint_new q.1]; decide⟩
/-- The scope sb has the dictionaries L of the heap hb, whose dictionaries are ds; 'out' are blocks of ours that nobody else has. -/
def SC (out : Nat → Prop) (hb sb : Nat) (ds : List Dc) (L : List Ob) (w : World) : Prop :=
  ∃ (own : Nat → Prop) (v : Value), Sep (fun b => own b ∨ out b) hb (HD ds) w ∧ Sco hb sb v L w ∧ own sb ∧ (∀ g, v.ownBlock = some g → own g) ∧ (∀ b, out b → ¬ own b) ∧ DsOk ds ∧ ∀ d ∈ L, IsD ds.length d
section
variable {out : Nat → Prop} {hb sb : Nat} {ds ds' : List Dc} {L L' : List Ob} {w w' : World}
theorem SC.lt (h : SC out hb sb ds L w) {b : Nat} (q : out b) : b < w.heap.size := by
  obtain ⟨own, v, h1, h2, h3, h4, h5, h6, h7⟩ := h
  exact h1.lt b (.inr q)
theorem SC.ok (h : SC out hb sb ds L w) : DsOk ds := by
  obtain ⟨own, v, h1, h2, h3, h4, h5, h6, h7⟩ := h
  exact h6
theorem SC.isD (h : SC out hb sb ds L w) : ∀ d ∈ L, IsD ds.length d := by
  obtain ⟨own, v, h1, h2, h3, h4, h5, h6, h7⟩ := h
  exact h7
theorem SC.len (h : SC out hb sb ds L w) : 2 ≤ L.length ∧ L.length ≤ 20 := by
  obtain ⟨own, v, h1, h2, h3, h4, h5, h6, h7⟩ := h
  exact ⟨h2.two, h2.len⟩
theorem SC.kept (h : SC out hb sb ds L w) (k : Below w.heap.size w w') : Kept out w w' := kept_of k fun b q => h.lt q
theorem SC.sub {out' : Nat → Prop} (h : SC out hb sb ds L w) (k : ∀ b, out' b → out b) : SC out' hb sb ds L w := by
  obtain ⟨own, v, h1, h2, h3, h4, h5, h6, h7⟩ := h
  exact ⟨own, v, h1.sub fun b q => q.imp id (k b), h2, h3, h4, fun b q => h5 b (k b q), h6, h7⟩
theorem SC.below (h : SC out hb sb ds L w) (k : Below w.heap.size w w') : SC out hb sb ds L w' := by
  obtain ⟨own, v, h1, h2, h3, h4, h5, h6, h7⟩ := h
  exact ⟨own, v, (h1.below k).1, h2.below k, h3, h4, h5, h6, h7⟩
theorem SC.box (h : SC out hb sb ds L w) (o : Obj) : SC (fun b => out b ∨ b = w.heap.size) hb sb ds L (w.alloc o) := by
  obtain ⟨own, v, h1, h2, h3, h4, h5, h6, h7⟩ := h
  have hl := fun b (q : own b) => h1.lt b (.inl q)
  refine ⟨own, v, (h1.box o).sub ?_, h2.below (box_below _ _), h3, h4, ?_, h6, h7⟩
  · rintro b (q | q | q)
    · exact .inl (.inl q)
    · exact .inl (.inr q)
    · exact .inr q
  · rintro b (q | rfl)
    · exact h5 b q
    · exact fun q => Nat.lt_irrefl _ (hl _ q)
/-- Blocks of ours may have changed, and there are new ones. -/
theorem SC.mine (h : SC out hb sb ds L w) (k : Kept (fun b => b < w.heap.size ∧ ¬ out b) w w') : SC (Plus out w w') hb sb ds L w' := by
  obtain ⟨own, v, h1, h2, h3, h4, h5, h6, h7⟩ := h
  have hl := fun b (q : own b) => h1.lt b (.inl q)
  have kk : ∀ b, own b → w'.heap[b]? = w.heap[b]? := fun b q => k.block b ⟨hl b q, fun e => h5 b e q⟩
  refine ⟨own, v, (h1.mut (k.sub fun b q => ⟨q.1, fun e => q.2 (.inr e)⟩)).sub ?_, h2.same ?_, h3, h4, ?_, h6, h7⟩
  · rintro b (q | q | q)
    · exact .inl (.inl q)
    · exact .inl (.inr q)
    · exact .inr q
  · rintro b (rfl | q)
    · exact kk _ h3
    · exact kk _ (h4 _ q)
  · rintro b (q | q)
    · exact h5 b q
    · exact fun e => by have := hl b e; omega
/-- The heap has done something. -/
theorem SC.heap (h : SC out hb sb ds L w) (ok : DsOk ds') (hn : ds.length ≤ ds'.length) (C : ∀ own, Sep own hb (HD ds) w → Sep own hb (HD ds') w' ∧ Kept own w w') : SC out hb sb ds' L w' ∧ Kept out w w' := by
  obtain ⟨own, v, h1, h2, h3, h4, h5, h6, h7⟩ := h
  obtain ⟨c1, k⟩ := C _ h1
  refine ⟨⟨own, v, c1, h2.same ?_, h3, h4, h5, ok, fun d q => (h7 d q).more hn⟩, k.sub fun b q => .inr q⟩
  rintro b (rfl | q)
  · exact k.block _ (.inl h3)
  · exact k.block _ (.inl (h4 _ q))
end
/-- The scope has done something. -/
theorem SC.did {own out : Nat → Prop} {hb sb : Nat} {ds : List Dc} {L' : List Ob} {w w' : World} {v : Value} (h1 : Sep (fun b => own b ∨ out b) hb (HD ds) w) (h3 : own sb) (h4 : ∀ g, v.ownBlock = some g → own g) (h5 : ∀ b, out b → ¬ own b) (h6 : DsOk ds) (h7 : ∀ d ∈ L', IsD ds.length d) (D : DidS hb sb v w L' w') : SC out hb sb ds L' w' ∧ Kept out w w' := by
  obtain ⟨⟨v', s, hg⟩, k⟩ := D
  have hl := fun b (q : own b) => h1.lt b (.inl q)
  refine ⟨⟨Plus own w w', v', (h1.mut (k.sub fun b q => ⟨q.1, fun e => q.2 (.inl (e ▸ h3)), fun e => q.2 (.inl (h4 _ e))⟩)).sub ?_, s, .inl h3, ?_, ?_, h6, h7⟩, k.sub fun b q => ⟨h1.lt b (.inr q), fun e => h5 b q (e ▸ h3), fun e => h5 b q (h4 _ e)⟩⟩
  · rintro b ((q | q) | q)
    · exact .inl (.inl q)
    · exact .inr q
    · exact .inl (.inr q)
  · intro g e
    rcases hg g e with q | q
    · exact .inl (h4 g q)
    · exact .inr ⟨q, (s.row.lt g e).2⟩
  · rintro b q (q' | q')
    · exact h5 b q q'
    · have := h1.lt b (.inr q)
      omega
section
variable {out : Nat → Prop} {hb sb : Nat} {ds : List Dc} {L : List Ob} {w : World}
theorem xDepth (h : SC out hb sb ds L w) : Calls Try.prog 16 #[ptr sb] w fun e w' => e = .returned (.int .i64 L.length) ∧ w = w' := by
  obtain ⟨own, v, h1, h2, h3, h4, h5, h6, h7⟩ := h
  exact scDepth h2
theorem xNew (h : SC out hb sb ds L w) (n : Nat) (hn : n ≤ 1000) (hl : ds.length < 2000) (hu : 2 * n + 1 + usedP (HD ds) ≤ 40000) :
    Calls Try.prog 12 #[ptr hb, .int .i64 n] w fun e w' => e = .returned (.tuple #[obV 10 false ds.length 0 0 ⟨#[]⟩, .int .i64 0]) ∧ SC out hb sb (ds ++ [newD n]) L w' ∧ Kept out w w' := by
  obtain ⟨own, v, h1, h2, h3, h4, h5, h6, h7⟩ := h
  refine (hNew h1 n hn hl hu).mono ?_
  rintro e w' ⟨rfl, s, k⟩
  refine ⟨rfl, ⟨own, v, s, h2.same ?_, h3, h4, h5, h6.add (newD_ok n hn), fun d q => (h7 d q).more (by simp)⟩, k.sub fun b q => .inr q⟩
  rintro b (rfl | q)
  · exact k.block _ (.inl h3)
  · exact k.block _ (.inl (h4 _ q))
theorem xSet (h : SC out hb sb ds L w) {d : Ob} {c : Dc} (hd : IsD ds.length d) (hc : ds[d.n.toNat]? = some c) (k v : Ob) :
    Calls Try.prog 20 #[ptr hb, d.val, k.val, v.val] w fun e w' => e = .returned (.int .i64 (dsetE (HD ds) c.ps c.rm c.lk k v)) ∧ SC out hb sb (setD ds c d k v) L w' ∧ Kept out w w' := by
  obtain ⟨own, u, h1, h2, h3, h4, h5, h6, h7⟩ := h
  refine (hSet h1 h6 hd hc k v).mono ?_
  rintro e w' ⟨rfl, s, kk⟩
  refine ⟨rfl, ⟨own, u, s, h2.same ?_, h3, h4, h5, setD_ok h6 hc k v, fun d q => (h7 d q).more (by rw [setD_length]; exact Nat.le_refl _)⟩, kk.sub fun b q => .inr q⟩
  rintro b (rfl | q)
  · exact kk.block _ (.inl h3)
  · exact kk.block _ (.inl (h4 _ q))
theorem may_isD {d : Ob} (hd : IsD ds.length d) : mayH (HD ds) d = true := by
  have := okO_hd hd
  obtain ⟨h1, h2, h3⟩ := okO_iff.1 this
  simp [mayH, h2, h3]
theorem xBegin (h : SC out hb sb ds L w) {d : Ob} (hd : IsD ds.length d) (hl : L.length < 20) :
    Calls Try.prog 13 #[ptr sb, d.val] w fun e w' => e = .returned (.int .i64 0) ∧ SC out hb sb ds (L ++ [d]) w' ∧ Kept out w w' := by
  obtain ⟨own, v, h1, h2, h3, h4, h5, h6, h7⟩ := h
  have hE : chkE (HD ds) d = 0 := by simp [chkE, hd.1, may_isD hd]
  refine (begin_ok h2 d hl (Lib.hid fun wx kx => ?_)).mono ?_
  · have := scCheck (h2.below kx) (h1.below kx).1 d
    rw [hE] at this
    exact this
  rintro e w' ⟨rfl, D⟩
  exact ⟨rfl, SC.did h1 h3 h4 h5 h6 (fun q hq => by
    rcases List.mem_append.1 hq with hq | hq
    · exact h7 q hq
    · obtain rfl : q = d := by simpa using hq
      exact hd) D⟩
theorem xEnd (h : SC out hb sb ds L w) (m : Nat) (hm : L.length = m + 1) (h2m : 2 ≤ m) : Calls Try.prog 15 #[ptr sb] w fun e w' => e = .returned (.int .i64 0) ∧ SC out hb sb ds (L.take m) w' ∧ Kept out w w' := by
  obtain ⟨own, v, h1, h2, h3, h4, h5, h6, h7⟩ := h
  refine (end_ok h2 m hm h2m).mono ?_
  rintro e w' ⟨rfl, D⟩
  exact ⟨rfl, SC.did h1 h3 h4 h5 h6 (fun q hq => h7 q (List.mem_of_mem_take hq)) D⟩
theorem xEndNo (h : SC out hb sb ds L w) (hm : L.length = 2) : Calls Try.prog 15 #[ptr sb] w fun e w' => e = .returned (.int .i64 11) ∧ w = w' := by
  obtain ⟨own, v, h1, h2, h3, h4, h5, h6, h7⟩ := h
  exact end_no h2 hm
end
end Go.Proofs.Ytlkbnldpecolbaa

/- Walks of scope: down, Find (a range over a bound method). -/
namespace Go.Proofs.Ytlkbnldpecolbaa
open Go.RowKit Go.Shelf
set_option linter.unusedVariables false
set_option linter.unusedSimpArgs false
attribute [local go_sem] Oper.semAt_some

abbrev encO (x : Ob) : Array Value := #[obV x.k x.x x.n x.a x.l x.s]
theorem rev_at {L : List Ob} {m k : Nat} {o : Ob} (hm : L.length = m + 1 + k) (ho : L[m]? = some o) : L.reverse[k]? = some o := by
  rw [List.getElem?_reverse (by omega), show L.length - 1 - k = m from by omega]
  exact ho
theorem take_rev {L : List Ob} {m k : Nat} {o : Ob} (hm : L.length = m + 1 + k) (ho : L[m]? = some o) : L.reverse.take (k + 1) = L.reverse.take k ++ [o] := by
  rw [List.take_add_one, rev_at hm ho]
  rfl
set_option maxRecDepth 100000 in
set_option maxHeartbeats 2000000 in
/-- The dictionaries from the top down. -/
theorem down_in (n hb sb n₀ : Nat) (v : Value) (L : List Ob) (hn : 1 ≤ n) (l : Nat) (J Jx : List { d : Ob // d ∈ L } → World → Prop)
    (hY : ∀ pre x W, J pre W → pre.length < L.length → YieldAt Fence.wide (n - 1) Try.prog l (encO x.1) W fun e W' => (e = .returned (.bool true) ∧ J (pre ++ [x]) W' ∧ Below n₀ W W') ∨ (e = .returned (.bool false) ∧ Jx (pre ++ [x]) W'))
    (W : World) (hS : Sco hb sb v L W) (hn₀ : W.heap.size ≤ n₀ ∨ ∀ b, b = sb ∨ v.ownBlock = some b → b < n₀) (h0 : J [] W) :
    CallsIn Fence.wide n Try.prog 43 (#[ptr sb] ++ #[.func (.yield l) #[] #[]] ++ #[]) W fun e W' => (∃ v, e = .returned v) ∧ ((∃ xs, xs.map Subtype.val = L.reverse ∧ J xs W') ∨ ∃ pre : List { d : Ob // d ∈ L }, (∃ k, k ≤ L.length ∧ pre.map Subtype.val = L.reverse.take k) ∧ Jx pre W') := by
  have hbl : ∀ b, b = sb ∨ v.ownBlock = some b → b < n₀ := fun b q => by
    rcases hn₀ with h | h
    · exact Nat.lt_of_lt_of_le (hS.blk q) h
    · exact h b q
  have HB := Lib.hid hbl
  have HS := Lib.hid hS
  obtain ⟨p, cap, rfl⟩ := hS.form
  have h2 := hS.two
  have h20 := hS.len
  have eL : IntKind.i64.wrap ((L.length : Int) - 1) = (L.length : Int) - 1 := IntWalk.i64_in _ (by omega)
  have c1 := hS.cell1
  clear hS hbl hn₀
  show CallsIn Fence.wide n Try.prog 43 #[ptr sb, .func (.yield l) #[] #[]] W _
  refine callsIn_of_wp Try.func43 rfl trivial ?_ rfl
  simp only [Try.ntmps43, List.size_toArray, List.length_cons, List.length_nil, Nat.reduceAdd, Nat.reduceSub, Array.replicate_succ, Array.replicate_zero, List.push_toArray, List.append_toArray, List.nil_append, List.cons_append]
  gi_wp2
  clear c1
  gi_loopw [4] (fun i wr => ∃ (k : Nat) (t : Int) (pre : List { d : Ob // d ∈ L }), k ≤ L.length ∧ t = (L.length : Int) - 1 - k ∧ i = .int .i64 t ∧ pre.map Subtype.val = L.reverse.take k ∧ J pre wr ∧ Below n₀ W wr)
    (fun i _ => (intOf i + 1).toNat)
  case atStart => exact ⟨0, _, [], Nat.zero_le _, by omega, rfl, rfl, h0, Below.refl _ _⟩
  case round =>
    obtain ⟨k, t, pre, hk, ht, rfl, hp, hJs, hnx⟩ := hrel
    by_cases hlt : k < L.length
    · obtain ⟨m, hm⟩ : ∃ m : Nat, L.length = m + 1 + k := ⟨L.length - 1 - k, by omega⟩
      obtain rfl : t = (m : Int) := by omega
      obtain ⟨o, ho⟩ : ∃ o, L[m]? = some o := ⟨_, List.getElem?_eq_getElem (by omega)⟩
      have hSr : Sco hb sb (.slice p L.length cap) L wr := HS.out.same fun b q => hnx.block b (HB.out b q)
      have cs := hSr.cell1
      obtain ⟨g, cap', e, c0, c1, c2, c3, c4, c5⟩ := row_item hSr.row ho
      obtain ⟨rfl, rfl⟩ : p = some ⟨g, 0, none⟩ ∧ cap = cap' := by simpa using e
      (try dsimp only at c0 c1 c2 c3 c4 c5)
      have hlen : pre.length = k := by
        have := congrArg List.length hp
        simpa [Nat.min_eq_left hk] using this
      obtain ⟨x, rfl⟩ : ∃ x : { d : Ob // d ∈ L }, x.1 = o := ⟨⟨o, List.mem_of_getElem? ho⟩, rfl⟩
      obtain ⟨fn, tmps, assign, body, hy, hR⟩ := hY pre x wr hJs (by rw [hlen]; exact hlt)
      have t0 : (0 : Int) ≤ m := by omega
      have t1 : (m : Int) < L.length := by omega
      have e1 : IntKind.i64.wrap ((m : Int) - 1) = (m : Int) - 1 := IntWalk.i64_in _ (by omega)
      have HM := Lib.hid hm
      have HK := Lib.hid hk
      have HP : Hid ((pre ++ [x] : List { d : Ob // d ∈ L }).map Subtype.val = L.reverse.take (k + 1)) := Lib.hid (by rw [List.map_append, hp, take_rev hm ho]; rfl)
      have HO := Lib.hid ho
      clear hSr ho hm ht hk hp hlen e h2 h20 eL
      (try dsimp only at hy)
      gi_wp2
      refine hR.mono ?_
      rintro e W3 (⟨rfl, hJ3, hk3⟩ | ⟨rfl, hJx3⟩)
      · gi_wp2
        go_roundw
        case rel => exact ⟨k + 1, (m : Int) - 1, _, by have := HM.out; omega, by have := HM.out; omega, rfl, HP.out, hJ3, hnx.trans hk3⟩
        case measure => simp [intOf]
      · gi_wp2
        refine bodyPost_ret (results_none rfl _ _ _) rfl ?_
        exact ⟨⟨_, rfl⟩, .inr ⟨_, ⟨k + 1, by have := HM.out; omega, HP.out⟩, hJx3⟩⟩
    · obtain rfl : k = L.length := by omega
      obtain rfl : t = -1 := by omega
      gi_wp2
      go_end0
      exact ⟨⟨_, rfl⟩, .inl ⟨_, by rw [hp, List.take_of_length_le (by simp)], hJs⟩⟩
end Go.Proofs.Ytlkbnldpecolbaa

/- Walks of scope: Find. -/
namespace Go.Proofs.Ytlkbnldpecolbaa
open Go.RowKit Go.Shelf
set_option linter.unusedVariables false
set_option linter.unusedSimpArgs false
set_option maxRecDepth 100000
attribute [local go_sem] Oper.semAt_some

/-- Find's boxes: the scope, the key, the three results. -/
structure FBox (A sb : Nat) (q v d : Ob) (e : Int) (wx : World) : Prop where
  s : wx.heap[A]? = some (.cells #[ptr sb] 25 (0, 0))
  k : wx.heap[A + 1]? = some (obObj q.k q.x q.n q.a q.l q.s)
  v : wx.heap[A + 2]? = some (obObj v.k v.x v.n v.a v.l v.s)
  d : wx.heap[A + 3]? = some (obObj d.k d.x d.n d.a d.l d.s)
  e : wx.heap[A + 4]? = some (.cells #[.int .i64 e] 26 (0, 0))
section
variable {A sb : Nat} {q v d o : Ob} {e e' : Int} {w wx wy : World}
theorem FBox.z (h : FBox A sb q v d e wx) : A + 5 ≤ wx.heap.size := blk_lt h.e
theorem FBox.same (h : FBox A sb q v d e wx) (k : ∀ j, A ≤ j → j < A + 5 → wy.heap[j]? = wx.heap[j]?) : FBox A sb q v d e wy :=
  ⟨(k _ (by omega) (by omega)).trans h.s, (k _ (by omega) (by omega)).trans h.k, (k _ (by omega) (by omega)).trans h.v, (k _ (by omega) (by omega)).trans h.d, (k _ (by omega) (by omega)).trans h.e⟩
theorem FBox.below {n : Nat} (h : FBox A sb q v d e wx) (k : Below n wx wy) (hn : A + 5 ≤ n) : FBox A sb q v d e wy := h.same fun j _ hj => k.block j (by omega)
theorem FBox.setK (h : FBox A sb q v d e wx) (k : Only (A + 1) wx wy) (hb : wy.heap[A + 1]? = some (obObj o.k o.x o.n o.a o.l o.s)) : FBox A sb o v d e wy :=
  ⟨(k.block _ (by omega)).trans h.s, hb, (k.block _ (by omega)).trans h.v, (k.block _ (by omega)).trans h.d, (k.block _ (by omega)).trans h.e⟩
theorem FBox.setV (h : FBox A sb q v d e wx) (k : Only (A + 2) wx wy) (hb : wy.heap[A + 2]? = some (obObj o.k o.x o.n o.a o.l o.s)) : FBox A sb q o d e wy :=
  ⟨(k.block _ (by omega)).trans h.s, (k.block _ (by omega)).trans h.k, hb, (k.block _ (by omega)).trans h.d, (k.block _ (by omega)).trans h.e⟩
theorem FBox.setD (h : FBox A sb q v d e wx) (k : Only (A + 3) wx wy) (hb : wy.heap[A + 3]? = some (obObj o.k o.x o.n o.a o.l o.s)) : FBox A sb q v o e wy :=
  ⟨(k.block _ (by omega)).trans h.s, (k.block _ (by omega)).trans h.k, (k.block _ (by omega)).trans h.v, hb, (k.block _ (by omega)).trans h.e⟩
theorem FBox.setE (h : FBox A sb q v d e wx) (e' : Int) : FBox A sb q v d e' (wx.setCell ⟨A + 4, 0, none⟩ (.int .i64 e')) :=
  ⟨(heap_setCell_other _ _ _ _ (by show A ≠ A + 4; omega)).trans h.s, (heap_setCell_other _ _ _ _ (by show A + 1 ≠ A + 4; omega)).trans h.k, (heap_setCell_other _ _ _ _ (by show A + 2 ≠ A + 4; omega)).trans h.v, (heap_setCell_other _ _ _ _ (by show A + 3 ≠ A + 4; omega)).trans h.d, by
    rw [heap_setCell_same _ _ _ _ 26 _ h.e]
    rfl⟩
theorem FBox.start (w : World) (sb : Nat) (k n a l : Int) (x : Bool) (s : ByteArray) : ∃ wb, (((((w.alloc (.cells #[ptr sb] 25)).alloc (.cells #[.int .i64 k, .bool x, .int .i64 n, .int .i64 a, .int .i64 l, .string s] 30)).alloc (.cells #[.int .i64 0, .bool false, .int .i64 0, .int .i64 0, .int .i64 0, .string ⟨#[]⟩] 30)).alloc (.cells #[.int .i64 0, .bool false, .int .i64 0, .int .i64 0, .int .i64 0, .string ⟨#[]⟩] 30)).alloc (.cells #[.int .i64 0] 26)) = wb ∧
    FBox w.heap.size sb ⟨k, x, n, a, l, s⟩ Ob.zero Ob.zero 0 wb ∧ Below w.heap.size w wb := by
  have step : ∀ (u : World) (o : Obj), (u.alloc o).heap[u.heap.size]? = some o ∧ (u.alloc o).heap.size = u.heap.size + 1 ∧ ∀ j, j < u.heap.size → (u.alloc o).heap[j]? = u.heap[j]? := fun u o => ⟨heap_alloc_new _ _, by simp, fun j hj => heap_alloc_old _ _ hj⟩
  have kb := below_and (below_and (below_and (below_and (box_below w (.cells #[ptr sb] 25)) (box_below _ (.cells #[.int .i64 k, .bool x, .int .i64 n, .int .i64 a, .int .i64 l, .string s] 30))) (box_below _ (.cells #[.int .i64 0, .bool false, .int .i64 0, .int .i64 0, .int .i64 0, .string ⟨#[]⟩] 30))) (box_below _ (.cells #[.int .i64 0, .bool false, .int .i64 0, .int .i64 0, .int .i64 0, .string ⟨#[]⟩] 30))) (box_below _ (.cells #[.int .i64 0] 26))
  refine ⟨_, rfl, ?_, kb⟩
  clear kb
  obtain ⟨a1, z1, o1⟩ := step w (.cells #[ptr sb] 25)
  generalize w.alloc (.cells #[ptr sb] 25) = w1 at a1 z1 o1 ⊢
  obtain ⟨a2, z2, o2⟩ := step w1 (.cells #[.int .i64 k, .bool x, .int .i64 n, .int .i64 a, .int .i64 l, .string s] 30)
  generalize w1.alloc _ = w2 at a2 z2 o2 ⊢
  obtain ⟨a3, z3, o3⟩ := step w2 (.cells #[.int .i64 0, .bool false, .int .i64 0, .int .i64 0, .int .i64 0, .string ⟨#[]⟩] 30)
  generalize w2.alloc _ = w3 at a3 z3 o3 ⊢
  obtain ⟨a4, z4, o4⟩ := step w3 (.cells #[.int .i64 0, .bool false, .int .i64 0, .int .i64 0, .int .i64 0, .string ⟨#[]⟩] 30)
  generalize w3.alloc _ = w4 at a4 z4 o4 ⊢
  obtain ⟨a5, z5, o5⟩ := step w4 (.cells #[.int .i64 0] 26)
  generalize w4.alloc _ = w5 at a5 z5 o5 ⊢
  have s1 : w1.heap.size = w.heap.size + 1 := by omega
  have s2 : w2.heap.size = w.heap.size + 2 := by omega
  have s3 : w3.heap.size = w.heap.size + 3 := by omega
  have s4 : w4.heap.size = w.heap.size + 4 := by omega
  rw [s1] at a2
  rw [s2] at a3
  rw [s3] at a4
  rw [s4] at a5
  have f2 := fun j (hj : j < w.heap.size + 2) => (o5 j (by omega)).trans ((o4 j (by omega)).trans (o3 j (by omega)))
  exact ⟨(f2 _ (by omega)).trans ((o2 _ (by omega)).trans a1), (f2 _ (by omega)).trans a2, (o5 _ (by omega)).trans ((o4 _ (by omega)).trans a3), (o5 _ (by omega)).trans a4, a5⟩
theorem keeps_below {B : Nat} {W W' : World} (h : Below W.heap.size W W') : KeepsFrom B W W' := ⟨h.size, fun k o _ hk _ => (h.block k (blk_lt hk)).trans hk⟩
theorem keeps_only {B X : Nat} {W W' : World} (h : Only X W W') (hX : X < B) : KeepsFrom B W W' := ⟨by rw [h.size]; exact Nat.le_refl _, fun k o hB hk _ => (h.block k (by omega)).trans hk⟩
/-- What Find returns of its boxes. -/
theorem find_ret (h : FBox A sb q v d e wx) (tmps : Array Value) (h4 : tmps.getD 4 undef = .pointer (some ⟨A + 2, 0, none⟩)) (h5 : tmps.getD 5 undef = .pointer (some ⟨A + 3, 0, none⟩)) (h6 : tmps.getD 6 undef = .pointer (some ⟨A + 4, 0, none⟩)) :
    (results Try.f10 tmps).run Try.prog wx = .ok (.tuple #[obV v.k v.x v.n v.a v.l v.s, obV d.k d.x d.n d.a d.l d.s, .int .i64 e]) wx := by
  have hr : Try.f10.results = #[.cell 4 30, .cell 5 30, .cell 6 26] := rfl
  have h4' : tmps[4]?.getD undef = .pointer (some ⟨A + 2, 0, none⟩) := by simpa using h4
  have h5' : tmps[5]?.getD undef = .pointer (some ⟨A + 3, 0, none⟩) := by simpa using h5
  have h6' : tmps[6]?.getD undef = .pointer (some ⟨A + 4, 0, none⟩) := by simpa using h6
  have hc : wx.cell? ⟨A + 4, 0, none⟩ = some (.int .i64 e) := cellAt h.e 0
  simp only [results, hr]
  obtain ⟨⟨v0, v1, v2, v3, v4, v5⟩, _⟩ := cells6 h.v
  obtain ⟨⟨d0, d1, d2, d3, d4, d5⟩, _⟩ := cells6 h.d
  simp [go_sem, Sem.run_bind, Result.andThen, h4', h5', h6', asAddr, hc, v0, v1, v2, v3, v4, v5, d0, d1, d2, d3, d4, d5]
end
set_option maxHeartbeats 2000000 in
theorem find_loop {hb sb : Nat} {v : Value} {L : List Ob} (kk kn ka kl : Int) (kx : Bool) (ks : ByteArray) (q : Ob) (G : Ob → Ob) (GE : Ob → Int) (w : World) (hS : Sco hb sb v L w)
    (hkey : Hid (∀ wx, Below w.heap.size w wx → Calls Try.prog 27 #[ptr hb, obV kk kx kn ka kl ks] wx fun e w' => e = .returned (.tuple #[obV q.k q.x q.n q.a q.l q.s, .int .i64 0]) ∧ Below wx.heap.size wx w'))
    (hget : Hid (∀ wx d, d ∈ L → Below w.heap.size w wx → Calls Try.prog 31 #[ptr hb, obV d.k d.x d.n d.a d.l d.s, obV q.k q.x q.n q.a q.l q.s] wx fun e w' => e = .returned (.tuple #[obV (G d).k (G d).x (G d).n (G d).a (G d).l (G d).s, .int .i64 (GE d)]) ∧ Below wx.heap.size wx w')) :
    Calls Try.prog 10 #[ptr sb, obV kk kx kn ka kl ks] w fun e w' => ((∃ d k, k < L.length ∧ L.reverse[k]? = some d ∧ (∀ j d', j < k → L.reverse[j]? = some d' → GE d' ≠ 0) ∧ GE d = 0 ∧ e = .returned (.tuple #[obV (G d).k (G d).x (G d).n (G d).a (G d).l (G d).s, obV d.k d.x d.n d.a d.l d.s, .int .i64 0])) ∨ ((∀ d ∈ L, GE d ≠ 0) ∧ e = .returned (.tuple #[zeroOb, zeroOb, .int .i64 9]))) ∧ Below w.heap.size w w' := by
  have HS := Lib.hid hS
  have hn := Lib.hid (fun wx (kx : Below w.heap.size w wx) => scNone (hS.below kx))
  clear hS
  refine (callsIn_wide (n := 3)).1 ?_
  refine callsIn_of_wp_marks Try.func10 rfl trivial ?_ rfl
  simp only [Try.ntmps10, List.size_toArray, List.length_cons, List.length_nil, Nat.reduceAdd, Nat.reduceSub, Array.replicate_succ, Array.replicate_zero, List.push_toArray, List.append_toArray, List.nil_append, List.cons_append]
  refine wpIn_wide.2 ?_
  go_upto_region 1 with fail
  obtain ⟨w1, e1, f1, k1⟩ := FBox.start w sb kk kn ka kl kx ks
  rw [e1]
  have F1 := Lib.hid f1
  have K1 := Lib.hid k1
  have c0 : w1.cell? ⟨w.heap.size, 0, none⟩ = some (ptr sb) := cellAt f1.s 0
  clear e1 f1 k1
  go_wp2_with fail
  refine (hn.out _ K1.out).mono ?_
  rintro e wb ⟨rfl, rfl⟩
  clear c0
  go_upto_region 3 with fail
  have sx0 : w1.drew.heap[w.heap.size]? = some (.cells #[ptr sb] 25 (0, 0)) ∧ w1.drew.cell? ⟨sb, 0, none⟩ = some (ptr hb) := ⟨F1.out.s, (HS.out.below K1.out).cell0⟩
  (try refine wp_region_noPanic ?_)
  refine wp_region_held_drew (S := fun wx => wx.heap[w.heap.size]? = some (.cells #[ptr sb] 25 (0, 0)) ∧ wx.cell? ⟨sb, 0, none⟩ = some (ptr hb)) (by kernel_rfl) sx0 (fun _ => ?_)
  have fd : FBox w.heap.size sb ⟨kk, kx, kn, ka, kl, ks⟩ Ob.zero Ob.zero 0 w1.drew := F1.out.same fun _ _ _ => rfl
  have kd : Below w.heap.size w w1.drew := K1.out.drew
  generalize w1.drew = wd at sx0 fd kd ⊢
  have SX := Lib.hid sx0
  have FD := Lib.hid fd
  have KD := Lib.hid kd
  clear sx0 fd kd
  refine wpAnyH_take (i := 0) (v := ptr sb) rfl (by kernel_rfl) (by kernel_rfl) (by kernel_rfl) (fun _ _ _ h => h) (Or.inl ⟨by rfl, fun wx hS => ?_⟩) SX.out ?_
  · have c0 := cellAt hS.1 0; go_simp
  try simp only [Act.put, List.getElem_toArray, List.getElem_cons_succ, List.getElem_cons_zero, List.setIfInBounds_toArray, List.set_cons_zero, List.set_cons_succ]
  refine wpAnyH_take (i := 1) (v := ptr sb) rfl (by kernel_rfl) (by kernel_rfl) (by kernel_rfl) (fun _ _ _ h => h) (Or.inl ⟨by rfl, fun wx hS => ?_⟩) SX.out ?_
  · go_simp
  try simp only [Act.put, List.getElem_toArray, List.getElem_cons_succ, List.getElem_cons_zero, List.setIfInBounds_toArray, List.set_cons_zero, List.set_cons_succ]
  refine wpAnyH_take (i := 2) (v := .pointer (some ⟨sb, 0, none⟩)) rfl (by kernel_rfl) (by kernel_rfl) (by kernel_rfl) (fun _ _ _ h => h) (Or.inl ⟨by rfl, fun wx hS => ?_⟩) SX.out ?_
  · go_simp
  try simp only [Act.put, List.getElem_toArray, List.getElem_cons_succ, List.getElem_cons_zero, List.setIfInBounds_toArray, List.set_cons_zero, List.set_cons_succ]
  refine wpAnyH_take (i := 3) (v := ptr hb) rfl (by kernel_rfl) (by kernel_rfl) (by kernel_rfl) (fun _ _ _ h => h) (Or.inl ⟨by rfl, fun wx hS => ?_⟩) SX.out ?_
  · have c0 := hS.2; go_simp
  try simp only [Act.put, List.getElem_toArray, List.getElem_cons_succ, List.getElem_cons_zero, List.setIfInBounds_toArray, List.set_cons_zero, List.set_cons_succ]
  refine wpAnyH_ready (rs := [4]) (by kernel_rfl) (by simp) ?_
  refine AllReadyH.cons rfl (fun K hK => ?_) AllReadyH.nil
  obtain ⟨⟨o0, o1, o2, o3, o4, o5⟩, _⟩ := cells6 FD.out.k
  go_simp
  clear o0 o1 o2 o3 o4 o5
  refine hK.out _ _ SX.out (fun _ => ?_)
  clear hK
  try simp only [Act.put, List.getElem_toArray, List.getElem_cons_succ, List.getElem_cons_zero, List.setIfInBounds_toArray, List.set_cons_zero, List.set_cons_succ]
  refine wpAnyH_ready (rs := [5]) (by kernel_rfl) (by simp) ?_
  refine AllReadyH.cons rfl (fun K hK => ?_) AllReadyH.nil
  go_simp
  refine (hkey.out _ KD.out).mono ?_
  rintro e wp ⟨rfl, kp⟩
  have FP := Lib.hid (FD.out.below kp FD.out.z)
  have KP := Lib.hid (below_and KD.out kp)
  have SP : Hid (wp.heap[w.heap.size]? = some (.cells #[ptr sb] 25 (0, 0)) ∧ wp.cell? ⟨sb, 0, none⟩ = some (ptr hb)) := Lib.hid ⟨FP.out.s, (HS.out.below KP.out).cell0⟩
  clear kp
  refine hK.out _ _ SP.out (fun _ => ?_)
  clear hK
  try simp only [Act.put, List.getElem_toArray, List.getElem_cons_succ, List.getElem_cons_zero, List.setIfInBounds_toArray, List.set_cons_zero, List.set_cons_succ]
  refine wpAnyH_take (i := 6) (v := .tuple #[obV q.k q.x q.n q.a q.l q.s, .int .i64 0]) rfl (by kernel_rfl) (by kernel_rfl) (by kernel_rfl) (fun _ _ _ h => h) (Or.inl ⟨by rfl, fun wx hS => ?_⟩) SP.out ?_
  · go_simp
  try simp only [Act.put, List.getElem_toArray, List.getElem_cons_succ, List.getElem_cons_zero, List.setIfInBounds_toArray, List.set_cons_zero, List.set_cons_succ]
  refine wpAnyH_take (i := 7) (v := obV q.k q.x q.n q.a q.l q.s) rfl (by kernel_rfl) (by kernel_rfl) (by kernel_rfl) (fun _ _ _ h => h) (Or.inl ⟨by rfl, fun wx hS => ?_⟩) SP.out ?_
  · go_simp
  try simp only [Act.put, List.getElem_toArray, List.getElem_cons_succ, List.getElem_cons_zero, List.setIfInBounds_toArray, List.set_cons_zero, List.set_cons_succ]
  refine wpAnyH_take (i := 8) (v := .int .i64 0) rfl (by kernel_rfl) (by kernel_rfl) (by kernel_rfl) (fun _ _ _ h => h) (Or.inl ⟨by rfl, fun wx hS => ?_⟩) SP.out ?_
  · go_simp
  try simp only [Act.put, List.getElem_toArray, List.getElem_cons_succ, List.getElem_cons_zero, List.setIfInBounds_toArray, List.set_cons_zero, List.set_cons_succ]
  refine wpAnyH_ready (rs := [9]) (by kernel_rfl) (by simp) ?_
  refine AllReadyH.cons rfl (fun K hK => ?_) AllReadyH.nil
  obtain ⟨⟨o0, o1, o2, o3, o4, o5⟩, g0, g1, g2, g3, g4, g5⟩ := cells6 FP.out.k
  go_simp
  obtain ⟨wf, ef, bf, onf⟩ := set6_box FP.out.k (.int .i64 q.k) (.bool q.x) (.int .i64 q.n) (.int .i64 q.a) (.int .i64 q.l) (.string q.s)
  rw [ef]
  have FF := Lib.hid (FP.out.setK onf bf)
  have KF := Lib.hid (onf.below KP.out (by omega))
  have SF : Hid (wf.heap[w.heap.size]? = some (.cells #[ptr sb] 25 (0, 0)) ∧ wf.cell? ⟨sb, 0, none⟩ = some (ptr hb)) := Lib.hid ⟨FF.out.s, (HS.out.below KF.out).cell0⟩
  clear ef bf onf o0 o1 o2 o3 o4 o5 g0 g1 g2 g3 g4 g5
  refine hK.out _ _ SF.out (fun _ => ?_)
  clear hK
  try simp only [Act.put, List.getElem_toArray, List.getElem_cons_succ, List.getElem_cons_zero, List.setIfInBounds_toArray, List.set_cons_zero, List.set_cons_succ]
  refine wpAnyH_ready (rs := [10]) (by kernel_rfl) (by simp) ?_
  refine AllReadyH.cons rfl (fun K hK => ?_) AllReadyH.nil
  have c4 : wf.cell? ⟨w.heap.size + 4, 0, none⟩ = some (.int .i64 0) := cellAt FF.out.e 0
  have g4 : wf.frozen? ⟨w.heap.size + 4, 0, none⟩ = false := freeAt FF.out.e 0
  go_simp
  have fg := FF.out.setE 0
  have kg : Below w.heap.size w (wf.setCell ⟨w.heap.size + 4, 0, none⟩ (.int .i64 0)) := KF.out.setCell (p := ⟨w.heap.size + 4, 0, none⟩) (by simp) _
  clear c4 g4
  generalize wf.setCell ⟨w.heap.size + 4, 0, none⟩ (.int .i64 0) = wg at fg kg ⊢
  have FG := Lib.hid fg
  have KG := Lib.hid kg
  have SG : Hid (wg.heap[w.heap.size]? = some (.cells #[ptr sb] 25 (0, 0)) ∧ wg.cell? ⟨sb, 0, none⟩ = some (ptr hb)) := Lib.hid ⟨fg.s, (HS.out.below kg).cell0⟩
  clear fg kg
  refine hK.out _ _ SG.out (fun _ => ?_)
  clear hK
  try simp only [Act.put, List.getElem_toArray, List.getElem_cons_succ, List.getElem_cons_zero, List.setIfInBounds_toArray, List.set_cons_zero, List.set_cons_succ]
  refine wpAnyH_done (by kernel_rfl) ?_ _
  (try refine no_panic ?_)
  have c4 : wg.cell? ⟨w.heap.size + 4, 0, none⟩ = some (.int .i64 0) := cellAt FG.out.e 0
  have c0 : wg.cell? ⟨w.heap.size, 0, none⟩ = some (ptr sb) := cellAt FG.out.s 0
  go_upto_block 0 with fail
  refine (wpIn_wide (n := 3)).1 ?_
  gi_wp2
  rename_i KK hKK
  have HG := Lib.hid FG.out.z
  have HKK := Lib.hid hKK
  clear hKK c0 c4
  refine range_any (n := 3) (P := Try.prog) (gf := 43) (pb := #[ptr sb]) (lb := #[]) (N := L.length) (n₀ := wg.heap.size) rfl (enters_of Try.func43 (by kernel_rfl) rfl) (Nat.le_refl _) (encs := fun x : { d : Ob // d ∈ L } => encO x.1) (fun _ => rfl) (S := fun xs => xs.map Subtype.val = L.reverse) (Sp := fun pre => ∃ k, k ≤ L.length ∧ pre.map Subtype.val = L.reverse.take k) (by decide)
    (fun l J Jx W hW hY h0 => down_in 2 hb sb wg.heap.size v L (by decide) l J Jx hY W ((HS.out.below KG.out).below hW) (.inr fun b q => (HS.out.below KG.out).blk q) h0)
    (fun pre W => (∀ x ∈ pre, GE x.1 ≠ 0) ∧ FBox w.heap.size sb q Ob.zero Ob.zero 0 W ∧ Below w.heap.size w W ∧ wg.heap.size ≤ W.heap.size)
    (fun pre W => ∃ ini last, pre = ini ++ [last] ∧ (∀ x ∈ ini, GE x.1 ≠ 0) ∧ GE last.1 = 0 ∧ FBox w.heap.size sb q (G last.1) last.1 0 W ∧ Below w.heap.size w W)
    (fun s W W' row hs hg hr => ⟨hs.1, hs.2.1.same (fun j _ hj => hg.block j (by have := hs.2.1.z; omega) (fun e => by have := (hr j e.symm).1; have := HG.out; omega)), hs.2.2.1.grown hg hs.2.2.1.size (fun k e => Nat.le_trans KG.out.size (hr k e).1), Nat.le_trans hs.2.2.2 hg.size⟩)
    (fun s W W' row hs hg hr => by
      obtain ⟨ini, last, h1, h2, h3, h4, h5⟩ := hs
      exact ⟨ini, last, h1, h2, h3, h4.same (fun j _ hj => hg.block j (by have := h4.z; omega) (fun e => by have := (hr j e.symm).1; have := HG.out; omega)), h5.grown hg h5.size (fun k e => Nat.le_trans KG.out.size (hr k e).1)⟩)
    ⟨fun x hx => (by simp at hx), FG.out, KG.out, Nat.le_refl _⟩
    (fun x a' W => ∃ Bx, w.heap.size + 5 ≤ Bx ∧ W.heap[Bx]? = some (obObj x.1.k x.1.x x.1.n x.1.a x.1.l x.1.s) ∧ a' = { tmps := #[ptr sb, obV kk kx kn ka kl ks, .pointer (some ⟨w.heap.size, 0, none⟩), .pointer (some ⟨w.heap.size + 1, 0, none⟩), .pointer (some ⟨w.heap.size + 1 + 1, 0, none⟩), .pointer (some ⟨w.heap.size + 1 + 1 + 1, 0, none⟩), .pointer (some ⟨w.heap.size + 1 + 1 + 1 + 1, 0, none⟩), .pointer (some ⟨Bx, 0, none⟩), undef, undef, ptr sb, .bool false, undef, undef, .tuple #[obV q.k q.x q.n q.a q.l q.s, .int .i64 0], ptr sb, ptr sb, .pointer (some ⟨sb, 0, none⟩), ptr hb, obV kk kx kn ka kl ks, .tuple #[obV q.k q.x q.n q.a q.l q.s, .int .i64 0], obV q.k q.x q.n q.a q.l q.s, .int .i64 0, .int .i64 0, .bool false, undef, undef, undef, ptr sb, .func (.func 43) #[ptr sb] #[], obV x.1.k x.1.x x.1.n x.1.a x.1.l x.1.s, undef, undef, undef, undef, undef, undef, undef, undef, undef, undef, undef, undef, undef, undef, undef, undef], defers := [] })
    (fun x a' _ A B row hs hg hr => by
      obtain ⟨Bx, h1, h2, h3⟩ := hs
      refine ⟨Bx, h1, (hg.block Bx (blk_lt h2) fun e => ?_).trans h2, h3⟩
      obtain ⟨o, ho, hc⟩ := (hr Bx e.symm).2
      rw [h2] at ho
      cases ho
      cases hc)
    ?assign ?body ?done ?stop
  case assign =>
    rintro l pre x W K hi hK
    gi_wp2
    exact hK _ _ ((KeepsOthers.alloc _ _).from _) ((Below.refl _ W).alloc hi.2.2.2 _) ⟨hi.1, hi.2.1.below (box_below _ _) hi.2.1.z, hi.2.2.1.alloc hi.2.2.1.size _, by simp; exact Nat.le_trans hi.2.2.2 (Nat.le_succ _)⟩ ⟨W.heap.size, hi.2.1.z, heap_alloc_new _ _, rfl⟩
  case body =>
    rintro l pre x a' W ⟨hno, hF, hB, hz⟩ ⟨Bx, hBx, bX, rfl⟩ hlt
    have HNO := Lib.hid hno
    have HF := Lib.hid hF
    have HB := Lib.hid hB
    have HZ := Lib.hid hz
    have HX := Lib.hid bX
    have HBX := Lib.hid hBx
    clear hno hF hB hz bX hBx hlt
    gi_wp2
    refine region_round (S := fun wx => Below W.drew.heap.size W.drew wx) (by kernel_rfl) (by rintro ⟨a, u, hu⟩; exact hu) (by kernel_rfl) (Below.refl _ _) (fun _ => ?_)
    have cA : W.drew.cell? ⟨w.heap.size, 0, none⟩ = some (ptr sb) := cellAt HF.out.s 0
    have cS : W.drew.cell? ⟨sb, 0, none⟩ = some (ptr hb) := (HS.out.below HB.out).cell0
    have oX : ObAt W.drew Bx x.1.k x.1.x x.1.n x.1.a x.1.l x.1.s := (cells6 HX.out).1
    have oQ : ObAt W.drew (w.heap.size + 1) q.k q.x q.n q.a q.l q.s := (cells6 HF.out.k).1
    have kW : Below W.heap.size W W.drew := (Below.refl _ _).drew
    have zW : W.drew.heap.size = W.heap.size := rfl
    generalize W.drew = wd at cA cS oX oQ kW zW ⊢
    have CA := Lib.hid cA
    have CS := Lib.hid cS
    have OX := Lib.hid oX
    have OQ := Lib.hid oQ
    have KW := Lib.hid kW
    have ZW := Lib.hid zW
    have SX : Hid (Below wd.heap.size wd wd) := Lib.hid (Below.refl _ _)
    clear cA cS oX oQ kW zW
    refine wpAnyH_take (i := 0) (v := ptr sb) rfl (by kernel_rfl) (by kernel_rfl) (by kernel_rfl) (fun _ _ _ h => h) (Or.inl ⟨by rfl, fun wx hS => ?_⟩) SX.out ?_
    · have c0 := cell_later hS CA.out; go_simp
    try simp only [Act.put, List.getElem_toArray, List.getElem_cons_succ, List.getElem_cons_zero, List.setIfInBounds_toArray, List.set_cons_zero, List.set_cons_succ]
    refine wpAnyH_take (i := 1) (v := ptr sb) rfl (by kernel_rfl) (by kernel_rfl) (by kernel_rfl) (fun _ _ _ h => h) (Or.inl ⟨by rfl, fun wx hS => ?_⟩) SX.out ?_
    · go_simp
    try simp only [Act.put, List.getElem_toArray, List.getElem_cons_succ, List.getElem_cons_zero, List.setIfInBounds_toArray, List.set_cons_zero, List.set_cons_succ]
    refine wpAnyH_take (i := 2) (v := .pointer (some ⟨sb, 0, none⟩)) rfl (by kernel_rfl) (by kernel_rfl) (by kernel_rfl) (fun _ _ _ h => h) (Or.inl ⟨by rfl, fun wx hS => ?_⟩) SX.out ?_
    · go_simp
    try simp only [Act.put, List.getElem_toArray, List.getElem_cons_succ, List.getElem_cons_zero, List.setIfInBounds_toArray, List.set_cons_zero, List.set_cons_succ]
    refine wpAnyH_take (i := 3) (v := ptr hb) rfl (by kernel_rfl) (by kernel_rfl) (by kernel_rfl) (fun _ _ _ h => h) (Or.inl ⟨by rfl, fun wx hS => ?_⟩) SX.out ?_
    · have c0 := cell_later hS CS.out; go_simp
    try simp only [Act.put, List.getElem_toArray, List.getElem_cons_succ, List.getElem_cons_zero, List.setIfInBounds_toArray, List.set_cons_zero, List.set_cons_succ]
    refine wpAnyH_take (i := 4) (v := obV x.1.k x.1.x x.1.n x.1.a x.1.l x.1.s) rfl (by kernel_rfl) (by kernel_rfl) (by kernel_rfl) (fun _ _ _ h => h) (Or.inl ⟨by rfl, fun wx hS => ?_⟩) SX.out ?_
    · obtain ⟨c0, c1, c2, c3, c4, c5⟩ := OX.out.later hS; go_simp
    try simp only [Act.put, List.getElem_toArray, List.getElem_cons_succ, List.getElem_cons_zero, List.setIfInBounds_toArray, List.set_cons_zero, List.set_cons_succ]
    refine wpAnyH_take (i := 5) (v := obV q.k q.x q.n q.a q.l q.s) rfl (by kernel_rfl) (by kernel_rfl) (by kernel_rfl) (fun _ _ _ h => h) (Or.inl ⟨by rfl, fun wx hS => ?_⟩) SX.out ?_
    · obtain ⟨c0, c1, c2, c3, c4, c5⟩ := OQ.out.later hS; go_simp
    try simp only [Act.put, List.getElem_toArray, List.getElem_cons_succ, List.getElem_cons_zero, List.setIfInBounds_toArray, List.set_cons_zero, List.set_cons_succ]
    refine wpAnyH_ready (rs := [6, 10]) (by kernel_rfl) (by simp) ?_
    refine AllReadyH.cons rfl (fun K hK => ?_) (AllReadyH.cons rfl (fun K hK => ?_) AllReadyH.nil)
    · go_simp
      refine (hget.out _ x.1 x.2 (below_and HB.out (below_and KW.out SX.out))).mono ?_
      rintro e wp ⟨rfl, kp⟩
      have SP : Hid (Below wd.heap.size wd wp) := Lib.hid (below_and SX.out kp)
      clear kp
      refine hK.out _ _ SP.out (fun _ => ?_)
      clear hK
      try simp only [Act.put, List.getElem_toArray, List.getElem_cons_succ, List.getElem_cons_zero, List.setIfInBounds_toArray, List.set_cons_zero, List.set_cons_succ]
      refine wpAnyH_take (i := 7) (v := .tuple #[obV (G x.1).k (G x.1).x (G x.1).n (G x.1).a (G x.1).l (G x.1).s, .int .i64 (GE x.1)]) rfl (by kernel_rfl) (by kernel_rfl) (by kernel_rfl) (fun _ _ _ h => h) (Or.inl ⟨by rfl, fun wx hS => ?_⟩) SP.out ?_
      · go_simp
      try simp only [Act.put, List.getElem_toArray, List.getElem_cons_succ, List.getElem_cons_zero, List.setIfInBounds_toArray, List.set_cons_zero, List.set_cons_succ]
      refine wpAnyH_take (i := 8) (v := obV (G x.1).k (G x.1).x (G x.1).n (G x.1).a (G x.1).l (G x.1).s) rfl (by kernel_rfl) (by kernel_rfl) (by kernel_rfl) (fun _ _ _ h => h) (Or.inl ⟨by rfl, fun wx hS => ?_⟩) SP.out ?_
      · go_simp
      try simp only [Act.put, List.getElem_toArray, List.getElem_cons_succ, List.getElem_cons_zero, List.setIfInBounds_toArray, List.set_cons_zero, List.set_cons_succ]
      refine wpAnyH_take (i := 9) (v := .int .i64 (GE x.1)) rfl (by kernel_rfl) (by kernel_rfl) (by kernel_rfl) (fun _ _ _ h => h) (Or.inl ⟨by rfl, fun wx hS => ?_⟩) SP.out ?_
      · go_simp
      try simp only [Act.put, List.getElem_toArray, List.getElem_cons_succ, List.getElem_cons_zero, List.setIfInBounds_toArray, List.set_cons_zero, List.set_cons_succ]
      refine wpAnyH_ready (rs := [10]) (by kernel_rfl) (by simp) ?_
      refine AllReadyH.cons rfl (fun K hK => ?_) AllReadyH.nil
      go_simp
      obtain ⟨w9, e9, k9, z9, o9⟩ := zero_box wp
      rw [e9]
      have O9 := Lib.hid o9
      have SQ : Hid (Below wd.heap.size wd w9) := Lib.hid (below_and SP.out k9)
      have ZB : Hid (wd.heap.size ≤ wp.heap.size) := Lib.hid SP.out.size
      clear e9 k9 z9 o9
      refine hK.out _ _ SQ.out (fun _ => ?_)
      clear hK
      try simp only [Act.put, List.getElem_toArray, List.getElem_cons_succ, List.getElem_cons_zero, List.setIfInBounds_toArray, List.set_cons_zero, List.set_cons_succ]
      refine wpAnyH_ready (rs := [11]) (by kernel_rfl) (by simp) ?_
      refine AllReadyH.cons rfl (fun K hK => ?_) AllReadyH.nil
      obtain ⟨⟨o0, o1, o2, o3, o4, o5⟩, g0, g1, g2, g3, g4, g5⟩ := cells6 O9.out
      go_simp
      obtain ⟨wf, ef, bf, onf⟩ := set6_box O9.out (.int .i64 (G x.1).k) (.bool (G x.1).x) (.int .i64 (G x.1).n) (.int .i64 (G x.1).a) (.int .i64 (G x.1).l) (.string (G x.1).s)
      rw [ef]
      have OF : Hid (wf.heap[wp.heap.size]? = some (obObj (G x.1).k (G x.1).x (G x.1).n (G x.1).a (G x.1).l (G x.1).s)) := Lib.hid bf
      have SF : Hid (Below wd.heap.size wd wf) := Lib.hid (onf.below SQ.out ZB.out)
      clear ef bf onf o0 o1 o2 o3 o4 o5 g0 g1 g2 g3 g4 g5
      refine hK.out _ _ SF.out (fun _ => ?_)
      clear hK
      try simp only [Act.put, List.getElem_toArray, List.getElem_cons_succ, List.getElem_cons_zero, List.setIfInBounds_toArray, List.set_cons_zero, List.set_cons_succ]
      refine wpAnyH_take (i := 12) (v := .int .i64 (GE x.1)) rfl (by kernel_rfl) (by kernel_rfl) (by kernel_rfl) (fun _ _ _ h => h) (Or.inl ⟨by rfl, fun wx hS => ?_⟩) SF.out ?_
      · go_simp
      try simp only [Act.put, List.getElem_toArray, List.getElem_cons_succ, List.getElem_cons_zero, List.setIfInBounds_toArray, List.set_cons_zero, List.set_cons_succ]
      refine wpAnyH_done (by kernel_rfl) ?_ _
      (try refine no_panic ?_)
      have KF : Hid (Below W.heap.size W wf) := Lib.hid (below_and KW.out (by have := SF.out; rw [ZW.out] at this ⊢; exact this))
      by_cases hq : GE x.1 = 0
      · have HQ := Lib.hid hq
        gi_wp2
        refine region_round (S := fun wx => wx.heap[wp.heap.size]? = some (obObj (G x.1).k (G x.1).x (G x.1).n (G x.1).a (G x.1).l (G x.1).s) ∧ wx.heap[Bx]? = some (obObj x.1.k x.1.x x.1.n x.1.a x.1.l x.1.s)) (by kernel_rfl) (by rintro ⟨a, u, hu⟩; exact hu) (by kernel_rfl) ⟨OF.out, (KF.out.block _ (blk_lt HX.out)).trans HX.out⟩ (fun sx0 => ?_)
        have ff : FBox w.heap.size sb q Ob.zero Ob.zero 0 wf.drew := (HF.out.below KF.out HF.out.z).same fun _ _ _ => rfl
        have kf : Below w.heap.size w wf.drew := (below_and HB.out KF.out).drew
        have qf : KeepsFrom wg.heap.size W wf.drew := (keeps_below KF.out).trans ((KeepsOthers.drew _).from _)
        have nb : wp.heap.size ≠ w.heap.size + 2 ∧ wp.heap.size ≠ w.heap.size + 3 ∧ wp.heap.size ≠ w.heap.size + 4 := by
          have := HF.out.z
          have := ZB.out
          have := ZW.out
          omega
        have nx : Bx ≠ w.heap.size + 2 ∧ Bx ≠ w.heap.size + 3 ∧ Bx ≠ w.heap.size + 4 := by
          have := HBX.out
          omega
        generalize wf.drew = wh at sx0 ff kf qf ⊢
        have SH := Lib.hid sx0
        have FF := Lib.hid ff
        have KH := Lib.hid kf
        have QF := Lib.hid qf
        have NB := Lib.hid nb
        have NX := Lib.hid nx
        clear sx0 ff kf qf nb nx
        refine wpAnyH_take (i := 0) (v := obV (G x.1).k (G x.1).x (G x.1).n (G x.1).a (G x.1).l (G x.1).s) rfl (by kernel_rfl) (by kernel_rfl) (by kernel_rfl) (fun _ _ _ h => h) (Or.inl ⟨by rfl, fun wx hS => ?_⟩) SH.out ?_
        · obtain ⟨⟨c0, c1, c2, c3, c4, c5⟩, _⟩ := cells6 hS.1; go_simp
        try simp only [Act.put, List.getElem_toArray, List.getElem_cons_succ, List.getElem_cons_zero, List.setIfInBounds_toArray, List.set_cons_zero, List.set_cons_succ]
        refine wpAnyH_take (i := 1) (v := obV x.1.k x.1.x x.1.n x.1.a x.1.l x.1.s) rfl (by kernel_rfl) (by kernel_rfl) (by kernel_rfl) (fun _ _ _ h => h) (Or.inl ⟨by rfl, fun wx hS => ?_⟩) SH.out ?_
        · obtain ⟨⟨c0, c1, c2, c3, c4, c5⟩, _⟩ := cells6 hS.2; go_simp
        try simp only [Act.put, List.getElem_toArray, List.getElem_cons_succ, List.getElem_cons_zero, List.setIfInBounds_toArray, List.set_cons_zero, List.set_cons_succ]
        refine wpAnyH_ready (rs := [2]) (by kernel_rfl) (by simp) ?_
        refine AllReadyH.cons rfl (fun K hK => ?_) AllReadyH.nil
        obtain ⟨⟨o0, o1, o2, o3, o4, o5⟩, g0, g1, g2, g3, g4, g5⟩ := cells6 FF.out.v
        go_simp
        obtain ⟨wi, ef, bf, onf⟩ := set6_box FF.out.v (.int .i64 (G x.1).k) (.bool (G x.1).x) (.int .i64 (G x.1).n) (.int .i64 (G x.1).a) (.int .i64 (G x.1).l) (.string (G x.1).s)
        rw [ef]
        have FI := Lib.hid (FF.out.setV onf bf)
        have KI := Lib.hid (onf.below KH.out (by omega))
        have QI := Lib.hid (QF.out.trans (keeps_only onf (by have := HG.out; omega)))
        have SI : Hid (wi.heap[wp.heap.size]? = some (obObj (G x.1).k (G x.1).x (G x.1).n (G x.1).a (G x.1).l (G x.1).s) ∧ wi.heap[Bx]? = some (obObj x.1.k x.1.x x.1.n x.1.a x.1.l x.1.s)) := Lib.hid ⟨(onf.block _ NB.out.1).trans SH.out.1, (onf.block _ NX.out.1).trans SH.out.2⟩
        clear ef bf onf o0 o1 o2 o3 o4 o5 g0 g1 g2 g3 g4 g5
        refine hK.out _ _ SI.out (fun _ => ?_)
        clear hK
        try simp only [Act.put, List.getElem_toArray, List.getElem_cons_succ, List.getElem_cons_zero, List.setIfInBounds_toArray, List.set_cons_zero, List.set_cons_succ]
        refine wpAnyH_ready (rs := [3]) (by kernel_rfl) (by simp) ?_
        refine AllReadyH.cons rfl (fun K hK => ?_) AllReadyH.nil
        obtain ⟨⟨o0, o1, o2, o3, o4, o5⟩, g0, g1, g2, g3, g4, g5⟩ := cells6 FI.out.d
        go_simp
        obtain ⟨wj, ef, bf, onf⟩ := set6_box FI.out.d (.int .i64 x.1.k) (.bool x.1.x) (.int .i64 x.1.n) (.int .i64 x.1.a) (.int .i64 x.1.l) (.string x.1.s)
        rw [ef]
        have FJ := Lib.hid (FI.out.setD onf bf)
        have KJ := Lib.hid (onf.below KI.out (by omega))
        have QJ := Lib.hid (QI.out.trans (keeps_only onf (by have := HG.out; omega)))
        have SJ : Hid (wj.heap[wp.heap.size]? = some (obObj (G x.1).k (G x.1).x (G x.1).n (G x.1).a (G x.1).l (G x.1).s) ∧ wj.heap[Bx]? = some (obObj x.1.k x.1.x x.1.n x.1.a x.1.l x.1.s)) := Lib.hid ⟨(onf.block _ NB.out.2.1).trans SI.out.1, (onf.block _ NX.out.2.1).trans SI.out.2⟩
        clear ef bf onf o0 o1 o2 o3 o4 o5 g0 g1 g2 g3 g4 g5
        refine hK.out _ _ SJ.out (fun _ => ?_)
        clear hK
        try simp only [Act.put, List.getElem_toArray, List.getElem_cons_succ, List.getElem_cons_zero, List.setIfInBounds_toArray, List.set_cons_zero, List.set_cons_succ]
        refine wpAnyH_ready (rs := [4]) (by kernel_rfl) (by simp) ?_
        refine AllReadyH.cons rfl (fun K hK => ?_) AllReadyH.nil
        have c4 : wj.cell? ⟨w.heap.size + 4, 0, none⟩ = some (.int .i64 0) := cellAt FJ.out.e 0
        have g4 : wj.frozen? ⟨w.heap.size + 4, 0, none⟩ = false := freeAt FJ.out.e 0
        go_simp
        have fg := FJ.out.setE 0
        have kg : Below w.heap.size w (wj.setCell ⟨w.heap.size + 4, 0, none⟩ (.int .i64 0)) := KJ.out.setCell (p := ⟨w.heap.size + 4, 0, none⟩) (by simp) _
        have on4 : Only (w.heap.size + 4) wj (wj.setCell ⟨w.heap.size + 4, 0, none⟩ (.int .i64 0)) := (Only.refl _ _).set 0 _
        have qg := QJ.out.trans (keeps_only (B := wg.heap.size) on4 (by have := HG.out; omega))
        have sg : (wj.setCell ⟨w.heap.size + 4, 0, none⟩ (.int .i64 0)).heap[wp.heap.size]? = some (obObj (G x.1).k (G x.1).x (G x.1).n (G x.1).a (G x.1).l (G x.1).s) ∧ (wj.setCell ⟨w.heap.size + 4, 0, none⟩ (.int .i64 0)).heap[Bx]? = some (obObj x.1.k x.1.x x.1.n x.1.a x.1.l x.1.s) := ⟨(on4.block _ NB.out.2.2).trans SJ.out.1, (on4.block _ NX.out.2.2).trans SJ.out.2⟩
        clear c4 g4 on4
        generalize wj.setCell ⟨w.heap.size + 4, 0, none⟩ (.int .i64 0) = wk at fg kg qg sg ⊢
        have FK := Lib.hid fg
        have KK2 := Lib.hid kg
        have QK := Lib.hid qg
        have SK := Lib.hid sg
        clear fg kg qg sg
        refine hK.out _ _ SK.out (fun _ => ?_)
        clear hK
        try simp only [Act.put, List.getElem_toArray, List.getElem_cons_succ, List.getElem_cons_zero, List.setIfInBounds_toArray, List.set_cons_zero, List.set_cons_succ]
        refine wpAnyH_done (by kernel_rfl) ?_ _
        (try refine no_panic ?_)
        gi_wp2
        exact ⟨QK.out, pre, x, rfl, HNO.out, HQ.out, FK.out, KK2.out⟩
      · have HQ := Lib.hid hq
        gi_wp2
        exact ⟨keeps_below KF.out, KF.out.mono HZ.out, fun y hy => (List.mem_append.1 hy).elim (HNO.out y) (fun e => by simp at e; subst e; exact HQ.out), HF.out.below KF.out HF.out.z, below_and HB.out KF.out, Nat.le_trans HZ.out KF.out.size⟩
    · go_simp
      obtain ⟨w9, e9, k9, z9, o9⟩ := zero_box wd
      rw [e9]
      have S9 : Hid (Below wd.heap.size wd w9) := Lib.hid k9
      have P9 := Lib.hid o9
      clear e9 k9 z9 o9
      refine hK.out _ _ S9.out (fun _ => ?_)
      clear hK
      try simp only [Act.put, List.getElem_toArray, List.getElem_cons_succ, List.getElem_cons_zero, List.setIfInBounds_toArray, List.set_cons_zero, List.set_cons_succ]
      refine wpAnyH_ready (rs := [6]) (by kernel_rfl) (by simp) ?_
      refine AllReadyH.cons rfl (fun K hK => ?_) AllReadyH.nil
      go_simp
      refine (hget.out _ x.1 x.2 (below_and HB.out (below_and KW.out S9.out))).mono ?_
      rintro e wp ⟨rfl, kp⟩
      have SP : Hid (Below wd.heap.size wd wp) := Lib.hid (below_and S9.out kp)
      have O9 : Hid (wp.heap[wd.heap.size]? = some emptyOb) := Lib.hid ((kp.block _ (blk_lt P9.out)).trans P9.out)
      have SQ := SP
      have ZB : Hid (wd.heap.size ≤ wd.heap.size) := Lib.hid (Nat.le_refl _)
      clear kp
      refine hK.out _ _ SP.out (fun _ => ?_)
      clear hK
      try simp only [Act.put, List.getElem_toArray, List.getElem_cons_succ, List.getElem_cons_zero, List.setIfInBounds_toArray, List.set_cons_zero, List.set_cons_succ]
      refine wpAnyH_take (i := 7) (v := .tuple #[obV (G x.1).k (G x.1).x (G x.1).n (G x.1).a (G x.1).l (G x.1).s, .int .i64 (GE x.1)]) rfl (by kernel_rfl) (by kernel_rfl) (by kernel_rfl) (fun _ _ _ h => h) (Or.inl ⟨by rfl, fun wx hS => ?_⟩) SP.out ?_
      · go_simp
      try simp only [Act.put, List.getElem_toArray, List.getElem_cons_succ, List.getElem_cons_zero, List.setIfInBounds_toArray, List.set_cons_zero, List.set_cons_succ]
      refine wpAnyH_take (i := 8) (v := obV (G x.1).k (G x.1).x (G x.1).n (G x.1).a (G x.1).l (G x.1).s) rfl (by kernel_rfl) (by kernel_rfl) (by kernel_rfl) (fun _ _ _ h => h) (Or.inl ⟨by rfl, fun wx hS => ?_⟩) SP.out ?_
      · go_simp
      try simp only [Act.put, List.getElem_toArray, List.getElem_cons_succ, List.getElem_cons_zero, List.setIfInBounds_toArray, List.set_cons_zero, List.set_cons_succ]
      refine wpAnyH_take (i := 9) (v := .int .i64 (GE x.1)) rfl (by kernel_rfl) (by kernel_rfl) (by kernel_rfl) (fun _ _ _ h => h) (Or.inl ⟨by rfl, fun wx hS => ?_⟩) SP.out ?_
      · go_simp
      try simp only [Act.put, List.getElem_toArray, List.getElem_cons_succ, List.getElem_cons_zero, List.setIfInBounds_toArray, List.set_cons_zero, List.set_cons_succ]
      refine wpAnyH_ready (rs := [11]) (by kernel_rfl) (by simp) ?_
      refine AllReadyH.cons rfl (fun K hK => ?_) AllReadyH.nil
      obtain ⟨⟨o0, o1, o2, o3, o4, o5⟩, g0, g1, g2, g3, g4, g5⟩ := cells6 O9.out
      go_simp
      obtain ⟨wf, ef, bf, onf⟩ := set6_box O9.out (.int .i64 (G x.1).k) (.bool (G x.1).x) (.int .i64 (G x.1).n) (.int .i64 (G x.1).a) (.int .i64 (G x.1).l) (.string (G x.1).s)
      rw [ef]
      have OF : Hid (wf.heap[wd.heap.size]? = some (obObj (G x.1).k (G x.1).x (G x.1).n (G x.1).a (G x.1).l (G x.1).s)) := Lib.hid bf
      have SF : Hid (Below wd.heap.size wd wf) := Lib.hid (onf.below SQ.out ZB.out)
      clear ef bf onf o0 o1 o2 o3 o4 o5 g0 g1 g2 g3 g4 g5
      refine hK.out _ _ SF.out (fun _ => ?_)
      clear hK
      try simp only [Act.put, List.getElem_toArray, List.getElem_cons_succ, List.getElem_cons_zero, List.setIfInBounds_toArray, List.set_cons_zero, List.set_cons_succ]
      refine wpAnyH_take (i := 12) (v := .int .i64 (GE x.1)) rfl (by kernel_rfl) (by kernel_rfl) (by kernel_rfl) (fun _ _ _ h => h) (Or.inl ⟨by rfl, fun wx hS => ?_⟩) SF.out ?_
      · go_simp
      try simp only [Act.put, List.getElem_toArray, List.getElem_cons_succ, List.getElem_cons_zero, List.setIfInBounds_toArray, List.set_cons_zero, List.set_cons_succ]
      refine wpAnyH_done (by kernel_rfl) ?_ _
      (try refine no_panic ?_)
      have KF : Hid (Below W.heap.size W wf) := Lib.hid (below_and KW.out (by have := SF.out; rw [ZW.out] at this ⊢; exact this))
      by_cases hq : GE x.1 = 0
      · have HQ := Lib.hid hq
        gi_wp2
        refine region_round (S := fun wx => wx.heap[wd.heap.size]? = some (obObj (G x.1).k (G x.1).x (G x.1).n (G x.1).a (G x.1).l (G x.1).s) ∧ wx.heap[Bx]? = some (obObj x.1.k x.1.x x.1.n x.1.a x.1.l x.1.s)) (by kernel_rfl) (by rintro ⟨a, u, hu⟩; exact hu) (by kernel_rfl) ⟨OF.out, (KF.out.block _ (blk_lt HX.out)).trans HX.out⟩ (fun sx0 => ?_)
        have ff : FBox w.heap.size sb q Ob.zero Ob.zero 0 wf.drew := (HF.out.below KF.out HF.out.z).same fun _ _ _ => rfl
        have kf : Below w.heap.size w wf.drew := (below_and HB.out KF.out).drew
        have qf : KeepsFrom wg.heap.size W wf.drew := (keeps_below KF.out).trans ((KeepsOthers.drew _).from _)
        have nb : wd.heap.size ≠ w.heap.size + 2 ∧ wd.heap.size ≠ w.heap.size + 3 ∧ wd.heap.size ≠ w.heap.size + 4 := by
          have := HF.out.z
          have := ZB.out
          have := ZW.out
          omega
        have nx : Bx ≠ w.heap.size + 2 ∧ Bx ≠ w.heap.size + 3 ∧ Bx ≠ w.heap.size + 4 := by
          have := HBX.out
          omega
        generalize wf.drew = wh at sx0 ff kf qf ⊢
        have SH := Lib.hid sx0
        have FF := Lib.hid ff
        have KH := Lib.hid kf
        have QF := Lib.hid qf
        have NB := Lib.hid nb
        have NX := Lib.hid nx
        clear sx0 ff kf qf nb nx
        refine wpAnyH_take (i := 0) (v := obV (G x.1).k (G x.1).x (G x.1).n (G x.1).a (G x.1).l (G x.1).s) rfl (by kernel_rfl) (by kernel_rfl) (by kernel_rfl) (fun _ _ _ h => h) (Or.inl ⟨by rfl, fun wx hS => ?_⟩) SH.out ?_
        · obtain ⟨⟨c0, c1, c2, c3, c4, c5⟩, _⟩ := cells6 hS.1; go_simp
        try simp only [Act.put, List.getElem_toArray, List.getElem_cons_succ, List.getElem_cons_zero, List.setIfInBounds_toArray, List.set_cons_zero, List.set_cons_succ]
        refine wpAnyH_take (i := 1) (v := obV x.1.k x.1.x x.1.n x.1.a x.1.l x.1.s) rfl (by kernel_rfl) (by kernel_rfl) (by kernel_rfl) (fun _ _ _ h => h) (Or.inl ⟨by rfl, fun wx hS => ?_⟩) SH.out ?_
        · obtain ⟨⟨c0, c1, c2, c3, c4, c5⟩, _⟩ := cells6 hS.2; go_simp
        try simp only [Act.put, List.getElem_toArray, List.getElem_cons_succ, List.getElem_cons_zero, List.setIfInBounds_toArray, List.set_cons_zero, List.set_cons_succ]
        refine wpAnyH_ready (rs := [2]) (by kernel_rfl) (by simp) ?_
        refine AllReadyH.cons rfl (fun K hK => ?_) AllReadyH.nil
        obtain ⟨⟨o0, o1, o2, o3, o4, o5⟩, g0, g1, g2, g3, g4, g5⟩ := cells6 FF.out.v
        go_simp
        obtain ⟨wi, ef, bf, onf⟩ := set6_box FF.out.v (.int .i64 (G x.1).k) (.bool (G x.1).x) (.int .i64 (G x.1).n) (.int .i64 (G x.1).a) (.int .i64 (G x.1).l) (.string (G x.1).s)
        rw [ef]
        have FI := Lib.hid (FF.out.setV onf bf)
        have KI := Lib.hid (onf.below KH.out (by omega))
        have QI := Lib.hid (QF.out.trans (keeps_only onf (by have := HG.out; omega)))
        have SI : Hid (wi.heap[wd.heap.size]? = some (obObj (G x.1).k (G x.1).x (G x.1).n (G x.1).a (G x.1).l (G x.1).s) ∧ wi.heap[Bx]? = some (obObj x.1.k x.1.x x.1.n x.1.a x.1.l x.1.s)) := Lib.hid ⟨(onf.block _ NB.out.1).trans SH.out.1, (onf.block _ NX.out.1).trans SH.out.2⟩
        clear ef bf onf o0 o1 o2 o3 o4 o5 g0 g1 g2 g3 g4 g5
        refine hK.out _ _ SI.out (fun _ => ?_)
        clear hK
        try simp only [Act.put, List.getElem_toArray, List.getElem_cons_succ, List.getElem_cons_zero, List.setIfInBounds_toArray, List.set_cons_zero, List.set_cons_succ]
        refine wpAnyH_ready (rs := [3]) (by kernel_rfl) (by simp) ?_
        refine AllReadyH.cons rfl (fun K hK => ?_) AllReadyH.nil
        obtain ⟨⟨o0, o1, o2, o3, o4, o5⟩, g0, g1, g2, g3, g4, g5⟩ := cells6 FI.out.d
        go_simp
        obtain ⟨wj, ef, bf, onf⟩ := set6_box FI.out.d (.int .i64 x.1.k) (.bool x.1.x) (.int .i64 x.1.n) (.int .i64 x.1.a) (.int .i64 x.1.l) (.string x.1.s)
        rw [ef]
        have FJ := Lib.hid (FI.out.setD onf bf)
        have KJ := Lib.hid (onf.below KI.out (by omega))
        have QJ := Lib.hid (QI.out.trans (keeps_only onf (by have := HG.out; omega)))
        have SJ : Hid (wj.heap[wd.heap.size]? = some (obObj (G x.1).k (G x.1).x (G x.1).n (G x.1).a (G x.1).l (G x.1).s) ∧ wj.heap[Bx]? = some (obObj x.1.k x.1.x x.1.n x.1.a x.1.l x.1.s)) := Lib.hid ⟨(onf.block _ NB.out.2.1).trans SI.out.1, (onf.block _ NX.out.2.1).trans SI.out.2⟩
        clear ef bf onf o0 o1 o2 o3 o4 o5 g0 g1 g2 g3 g4 g5
        refine hK.out _ _ SJ.out (fun _ => ?_)
        clear hK
        try simp only [Act.put, List.getElem_toArray, List.getElem_cons_succ, List.getElem_cons_zero, List.setIfInBounds_toArray, List.set_cons_zero, List.set_cons_succ]
        refine wpAnyH_ready (rs := [4]) (by kernel_rfl) (by simp) ?_
        refine AllReadyH.cons rfl (fun K hK => ?_) AllReadyH.nil
        have c4 : wj.cell? ⟨w.heap.size + 4, 0, none⟩ = some (.int .i64 0) := cellAt FJ.out.e 0
        have g4 : wj.frozen? ⟨w.heap.size + 4, 0, none⟩ = false := freeAt FJ.out.e 0
        go_simp
        have fg := FJ.out.setE 0
        have kg : Below w.heap.size w (wj.setCell ⟨w.heap.size + 4, 0, none⟩ (.int .i64 0)) := KJ.out.setCell (p := ⟨w.heap.size + 4, 0, none⟩) (by simp) _
        have on4 : Only (w.heap.size + 4) wj (wj.setCell ⟨w.heap.size + 4, 0, none⟩ (.int .i64 0)) := (Only.refl _ _).set 0 _
        have qg := QJ.out.trans (keeps_only (B := wg.heap.size) on4 (by have := HG.out; omega))
        have sg : (wj.setCell ⟨w.heap.size + 4, 0, none⟩ (.int .i64 0)).heap[wd.heap.size]? = some (obObj (G x.1).k (G x.1).x (G x.1).n (G x.1).a (G x.1).l (G x.1).s) ∧ (wj.setCell ⟨w.heap.size + 4, 0, none⟩ (.int .i64 0)).heap[Bx]? = some (obObj x.1.k x.1.x x.1.n x.1.a x.1.l x.1.s) := ⟨(on4.block _ NB.out.2.2).trans SJ.out.1, (on4.block _ NX.out.2.2).trans SJ.out.2⟩
        clear c4 g4 on4
        generalize wj.setCell ⟨w.heap.size + 4, 0, none⟩ (.int .i64 0) = wk at fg kg qg sg ⊢
        have FK := Lib.hid fg
        have KK2 := Lib.hid kg
        have QK := Lib.hid qg
        have SK := Lib.hid sg
        clear fg kg qg sg
        refine hK.out _ _ SK.out (fun _ => ?_)
        clear hK
        try simp only [Act.put, List.getElem_toArray, List.getElem_cons_succ, List.getElem_cons_zero, List.setIfInBounds_toArray, List.set_cons_zero, List.set_cons_succ]
        refine wpAnyH_done (by kernel_rfl) ?_ _
        (try refine no_panic ?_)
        gi_wp2
        exact ⟨QK.out, pre, x, rfl, HNO.out, HQ.out, FK.out, KK2.out⟩
      · have HQ := Lib.hid hq
        gi_wp2
        exact ⟨keeps_below KF.out, KF.out.mono HZ.out, fun y hy => (List.mem_append.1 hy).elim (HNO.out y) (fun e => by simp at e; subst e; exact HQ.out), HF.out.below KF.out HF.out.z, below_and HB.out KF.out, Nat.le_trans HZ.out KF.out.size⟩
  case done =>
    rintro D xs W hD hxs ⟨hno, hF, hB, hz⟩ hK
    have HF := Lib.hid hF
    have HB := Lib.hid hB
    have HD := Lib.hid hD
    have HK := Lib.hid hK
    have HA : Hid (∀ d ∈ L, GE d ≠ 0) := Lib.hid fun d hd => by
      have : d ∈ xs.map Subtype.val := by rw [hxs]; simpa using hd
      obtain ⟨y, hy, rfl⟩ := List.mem_map.1 this
      exact hno y hy
    clear hno hF hB hz hK hD hxs
    show KK _ W
    refine HKK.out _ _ ?_
    go_upto_region 11 with fail
    have sx0 : FBox w.heap.size sb q Ob.zero Ob.zero 0 W.drew ∧ Below w.heap.size w W.drew ∧ W.drew.heap[D]? = some (.deferred (some [])) := ⟨HF.out.same fun _ _ _ => rfl, HB.out.drew, HK.out⟩
    (try refine wp_region_noPanic ?_)
    refine wp_region_held_drew (S := fun wx => wx.heap[w.heap.size + 2]? = some emptyOb ∧ wx.heap[w.heap.size + 3]? = some emptyOb) (by kernel_rfl) ⟨sx0.1.v, sx0.1.d⟩ (fun _ => ?_)
    generalize W.drew = wh at sx0 ⊢
    have X0 := Lib.hid sx0
    have SX : Hid (wh.heap[w.heap.size + 2]? = some emptyOb ∧ wh.heap[w.heap.size + 3]? = some emptyOb) := Lib.hid ⟨sx0.1.v, sx0.1.d⟩
    have nD : D ≠ w.heap.size + 2 ∧ D ≠ w.heap.size + 3 ∧ D ≠ w.heap.size + 4 := by
      have := HG.out
      have := HD.out
      omega
    have ND := Lib.hid nD
    clear sx0 nD
    refine wpAnyH_take (i := 0) (v := zeroOb) rfl (by kernel_rfl) (by kernel_rfl) (by kernel_rfl) (fun _ _ _ h => h) (Or.inl ⟨by rfl, fun wx hS => ?_⟩) SX.out ?_
    · obtain ⟨⟨c0, c1, c2, c3, c4, c5⟩, _⟩ := cells6 hS.1; go_simp
    try simp only [Act.put, List.getElem_toArray, List.getElem_cons_succ, List.getElem_cons_zero, List.setIfInBounds_toArray, List.set_cons_zero, List.set_cons_succ]
    refine wpAnyH_take (i := 1) (v := zeroOb) rfl (by kernel_rfl) (by kernel_rfl) (by kernel_rfl) (fun _ _ _ h => h) (Or.inl ⟨by rfl, fun wx hS => ?_⟩) SX.out ?_
    · obtain ⟨⟨c0, c1, c2, c3, c4, c5⟩, _⟩ := cells6 hS.2; go_simp
    try simp only [Act.put, List.getElem_toArray, List.getElem_cons_succ, List.getElem_cons_zero, List.setIfInBounds_toArray, List.set_cons_zero, List.set_cons_succ]
    refine wpAnyH_ready (rs := [2]) (by kernel_rfl) (by simp) ?_
    refine AllReadyH.cons rfl (fun K hK => ?_) AllReadyH.nil
    obtain ⟨⟨o0, o1, o2, o3, o4, o5⟩, g0, g1, g2, g3, g4, g5⟩ := cells6 X0.out.1.v
    go_simp
    obtain ⟨wi, ef, bf, onf⟩ := set6_box X0.out.1.v (.int .i64 0) (.bool false) (.int .i64 0) (.int .i64 0) (.int .i64 0) (.string ⟨#[]⟩)
    rw [ef]
    have X1 : Hid (FBox w.heap.size sb q Ob.zero Ob.zero 0 wi ∧ Below w.heap.size w wi ∧ wi.heap[D]? = some (.deferred (some []))) := Lib.hid ⟨X0.out.1.setV (o := Ob.zero) onf bf, onf.below X0.out.2.1 (by omega), (onf.block _ ND.out.1).trans X0.out.2.2⟩
    have SX1 : Hid (wi.heap[w.heap.size + 2]? = some emptyOb ∧ wi.heap[w.heap.size + 3]? = some emptyOb) := Lib.hid ⟨X1.out.1.v, X1.out.1.d⟩
    clear ef bf onf o0 o1 o2 o3 o4 o5 g0 g1 g2 g3 g4 g5
    refine hK.out _ _ SX1.out (fun _ => ?_)
    clear hK
    try simp only [Act.put, List.getElem_toArray, List.getElem_cons_succ, List.getElem_cons_zero, List.setIfInBounds_toArray, List.set_cons_zero, List.set_cons_succ]
    refine wpAnyH_ready (rs := [3]) (by kernel_rfl) (by simp) ?_
    refine AllReadyH.cons rfl (fun K hK => ?_) AllReadyH.nil
    obtain ⟨⟨o0, o1, o2, o3, o4, o5⟩, g0, g1, g2, g3, g4, g5⟩ := cells6 X1.out.1.d
    go_simp
    obtain ⟨wj, ef, bf, onf⟩ := set6_box X1.out.1.d (.int .i64 0) (.bool false) (.int .i64 0) (.int .i64 0) (.int .i64 0) (.string ⟨#[]⟩)
    rw [ef]
    have X2 : Hid (FBox w.heap.size sb q Ob.zero Ob.zero 0 wj ∧ Below w.heap.size w wj ∧ wj.heap[D]? = some (.deferred (some []))) := Lib.hid ⟨X1.out.1.setD (o := Ob.zero) onf bf, onf.below X1.out.2.1 (by omega), (onf.block _ ND.out.2.1).trans X1.out.2.2⟩
    have SX2 : Hid (wj.heap[w.heap.size + 2]? = some emptyOb ∧ wj.heap[w.heap.size + 3]? = some emptyOb) := Lib.hid ⟨X2.out.1.v, X2.out.1.d⟩
    clear ef bf onf o0 o1 o2 o3 o4 o5 g0 g1 g2 g3 g4 g5
    refine hK.out _ _ SX2.out (fun _ => ?_)
    clear hK
    try simp only [Act.put, List.getElem_toArray, List.getElem_cons_succ, List.getElem_cons_zero, List.setIfInBounds_toArray, List.set_cons_zero, List.set_cons_succ]
    refine wpAnyH_ready (rs := [4]) (by kernel_rfl) (by simp) ?_
    refine AllReadyH.cons rfl (fun K hK => ?_) AllReadyH.nil
    have c4 : wj.cell? ⟨w.heap.size + 4, 0, none⟩ = some (.int .i64 0) := cellAt X2.out.1.e 0
    have g4 : wj.frozen? ⟨w.heap.size + 4, 0, none⟩ = false := freeAt X2.out.1.e 0
    go_simp
    have x3 : FBox w.heap.size sb q Ob.zero Ob.zero 9 (wj.setCell ⟨w.heap.size + 4, 0, none⟩ (.int .i64 9)) ∧ Below w.heap.size w (wj.setCell ⟨w.heap.size + 4, 0, none⟩ (.int .i64 9)) ∧ (wj.setCell ⟨w.heap.size + 4, 0, none⟩ (.int .i64 9)).heap[D]? = some (.deferred (some [])) := ⟨X2.out.1.setE 9, X2.out.2.1.setCell (p := ⟨w.heap.size + 4, 0, none⟩) (by simp) _, (heap_setCell_other _ _ _ _ ND.out.2.2).trans X2.out.2.2⟩
    clear c4 g4
    generalize wj.setCell ⟨w.heap.size + 4, 0, none⟩ (.int .i64 9) = wk at x3 ⊢
    have X3 := Lib.hid x3
    have SX3 : Hid (wk.heap[w.heap.size + 2]? = some emptyOb ∧ wk.heap[w.heap.size + 3]? = some emptyOb) := Lib.hid ⟨x3.1.v, x3.1.d⟩
    clear x3
    refine hK.out _ _ SX3.out (fun _ => ?_)
    clear hK
    try simp only [Act.put, List.getElem_toArray, List.getElem_cons_succ, List.getElem_cons_zero, List.setIfInBounds_toArray, List.set_cons_zero, List.set_cons_succ]
    refine wpAnyH_done (by kernel_rfl) ?_ _
    (try refine no_panic ?_)
    go_wp2
    refine ⟨by simp, .inl ⟨_, _, rfl, run_takeDeferred X3.out.2.2, ?_⟩⟩
    have fz : FBox w.heap.size sb q Ob.zero Ob.zero 9 (wk.putObj D (.deferred none)) := X3.out.1.same fun j _ hj => World.putObj_heap_other (by have := HG.out; have := HD.out; omega)
    exact ⟨_, find_ret fz _ rfl rfl rfl, .inr ⟨HA.out, rfl⟩, X3.out.2.1.trans (belowK_b (w := w) (Nat.le_refl _) _ D _ _ (by have := KG.out.size; have := HD.out; omega) X3.out.2.2 rfl rfl)⟩
  case stop =>
    rintro D pre W hD ⟨k, hk, hp⟩ ⟨ini, last, rfl, hini, hlast, hF, hB⟩ hK
    gi_wp2
    refine ⟨by simp, .inl ⟨_, _, rfl, run_takeDeferred hK, ?_⟩⟩
    have fz : FBox w.heap.size sb q (G last.1) last.1 0 (W.putObj D (.deferred none)) := hF.same fun j _ hj => World.putObj_heap_other (by have := HG.out; omega)
    refine ⟨_, find_ret fz _ rfl rfl rfl, .inl ⟨last.1, ini.length, ?_, ?_, ?_, hlast, rfl⟩, hB.trans (belowK_b (w := w) (Nat.le_refl _) _ D _ _ (by have := KG.out.size; omega) hK rfl rfl)⟩
    · have := congrArg List.length hp
      simp at this
      omega
    · have h1 : (L.reverse.take k)[ini.length]? = some last.1 := by rw [← hp]; simp
      rw [List.getElem?_take] at h1
      split at h1
      · exact h1
      · cases h1
    · intro j d' hj hd'
      have h1 : (L.reverse.take k)[j]? = some (ini[j]).1 := by
        rw [← hp, List.map_append, List.getElem?_append_left (by simpa using hj)]
        simp [hj]
      rw [List.getElem?_take] at h1
      split at h1
      · rw [hd'] at h1
        cases h1
        exact hini _ (List.getElem_mem _)
      · cases h1
set_option maxHeartbeats 2000000 in
theorem find_key {hb sb : Nat} {v : Value} {L : List Ob} (kk kn ka kl : Int) (kx : Bool) (ks : ByteArray) (q : Ob) (E : Int) (hE : E ≠ 0) (w : World) (hS : Sco hb sb v L w)
    (hkey : Hid (∀ wx, Below w.heap.size w wx → Calls Try.prog 27 #[ptr hb, obV kk kx kn ka kl ks] wx fun e w' => e = .returned (.tuple #[obV q.k q.x q.n q.a q.l q.s, .int .i64 E]) ∧ Below wx.heap.size wx w')) :
    Calls Try.prog 10 #[ptr sb, obV kk kx kn ka kl ks] w fun e w' => e = .returned (.tuple #[zeroOb, zeroOb, .int .i64 E]) ∧ Below w.heap.size w w' := by
  have HS := Lib.hid hS
  have hn := Lib.hid (fun wx (kx : Below w.heap.size w wx) => scNone (hS.below kx))
  clear hS
  have HE : (E != 0) = true := by simpa using hE
  go_enter Try.func10, Try.ntmps10
  go_upto_region 1 with fail
  obtain ⟨w1, e1, f1, k1⟩ := FBox.start w sb kk kn ka kl kx ks
  rw [e1]
  have F1 := Lib.hid f1
  have K1 := Lib.hid k1
  have c0 : w1.cell? ⟨w.heap.size, 0, none⟩ = some (ptr sb) := cellAt f1.s 0
  clear e1 f1 k1
  go_wp2_with fail
  refine (hn.out _ K1.out).mono ?_
  rintro e wb ⟨rfl, rfl⟩
  clear c0
  go_upto_region 3 with fail
  have sx0 : w1.drew.heap[w.heap.size]? = some (.cells #[ptr sb] 25 (0, 0)) ∧ w1.drew.cell? ⟨sb, 0, none⟩ = some (ptr hb) := ⟨F1.out.s, (HS.out.below K1.out).cell0⟩
  (try refine wp_region_noPanic ?_)
  refine wp_region_held_drew (S := fun wx => wx.heap[w.heap.size]? = some (.cells #[ptr sb] 25 (0, 0)) ∧ wx.cell? ⟨sb, 0, none⟩ = some (ptr hb)) (by kernel_rfl) sx0 (fun _ => ?_)
  have fd : FBox w.heap.size sb ⟨kk, kx, kn, ka, kl, ks⟩ Ob.zero Ob.zero 0 w1.drew := F1.out.same fun _ _ _ => rfl
  have kd : Below w.heap.size w w1.drew := K1.out.drew
  generalize w1.drew = wd at sx0 fd kd ⊢
  have SX := Lib.hid sx0
  have FD := Lib.hid fd
  have KD := Lib.hid kd
  clear sx0 fd kd
  refine wpAnyH_take (i := 0) (v := ptr sb) rfl (by kernel_rfl) (by kernel_rfl) (by kernel_rfl) (fun _ _ _ h => h) (Or.inl ⟨by rfl, fun wx hS => ?_⟩) SX.out ?_
  · have c0 := cellAt hS.1 0; go_simp
  try simp only [Act.put, List.getElem_toArray, List.getElem_cons_succ, List.getElem_cons_zero, List.setIfInBounds_toArray, List.set_cons_zero, List.set_cons_succ]
  refine wpAnyH_take (i := 1) (v := ptr sb) rfl (by kernel_rfl) (by kernel_rfl) (by kernel_rfl) (fun _ _ _ h => h) (Or.inl ⟨by rfl, fun wx hS => ?_⟩) SX.out ?_
  · go_simp
  try simp only [Act.put, List.getElem_toArray, List.getElem_cons_succ, List.getElem_cons_zero, List.setIfInBounds_toArray, List.set_cons_zero, List.set_cons_succ]
  refine wpAnyH_take (i := 2) (v := .pointer (some ⟨sb, 0, none⟩)) rfl (by kernel_rfl) (by kernel_rfl) (by kernel_rfl) (fun _ _ _ h => h) (Or.inl ⟨by rfl, fun wx hS => ?_⟩) SX.out ?_
  · go_simp
  try simp only [Act.put, List.getElem_toArray, List.getElem_cons_succ, List.getElem_cons_zero, List.setIfInBounds_toArray, List.set_cons_zero, List.set_cons_succ]
  refine wpAnyH_take (i := 3) (v := ptr hb) rfl (by kernel_rfl) (by kernel_rfl) (by kernel_rfl) (fun _ _ _ h => h) (Or.inl ⟨by rfl, fun wx hS => ?_⟩) SX.out ?_
  · have c0 := hS.2; go_simp
  try simp only [Act.put, List.getElem_toArray, List.getElem_cons_succ, List.getElem_cons_zero, List.setIfInBounds_toArray, List.set_cons_zero, List.set_cons_succ]
  refine wpAnyH_ready (rs := [4]) (by kernel_rfl) (by simp) ?_
  refine AllReadyH.cons rfl (fun K hK => ?_) AllReadyH.nil
  obtain ⟨⟨o0, o1, o2, o3, o4, o5⟩, _⟩ := cells6 FD.out.k
  go_simp
  clear o0 o1 o2 o3 o4 o5
  refine hK.out _ _ SX.out (fun _ => ?_)
  clear hK
  try simp only [Act.put, List.getElem_toArray, List.getElem_cons_succ, List.getElem_cons_zero, List.setIfInBounds_toArray, List.set_cons_zero, List.set_cons_succ]
  refine wpAnyH_ready (rs := [5]) (by kernel_rfl) (by simp) ?_
  refine AllReadyH.cons rfl (fun K hK => ?_) AllReadyH.nil
  go_simp
  refine (hkey.out _ KD.out).mono ?_
  rintro e wp ⟨rfl, kp⟩
  have FP := Lib.hid (FD.out.below kp FD.out.z)
  have KP := Lib.hid (below_and KD.out kp)
  have SP : Hid (wp.heap[w.heap.size]? = some (.cells #[ptr sb] 25 (0, 0)) ∧ wp.cell? ⟨sb, 0, none⟩ = some (ptr hb)) := Lib.hid ⟨FP.out.s, (HS.out.below KP.out).cell0⟩
  clear kp
  refine hK.out _ _ SP.out (fun _ => ?_)
  clear hK
  try simp only [Act.put, List.getElem_toArray, List.getElem_cons_succ, List.getElem_cons_zero, List.setIfInBounds_toArray, List.set_cons_zero, List.set_cons_succ]
  refine wpAnyH_take (i := 6) (v := .tuple #[obV q.k q.x q.n q.a q.l q.s, .int .i64 E]) rfl (by kernel_rfl) (by kernel_rfl) (by kernel_rfl) (fun _ _ _ h => h) (Or.inl ⟨by rfl, fun wx hS => ?_⟩) SP.out ?_
  · go_simp
  try simp only [Act.put, List.getElem_toArray, List.getElem_cons_succ, List.getElem_cons_zero, List.setIfInBounds_toArray, List.set_cons_zero, List.set_cons_succ]
  refine wpAnyH_take (i := 7) (v := obV q.k q.x q.n q.a q.l q.s) rfl (by kernel_rfl) (by kernel_rfl) (by kernel_rfl) (fun _ _ _ h => h) (Or.inl ⟨by rfl, fun wx hS => ?_⟩) SP.out ?_
  · go_simp
  try simp only [Act.put, List.getElem_toArray, List.getElem_cons_succ, List.getElem_cons_zero, List.setIfInBounds_toArray, List.set_cons_zero, List.set_cons_succ]
  refine wpAnyH_take (i := 8) (v := .int .i64 E) rfl (by kernel_rfl) (by kernel_rfl) (by kernel_rfl) (fun _ _ _ h => h) (Or.inl ⟨by rfl, fun wx hS => ?_⟩) SP.out ?_
  · go_simp
  try simp only [Act.put, List.getElem_toArray, List.getElem_cons_succ, List.getElem_cons_zero, List.setIfInBounds_toArray, List.set_cons_zero, List.set_cons_succ]
  refine wpAnyH_ready (rs := [9]) (by kernel_rfl) (by simp) ?_
  refine AllReadyH.cons rfl (fun K hK => ?_) AllReadyH.nil
  obtain ⟨⟨o0, o1, o2, o3, o4, o5⟩, g0, g1, g2, g3, g4, g5⟩ := cells6 FP.out.k
  go_simp
  obtain ⟨wf, ef, bf, onf⟩ := set6_box FP.out.k (.int .i64 q.k) (.bool q.x) (.int .i64 q.n) (.int .i64 q.a) (.int .i64 q.l) (.string q.s)
  rw [ef]
  have FF := Lib.hid (FP.out.setK onf bf)
  have KF := Lib.hid (onf.below KP.out (by omega))
  have SF : Hid (wf.heap[w.heap.size]? = some (.cells #[ptr sb] 25 (0, 0)) ∧ wf.cell? ⟨sb, 0, none⟩ = some (ptr hb)) := Lib.hid ⟨FF.out.s, (HS.out.below KF.out).cell0⟩
  clear ef bf onf o0 o1 o2 o3 o4 o5 g0 g1 g2 g3 g4 g5
  refine hK.out _ _ SF.out (fun _ => ?_)
  clear hK
  try simp only [Act.put, List.getElem_toArray, List.getElem_cons_succ, List.getElem_cons_zero, List.setIfInBounds_toArray, List.set_cons_zero, List.set_cons_succ]
  refine wpAnyH_ready (rs := [10]) (by kernel_rfl) (by simp) ?_
  refine AllReadyH.cons rfl (fun K hK => ?_) AllReadyH.nil
  have c4 : wf.cell? ⟨w.heap.size + 4, 0, none⟩ = some (.int .i64 0) := cellAt FF.out.e 0
  have g4 : wf.frozen? ⟨w.heap.size + 4, 0, none⟩ = false := freeAt FF.out.e 0
  go_simp
  have fg := FF.out.setE E
  have kg : Below w.heap.size w (wf.setCell ⟨w.heap.size + 4, 0, none⟩ (.int .i64 E)) := KF.out.setCell (p := ⟨w.heap.size + 4, 0, none⟩) (by simp) _
  clear c4 g4
  generalize wf.setCell ⟨w.heap.size + 4, 0, none⟩ (.int .i64 E) = wg at fg kg ⊢
  have FG := Lib.hid fg
  have KG := Lib.hid kg
  have SG : Hid (wg.heap[w.heap.size]? = some (.cells #[ptr sb] 25 (0, 0)) ∧ wg.cell? ⟨sb, 0, none⟩ = some (ptr hb)) := Lib.hid ⟨fg.s, (HS.out.below kg).cell0⟩
  clear fg kg
  refine hK.out _ _ SG.out (fun _ => ?_)
  clear hK
  try simp only [Act.put, List.getElem_toArray, List.getElem_cons_succ, List.getElem_cons_zero, List.setIfInBounds_toArray, List.set_cons_zero, List.set_cons_succ]
  refine wpAnyH_done (by kernel_rfl) ?_ _
  (try refine no_panic ?_)
  have c4 : wg.cell? ⟨w.heap.size + 4, 0, none⟩ = some (.int .i64 E) := cellAt FG.out.e 0
  go_upto_region 5 with fail
  clear c4
  have sx0 : FBox w.heap.size sb q Ob.zero Ob.zero E wg.drew ∧ Below w.heap.size w wg.drew := ⟨FG.out.same fun _ _ _ => rfl, KG.out.drew⟩
  (try refine wp_region_noPanic ?_)
  refine wp_region_held_drew (S := fun wx => wx.heap[w.heap.size + 2]? = some emptyOb ∧ wx.heap[w.heap.size + 3]? = some emptyOb ∧ wx.heap[w.heap.size + 4]? = some (.cells #[.int .i64 E] 26 (0, 0))) (by kernel_rfl) ⟨sx0.1.v, sx0.1.d, sx0.1.e⟩ (fun _ => ?_)
  generalize wg.drew = wh at sx0 ⊢
  have X0 := Lib.hid sx0
  have SX : Hid (wh.heap[w.heap.size + 2]? = some emptyOb ∧ wh.heap[w.heap.size + 3]? = some emptyOb ∧ wh.heap[w.heap.size + 4]? = some (.cells #[.int .i64 E] 26 (0, 0))) := Lib.hid ⟨sx0.1.v, sx0.1.d, sx0.1.e⟩
  clear sx0
  refine wpAnyH_take (i := 0) (v := zeroOb) rfl (by kernel_rfl) (by kernel_rfl) (by kernel_rfl) (fun _ _ _ h => h) (Or.inl ⟨by rfl, fun wx hS => ?_⟩) SX.out ?_
  · obtain ⟨⟨c0, c1, c2, c3, c4, c5⟩, _⟩ := cells6 hS.1; go_simp
  try simp only [Act.put, List.getElem_toArray, List.getElem_cons_succ, List.getElem_cons_zero, List.setIfInBounds_toArray, List.set_cons_zero, List.set_cons_succ]
  refine wpAnyH_take (i := 1) (v := zeroOb) rfl (by kernel_rfl) (by kernel_rfl) (by kernel_rfl) (fun _ _ _ h => h) (Or.inl ⟨by rfl, fun wx hS => ?_⟩) SX.out ?_
  · obtain ⟨⟨c0, c1, c2, c3, c4, c5⟩, _⟩ := cells6 hS.2.1; go_simp
  try simp only [Act.put, List.getElem_toArray, List.getElem_cons_succ, List.getElem_cons_zero, List.setIfInBounds_toArray, List.set_cons_zero, List.set_cons_succ]
  refine wpAnyH_take (i := 2) (v := .int .i64 E) rfl (by kernel_rfl) (by kernel_rfl) (by kernel_rfl) (fun _ _ _ h => h) (Or.inl ⟨by rfl, fun wx hS => ?_⟩) SX.out ?_
  · have c0 := cellAt hS.2.2 0; go_simp
  try simp only [Act.put, List.getElem_toArray, List.getElem_cons_succ, List.getElem_cons_zero, List.setIfInBounds_toArray, List.set_cons_zero, List.set_cons_succ]
  refine wpAnyH_ready (rs := [3]) (by kernel_rfl) (by simp) ?_
  refine AllReadyH.cons rfl (fun K hK => ?_) AllReadyH.nil
  obtain ⟨⟨o0, o1, o2, o3, o4, o5⟩, g0, g1, g2, g3, g4, g5⟩ := cells6 X0.out.1.v
  go_simp
  obtain ⟨wi, ef, bf, onf⟩ := set6_box X0.out.1.v (.int .i64 0) (.bool false) (.int .i64 0) (.int .i64 0) (.int .i64 0) (.string ⟨#[]⟩)
  rw [ef]
  have X1 : Hid (FBox w.heap.size sb q Ob.zero Ob.zero E wi ∧ Below w.heap.size w wi) := Lib.hid ⟨X0.out.1.setV (o := Ob.zero) onf bf, onf.below X0.out.2 (by omega)⟩
  have SX1 : Hid (wi.heap[w.heap.size + 2]? = some emptyOb ∧ wi.heap[w.heap.size + 3]? = some emptyOb ∧ wi.heap[w.heap.size + 4]? = some (.cells #[.int .i64 E] 26 (0, 0))) := Lib.hid ⟨X1.out.1.v, X1.out.1.d, X1.out.1.e⟩
  clear ef bf onf o0 o1 o2 o3 o4 o5 g0 g1 g2 g3 g4 g5
  refine hK.out _ _ SX1.out (fun _ => ?_)
  clear hK
  try simp only [Act.put, List.getElem_toArray, List.getElem_cons_succ, List.getElem_cons_zero, List.setIfInBounds_toArray, List.set_cons_zero, List.set_cons_succ]
  refine wpAnyH_ready (rs := [4]) (by kernel_rfl) (by simp) ?_
  refine AllReadyH.cons rfl (fun K hK => ?_) AllReadyH.nil
  obtain ⟨⟨o0, o1, o2, o3, o4, o5⟩, g0, g1, g2, g3, g4, g5⟩ := cells6 X1.out.1.d
  go_simp
  obtain ⟨wj, ef, bf, onf⟩ := set6_box X1.out.1.d (.int .i64 0) (.bool false) (.int .i64 0) (.int .i64 0) (.int .i64 0) (.string ⟨#[]⟩)
  rw [ef]
  have X2 : Hid (FBox w.heap.size sb q Ob.zero Ob.zero E wj ∧ Below w.heap.size w wj) := Lib.hid ⟨X1.out.1.setD (o := Ob.zero) onf bf, onf.below X1.out.2 (by omega)⟩
  have SX2 : Hid (wj.heap[w.heap.size + 2]? = some emptyOb ∧ wj.heap[w.heap.size + 3]? = some emptyOb ∧ wj.heap[w.heap.size + 4]? = some (.cells #[.int .i64 E] 26 (0, 0))) := Lib.hid ⟨X2.out.1.v, X2.out.1.d, X2.out.1.e⟩
  clear ef bf onf o0 o1 o2 o3 o4 o5 g0 g1 g2 g3 g4 g5
  refine hK.out _ _ SX2.out (fun _ => ?_)
  clear hK
  try simp only [Act.put, List.getElem_toArray, List.getElem_cons_succ, List.getElem_cons_zero, List.setIfInBounds_toArray, List.set_cons_zero, List.set_cons_succ]
  refine wpAnyH_ready (rs := [5]) (by kernel_rfl) (by simp) ?_
  refine AllReadyH.cons rfl (fun K hK => ?_) AllReadyH.nil
  have c4 : wj.cell? ⟨w.heap.size + 4, 0, none⟩ = some (.int .i64 E) := cellAt X2.out.1.e 0
  have g4 : wj.frozen? ⟨w.heap.size + 4, 0, none⟩ = false := freeAt X2.out.1.e 0
  go_simp
  have x3 : FBox w.heap.size sb q Ob.zero Ob.zero E (wj.setCell ⟨w.heap.size + 4, 0, none⟩ (.int .i64 E)) ∧ Below w.heap.size w (wj.setCell ⟨w.heap.size + 4, 0, none⟩ (.int .i64 E)) := ⟨X2.out.1.setE E, X2.out.2.setCell (p := ⟨w.heap.size + 4, 0, none⟩) (by simp) _⟩
  clear c4 g4
  generalize wj.setCell ⟨w.heap.size + 4, 0, none⟩ (.int .i64 E) = wk at x3 ⊢
  have X3 := Lib.hid x3
  have SX3 : Hid (wk.heap[w.heap.size + 2]? = some emptyOb ∧ wk.heap[w.heap.size + 3]? = some emptyOb ∧ wk.heap[w.heap.size + 4]? = some (.cells #[.int .i64 E] 26 (0, 0))) := Lib.hid ⟨x3.1.v, x3.1.d, x3.1.e⟩
  clear x3
  refine hK.out _ _ SX3.out (fun _ => ?_)
  clear hK
  try simp only [Act.put, List.getElem_toArray, List.getElem_cons_succ, List.getElem_cons_zero, List.setIfInBounds_toArray, List.set_cons_zero, List.set_cons_succ]
  refine wpAnyH_done (by kernel_rfl) ?_ _
  (try refine no_panic ?_)
  go_wp2
  (try simp only [Exit.inBlock, Exit.then])
  exact bodyPost_ret (find_ret X3.out.1 _ rfl rfl rfl) rfl ⟨rfl, X3.out.2⟩

/-- The dictionary that an object is. -/
def dcOf (ds : List Dc) (d : Ob) : Dc := ds.getD d.n.toNat ⟨[], 0, false⟩
theorem dcOf_get {ds : List Dc} {d : Ob} (h : IsD ds.length d) : ds[d.n.toNat]? = some (dcOf ds d) := by
  rw [dcOf, List.getD_eq_getElem?_getD, List.getElem?_eq_getElem h.lt]
  rfl
/-- The first dictionary from the top down that has a key; what Find returns. -/
def topD (ds : List Dc) (L : List Ob) (q : Ob) : Option Ob := L.reverse.find? fun d => decide (dgetE (HD ds) (dcOf ds d).ps q = 0)
def fndE (ds : List Dc) (L : List Ob) (k : Ob) : Int := if keyE (HD ds) k = 0 then (if (topD ds L (keyO (HD ds) k)).isSome then 0 else 9) else keyE (HD ds) k
def fndO (ds : List Dc) (L : List Ob) (k : Ob) : Ob := if keyE (HD ds) k = 0 then (topD ds L (keyO (HD ds) k)).getD Ob.zero else Ob.zero
def fndV (ds : List Dc) (L : List Ob) (k : Ob) : Ob := if keyE (HD ds) k = 0 then (match topD ds L (keyO (HD ds) k) with | some d => dgetO (HD ds) (dcOf ds d).ps (keyO (HD ds) k) | none => Ob.zero) else Ob.zero
theorem find_rev {L : List Ob} {f : Ob → Bool} {k : Nat} {d : Ob} (hk : L[k]? = some d) (hd : f d = true) (hj : ∀ j d', j < k → L[j]? = some d' → f d' = false) : L.find? f = some d := by
  have hl := (List.getElem?_eq_some_iff.1 hk).1
  rw [List.find?_eq_some_iff_getElem]
  refine ⟨hd, k, hl, (List.getElem?_eq_some_iff.1 hk).2, fun j hjk => ?_⟩
  have := hj j _ hjk (List.getElem?_eq_getElem (by omega))
  simp [this]
theorem scFind {own : Nat → Prop} {hb sb : Nat} {ds : List Dc} {v : Value} {L : List Ob} {w : World} (h2 : Sco hb sb v L w) (h1 : Sep own hb (HD ds) w) (ok : DsOk ds) (h7 : ∀ d ∈ L, IsD ds.length d) (k : Ob) :
    Calls Try.prog 10 #[ptr sb, k.val] w fun e w' => e = .returned (.tuple #[(fndV ds L k).val, (fndO ds L k).val, .int .i64 (fndE ds L k)]) ∧ Below w.heap.size w w' := by
  show Calls Try.prog 10 #[ptr sb, obV k.k k.x k.n k.a k.l k.s] w _
  by_cases hE : keyE (HD ds) k = 0
  · refine (find_loop k.k k.n k.a k.l k.x k.s (keyO (HD ds) k) (fun d => dgetO (HD ds) (dcOf ds d).ps (keyO (HD ds) k)) (fun d => dgetE (HD ds) (dcOf ds d).ps (keyO (HD ds) k)) w h2 (Lib.hid fun wx kx => ?_) (Lib.hid fun wx d hd kx => ?_)).mono ?_
    · have := hKey (h1.below kx).1 k
      rw [hE] at this
      exact this
    · exact hGet (h1.below kx).1 ok (h7 d hd) (dcOf_get (h7 d hd)) (keyO (HD ds) k)
    · rintro e w' ⟨⟨d, j, hj, hd, hno, hyes, rfl⟩ | ⟨hno, rfl⟩, kb⟩
      · have ht : topD ds L (keyO (HD ds) k) = some d := find_rev hd (by simpa using hyes) fun j' d' hj' hd' => by simpa using hno j' d' hj' hd'
        refine ⟨?_, kb⟩
        simp [fndV, fndO, fndE, hE, ht, Ob.val]
      · have ht : topD ds L (keyO (HD ds) k) = none := List.find?_eq_none.2 fun d hd => by simpa using hno d (by simpa using hd)
        refine ⟨?_, kb⟩
        simp [fndV, fndO, fndE, hE, ht, Ob.val, Ob.zero]
  · refine (find_key k.k k.n k.a k.l k.x k.s (keyO (HD ds) k) (keyE (HD ds) k) hE w h2 (Lib.hid fun wx kx => hKey (h1.below kx).1 k)).mono ?_
    rintro e w' ⟨rfl, kb⟩
    exact ⟨by simp [fndV, fndO, fndE, hE, Ob.val, Ob.zero], kb⟩
theorem xFind {out : Nat → Prop} {hb sb : Nat} {ds : List Dc} {L : List Ob} {w : World} (h : SC out hb sb ds L w) (k : Ob) :
    Calls Try.prog 10 #[ptr sb, k.val] w fun e w' => e = .returned (.tuple #[(fndV ds L k).val, (fndO ds L k).val, .int .i64 (fndE ds L k)]) ∧ Below w.heap.size w w' := by
  obtain ⟨own, v, h1, h2, h3, h4, h5, h6, h7⟩ := h
  exact scFind h2 h1 h6 h7 k
/-- The dictionary that Find finds is one of the scope's. -/
theorem fndO_mem {ds : List Dc} {L : List Ob} {k : Ob} (h : fndE ds L k = 0) : fndO ds L k ∈ L := by
  unfold fndE at h
  unfold fndO
  split at h
  · rename_i hk
    rw [if_pos hk]
    cases ht : topD ds L (keyO (HD ds) k) with
    | none => simp [ht] at h
    | some d => simpa using List.mem_of_find?_eq_some ht
  · rename_i hk
    exact absurd h hk
end Go.Proofs.Ytlkbnldpecolbaa
