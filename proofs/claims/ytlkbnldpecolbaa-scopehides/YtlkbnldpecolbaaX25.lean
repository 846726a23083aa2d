/- X25: P7, V1, V2, V3. -/
import Derived.Test.YtlkbnldpecolbaaX24
import GoSem.Claim
import Derived.KernelRfl
import Derived.Test.YtlkbnldpecolbaaX09
import Derived.Lib.OthersKept
import Derived.LoopTactic
import Derived.WalkSmall
/- Walks of scope: Def, isLowest, Store. -/
namespace Go.Proofs.Ytlkbnldpecolbaa
open Go.RowKit
set_option linter.unusedVariables false
set_option linter.unusedSimpArgs false
set_option maxRecDepth 100000
set_option maxHeartbeats 1000000

section
variable {out : Nat → Prop} {hb sb : Nat} {ds : List Dc} {L : List Ob} {w : World}
/-- Two boxes more. -/
theorem SC.two (h : SC out hb sb ds L w) (k v : Ob) : ∃ wb, (w.alloc (.cells #[.int .i64 k.k, .bool k.x, .int .i64 k.n, .int .i64 k.a, .int .i64 k.l, .string k.s] 30)).alloc (.cells #[.int .i64 v.k, .bool v.x, .int .i64 v.n, .int .i64 v.a, .int .i64 v.l, .string v.s] 30) = wb ∧ SC (fun b => out b ∨ b = w.heap.size ∨ b = w.heap.size + 1) hb sb ds L wb ∧ Below w.heap.size w wb ∧ wb.heap.size = w.heap.size + 2 ∧ wb.heap[w.heap.size]? = some (obObj k.k k.x k.n k.a k.l k.s) ∧ wb.heap[w.heap.size + 1]? = some (obObj v.k v.x v.n v.a v.l v.s) := by
  refine ⟨_, rfl, ((h.box (.cells #[.int .i64 k.k, .bool k.x, .int .i64 k.n, .int .i64 k.a, .int .i64 k.l, .string k.s] 30)).box (.cells #[.int .i64 v.k, .bool v.x, .int .i64 v.n, .int .i64 v.a, .int .i64 v.l, .string v.s] 30)).sub ?_, below_and (box_below _ _) (box_below _ _), by simp, (heap_alloc_old _ _ (by simp)).trans (heap_alloc_new _ _), ?_⟩
  · rintro b (q | q | q)
    · exact .inl (.inl q)
    · exact .inl (.inr q)
    · exact .inr (by simpa using q)
  · have := heap_alloc_new (w.alloc (.cells #[.int .i64 k.k, .bool k.x, .int .i64 k.n, .int .i64 k.a, .int .i64 k.l, .string k.s] 30)) (.cells #[.int .i64 v.k, .bool v.x, .int .i64 v.n, .int .i64 v.a, .int .i64 v.l, .string v.s] 30)
    rwa [World.size_alloc] at this
theorem xNone (h : SC out hb sb ds L w) : Calls Try.prog 42 #[ptr sb] w fun e w' => e = .returned (.bool false) ∧ w = w' := by
  obtain ⟨own, v, h1, h2, h3, h4, h5, h6, h7⟩ := h
  exact scNone h2
theorem row_blk {hb sb : Nat} {v : Value} {L : List Ob} {wd : World} (h2 : Sco hb sb v L wd) {m : Nat} {d : Ob} (hd : L[m]? = some d) : ∃ g cap, v = .slice (some ⟨g, 0, none⟩) L.length cap ∧ ∀ wx : World, wx.heap[g]? = wd.heap[g]? →
    wx.cell? ⟨g, m * 6, none⟩ = some (.int .i64 d.k) ∧ wx.cell? ⟨g, m * 6 + 1, none⟩ = some (.bool d.x) ∧ wx.cell? ⟨g, m * 6 + 2, none⟩ = some (.int .i64 d.n) ∧ wx.cell? ⟨g, m * 6 + 3, none⟩ = some (.int .i64 d.a) ∧ wx.cell? ⟨g, m * 6 + 4, none⟩ = some (.int .i64 d.l) ∧ wx.cell? ⟨g, m * 6 + 5, none⟩ = some (.string d.s) := by
  obtain ⟨g, cap, e, c0, c1, c2, c3, c4, c5⟩ := row_item h2.row hd
  refine ⟨g, cap, e, fun wx hx => ?_⟩
  have q : ∀ j, wx.cell? ⟨g, j, none⟩ = wd.cell? ⟨g, j, none⟩ := fun j => World.cell?_of_block hx
  exact ⟨(q _).trans c0, (q _).trans c1, (q _).trans c2, (q _).trans c3, (q _).trans c4, (q _).trans c5⟩
theorem xDef (h : SC out hb sb ds L w) {m : Nat} {d : Ob} {c : Dc} (hm : L.length = m + 1) (hd : L[m]? = some d) (hc : ds[d.n.toNat]? = some c) (k v : Ob) :
    Calls Try.prog 14 #[ptr sb, k.val, v.val] w fun e w' => e = .returned (.int .i64 (dsetE (HD ds) c.ps c.rm c.lk k v)) ∧ SC out hb sb (setD ds c d k v) L w' ∧ Kept out w w' := by
  show Calls Try.prog 14 #[ptr sb, obV k.k k.x k.n k.a k.l k.s, obV v.k v.x v.n v.a v.l v.s] w _
  have H := Lib.hid h
  have HDL := Lib.hid hd
  have HM := Lib.hid hm
  have HC := Lib.hid hc
  obtain ⟨E, hE⟩ : ∃ E, dsetE (HD ds) c.ps c.rm c.lk k v = E := ⟨_, rfl⟩
  rw [hE]
  have HE := Lib.hid hE
  clear h hm hd hc hE
  go_enter Try.func14, Try.ntmps14
  go_upto_region 1 with fail
  obtain ⟨wb, eb, sb2, kb, zb, b0, b1⟩ := H.out.two k v
  rw [eb]
  have SB := Lib.hid sb2
  have KB := Lib.hid kb
  have B0 := Lib.hid b0
  have B1 := Lib.hid b1
  clear eb sb2 kb zb b0 b1
  go_wp2_with fail
  refine (xNone SB.out).mono ?_
  rintro e wc ⟨rfl, rfl⟩
  go_upto_region 3 with fail
  have kd : Below wb.heap.size wb wb.drew := (Below.refl _ _).drew
  have sd := SB.out.below kd
  have b0 : wb.drew.heap[w.heap.size]? = some (obObj k.k k.x k.n k.a k.l k.s) := B0.out
  have b1 : wb.drew.heap[w.heap.size + 1]? = some (obObj v.k v.x v.n v.a v.l v.s) := B1.out
  have kw : Below w.heap.size w wb.drew := KB.out.drew
  obtain ⟨own, u, h1, h2, h3, h4, h5, h6, h7⟩ := sd
  obtain ⟨g, cap, rfl, hit⟩ := row_blk h2 HDL.out
  have hg : own g := h4 g rfl
  have dD := h7 d (List.mem_of_getElem? HDL.out)
  (try refine wp_region_noPanic ?_)
  refine wp_region_held_drew (S := fun wx => wx.heap[sb]? = some (.cells #[ptr hb, .slice (some ⟨g, 0, none⟩) L.length cap] 76 (0, 0)) ∧ wx.heap[g]? = wb.drew.heap[g]? ∧ wx.heap[w.heap.size]? = some (obObj k.k k.x k.n k.a k.l k.s) ∧ wx.heap[w.heap.size + 1]? = some (obObj v.k v.x v.n v.a v.l v.s)) (by kernel_rfl) ⟨h2.hdr, rfl, b0, b1⟩ (fun sx0 => ?_)
  generalize wb.drew = wd at kd b0 b1 kw h1 h2 hit sx0 ⊢
  have SX := Lib.hid sx0
  have HI := Lib.hid hit
  have H1 := Lib.hid h1
  have H2 := Lib.hid h2
  have H3 := Lib.hid h3
  have H4 := Lib.hid h4
  have H5 := Lib.hid h5
  have H6 := Lib.hid h6
  have H7 := Lib.hid h7
  have HG := Lib.hid hg
  have DD := Lib.hid dD
  have KW := Lib.hid kw
  have e1 : IntKind.i64.wrap ((L.length : Int) - 1) = (m : Int) := by
    have := h2.len
    rw [IntWalk.i64_in _ (by omega)]
    have := HM.out
    omega
  have t0 : (0 : Int) ≤ m := by omega
  have t1 : (m : Int) < L.length := by have := HM.out; omega
  have EE := Lib.hid (And.intro e1 (And.intro t0 t1))
  clear kd b0 b1 kw h1 h2 h3 h4 h5 h6 h7 hit sx0 hg dD e1 t0 t1
  refine wpAnyH_take (i := 0) (v := ptr sb) rfl (by kernel_rfl) (by kernel_rfl) (by kernel_rfl) (fun _ _ _ h => h) (Or.inl ⟨by rfl, fun wx hS => ?_⟩) SX.out ?_
  · go_simp
  try simp only [Act.put, List.getElem_toArray, List.getElem_cons_succ, List.getElem_cons_zero, List.setIfInBounds_toArray, List.set_cons_zero, List.set_cons_succ]
  refine wpAnyH_take (i := 1) (v := ptr sb) rfl (by kernel_rfl) (by kernel_rfl) (by kernel_rfl) (fun _ _ _ h => h) (Or.inl ⟨by rfl, fun wx hS => ?_⟩) SX.out ?_
  · go_simp
  try simp only [Act.put, List.getElem_toArray, List.getElem_cons_succ, List.getElem_cons_zero, List.setIfInBounds_toArray, List.set_cons_zero, List.set_cons_succ]
  refine wpAnyH_take (i := 2) (v := .pointer (some ⟨sb, 0, none⟩)) rfl (by kernel_rfl) (by kernel_rfl) (by kernel_rfl) (fun _ _ _ h => h) (Or.inl ⟨by rfl, fun wx hS => ?_⟩) SX.out ?_
  · go_simp
  try simp only [Act.put, List.getElem_toArray, List.getElem_cons_succ, List.getElem_cons_zero, List.setIfInBounds_toArray, List.set_cons_zero, List.set_cons_succ]
  refine wpAnyH_take (i := 3) (v := ptr hb) rfl (by kernel_rfl) (by kernel_rfl) (by kernel_rfl) (fun _ _ _ h => h) (Or.inl ⟨by rfl, fun wx hS => ?_⟩) SX.out ?_
  · have c0 := cellAt hS.1 0; go_simp
  try simp only [Act.put, List.getElem_toArray, List.getElem_cons_succ, List.getElem_cons_zero, List.setIfInBounds_toArray, List.set_cons_zero, List.set_cons_succ]
  refine wpAnyH_take (i := 4) (v := ptr sb) rfl (by kernel_rfl) (by kernel_rfl) (by kernel_rfl) (fun _ _ _ h => h) (Or.inl ⟨by rfl, fun wx hS => ?_⟩) SX.out ?_
  · go_simp
  try simp only [Act.put, List.getElem_toArray, List.getElem_cons_succ, List.getElem_cons_zero, List.setIfInBounds_toArray, List.set_cons_zero, List.set_cons_succ]
  refine wpAnyH_take (i := 5) (v := ptr sb) rfl (by kernel_rfl) (by kernel_rfl) (by kernel_rfl) (fun _ _ _ h => h) (Or.inl ⟨by rfl, fun wx hS => ?_⟩) SX.out ?_
  · go_simp
  try simp only [Act.put, List.getElem_toArray, List.getElem_cons_succ, List.getElem_cons_zero, List.setIfInBounds_toArray, List.set_cons_zero, List.set_cons_succ]
  refine wpAnyH_take (i := 6) (v := .pointer (some ⟨sb, 1, none⟩)) rfl (by kernel_rfl) (by kernel_rfl) (by kernel_rfl) (fun _ _ _ h => h) (Or.inl ⟨by rfl, fun wx hS => ?_⟩) SX.out ?_
  · go_simp
  try simp only [Act.put, List.getElem_toArray, List.getElem_cons_succ, List.getElem_cons_zero, List.setIfInBounds_toArray, List.set_cons_zero, List.set_cons_succ]
  refine wpAnyH_take (i := 7) (v := .slice (some ⟨g, 0, none⟩) L.length cap) rfl (by kernel_rfl) (by kernel_rfl) (by kernel_rfl) (fun _ _ _ h => h) (Or.inl ⟨by rfl, fun wx hS => ?_⟩) SX.out ?_
  · have c0 := cellAt hS.1 1; go_simp
  try simp only [Act.put, List.getElem_toArray, List.getElem_cons_succ, List.getElem_cons_zero, List.setIfInBounds_toArray, List.set_cons_zero, List.set_cons_succ]
  refine wpAnyH_take (i := 8) (v := ptr sb) rfl (by kernel_rfl) (by kernel_rfl) (by kernel_rfl) (fun _ _ _ h => h) (Or.inl ⟨by rfl, fun wx hS => ?_⟩) SX.out ?_
  · go_simp
  try simp only [Act.put, List.getElem_toArray, List.getElem_cons_succ, List.getElem_cons_zero, List.setIfInBounds_toArray, List.set_cons_zero, List.set_cons_succ]
  refine wpAnyH_take (i := 9) (v := ptr sb) rfl (by kernel_rfl) (by kernel_rfl) (by kernel_rfl) (fun _ _ _ h => h) (Or.inl ⟨by rfl, fun wx hS => ?_⟩) SX.out ?_
  · go_simp
  try simp only [Act.put, List.getElem_toArray, List.getElem_cons_succ, List.getElem_cons_zero, List.setIfInBounds_toArray, List.set_cons_zero, List.set_cons_succ]
  refine wpAnyH_take (i := 10) (v := .pointer (some ⟨sb, 1, none⟩)) rfl (by kernel_rfl) (by kernel_rfl) (by kernel_rfl) (fun _ _ _ h => h) (Or.inl ⟨by rfl, fun wx hS => ?_⟩) SX.out ?_
  · go_simp
  try simp only [Act.put, List.getElem_toArray, List.getElem_cons_succ, List.getElem_cons_zero, List.setIfInBounds_toArray, List.set_cons_zero, List.set_cons_succ]
  refine wpAnyH_take (i := 11) (v := .slice (some ⟨g, 0, none⟩) L.length cap) rfl (by kernel_rfl) (by kernel_rfl) (by kernel_rfl) (fun _ _ _ h => h) (Or.inl ⟨by rfl, fun wx hS => ?_⟩) SX.out ?_
  · have c0 := cellAt hS.1 1; go_simp
  try simp only [Act.put, List.getElem_toArray, List.getElem_cons_succ, List.getElem_cons_zero, List.setIfInBounds_toArray, List.set_cons_zero, List.set_cons_succ]
  refine wpAnyH_take (i := 12) (v := .int .i64 L.length) rfl (by kernel_rfl) (by kernel_rfl) (by kernel_rfl) (fun _ _ _ h => h) (Or.inl ⟨by rfl, fun wx hS => ?_⟩) SX.out ?_
  · go_simp
  try simp only [Act.put, List.getElem_toArray, List.getElem_cons_succ, List.getElem_cons_zero, List.setIfInBounds_toArray, List.set_cons_zero, List.set_cons_succ]
  refine wpAnyH_take (i := 13) (v := .int .i64 m) rfl (by kernel_rfl) (by kernel_rfl) (by kernel_rfl) (fun _ _ _ h => h) (Or.inl ⟨by rfl, fun wx hS => ?_⟩) SX.out ?_
  · obtain ⟨e1, t0, t1⟩ := EE.out; go_simp
  try simp only [Act.put, List.getElem_toArray, List.getElem_cons_succ, List.getElem_cons_zero, List.setIfInBounds_toArray, List.set_cons_zero, List.set_cons_succ]
  refine wpAnyH_take (i := 14) (v := .pointer (some ⟨g, m * 6, none⟩)) rfl (by kernel_rfl) (by kernel_rfl) (by kernel_rfl) (fun _ _ _ h => h) (Or.inl ⟨by rfl, fun wx hS => ?_⟩) SX.out ?_
  · obtain ⟨e1, t0, t1⟩ := EE.out; clear EE; go_simp
  try simp only [Act.put, List.getElem_toArray, List.getElem_cons_succ, List.getElem_cons_zero, List.setIfInBounds_toArray, List.set_cons_zero, List.set_cons_succ]
  refine wpAnyH_take (i := 15) (v := obV d.k d.x d.n d.a d.l d.s) rfl (by kernel_rfl) (by kernel_rfl) (by kernel_rfl) (fun _ _ _ h => h) (Or.inl ⟨by rfl, fun wx hS => ?_⟩) SX.out ?_
  · obtain ⟨c0, c1, c2, c3, c4, c5⟩ := HI.out _ hS.2.1; go_simp
  try simp only [Act.put, List.getElem_toArray, List.getElem_cons_succ, List.getElem_cons_zero, List.setIfInBounds_toArray, List.set_cons_zero, List.set_cons_succ]
  refine wpAnyH_take (i := 16) (v := obV k.k k.x k.n k.a k.l k.s) rfl (by kernel_rfl) (by kernel_rfl) (by kernel_rfl) (fun _ _ _ h => h) (Or.inl ⟨by rfl, fun wx hS => ?_⟩) SX.out ?_
  · obtain ⟨⟨c0, c1, c2, c3, c4, c5⟩, _⟩ := cells6 hS.2.2.1; go_simp
  try simp only [Act.put, List.getElem_toArray, List.getElem_cons_succ, List.getElem_cons_zero, List.setIfInBounds_toArray, List.set_cons_zero, List.set_cons_succ]
  refine wpAnyH_take (i := 17) (v := obV v.k v.x v.n v.a v.l v.s) rfl (by kernel_rfl) (by kernel_rfl) (by kernel_rfl) (fun _ _ _ h => h) (Or.inl ⟨by rfl, fun wx hS => ?_⟩) SX.out ?_
  · obtain ⟨⟨c0, c1, c2, c3, c4, c5⟩, _⟩ := cells6 hS.2.2.2; go_simp
  try simp only [Act.put, List.getElem_toArray, List.getElem_cons_succ, List.getElem_cons_zero, List.setIfInBounds_toArray, List.set_cons_zero, List.set_cons_succ]
  refine wpAnyH_ready (rs := [18]) (by kernel_rfl) (by simp) ?_
  refine AllReadyH.cons rfl (fun K hK => ?_) AllReadyH.nil
  go_simp
  have hset := hSet H1.out H6.out DD.out HC.out k v
  rw [HE.out] at hset
  refine hset.mono ?_
  rintro e wp ⟨rfl, sp, kp⟩
  have RS : Hid (SC out hb sb (setD ds c d k v) L wp ∧ Kept out w wp) := Lib.hid ⟨⟨own, .slice (some ⟨g, 0, none⟩) L.length cap, sp.sub fun b q => q.imp id .inl, H2.out.same (by
    rintro b (rfl | q)
    · exact kp.block _ (.inl H3.out)
    · exact kp.block _ (.inl (H4.out _ q))), H3.out, H4.out, fun b q => H5.out b (.inl q), setD_ok H6.out HC.out k v, fun q hq => (H7.out q hq).more (by rw [setD_length]; exact Nat.le_refl _)⟩, (H.out.kept KW.out).trans (kp.sub fun b q => .inr (.inl q))⟩
  have SP : Hid (wp.heap[sb]? = some (.cells #[ptr hb, .slice (some ⟨g, 0, none⟩) L.length cap] 76 (0, 0)) ∧ wp.heap[g]? = wd.heap[g]? ∧ wp.heap[w.heap.size]? = some (obObj k.k k.x k.n k.a k.l k.s) ∧ wp.heap[w.heap.size + 1]? = some (obObj v.k v.x v.n v.a v.l v.s)) := Lib.hid ⟨(kp.block _ (.inl H3.out)).trans SX.out.1, (kp.block _ (.inl HG.out)).trans SX.out.2.1, (kp.block _ (.inr (.inr (.inl rfl)))).trans SX.out.2.2.1, (kp.block _ (.inr (.inr (.inr rfl)))).trans SX.out.2.2.2⟩
  clear hset sp kp
  refine hK.out _ _ SP.out (fun _ => ?_)
  clear hK
  try simp only [Act.put, List.getElem_toArray, List.getElem_cons_succ, List.getElem_cons_zero, List.setIfInBounds_toArray, List.set_cons_zero, List.set_cons_succ]
  refine wpAnyH_take (i := 19) (v := .int .i64 E) rfl (by kernel_rfl) (by kernel_rfl) (by kernel_rfl) (fun _ _ _ h => h) (Or.inl ⟨by rfl, fun wx hS => ?_⟩) SP.out ?_
  · go_simp
  try simp only [Act.put, List.getElem_toArray, List.getElem_cons_succ, List.getElem_cons_zero, List.setIfInBounds_toArray, List.set_cons_zero, List.set_cons_succ]
  refine wpAnyH_done (by kernel_rfl) ?_ _
  (try refine no_panic ?_)
  go_wp2
  go_ret
  exact ⟨rfl, RS.out⟩
theorem scLowest {v : Value} (h : Sco hb sb v L w) {b : Ob} (hb0 : L[0]? = some b) (d : Ob) : Calls Try.prog 47 #[ptr sb, d.val] w fun e w' => e = .returned (.bool (d.n == b.n)) ∧ Below w.heap.size w w' := by
  show Calls Try.prog 47 #[ptr sb, obV d.k d.x d.n d.a d.l d.s] w _
  obtain ⟨g, cap, rfl, hit⟩ := row_blk h hb0
  have hlt := h.blk (.inr (rfl : (Value.slice (some ⟨g, 0, none⟩) L.length cap).ownBlock = some g))
  have H := Lib.hid h
  have HI := Lib.hid hit
  have HG := Lib.hid hlt
  have t1 : L ≠ [] := fun e => by have := h.two; rw [e] at this; simp at this
  have T1 := Lib.hid t1
  clear h hb0 hit hlt t1
  go_enter Try.func47, Try.ntmps47
  go_upto_region 1 with fail
  obtain ⟨wa, ea, ka, za, oa⟩ := ob_box w d.k d.n d.a d.l d.x d.s
  rw [ea]
  have KA := Lib.hid ka
  have OA := Lib.hid oa
  clear ea ka za oa
  have kd : Below wa.heap.size wa wa.drew := (Below.refl _ _).drew
  (try refine wp_region_noPanic ?_)
  refine wp_region_held_drew (S := fun wx => Below wa.heap.size wa wx) (by kernel_rfl) kd (fun sx0 => ?_)
  clear kd
  generalize wa.drew = wd at sx0 ⊢
  have SX := Lib.hid sx0
  clear sx0
  refine wpAnyH_take (i := 0) (v := .pointer (some ⟨w.heap.size, 2, none⟩)) rfl (by kernel_rfl) (by kernel_rfl) (by kernel_rfl) (fun _ _ _ h => h) (Or.inl ⟨by rfl, fun wx hS => ?_⟩) SX.out ?_
  · go_simp
  try simp only [Act.put, List.getElem_toArray, List.getElem_cons_succ, List.getElem_cons_zero, List.setIfInBounds_toArray, List.set_cons_zero, List.set_cons_succ]
  refine wpAnyH_take (i := 1) (v := .int .i64 d.n) rfl (by kernel_rfl) (by kernel_rfl) (by kernel_rfl) (fun _ _ _ h => h) (Or.inl ⟨by rfl, fun wx hS => ?_⟩) SX.out ?_
  · obtain ⟨c0, c1, c2, c3, c4, c5⟩ := OA.out.later hS; go_simp
  try simp only [Act.put, List.getElem_toArray, List.getElem_cons_succ, List.getElem_cons_zero, List.setIfInBounds_toArray, List.set_cons_zero, List.set_cons_succ]
  refine wpAnyH_take (i := 2) (v := ptr sb) rfl (by kernel_rfl) (by kernel_rfl) (by kernel_rfl) (fun _ _ _ h => h) (Or.inl ⟨by rfl, fun wx hS => ?_⟩) SX.out ?_
  · go_simp
  try simp only [Act.put, List.getElem_toArray, List.getElem_cons_succ, List.getElem_cons_zero, List.setIfInBounds_toArray, List.set_cons_zero, List.set_cons_succ]
  refine wpAnyH_take (i := 3) (v := ptr sb) rfl (by kernel_rfl) (by kernel_rfl) (by kernel_rfl) (fun _ _ _ h => h) (Or.inl ⟨by rfl, fun wx hS => ?_⟩) SX.out ?_
  · go_simp
  try simp only [Act.put, List.getElem_toArray, List.getElem_cons_succ, List.getElem_cons_zero, List.setIfInBounds_toArray, List.set_cons_zero, List.set_cons_succ]
  refine wpAnyH_take (i := 4) (v := .pointer (some ⟨sb, 1, none⟩)) rfl (by kernel_rfl) (by kernel_rfl) (by kernel_rfl) (fun _ _ _ h => h) (Or.inl ⟨by rfl, fun wx hS => ?_⟩) SX.out ?_
  · go_simp
  try simp only [Act.put, List.getElem_toArray, List.getElem_cons_succ, List.getElem_cons_zero, List.setIfInBounds_toArray, List.set_cons_zero, List.set_cons_succ]
  refine wpAnyH_take (i := 5) (v := .slice (some ⟨g, 0, none⟩) L.length cap) rfl (by kernel_rfl) (by kernel_rfl) (by kernel_rfl) (fun _ _ _ h => h) (Or.inl ⟨by rfl, fun wx hS => ?_⟩) SX.out ?_
  · have kk := below_and KA.out hS; have c0 := (H.out.below kk).cell1; clear kk; go_simp
  try simp only [Act.put, List.getElem_toArray, List.getElem_cons_succ, List.getElem_cons_zero, List.setIfInBounds_toArray, List.set_cons_zero, List.set_cons_succ]
  refine wpAnyH_take (i := 6) (v := .pointer (some ⟨g, 0, none⟩)) rfl (by kernel_rfl) (by kernel_rfl) (by kernel_rfl) (fun _ _ _ h => h) (Or.inl ⟨by rfl, fun wx hS => ?_⟩) SX.out ?_
  · have t1 := T1.out; clear T1; go_simp
  try simp only [Act.put, List.getElem_toArray, List.getElem_cons_succ, List.getElem_cons_zero, List.setIfInBounds_toArray, List.set_cons_zero, List.set_cons_succ]
  refine wpAnyH_take (i := 7) (v := .pointer (some ⟨g, 2, none⟩)) rfl (by kernel_rfl) (by kernel_rfl) (by kernel_rfl) (fun _ _ _ h => h) (Or.inl ⟨by rfl, fun wx hS => ?_⟩) SX.out ?_
  · go_simp
  try simp only [Act.put, List.getElem_toArray, List.getElem_cons_succ, List.getElem_cons_zero, List.setIfInBounds_toArray, List.set_cons_zero, List.set_cons_succ]
  refine wpAnyH_take (i := 8) (v := .int .i64 b.n) rfl (by kernel_rfl) (by kernel_rfl) (by kernel_rfl) (fun _ _ _ h => h) (Or.inl ⟨by rfl, fun wx hS => ?_⟩) SX.out ?_
  · have kk := below_and KA.out hS; obtain ⟨c0, c1, c2, c3, c4, c5⟩ := HI.out wx (kk.block g HG.out); clear kk; (try simp only [Nat.zero_mul, Nat.zero_add] at c0 c1 c2 c3 c4 c5); go_simp
  try simp only [Act.put, List.getElem_toArray, List.getElem_cons_succ, List.getElem_cons_zero, List.setIfInBounds_toArray, List.set_cons_zero, List.set_cons_succ]
  refine wpAnyH_take (i := 9) (v := .bool (d.n == b.n)) rfl (by kernel_rfl) (by kernel_rfl) (by kernel_rfl) (fun _ _ _ h => h) (Or.inl ⟨by rfl, fun wx hS => ?_⟩) SX.out ?_
  · go_simp
  try simp only [Act.put, List.getElem_toArray, List.getElem_cons_succ, List.getElem_cons_zero, List.setIfInBounds_toArray, List.set_cons_zero, List.set_cons_succ]
  refine wpAnyH_take (i := 10) (v := .bool (d.n == b.n)) rfl (by kernel_rfl) (by kernel_rfl) (by kernel_rfl) (fun _ _ _ h => h) (Or.inl ⟨by rfl, fun wx hS => ?_⟩) SX.out ?_
  · go_simp
  try simp only [Act.put, List.getElem_toArray, List.getElem_cons_succ, List.getElem_cons_zero, List.setIfInBounds_toArray, List.set_cons_zero, List.set_cons_succ]
  refine wpAnyH_done (by kernel_rfl) ?_ _
  (try refine no_panic ?_)
  go_wp2
  go_ret
  exact ⟨rfl, below_and KA.out SX.out⟩
theorem xLowest (h : SC out hb sb ds L w) {b : Ob} (hb0 : L[0]? = some b) (d : Ob) : Calls Try.prog 47 #[ptr sb, d.val] w fun e w' => e = .returned (.bool (d.n == b.n)) ∧ Below w.heap.size w w' := by
  obtain ⟨own, v, h1, h2, h3, h4, h5, h6, h7⟩ := h
  exact scLowest h2 hb0 d
theorem xStoreErr (h : SC out hb sb ds L w) (k v : Ob) (hE : fndE ds L k ≠ 0) (hE9 : fndE ds L k ≠ 9) :
    Calls Try.prog 17 #[ptr sb, k.val, v.val] w fun e w' => e = .returned (.int .i64 (fndE ds L k)) ∧ Below w.heap.size w w' := by
  show Calls Try.prog 17 #[ptr sb, obV k.k k.x k.n k.a k.l k.s, obV v.k v.x v.n v.a v.l v.s] w _
  have H := Lib.hid h
  obtain ⟨E, HE⟩ : ∃ E, Hid (fndE ds L k = E) := ⟨_, Lib.hid rfl⟩
  obtain ⟨O, HO⟩ : ∃ O, Hid (fndO ds L k = O) := ⟨_, Lib.hid rfl⟩
  rw [HE.out] at hE hE9 ⊢
  have t9 : ¬ E = 9 := hE9
  have t0 : ¬ E = 0 := hE
  clear h hE hE9
  go_enter Try.func17, Try.ntmps17
  go_upto_region 1 with fail
  obtain ⟨wb, eb, sb2, kb, zb, b0, b1⟩ := H.out.two k v
  rw [eb]
  have SB := Lib.hid sb2
  have KB := Lib.hid kb
  have B0 := Lib.hid b0
  have B1 := Lib.hid b1
  have ZB := Lib.hid zb
  obtain ⟨⟨c0, c1, c2, c3, c4, c5⟩, _⟩ := cells6 b0
  clear eb sb2 kb zb b0 b1
  go_wp2_with fail
  have hfd := xFind SB.out k
  obtain ⟨V, hV⟩ : ∃ V, fndV ds L k = V := ⟨_, rfl⟩
  rw [hV, HO.out, HE.out] at hfd
  simp only [Ob.val] at hfd
  refine hfd.mono ?_
  rintro e wc ⟨rfl, kc⟩
  have SC2 := Lib.hid (SB.out.below kc)
  have KC := Lib.hid (below_and KB.out kc)
  have C0 : Hid (wc.heap[w.heap.size]? = some (obObj k.k k.x k.n k.a k.l k.s)) := Lib.hid ((kc.block _ (blk_lt B0.out)).trans B0.out)
  have C1 : Hid (wc.heap[w.heap.size + 1]? = some (obObj v.k v.x v.n v.a v.l v.s)) := Lib.hid ((kc.block _ (blk_lt B1.out)).trans B1.out)
  have ZC : Hid (w.heap.size + 2 ≤ wc.heap.size) := Lib.hid (by have := kc.size; have := ZB.out; omega)
  clear hfd hV kc c0 c1 c2 c3 c4 c5
  go_upto_region 2 with fail
  obtain ⟨wd, ed, sd, kd, zd, d0, d1⟩ := SC2.out.two V O
  rw [ed]
  have SD := Lib.hid sd
  have KD := Lib.hid (below_and KC.out kd)
  have D0 : Hid (wd.heap[w.heap.size]? = some (obObj k.k k.x k.n k.a k.l k.s)) := Lib.hid ((kd.block _ (blk_lt C0.out)).trans C0.out)
  have D1 : Hid (wd.heap[w.heap.size + 1]? = some (obObj v.k v.x v.n v.a v.l v.s)) := Lib.hid ((kd.block _ (blk_lt C1.out)).trans C1.out)
  have DO : Hid (wd.heap[wc.heap.size + 1]? = some (obObj O.k O.x O.n O.a O.l O.s)) := Lib.hid d1
  clear ed sd kd zd d0 d1
  go_wp2
  go_ret
  exact ⟨rfl, KD.out⟩
theorem xStoreNone (h : SC out hb sb ds L w) {m : Nat} {d b : Ob} {c : Dc} (hm : L.length = m + 1) (hd : L[m]? = some d) (hc : ds[d.n.toNat]? = some c) (k v : Ob) (hE : fndE ds L k = 9) :
    Calls Try.prog 17 #[ptr sb, k.val, v.val] w fun e w' => e = .returned (.int .i64 (dsetE (HD ds) c.ps c.rm c.lk k v)) ∧ SC out hb sb (setD ds c d k v) L w' ∧ Kept out w w' := by
  show Calls Try.prog 17 #[ptr sb, obV k.k k.x k.n k.a k.l k.s, obV v.k v.x v.n v.a v.l v.s] w _
  have H := Lib.hid h
  obtain ⟨X, hX⟩ : ∃ X, dsetE (HD ds) c.ps c.rm c.lk k v = X := ⟨_, rfl⟩
  rw [hX]
  have HX := Lib.hid hX
  have HDL := Lib.hid hd
  have HM := Lib.hid hm
  have HC := Lib.hid hc
  obtain ⟨O, HO⟩ : ∃ O, Hid (fndO ds L k = O) := ⟨_, Lib.hid rfl⟩
  have HE := Lib.hid hE
  clear h hE hm hd hc hX
  go_enter Try.func17, Try.ntmps17
  go_upto_region 1 with fail
  obtain ⟨wb, eb, sb2, kb, zb, b0, b1⟩ := H.out.two k v
  rw [eb]
  have SB := Lib.hid sb2
  have KB := Lib.hid kb
  have B0 := Lib.hid b0
  have B1 := Lib.hid b1
  have ZB := Lib.hid zb
  obtain ⟨⟨c0, c1, c2, c3, c4, c5⟩, _⟩ := cells6 b0
  clear eb sb2 kb zb b0 b1
  go_wp2_with fail
  have hfd := xFind SB.out k
  obtain ⟨V, hV⟩ : ∃ V, fndV ds L k = V := ⟨_, rfl⟩
  rw [hV, HO.out, HE.out] at hfd
  simp only [Ob.val] at hfd
  refine hfd.mono ?_
  rintro e wc ⟨rfl, kc⟩
  have SC2 := Lib.hid (SB.out.below kc)
  have KC := Lib.hid (below_and KB.out kc)
  have C0 : Hid (wc.heap[w.heap.size]? = some (obObj k.k k.x k.n k.a k.l k.s)) := Lib.hid ((kc.block _ (blk_lt B0.out)).trans B0.out)
  have C1 : Hid (wc.heap[w.heap.size + 1]? = some (obObj v.k v.x v.n v.a v.l v.s)) := Lib.hid ((kc.block _ (blk_lt B1.out)).trans B1.out)
  have ZC : Hid (w.heap.size + 2 ≤ wc.heap.size) := Lib.hid (by have := kc.size; have := ZB.out; omega)
  clear hfd hV kc c0 c1 c2 c3 c4 c5
  go_upto_region 2 with fail
  obtain ⟨wd, ed, sd, kd, zd, d0, d1⟩ := SC2.out.two V O
  rw [ed]
  have SD := Lib.hid sd
  have KD := Lib.hid (below_and KC.out kd)
  have D0 : Hid (wd.heap[w.heap.size]? = some (obObj k.k k.x k.n k.a k.l k.s)) := Lib.hid ((kd.block _ (blk_lt C0.out)).trans C0.out)
  have D1 : Hid (wd.heap[w.heap.size + 1]? = some (obObj v.k v.x v.n v.a v.l v.s)) := Lib.hid ((kd.block _ (blk_lt C1.out)).trans C1.out)
  have DO : Hid (wd.heap[wc.heap.size + 1]? = some (obObj O.k O.x O.n O.a O.l O.s)) := Lib.hid d1
  clear ed sd kd zd d0 d1
  obtain ⟨⟨c0, c1, c2, c3, c4, c5⟩, _⟩ := cells6 D0.out
  obtain ⟨⟨v0, v1, v2, v3, v4, v5⟩, _⟩ := cells6 D1.out
  go_wp2_with fail
  have hdef := xDef SD.out HM.out HDL.out HC.out k v
  rw [HX.out] at hdef
  refine hdef.mono ?_
  rintro e wf ⟨rfl, sf, kf⟩
  have RS : Hid (SC out hb sb (setD ds c d k v) L wf ∧ Kept out w wf) := Lib.hid ⟨sf.sub fun b q => .inl (.inl q), (H.out.kept KD.out).trans (kf.sub fun b q => .inl (.inl q))⟩
  clear hdef sf kf c0 c1 c2 c3 c4 c5 v0 v1 v2 v3 v4 v5
  go_wp2
  go_ret
  exact ⟨rfl, RS.out⟩
theorem xStoreLow (h : SC out hb sb ds L w) {m : Nat} {d b : Ob} {c : Dc} (hm : L.length = m + 1) (hd : L[m]? = some d) (hc : ds[d.n.toNat]? = some c) (k v : Ob) (hb0 : L[0]? = some b) (hE : fndE ds L k = 0) (hn : (fndO ds L k).n = b.n) :
    Calls Try.prog 17 #[ptr sb, k.val, v.val] w fun e w' => e = .returned (.int .i64 (dsetE (HD ds) c.ps c.rm c.lk k v)) ∧ SC out hb sb (setD ds c d k v) L w' ∧ Kept out w w' := by
  show Calls Try.prog 17 #[ptr sb, obV k.k k.x k.n k.a k.l k.s, obV v.k v.x v.n v.a v.l v.s] w _
  have H := Lib.hid h
  obtain ⟨X, hX⟩ : ∃ X, dsetE (HD ds) c.ps c.rm c.lk k v = X := ⟨_, rfl⟩
  rw [hX]
  have HX := Lib.hid hX
  have HDL := Lib.hid hd
  have HM := Lib.hid hm
  have HC := Lib.hid hc
  obtain ⟨O, HO⟩ : ∃ O, Hid (fndO ds L k = O) := ⟨_, Lib.hid rfl⟩
  have HE := Lib.hid hE
  have HB0 := Lib.hid hb0
  have HN : Hid ((O.n == b.n) = true) := Lib.hid (by rw [← HO.out]; simpa using hn)
  clear h hE hm hd hc hX hb0 hn
  go_enter Try.func17, Try.ntmps17
  go_upto_region 1 with fail
  obtain ⟨wb, eb, sb2, kb, zb, b0, b1⟩ := H.out.two k v
  rw [eb]
  have SB := Lib.hid sb2
  have KB := Lib.hid kb
  have B0 := Lib.hid b0
  have B1 := Lib.hid b1
  have ZB := Lib.hid zb
  obtain ⟨⟨c0, c1, c2, c3, c4, c5⟩, _⟩ := cells6 b0
  clear eb sb2 kb zb b0 b1
  go_wp2_with fail
  have hfd := xFind SB.out k
  obtain ⟨V, hV⟩ : ∃ V, fndV ds L k = V := ⟨_, rfl⟩
  rw [hV, HO.out, HE.out] at hfd
  simp only [Ob.val] at hfd
  refine hfd.mono ?_
  rintro e wc ⟨rfl, kc⟩
  have SC2 := Lib.hid (SB.out.below kc)
  have KC := Lib.hid (below_and KB.out kc)
  have C0 : Hid (wc.heap[w.heap.size]? = some (obObj k.k k.x k.n k.a k.l k.s)) := Lib.hid ((kc.block _ (blk_lt B0.out)).trans B0.out)
  have C1 : Hid (wc.heap[w.heap.size + 1]? = some (obObj v.k v.x v.n v.a v.l v.s)) := Lib.hid ((kc.block _ (blk_lt B1.out)).trans B1.out)
  have ZC : Hid (w.heap.size + 2 ≤ wc.heap.size) := Lib.hid (by have := kc.size; have := ZB.out; omega)
  clear hfd hV kc c0 c1 c2 c3 c4 c5
  go_upto_region 2 with fail
  obtain ⟨wd, ed, sd, kd, zd, d0, d1⟩ := SC2.out.two V O
  rw [ed]
  have SD := Lib.hid sd
  have KD := Lib.hid (below_and KC.out kd)
  have D0 : Hid (wd.heap[w.heap.size]? = some (obObj k.k k.x k.n k.a k.l k.s)) := Lib.hid ((kd.block _ (blk_lt C0.out)).trans C0.out)
  have D1 : Hid (wd.heap[w.heap.size + 1]? = some (obObj v.k v.x v.n v.a v.l v.s)) := Lib.hid ((kd.block _ (blk_lt C1.out)).trans C1.out)
  have DO : Hid (wd.heap[wc.heap.size + 1]? = some (obObj O.k O.x O.n O.a O.l O.s)) := Lib.hid d1
  clear ed sd kd zd d0 d1
  obtain ⟨⟨o0, o1, o2, o3, o4, o5⟩, _⟩ := cells6 DO.out
  go_wp2_with fail
  have hlow := xLowest SD.out HB0.out O
  rw [HN.out] at hlow
  refine hlow.mono ?_
  rintro e we ⟨rfl, ke⟩
  replace SD := Lib.hid (SD.out.below ke)
  replace KD := Lib.hid (below_and KD.out ke)
  replace D0 : Hid (we.heap[w.heap.size]? = some (obObj k.k k.x k.n k.a k.l k.s)) := Lib.hid ((ke.block _ (blk_lt D0.out)).trans D0.out)
  replace D1 : Hid (we.heap[w.heap.size + 1]? = some (obObj v.k v.x v.n v.a v.l v.s)) := Lib.hid ((ke.block _ (blk_lt D1.out)).trans D1.out)
  replace DO : Hid (we.heap[wc.heap.size + 1]? = some (obObj O.k O.x O.n O.a O.l O.s)) := Lib.hid ((ke.block _ (blk_lt DO.out)).trans DO.out)
  clear hlow ke o0 o1 o2 o3 o4 o5
  obtain ⟨⟨c0, c1, c2, c3, c4, c5⟩, _⟩ := cells6 D0.out
  obtain ⟨⟨v0, v1, v2, v3, v4, v5⟩, _⟩ := cells6 D1.out
  go_wp2_with fail
  have hdef := xDef SD.out HM.out HDL.out HC.out k v
  rw [HX.out] at hdef
  refine hdef.mono ?_
  rintro e wf ⟨rfl, sf, kf⟩
  have RS : Hid (SC out hb sb (setD ds c d k v) L wf ∧ Kept out w wf) := Lib.hid ⟨sf.sub fun b q => .inl (.inl q), (H.out.kept KD.out).trans (kf.sub fun b q => .inl (.inl q))⟩
  clear hdef sf kf c0 c1 c2 c3 c4 c5 v0 v1 v2 v3 v4 v5
  go_wp2
  go_ret
  exact ⟨rfl, RS.out⟩
theorem xStoreAt (h : SC out hb sb ds L w) {b : Ob} {c : Dc} (k v : Ob) (hb0 : L[0]? = some b) (hE : fndE ds L k = 0) (hn : (fndO ds L k).n ≠ b.n) (hc : ds[(fndO ds L k).n.toNat]? = some c) :
    Calls Try.prog 17 #[ptr sb, k.val, v.val] w fun e w' => e = .returned (.int .i64 (dsetE (HD ds) c.ps c.rm c.lk k v)) ∧ SC out hb sb (setD ds c (fndO ds L k) k v) L w' ∧ Kept out w w' := by
  show Calls Try.prog 17 #[ptr sb, obV k.k k.x k.n k.a k.l k.s, obV v.k v.x v.n v.a v.l v.s] w _
  have H := Lib.hid h
  have hO := h.isD _ (fndO_mem hE)
  obtain ⟨X, hX⟩ : ∃ X, dsetE (HD ds) c.ps c.rm c.lk k v = X := ⟨_, rfl⟩
  rw [hX]
  have HX := Lib.hid hX
  have HE := Lib.hid hE
  have HB0 := Lib.hid hb0
  obtain ⟨O, ho⟩ : ∃ O, fndO ds L k = O := ⟨_, rfl⟩
  rw [ho] at hn hc hO ⊢
  have HO := Lib.hid ho
  have HC := Lib.hid hc
  have DD := Lib.hid hO
  have HN : Hid ((O.n == b.n) = false) := Lib.hid (by simpa using hn)
  clear h hE hc hX hb0 hn ho hO
  go_enter Try.func17, Try.ntmps17
  go_upto_region 1 with fail
  obtain ⟨wb, eb, sb2, kb, zb, b0, b1⟩ := H.out.two k v
  rw [eb]
  have SB := Lib.hid sb2
  have KB := Lib.hid kb
  have B0 := Lib.hid b0
  have B1 := Lib.hid b1
  have ZB := Lib.hid zb
  obtain ⟨⟨c0, c1, c2, c3, c4, c5⟩, _⟩ := cells6 b0
  clear eb sb2 kb zb b0 b1
  go_wp2_with fail
  have hfd := xFind SB.out k
  obtain ⟨V, hV⟩ : ∃ V, fndV ds L k = V := ⟨_, rfl⟩
  rw [hV, HO.out, HE.out] at hfd
  simp only [Ob.val] at hfd
  refine hfd.mono ?_
  rintro e wc ⟨rfl, kc⟩
  have SC2 := Lib.hid (SB.out.below kc)
  have KC := Lib.hid (below_and KB.out kc)
  have C0 : Hid (wc.heap[w.heap.size]? = some (obObj k.k k.x k.n k.a k.l k.s)) := Lib.hid ((kc.block _ (blk_lt B0.out)).trans B0.out)
  have C1 : Hid (wc.heap[w.heap.size + 1]? = some (obObj v.k v.x v.n v.a v.l v.s)) := Lib.hid ((kc.block _ (blk_lt B1.out)).trans B1.out)
  have ZC : Hid (w.heap.size + 2 ≤ wc.heap.size) := Lib.hid (by have := kc.size; have := ZB.out; omega)
  clear hfd hV kc c0 c1 c2 c3 c4 c5
  go_upto_region 2 with fail
  obtain ⟨wd, ed, sd, kd, zd, d0, d1⟩ := SC2.out.two V O
  rw [ed]
  have SD := Lib.hid sd
  have KD := Lib.hid (below_and KC.out kd)
  have D0 : Hid (wd.heap[w.heap.size]? = some (obObj k.k k.x k.n k.a k.l k.s)) := Lib.hid ((kd.block _ (blk_lt C0.out)).trans C0.out)
  have D1 : Hid (wd.heap[w.heap.size + 1]? = some (obObj v.k v.x v.n v.a v.l v.s)) := Lib.hid ((kd.block _ (blk_lt C1.out)).trans C1.out)
  have DO : Hid (wd.heap[wc.heap.size + 1]? = some (obObj O.k O.x O.n O.a O.l O.s)) := Lib.hid d1
  clear ed sd kd zd d0 d1
  obtain ⟨⟨o0, o1, o2, o3, o4, o5⟩, _⟩ := cells6 DO.out
  go_wp2_with fail
  have hlow := xLowest SD.out HB0.out O
  rw [HN.out] at hlow
  refine hlow.mono ?_
  rintro e we ⟨rfl, ke⟩
  replace SD := Lib.hid (SD.out.below ke)
  replace KD := Lib.hid (below_and KD.out ke)
  replace D0 : Hid (we.heap[w.heap.size]? = some (obObj k.k k.x k.n k.a k.l k.s)) := Lib.hid ((ke.block _ (blk_lt D0.out)).trans D0.out)
  replace D1 : Hid (we.heap[w.heap.size + 1]? = some (obObj v.k v.x v.n v.a v.l v.s)) := Lib.hid ((ke.block _ (blk_lt D1.out)).trans D1.out)
  replace DO : Hid (we.heap[wc.heap.size + 1]? = some (obObj O.k O.x O.n O.a O.l O.s)) := Lib.hid ((ke.block _ (blk_lt DO.out)).trans DO.out)
  clear hlow ke o0 o1 o2 o3 o4 o5
  go_upto_region 6 with fail
  have sd := SD.out.below ((Below.refl we.heap.size we).drew)
  have kw : Below w.heap.size w we.drew := KD.out.drew
  have b0 : we.drew.heap[w.heap.size]? = some (obObj k.k k.x k.n k.a k.l k.s) := D0.out
  have b1 : we.drew.heap[w.heap.size + 1]? = some (obObj v.k v.x v.n v.a v.l v.s) := D1.out
  have bo : we.drew.heap[wc.heap.size + 1]? = some (obObj O.k O.x O.n O.a O.l O.s) := DO.out
  obtain ⟨own, u, h1, h2, h3, h4, h5, h6, h7⟩ := sd
  (try refine wp_region_noPanic ?_)
  refine wp_region_held_drew (S := fun wx => wx.cell? ⟨sb, 0, none⟩ = some (ptr hb) ∧ wx.heap[wc.heap.size + 1]? = some (obObj O.k O.x O.n O.a O.l O.s) ∧ wx.heap[w.heap.size]? = some (obObj k.k k.x k.n k.a k.l k.s) ∧ wx.heap[w.heap.size + 1]? = some (obObj v.k v.x v.n v.a v.l v.s)) (by kernel_rfl) ⟨h2.cell0, bo, b0, b1⟩ (fun sx0 => ?_)
  generalize we.drew = wd at b0 b1 bo kw h1 h2 sx0 ⊢
  have SX := Lib.hid sx0
  have H1 := Lib.hid h1
  have H2 := Lib.hid h2
  have H3 := Lib.hid h3
  have H4 := Lib.hid h4
  have H5 := Lib.hid h5
  have H6 := Lib.hid h6
  have H7 := Lib.hid h7
  have KW := Lib.hid kw
  clear b0 b1 bo kw h1 h2 h3 h4 h5 h6 h7 sx0
  refine wpAnyH_take (i := 0) (v := ptr sb) rfl (by kernel_rfl) (by kernel_rfl) (by kernel_rfl) (fun _ _ _ h => h) (Or.inl ⟨by rfl, fun wx hS => ?_⟩) SX.out ?_
  · go_simp
  try simp only [Act.put, List.getElem_toArray, List.getElem_cons_succ, List.getElem_cons_zero, List.setIfInBounds_toArray, List.set_cons_zero, List.set_cons_succ]
  refine wpAnyH_take (i := 1) (v := ptr sb) rfl (by kernel_rfl) (by kernel_rfl) (by kernel_rfl) (fun _ _ _ h => h) (Or.inl ⟨by rfl, fun wx hS => ?_⟩) SX.out ?_
  · go_simp
  try simp only [Act.put, List.getElem_toArray, List.getElem_cons_succ, List.getElem_cons_zero, List.setIfInBounds_toArray, List.set_cons_zero, List.set_cons_succ]
  refine wpAnyH_take (i := 2) (v := .pointer (some ⟨sb, 0, none⟩)) rfl (by kernel_rfl) (by kernel_rfl) (by kernel_rfl) (fun _ _ _ h => h) (Or.inl ⟨by rfl, fun wx hS => ?_⟩) SX.out ?_
  · go_simp
  try simp only [Act.put, List.getElem_toArray, List.getElem_cons_succ, List.getElem_cons_zero, List.setIfInBounds_toArray, List.set_cons_zero, List.set_cons_succ]
  refine wpAnyH_take (i := 3) (v := ptr hb) rfl (by kernel_rfl) (by kernel_rfl) (by kernel_rfl) (fun _ _ _ h => h) (Or.inl ⟨by rfl, fun wx hS => ?_⟩) SX.out ?_
  · have c0 := hS.1; go_simp
  try simp only [Act.put, List.getElem_toArray, List.getElem_cons_succ, List.getElem_cons_zero, List.setIfInBounds_toArray, List.set_cons_zero, List.set_cons_succ]
  refine wpAnyH_take (i := 4) (v := obV O.k O.x O.n O.a O.l O.s) rfl (by kernel_rfl) (by kernel_rfl) (by kernel_rfl) (fun _ _ _ h => h) (Or.inl ⟨by rfl, fun wx hS => ?_⟩) SX.out ?_
  · obtain ⟨⟨c0, c1, c2, c3, c4, c5⟩, _⟩ := cells6 hS.2.1; go_simp
  try simp only [Act.put, List.getElem_toArray, List.getElem_cons_succ, List.getElem_cons_zero, List.setIfInBounds_toArray, List.set_cons_zero, List.set_cons_succ]
  refine wpAnyH_take (i := 5) (v := obV k.k k.x k.n k.a k.l k.s) rfl (by kernel_rfl) (by kernel_rfl) (by kernel_rfl) (fun _ _ _ h => h) (Or.inl ⟨by rfl, fun wx hS => ?_⟩) SX.out ?_
  · obtain ⟨⟨c0, c1, c2, c3, c4, c5⟩, _⟩ := cells6 hS.2.2.1; go_simp
  try simp only [Act.put, List.getElem_toArray, List.getElem_cons_succ, List.getElem_cons_zero, List.setIfInBounds_toArray, List.set_cons_zero, List.set_cons_succ]
  refine wpAnyH_take (i := 6) (v := obV v.k v.x v.n v.a v.l v.s) rfl (by kernel_rfl) (by kernel_rfl) (by kernel_rfl) (fun _ _ _ h => h) (Or.inl ⟨by rfl, fun wx hS => ?_⟩) SX.out ?_
  · obtain ⟨⟨c0, c1, c2, c3, c4, c5⟩, _⟩ := cells6 hS.2.2.2; go_simp
  try simp only [Act.put, List.getElem_toArray, List.getElem_cons_succ, List.getElem_cons_zero, List.setIfInBounds_toArray, List.set_cons_zero, List.set_cons_succ]
  refine wpAnyH_ready (rs := [7]) (by kernel_rfl) (by simp) ?_
  refine AllReadyH.cons rfl (fun K hK => ?_) AllReadyH.nil
  go_simp
  have hset := hSet H1.out H6.out DD.out HC.out k v
  rw [HX.out] at hset
  refine hset.mono ?_
  rintro e wp ⟨rfl, sp, kp⟩
  have RS : Hid (SC out hb sb (setD ds c O k v) L wp ∧ Kept out w wp) := Lib.hid ⟨⟨own, u, sp.sub fun b q => q.imp id fun e => .inl (.inl e), H2.out.same (by
    rintro b (rfl | q)
    · exact kp.block _ (.inl H3.out)
    · exact kp.block _ (.inl (H4.out _ q))), H3.out, H4.out, fun b q => H5.out b (.inl (.inl q)), setD_ok H6.out HC.out k v, fun q hq => (H7.out q hq).more (by rw [setD_length]; exact Nat.le_refl _)⟩, (H.out.kept KW.out).trans (kp.sub fun b q => .inr (.inl (.inl q)))⟩
  have SP : Hid (wp.cell? ⟨sb, 0, none⟩ = some (ptr hb) ∧ wp.heap[wc.heap.size + 1]? = some (obObj O.k O.x O.n O.a O.l O.s) ∧ wp.heap[w.heap.size]? = some (obObj k.k k.x k.n k.a k.l k.s) ∧ wp.heap[w.heap.size + 1]? = some (obObj v.k v.x v.n v.a v.l v.s)) := Lib.hid ⟨(World.cell?_of_block (a := ⟨sb, 0, none⟩) (kp.block _ (.inl H3.out))).trans SX.out.1, (kp.block _ (.inr (.inr (.inr rfl)))).trans SX.out.2.1, (kp.block _ (.inr (.inl (.inr (.inl rfl))))).trans SX.out.2.2.1, (kp.block _ (.inr (.inl (.inr (.inr rfl))))).trans SX.out.2.2.2⟩
  clear hset sp kp
  refine hK.out _ _ SP.out (fun _ => ?_)
  clear hK
  try simp only [Act.put, List.getElem_toArray, List.getElem_cons_succ, List.getElem_cons_zero, List.setIfInBounds_toArray, List.set_cons_zero, List.set_cons_succ]
  refine wpAnyH_take (i := 8) (v := .int .i64 X) rfl (by kernel_rfl) (by kernel_rfl) (by kernel_rfl) (fun _ _ _ h => h) (Or.inl ⟨by rfl, fun wx hS => ?_⟩) SP.out ?_
  · go_simp
  try simp only [Act.put, List.getElem_toArray, List.getElem_cons_succ, List.getElem_cons_zero, List.setIfInBounds_toArray, List.set_cons_zero, List.set_cons_succ]
  refine wpAnyH_done (by kernel_rfl) ?_ _
  (try refine no_panic ?_)
  go_wp2
  go_ret
  exact ⟨rfl, RS.out⟩
end
end Go.Proofs.Ytlkbnldpecolbaa

/- Plain: the text of all names of operators, the names family by family, and what is cut from the text. -/
namespace Go.Proofs.Ytlkbnldpecolbaa
set_option maxRecDepth 100000

/-- The text that the names are cut from. -/
def nm : ByteArray := { data := ((((([112, 111, 112, 32, 101, 120, 99, 104, 32, 100, 117, 112, 32, 105, 110, 100, 101, 120, 32, 114, 111, 108, 108, 32, 99, 108, 101, 97, 114, 32, 99, 111, 117, 110, 116, 32].append [109, 97, 114, 107, 32, 99, 111, 117, 110, 116, 116, 111, 109, 97, 114, 107, 32, 99, 108, 101, 97, 114, 116, 111, 109, 97, 114, 107, 32, 97, 100, 100, 32, 115, 117, 98]).append ([32, 109, 117, 108, 32, 100, 105, 118, 32, 105, 100, 105, 118, 32, 109, 111, 100, 32, 110, 101, 103, 32, 97, 98, 115, 32, 99, 101, 105, 108, 105, 110, 103, 32, 102, 108].append [111, 111, 114, 32, 114, 111, 117, 110, 100, 32, 116, 114, 117, 110, 99, 97, 116, 101, 32, 115, 113, 114, 116, 32, 115, 105, 110, 32, 99, 111, 115, 32, 97, 116, 97, 110])).append (([32, 97, 110, 100, 32, 111, 114, 32, 120, 111, 114, 32, 110, 111, 116, 32, 98, 105, 116, 115, 104, 105, 102, 116, 32, 116, 114, 117, 101, 32, 102, 97, 108, 115, 101, 32].append [110, 117, 108, 108, 32, 109, 105, 110, 32, 109, 97, 120, 32, 91, 32, 60, 60, 10, 99, 111, 112, 121, 32, 101, 113, 32, 110, 101, 32, 103, 116, 32, 103, 101, 32, 108]).append ([116, 32, 108, 101, 32, 97, 114, 114, 97, 121, 32, 115, 116, 114, 105, 110, 103, 32, 108, 101, 110, 103, 116, 104, 32, 103, 101, 116, 32, 112, 117, 116, 32, 103, 101, 116].append [105, 110, 116, 101, 114, 118, 97, 108, 32, 112, 117, 116, 105, 110, 116, 101, 114, 118, 97, 108, 32, 97, 108, 111, 97, 100, 32, 97, 115, 116, 111, 114, 101, 32, 115, 101, 97]))).append ((([114, 99, 104, 32, 97, 110, 99, 104, 111, 114, 115, 101, 97, 114, 99, 104, 32, 93, 32, 99, 97, 116, 10, 100, 105, 99, 116, 32, 98, 101, 103, 105, 110, 32, 101, 110].append [100, 32, 100, 101, 102, 32, 108, 111, 97, 100, 32, 115, 116, 111, 114, 101, 32, 107, 110, 111, 119, 110, 32, 117, 110, 100, 101, 102, 32, 119, 104, 101, 114, 101, 32, 99]).append ([117, 114, 114, 101, 110, 116, 100, 105, 99, 116, 32, 99, 111, 117, 110, 116, 100, 105, 99, 116, 115, 116, 97, 99, 107, 32, 109, 97, 120, 108, 101, 110, 103, 116, 104, 32].append [62, 62, 10, 116, 121, 112, 101, 32, 99, 118, 108, 105, 116, 32, 99, 118, 120, 32, 120, 99, 104, 101, 99, 107, 32, 99, 118, 105, 32, 99, 118, 114, 32, 99, 118, 110, 32])).append (([99, 118, 115, 32, 99, 118, 114, 115, 10, 101, 120, 101, 99, 32, 105, 102, 32, 105, 102, 101, 108, 115, 101, 32, 102, 111, 114, 32, 114, 101, 112, 101, 97, 116, 32, 108].append [111, 111, 112, 32, 101, 120, 105, 116, 32, 115, 116, 111, 112, 32, 115, 116, 111, 112, 112, 101, 100, 32, 102, 111, 114, 97, 108, 108, 32, 113, 117, 105, 116, 32, 98, 105]).append ([110, 100, 32, 112, 114, 105, 110, 116, 32, 61, 32, 61, 61, 32, 112, 115, 116, 97, 99, 107, 32, 115, 97, 118, 101, 32, 114, 101, 115, 116, 111, 114, 101, 32, 116, 111].append [107, 101, 110, 32, 108, 97, 115, 116, 101, 114, 114, 111, 114, 32, 118, 109, 115, 116, 97, 116, 117, 115, 10, 103, 115, 97, 118, 101, 32, 103, 114, 101, 115, 116, 111, 114, 101])))).append (((([32, 105, 110, 105, 116, 103, 114, 97, 112, 104, 105, 99, 115, 32, 115, 101, 116, 109, 97, 116, 114, 105, 120, 32, 99, 117, 114, 114, 101, 110, 116, 109, 97, 116, 114, 105].append [120, 32, 116, 114, 97, 110, 115, 108, 97, 116, 101, 32, 115, 99, 97, 108, 101, 32, 114, 111, 116, 97, 116, 101, 32, 99, 111, 110, 99, 97, 116, 32, 116, 114, 97, 110]).append ([115, 102, 111, 114, 109, 32, 105, 116, 114, 97, 110, 115, 102, 111, 114, 109, 32, 100, 116, 114, 97, 110, 115, 102, 111, 114, 109, 32, 110, 101, 119, 112, 97, 116, 104, 32].append [109, 111, 118, 101, 116, 111, 32, 114, 109, 111, 118, 101, 116, 111, 32, 108, 105, 110, 101, 116, 111, 32, 114, 108, 105, 110, 101, 116, 111, 32, 99, 117, 114, 118, 101, 116])).append (([111, 32, 114, 99, 117, 114, 118, 101, 116, 111, 32, 99, 108, 111, 115, 101, 112, 97, 116, 104, 32, 114, 101, 99, 116, 112, 97, 116, 104, 32, 99, 117, 114, 114, 101, 110].append [116, 112, 111, 105, 110, 116, 32, 112, 97, 116, 104, 98, 111, 120, 32, 102, 108, 97, 116, 116, 101, 110, 112, 97, 116, 104, 32, 114, 101, 118, 101, 114, 115, 101, 112, 97]).append ([116, 104, 32, 99, 108, 105, 112, 32, 101, 111, 99, 108, 105, 112, 32, 105, 110, 105, 116, 99, 108, 105, 112, 32, 102, 105, 108, 108, 32, 101, 111, 102, 105, 108, 108, 32].append [115, 116, 114, 111, 107, 101, 32, 114, 101, 99, 116, 102, 105, 108, 108, 32, 115, 101, 116, 103, 114, 97, 121, 32, 99, 117, 114, 114, 101, 110, 116, 103, 114, 97, 121, 32, 115]))).append ((([101, 116, 114, 103, 98, 99, 111, 108, 111, 114, 32, 99, 117, 114, 114, 101, 110, 116, 114, 103, 98, 99, 111, 108, 111, 114, 32, 115, 101, 116, 99, 111, 118, 101, 114, 32].append [99, 117, 114, 114, 101, 110, 116, 99, 111, 118, 101, 114, 32, 115, 101, 116, 108, 105, 110, 101, 119, 105, 100, 116, 104, 32, 99, 117, 114, 114, 101, 110, 116, 108, 105, 110]).append ([101, 119, 105, 100, 116, 104, 32, 115, 101, 116, 108, 105, 110, 101, 99, 97, 112, 32, 99, 117, 114, 114, 101, 110, 116, 108, 105, 110, 101, 99, 97, 112, 32, 115, 101, 116].append [108, 105, 110, 101, 106, 111, 105, 110, 32, 99, 117, 114, 114, 101, 110, 116, 108, 105, 110, 101, 106, 111, 105, 110, 32, 115, 101, 116, 100, 97, 115, 104, 32, 99, 117, 114, 114])).append (([101, 110, 116, 100, 97, 115, 104, 32, 100, 101, 102, 105, 110, 101, 102, 111, 110, 116, 32, 102, 105, 110, 100, 102, 111, 110, 116, 32, 115, 101, 116, 102, 111, 110, 116, 32].append [99, 117, 114, 114, 101, 110, 116, 102, 111, 110, 116, 32, 115, 104, 111, 119, 32, 99, 104, 97, 114, 112, 97, 116, 104, 32, 115, 116, 114, 105, 110, 103, 119, 105, 100, 116]).append ([104, 32, 105, 109, 97, 103, 101, 32, 105, 109, 97, 103, 101, 109, 97, 115, 107, 32, 115, 104, 111, 119, 112, 97, 103, 101, 32, 99, 111, 112, 121, 112, 97, 103, 101, 32].append [101, 114, 97, 115, 101, 112, 97, 103, 101, 32, 115, 101, 116, 112, 97, 103, 101, 32, 112, 97, 103, 101, 115, 105, 122, 101, 32, 115, 101, 116, 115, 99, 114, 101, 101, 110, 10]))))).toArray }
theorem nm_def : ({ data := ((((([112, 111, 112, 32, 101, 120, 99, 104, 32, 100, 117, 112, 32, 105, 110, 100, 101, 120, 32, 114, 111, 108, 108, 32, 99, 108, 101, 97, 114, 32, 99, 111, 117, 110, 116, 32].append [109, 97, 114, 107, 32, 99, 111, 117, 110, 116, 116, 111, 109, 97, 114, 107, 32, 99, 108, 101, 97, 114, 116, 111, 109, 97, 114, 107, 32, 97, 100, 100, 32, 115, 117, 98]).append ([32, 109, 117, 108, 32, 100, 105, 118, 32, 105, 100, 105, 118, 32, 109, 111, 100, 32, 110, 101, 103, 32, 97, 98, 115, 32, 99, 101, 105, 108, 105, 110, 103, 32, 102, 108].append [111, 111, 114, 32, 114, 111, 117, 110, 100, 32, 116, 114, 117, 110, 99, 97, 116, 101, 32, 115, 113, 114, 116, 32, 115, 105, 110, 32, 99, 111, 115, 32, 97, 116, 97, 110])).append (([32, 97, 110, 100, 32, 111, 114, 32, 120, 111, 114, 32, 110, 111, 116, 32, 98, 105, 116, 115, 104, 105, 102, 116, 32, 116, 114, 117, 101, 32, 102, 97, 108, 115, 101, 32].append [110, 117, 108, 108, 32, 109, 105, 110, 32, 109, 97, 120, 32, 91, 32, 60, 60, 10, 99, 111, 112, 121, 32, 101, 113, 32, 110, 101, 32, 103, 116, 32, 103, 101, 32, 108]).append ([116, 32, 108, 101, 32, 97, 114, 114, 97, 121, 32, 115, 116, 114, 105, 110, 103, 32, 108, 101, 110, 103, 116, 104, 32, 103, 101, 116, 32, 112, 117, 116, 32, 103, 101, 116].append [105, 110, 116, 101, 114, 118, 97, 108, 32, 112, 117, 116, 105, 110, 116, 101, 114, 118, 97, 108, 32, 97, 108, 111, 97, 100, 32, 97, 115, 116, 111, 114, 101, 32, 115, 101, 97]))).append ((([114, 99, 104, 32, 97, 110, 99, 104, 111, 114, 115, 101, 97, 114, 99, 104, 32, 93, 32, 99, 97, 116, 10, 100, 105, 99, 116, 32, 98, 101, 103, 105, 110, 32, 101, 110].append [100, 32, 100, 101, 102, 32, 108, 111, 97, 100, 32, 115, 116, 111, 114, 101, 32, 107, 110, 111, 119, 110, 32, 117, 110, 100, 101, 102, 32, 119, 104, 101, 114, 101, 32, 99]).append ([117, 114, 114, 101, 110, 116, 100, 105, 99, 116, 32, 99, 111, 117, 110, 116, 100, 105, 99, 116, 115, 116, 97, 99, 107, 32, 109, 97, 120, 108, 101, 110, 103, 116, 104, 32].append [62, 62, 10, 116, 121, 112, 101, 32, 99, 118, 108, 105, 116, 32, 99, 118, 120, 32, 120, 99, 104, 101, 99, 107, 32, 99, 118, 105, 32, 99, 118, 114, 32, 99, 118, 110, 32])).append (([99, 118, 115, 32, 99, 118, 114, 115, 10, 101, 120, 101, 99, 32, 105, 102, 32, 105, 102, 101, 108, 115, 101, 32, 102, 111, 114, 32, 114, 101, 112, 101, 97, 116, 32, 108].append [111, 111, 112, 32, 101, 120, 105, 116, 32, 115, 116, 111, 112, 32, 115, 116, 111, 112, 112, 101, 100, 32, 102, 111, 114, 97, 108, 108, 32, 113, 117, 105, 116, 32, 98, 105]).append ([110, 100, 32, 112, 114, 105, 110, 116, 32, 61, 32, 61, 61, 32, 112, 115, 116, 97, 99, 107, 32, 115, 97, 118, 101, 32, 114, 101, 115, 116, 111, 114, 101, 32, 116, 111].append [107, 101, 110, 32, 108, 97, 115, 116, 101, 114, 114, 111, 114, 32, 118, 109, 115, 116, 97, 116, 117, 115, 10, 103, 115, 97, 118, 101, 32, 103, 114, 101, 115, 116, 111, 114, 101])))).append (((([32, 105, 110, 105, 116, 103, 114, 97, 112, 104, 105, 99, 115, 32, 115, 101, 116, 109, 97, 116, 114, 105, 120, 32, 99, 117, 114, 114, 101, 110, 116, 109, 97, 116, 114, 105].append [120, 32, 116, 114, 97, 110, 115, 108, 97, 116, 101, 32, 115, 99, 97, 108, 101, 32, 114, 111, 116, 97, 116, 101, 32, 99, 111, 110, 99, 97, 116, 32, 116, 114, 97, 110]).append ([115, 102, 111, 114, 109, 32, 105, 116, 114, 97, 110, 115, 102, 111, 114, 109, 32, 100, 116, 114, 97, 110, 115, 102, 111, 114, 109, 32, 110, 101, 119, 112, 97, 116, 104, 32].append [109, 111, 118, 101, 116, 111, 32, 114, 109, 111, 118, 101, 116, 111, 32, 108, 105, 110, 101, 116, 111, 32, 114, 108, 105, 110, 101, 116, 111, 32, 99, 117, 114, 118, 101, 116])).append (([111, 32, 114, 99, 117, 114, 118, 101, 116, 111, 32, 99, 108, 111, 115, 101, 112, 97, 116, 104, 32, 114, 101, 99, 116, 112, 97, 116, 104, 32, 99, 117, 114, 114, 101, 110].append [116, 112, 111, 105, 110, 116, 32, 112, 97, 116, 104, 98, 111, 120, 32, 102, 108, 97, 116, 116, 101, 110, 112, 97, 116, 104, 32, 114, 101, 118, 101, 114, 115, 101, 112, 97]).append ([116, 104, 32, 99, 108, 105, 112, 32, 101, 111, 99, 108, 105, 112, 32, 105, 110, 105, 116, 99, 108, 105, 112, 32, 102, 105, 108, 108, 32, 101, 111, 102, 105, 108, 108, 32].append [115, 116, 114, 111, 107, 101, 32, 114, 101, 99, 116, 102, 105, 108, 108, 32, 115, 101, 116, 103, 114, 97, 121, 32, 99, 117, 114, 114, 101, 110, 116, 103, 114, 97, 121, 32, 115]))).append ((([101, 116, 114, 103, 98, 99, 111, 108, 111, 114, 32, 99, 117, 114, 114, 101, 110, 116, 114, 103, 98, 99, 111, 108, 111, 114, 32, 115, 101, 116, 99, 111, 118, 101, 114, 32].append [99, 117, 114, 114, 101, 110, 116, 99, 111, 118, 101, 114, 32, 115, 101, 116, 108, 105, 110, 101, 119, 105, 100, 116, 104, 32, 99, 117, 114, 114, 101, 110, 116, 108, 105, 110]).append ([101, 119, 105, 100, 116, 104, 32, 115, 101, 116, 108, 105, 110, 101, 99, 97, 112, 32, 99, 117, 114, 114, 101, 110, 116, 108, 105, 110, 101, 99, 97, 112, 32, 115, 101, 116].append [108, 105, 110, 101, 106, 111, 105, 110, 32, 99, 117, 114, 114, 101, 110, 116, 108, 105, 110, 101, 106, 111, 105, 110, 32, 115, 101, 116, 100, 97, 115, 104, 32, 99, 117, 114, 114])).append (([101, 110, 116, 100, 97, 115, 104, 32, 100, 101, 102, 105, 110, 101, 102, 111, 110, 116, 32, 102, 105, 110, 100, 102, 111, 110, 116, 32, 115, 101, 116, 102, 111, 110, 116, 32].append [99, 117, 114, 114, 101, 110, 116, 102, 111, 110, 116, 32, 115, 104, 111, 119, 32, 99, 104, 97, 114, 112, 97, 116, 104, 32, 115, 116, 114, 105, 110, 103, 119, 105, 100, 116]).append ([104, 32, 105, 109, 97, 103, 101, 32, 105, 109, 97, 103, 101, 109, 97, 115, 107, 32, 115, 104, 111, 119, 112, 97, 103, 101, 32, 99, 111, 112, 121, 112, 97, 103, 101, 32].append [101, 114, 97, 115, 101, 112, 97, 103, 101, 32, 115, 101, 116, 112, 97, 103, 101, 32, 112, 97, 103, 101, 115, 105, 122, 101, 32, 115, 101, 116, 115, 99, 114, 101, 101, 110, 10]))))).toArray } : ByteArray) = nm := rfl
def ref1 : List ByteArray := [⟨#[112, 111, 112]⟩, ⟨#[101, 120, 99, 104]⟩, ⟨#[100, 117, 112]⟩, ⟨#[105, 110, 100, 101, 120]⟩, ⟨#[114, 111, 108, 108]⟩, ⟨#[99, 108, 101, 97, 114]⟩, ⟨#[99, 111, 117, 110, 116]⟩, ⟨#[109, 97, 114, 107]⟩,
  ⟨#[99, 111, 117, 110, 116, 116, 111, 109, 97, 114, 107]⟩, ⟨#[99, 108, 101, 97, 114, 116, 111, 109, 97, 114, 107]⟩, ⟨#[97, 100, 100]⟩, ⟨#[115, 117, 98]⟩, ⟨#[109, 117, 108]⟩, ⟨#[100, 105, 118]⟩, ⟨#[105, 100, 105, 118]⟩, ⟨#[109, 111, 100]⟩,
  ⟨#[110, 101, 103]⟩, ⟨#[97, 98, 115]⟩, ⟨#[99, 101, 105, 108, 105, 110, 103]⟩, ⟨#[102, 108, 111, 111, 114]⟩, ⟨#[114, 111, 117, 110, 100]⟩, ⟨#[116, 114, 117, 110, 99, 97, 116, 101]⟩, ⟨#[115, 113, 114, 116]⟩, ⟨#[115, 105, 110]⟩,
  ⟨#[99, 111, 115]⟩, ⟨#[97, 116, 97, 110]⟩, ⟨#[97, 110, 100]⟩, ⟨#[111, 114]⟩, ⟨#[120, 111, 114]⟩, ⟨#[110, 111, 116]⟩, ⟨#[98, 105, 116, 115, 104, 105, 102, 116]⟩, ⟨#[116, 114, 117, 101]⟩,
  ⟨#[102, 97, 108, 115, 101]⟩, ⟨#[110, 117, 108, 108]⟩, ⟨#[109, 105, 110]⟩, ⟨#[109, 97, 120]⟩, ⟨#[91]⟩, ⟨#[60, 60]⟩]
def ref2 : List ByteArray := [⟨#[99, 111, 112, 121]⟩, ⟨#[101, 113]⟩, ⟨#[110, 101]⟩, ⟨#[103, 116]⟩, ⟨#[103, 101]⟩, ⟨#[108, 116]⟩, ⟨#[108, 101]⟩, ⟨#[97, 114, 114, 97, 121]⟩,
  ⟨#[115, 116, 114, 105, 110, 103]⟩, ⟨#[108, 101, 110, 103, 116, 104]⟩, ⟨#[103, 101, 116]⟩, ⟨#[112, 117, 116]⟩, ⟨#[103, 101, 116, 105, 110, 116, 101, 114, 118, 97, 108]⟩, ⟨#[112, 117, 116, 105, 110, 116, 101, 114, 118, 97, 108]⟩, ⟨#[97, 108, 111, 97, 100]⟩, ⟨#[97, 115, 116, 111, 114, 101]⟩,
  ⟨#[115, 101, 97, 114, 99, 104]⟩, ⟨#[97, 110, 99, 104, 111, 114, 115, 101, 97, 114, 99, 104]⟩, ⟨#[93]⟩, ⟨#[99, 97, 116]⟩]
def ref3 : List ByteArray := [⟨#[100, 105, 99, 116]⟩, ⟨#[98, 101, 103, 105, 110]⟩, ⟨#[101, 110, 100]⟩, ⟨#[100, 101, 102]⟩, ⟨#[108, 111, 97, 100]⟩, ⟨#[115, 116, 111, 114, 101]⟩, ⟨#[107, 110, 111, 119, 110]⟩, ⟨#[117, 110, 100, 101, 102]⟩,
  ⟨#[119, 104, 101, 114, 101]⟩, ⟨#[99, 117, 114, 114, 101, 110, 116, 100, 105, 99, 116]⟩, ⟨#[99, 111, 117, 110, 116, 100, 105, 99, 116, 115, 116, 97, 99, 107]⟩, ⟨#[109, 97, 120, 108, 101, 110, 103, 116, 104]⟩, ⟨#[62, 62]⟩]
def ref4 : List ByteArray := [⟨#[116, 121, 112, 101]⟩, ⟨#[99, 118, 108, 105, 116]⟩, ⟨#[99, 118, 120]⟩, ⟨#[120, 99, 104, 101, 99, 107]⟩, ⟨#[99, 118, 105]⟩, ⟨#[99, 118, 114]⟩, ⟨#[99, 118, 110]⟩, ⟨#[99, 118, 115]⟩,
  ⟨#[99, 118, 114, 115]⟩]
def ref5 : List ByteArray := [⟨#[101, 120, 101, 99]⟩, ⟨#[105, 102]⟩, ⟨#[105, 102, 101, 108, 115, 101]⟩, ⟨#[102, 111, 114]⟩, ⟨#[114, 101, 112, 101, 97, 116]⟩, ⟨#[108, 111, 111, 112]⟩, ⟨#[101, 120, 105, 116]⟩, ⟨#[115, 116, 111, 112]⟩,
  ⟨#[115, 116, 111, 112, 112, 101, 100]⟩, ⟨#[102, 111, 114, 97, 108, 108]⟩, ⟨#[113, 117, 105, 116]⟩, ⟨#[98, 105, 110, 100]⟩, ⟨#[112, 114, 105, 110, 116]⟩, ⟨#[61]⟩, ⟨#[61, 61]⟩, ⟨#[112, 115, 116, 97, 99, 107]⟩,
  ⟨#[115, 97, 118, 101]⟩, ⟨#[114, 101, 115, 116, 111, 114, 101]⟩, ⟨#[116, 111, 107, 101, 110]⟩, ⟨#[108, 97, 115, 116, 101, 114, 114, 111, 114]⟩, ⟨#[118, 109, 115, 116, 97, 116, 117, 115]⟩]
def ref6 : List ByteArray := [⟨#[103, 115, 97, 118, 101]⟩, ⟨#[103, 114, 101, 115, 116, 111, 114, 101]⟩, ⟨#[105, 110, 105, 116, 103, 114, 97, 112, 104, 105, 99, 115]⟩, ⟨#[115, 101, 116, 109, 97, 116, 114, 105, 120]⟩, ⟨#[99, 117, 114, 114, 101, 110, 116, 109, 97, 116, 114, 105, 120]⟩, ⟨#[116, 114, 97, 110, 115, 108, 97, 116, 101]⟩, ⟨#[115, 99, 97, 108, 101]⟩, ⟨#[114, 111, 116, 97, 116, 101]⟩,
  ⟨#[99, 111, 110, 99, 97, 116]⟩, ⟨#[116, 114, 97, 110, 115, 102, 111, 114, 109]⟩, ⟨#[105, 116, 114, 97, 110, 115, 102, 111, 114, 109]⟩, ⟨#[100, 116, 114, 97, 110, 115, 102, 111, 114, 109]⟩, ⟨#[110, 101, 119, 112, 97, 116, 104]⟩, ⟨#[109, 111, 118, 101, 116, 111]⟩, ⟨#[114, 109, 111, 118, 101, 116, 111]⟩, ⟨#[108, 105, 110, 101, 116, 111]⟩,
  ⟨#[114, 108, 105, 110, 101, 116, 111]⟩, ⟨#[99, 117, 114, 118, 101, 116, 111]⟩, ⟨#[114, 99, 117, 114, 118, 101, 116, 111]⟩, ⟨#[99, 108, 111, 115, 101, 112, 97, 116, 104]⟩, ⟨#[114, 101, 99, 116, 112, 97, 116, 104]⟩, ⟨#[99, 117, 114, 114, 101, 110, 116, 112, 111, 105, 110, 116]⟩, ⟨#[112, 97, 116, 104, 98, 111, 120]⟩, ⟨#[102, 108, 97, 116, 116, 101, 110, 112, 97, 116, 104]⟩,
  ⟨#[114, 101, 118, 101, 114, 115, 101, 112, 97, 116, 104]⟩, ⟨#[99, 108, 105, 112]⟩, ⟨#[101, 111, 99, 108, 105, 112]⟩, ⟨#[105, 110, 105, 116, 99, 108, 105, 112]⟩, ⟨#[102, 105, 108, 108]⟩, ⟨#[101, 111, 102, 105, 108, 108]⟩, ⟨#[115, 116, 114, 111, 107, 101]⟩, ⟨#[114, 101, 99, 116, 102, 105, 108, 108]⟩,
  ⟨#[115, 101, 116, 103, 114, 97, 121]⟩, ⟨#[99, 117, 114, 114, 101, 110, 116, 103, 114, 97, 121]⟩, ⟨#[115, 101, 116, 114, 103, 98, 99, 111, 108, 111, 114]⟩, ⟨#[99, 117, 114, 114, 101, 110, 116, 114, 103, 98, 99, 111, 108, 111, 114]⟩, ⟨#[115, 101, 116, 99, 111, 118, 101, 114]⟩, ⟨#[99, 117, 114, 114, 101, 110, 116, 99, 111, 118, 101, 114]⟩, ⟨#[115, 101, 116, 108, 105, 110, 101, 119, 105, 100, 116, 104]⟩, ⟨#[99, 117, 114, 114, 101, 110, 116, 108, 105, 110, 101, 119, 105, 100, 116, 104]⟩,
  ⟨#[115, 101, 116, 108, 105, 110, 101, 99, 97, 112]⟩, ⟨#[99, 117, 114, 114, 101, 110, 116, 108, 105, 110, 101, 99, 97, 112]⟩, ⟨#[115, 101, 116, 108, 105, 110, 101, 106, 111, 105, 110]⟩, ⟨#[99, 117, 114, 114, 101, 110, 116, 108, 105, 110, 101, 106, 111, 105, 110]⟩, ⟨#[115, 101, 116, 100, 97, 115, 104]⟩, ⟨#[99, 117, 114, 114, 101, 110, 116, 100, 97, 115, 104]⟩, ⟨#[100, 101, 102, 105, 110, 101, 102, 111, 110, 116]⟩, ⟨#[102, 105, 110, 100, 102, 111, 110, 116]⟩,
  ⟨#[115, 101, 116, 102, 111, 110, 116]⟩, ⟨#[99, 117, 114, 114, 101, 110, 116, 102, 111, 110, 116]⟩, ⟨#[115, 104, 111, 119]⟩, ⟨#[99, 104, 97, 114, 112, 97, 116, 104]⟩, ⟨#[115, 116, 114, 105, 110, 103, 119, 105, 100, 116, 104]⟩, ⟨#[105, 109, 97, 103, 101]⟩, ⟨#[105, 109, 97, 103, 101, 109, 97, 115, 107]⟩, ⟨#[115, 104, 111, 119, 112, 97, 103, 101]⟩,
  ⟨#[99, 111, 112, 121, 112, 97, 103, 101]⟩, ⟨#[101, 114, 97, 115, 101, 112, 97, 103, 101]⟩, ⟨#[115, 101, 116, 112, 97, 103, 101]⟩, ⟨#[112, 97, 103, 101, 115, 105, 122, 101]⟩, ⟨#[115, 101, 116, 115, 99, 114, 101, 101, 110]⟩]
def refN (f : Int) : List ByteArray := if f = 1 then ref1 else if f = 2 then ref2 else if f = 3 then ref3 else if f = 4 then ref4 else if f = 5 then ref5 else if f = 6 then ref6 else []
def refAll : List ByteArray := ref1 ++ ref2 ++ ref3 ++ ref4 ++ ref5 ++ ref6
/-- What is cut from the bytes l, with the bytes a of a name begun. -/
def cutL : List UInt8 → List UInt8 → Int → Int → List (Int × Int × ByteArray)
  | [], _, _, _ => []
  | b :: t, a, n, f => bif b == 32 then (n, f, ⟨a.toArray⟩) :: cutL t [] (n + 1) f
    else bif b == 10 then (n, f, ⟨a.toArray⟩) :: cutL t [] (n + 1) (f + 1)
    else cutL t (a ++ [b]) n f
def famE (i : Nat) : Int := if i < 38 then 1 else if i < 58 then 2 else if i < 71 then 3 else if i < 80 then 4 else if i < 101 then 5 else 6
def tab : List (Int × Int × ByteArray) := (List.range 162).map fun (i : Nat) => ((i : Int) + 1, famE i, refAll.getD i ⟨#[]⟩)
theorem nm_size : nm.size = 1158 := by kernel_rfl
theorem cut_nm : cutL nm.data.toList [] 1 1 = tab := by kernel_rfl
theorem nm_all : nm.data.toList.all (fun b => decide (b.toNat < 128)) = true := by kernel_rfl
theorem ref_all : tab.map (fun t => t.2.2) = refAll := by kernel_rfl
theorem tab_length : tab.length = 162 := by kernel_rfl

end Go.Proofs.Ytlkbnldpecolbaa

/- Walks of op: find. -/
namespace Go.Proofs.Ytlkbnldpecolbaa
open Go.RowKit
set_option linter.unusedVariables false

abbrev ptrv (b : Nat) : Value := .pointer (some ⟨b, 0, none⟩)
abbrev opV (t : Int × Int × ByteArray) : Value := .agg #[.int .i64 t.1, .int .i64 t.2.1, .string t.2.2]
abbrev opObj (n f : Int) (s : ByteArray) : Obj := .cells #[.int .i64 n, .int .i64 f, .string s] 81 (0, 0)
/-- A call of function k enters its body. -/
def EntersF (k : Nat) : Prop := ∀ (args : Array Value) (w : World), (callFunc k args).run Try.prog w = .ok (.enter k args) w
theorem entersF_of {k : Nat} {fn : Func} (hf : Try.prog.funcs[k]? = some fn) (hname : (fn.name == "runtime.NumGoroutine") = false) (hb : fn.body.isSome = true) : EntersF k := by
  intro args w
  have h1 : fn.name ≠ "runtime.NumGoroutine" := by simpa using hname
  obtain ⟨c, hc⟩ := Option.isSome_iff_exists.mp hb
  simp [callFunc, hf, h1, hc]
/-- Block b alone may have changed. -/
structure Sole (b : Nat) (w w' : World) : Prop where
  os : w'.os = w.os
  tape : w'.tape = w.tape
  output : w'.output = w.output
  size : w.heap.size ≤ w'.heap.size
  block : ∀ k, k < w.heap.size → k ≠ b → w'.heap[k]? = w.heap[k]?
theorem Sole.refl (b : Nat) (w : World) : Sole b w w := ⟨rfl, rfl, rfl, Nat.le_refl _, fun _ _ _ => rfl⟩
theorem Sole.trans {b : Nat} {u v w : World} (h : Sole b u v) (k : Sole b v w) : Sole b u w :=
  ⟨k.os.trans h.os, k.tape.trans h.tape, k.output.trans h.output, Nat.le_trans h.size k.size, fun i hi hb => (k.block i (Nat.lt_of_lt_of_le hi h.size) hb).trans (h.block i hi hb)⟩
theorem Sole.below {b : Nat} {u v w : World} (h : Sole b u v) (k : Below v.heap.size v w) : Sole b u w :=
  h.trans ⟨k.os, k.tape, k.output, k.size, fun i hi _ => k.block i hi⟩
theorem Sole.belowN {b : Nat} {u v w : World} (h : Sole b u v) (k : Below u.heap.size v w) : Sole b u w :=
  ⟨k.os.trans h.os, k.tape.trans h.tape, k.output.trans h.output, Nat.le_trans h.size k.size, fun i hi hb => (k.block i hi).trans (h.block i hi hb)⟩

theorem Sole.of_only {b A : Nat} {u v w : World} (h : Sole b u v) (k : Only A v w) (hA : u.heap.size ≤ A) : Sole b u w :=
  ⟨k.os.trans h.os, k.tape.trans h.tape, k.output.trans h.output, by rw [k.size]; exact h.size, fun i hi hb => (k.block i (by omega)).trans (h.block i hi hb)⟩
/-- How find's own blocks lie: the result, the operator, the iterator; the captured cell holds V z. -/
structure OpW (t : TypeId) (V : Int → Value) (b : Nat) (w wr : World) (pos : Nat) (n f : Int) (s : ByteArray) (z : Int) : Prop where
  ob : wr.heap[w.heap.size + 1]? = some (opObj n f s)
  res : wr.heap[w.heap.size]? = some (opObj 0 0 ⟨#[]⟩)
  it : wr.heap[w.heap.size + 2]? = some (.stringIter nm pos)
  cell : wr.heap[b]? = some (.cells #[V z] t (0, 0))
  sole : Sole b w wr
  hb : b < w.heap.size
section
variable {t : TypeId} {V : Int → Value} {b pos : Nat} {w wr w2 : World} {n f z : Int} {s : ByteArray}
theorem OpW.next (h : OpW t V b w wr pos n f s z) (q : Nat) : OpW t V b w (wr.iterAt (w.heap.size + 2) nm q) q n f s z :=
  ⟨(Lib.iterAt_other _ _ _ _ _ (by omega)).trans h.ob, (Lib.iterAt_other _ _ _ _ _ (by omega)).trans h.res, Lib.iterAt_heap _ _ _ _ _ h.it,
    (Lib.iterAt_other _ _ _ _ _ (by have := h.hb; omega)).trans h.cell,
    ⟨h.sole.os, h.sole.tape, h.sole.output, by rw [Lib.iterAt_size]; exact h.sole.size, fun i hi hb => (Lib.iterAt_other _ _ _ _ _ (by omega)).trans (h.sole.block i hi hb)⟩, h.hb⟩
theorem OpW.set (h : OpW t V b w wr pos n f s z) (i : Nat) (v : Value) {n' f' : Int} {s' : ByteArray} (he : #[Value.int .i64 n, .int .i64 f, .string s].setIfInBounds i v = #[Value.int .i64 n', .int .i64 f', .string s']) : OpW t V b w (wr.setCell ⟨w.heap.size + 1, i, none⟩ v) pos n' f' s' z := by
  have o : Only (w.heap.size + 1) wr (wr.setCell ⟨w.heap.size + 1, i, none⟩ v) := (Only.refl _ _).set i v
  have := h.hb
  refine ⟨?_, (o.block _ (by omega)).trans h.res, (o.block _ (by omega)).trans h.it, (o.block _ (by omega)).trans h.cell, h.sole.of_only o (by omega), h.hb⟩
  rw [heap_setCell_same _ _ _ _ _ _ h.ob, he]
theorem OpW.num (h : OpW t V b w wr pos n f s z) (m : Int) : OpW t V b w (wr.setCell ⟨w.heap.size + 1, 0, none⟩ (.int .i64 m)) pos m f s z := h.set 0 _ rfl
theorem OpW.fam (h : OpW t V b w wr pos n f s z) (m : Int) : OpW t V b w (wr.setCell ⟨w.heap.size + 1, 1, none⟩ (.int .i64 m)) pos n m s z := h.set 1 _ rfl
theorem OpW.name (h : OpW t V b w wr pos n f s z) (q : ByteArray) : OpW t V b w (wr.setCell ⟨w.heap.size + 1, 2, none⟩ (.string q)) pos n f q z := h.set 2 _ rfl
theorem OpW.call (h : OpW t V b w wr pos n f s z) {y : Int} (k : Sole b wr w2) (hc : w2.heap[b]? = some (.cells #[V y] t (0, 0))) : OpW t V b w w2 pos n f s y := by
  have := h.hb
  refine ⟨(k.block _ (blk_lt h.ob) (by omega)).trans h.ob, (k.block _ (blk_lt h.res) (by omega)).trans h.res, (k.block _ (blk_lt h.it) (by omega)).trans h.it, hc, h.sole.trans k, h.hb⟩
end

/-- What of the text is read already, and what is still to come. -/
structure OpP (p : Int × Int × ByteArray → Bool) (pos st : Nat) (n f : Int) : Prop where
  hpos : pos ≤ 1158
  hst : st ≤ pos
  hn : 1 ≤ n
  hf : 1 ≤ f
  hf2 : f ≤ n
  rest : tab.find? p = (cutL (nm.data.toList.drop pos) ((nm.data.toList.drop st).take (pos - st)) n f).find? p
  count : n - 1 + (cutL (nm.data.toList.drop pos) ((nm.data.toList.drop st).take (pos - st)) n f).length = 162

theorem nmL_length : nm.data.toList.length = 1158 := by rw [Array.length_toList]; exact nm_size
theorem nm_lt {pos : Nat} (h : pos < nm.size) : pos < nm.data.toList.length := by rw [Array.length_toList]; exact h
theorem nm_extract (st pos : Nat) : nm.extract st pos = ⟨((nm.data.toList.drop st).take (pos - st)).toArray⟩ := by
  apply ByteArray.ext
  rw [ByteArray.data_extract]
  apply Array.ext'
  simp [Array.toList_extract]
theorem nm_drop {pos : Nat} (h : pos < nm.size) : nm.data.toList.drop pos = nm[pos] :: nm.data.toList.drop (pos + 1) := by
  have h' := nm_lt h
  rw [List.drop_eq_getElem_cons h']
  rfl
theorem nm_take {pos st : Nat} (h : pos < nm.size) (hst : st ≤ pos) : (nm.data.toList.drop st).take (pos + 1 - st) = (nm.data.toList.drop st).take (pos - st) ++ [nm[pos]] := by
  have h' := nm_lt h
  have e : pos + 1 - st = (pos - st) + 1 := by omega
  have hl : pos - st < (nm.data.toList.drop st).length := by rw [List.length_drop]; omega
  rw [e, List.take_succ_eq_append_getElem hl]
  congr 2
  simp [List.getElem_drop, show st + (pos - st) = pos from by omega]
  rfl
theorem nm_byte {pos : Nat} (h : pos < nm.size) : (nm[pos]).toNat < 128 := by
  have h' := nm_lt h
  have := List.all_eq_true.1 nm_all (nm.data.toList[pos]) (List.getElem_mem h')
  exact of_decide_eq_true this
theorem byte_eq {b : UInt8} {k : Nat} (hk : k < 256) (h : b.toNat = k) : b = UInt8.ofNat k := by
  apply UInt8.toNat_inj.1
  rw [h]; simp; omega
section
variable {p : Int × Int × ByteArray → Bool} {pos st : Nat} {n f : Int}
theorem OpP.start : OpP p 0 0 1 1 := ⟨by omega, by omega, by omega, by omega, by omega, by simp [← cut_nm], by
  have h1 := cut_nm
  have h2 := tab_length
  rw [← h1] at h2
  simp [h2]⟩
theorem OpP.other (h : OpP p pos st n f) (hp : pos < nm.size) (h1 : (nm[pos]).toNat ≠ 32) (h2 : (nm[pos]).toNat ≠ 10) : OpP p (pos + 1) st n f := by
  have b1 : (nm[pos] == 32) = false := by apply Bool.eq_false_iff.2; intro e; have := eq_of_beq e; rw [this] at h1; exact h1 rfl
  have b2 : (nm[pos] == 10) = false := by apply Bool.eq_false_iff.2; intro e; have := eq_of_beq e; rw [this] at h2; exact h2 rfl
  have e : cutL (nm.data.toList.drop pos) ((nm.data.toList.drop st).take (pos - st)) n f = cutL (nm.data.toList.drop (pos + 1)) ((nm.data.toList.drop st).take (pos + 1 - st)) n f := by
    rw [nm_drop hp, nm_take hp h.hst, cutL, b1, b2]; rfl
  have hs := nm_size
  exact ⟨by omega, by have := h.hst; omega, h.hn, h.hf, h.hf2, by rw [← e]; exact h.rest, by rw [← e]; exact h.count⟩
theorem OpP.sp (h : OpP p pos st n f) (hp : pos < nm.size) (h1 : (nm[pos]).toNat = 32) (hn : p (n, f, nm.extract st pos) = false) : OpP p (pos + 1) (pos + 1) (n + 1) f := by
  have b1 : (nm[pos] == 32) = true := by rw [byte_eq (by omega) h1]; rfl
  have e : cutL (nm.data.toList.drop pos) ((nm.data.toList.drop st).take (pos - st)) n f = (n, f, nm.extract st pos) :: cutL (nm.data.toList.drop (pos + 1)) ((nm.data.toList.drop (pos + 1)).take (pos + 1 - (pos + 1))) (n + 1) f := by
    rw [nm_drop hp, cutL, b1, nm_extract]; simp
  have hs := nm_size
  have h3 := h.rest
  have h4 := h.count
  rw [e] at h3 h4
  rw [List.find?_cons, hn] at h3
  rw [List.length_cons] at h4
  exact ⟨by omega, by omega, by have := h.hn; omega, h.hf, by have := h.hf2; omega, h3, by omega⟩
theorem OpP.nl (h : OpP p pos st n f) (hp : pos < nm.size) (h1 : (nm[pos]).toNat = 10) (hn : p (n, f, nm.extract st pos) = false) : OpP p (pos + 1) (pos + 1) (n + 1) (f + 1) := by
  have b0 : (nm[pos] == 32) = false := by rw [byte_eq (by omega) h1]; rfl
  have b1 : (nm[pos] == 10) = true := by rw [byte_eq (by omega) h1]; rfl
  have e : cutL (nm.data.toList.drop pos) ((nm.data.toList.drop st).take (pos - st)) n f = (n, f, nm.extract st pos) :: cutL (nm.data.toList.drop (pos + 1)) ((nm.data.toList.drop (pos + 1)).take (pos + 1 - (pos + 1))) (n + 1) (f + 1) := by
    rw [nm_drop hp, cutL, b0, b1, nm_extract]; simp
  have hs := nm_size
  have h3 := h.rest
  have h4 := h.count
  rw [e] at h3 h4
  rw [List.find?_cons, hn] at h3
  rw [List.length_cons] at h4
  exact ⟨by omega, by omega, by have := h.hn; omega, by have := h.hf; omega, by have := h.hf2; omega, h3, by omega⟩
theorem OpP.found (h : OpP p pos st n f) (hp : pos < nm.size) (h1 : (nm[pos]).toNat = 32 ∨ (nm[pos]).toNat = 10) (hn : p (n, f, nm.extract st pos) = true) : tab.find? p = some (n, f, nm.extract st pos) := by
  rw [h.rest]
  rcases h1 with h1 | h1
  · have b1 : (nm[pos] == 32) = true := by rw [byte_eq (by omega) h1]; rfl
    rw [nm_drop hp, cutL, b1, ← nm_extract]; simp [hn]
  · have b0 : (nm[pos] == 32) = false := by rw [byte_eq (by omega) h1]; rfl
    have b1 : (nm[pos] == 10) = true := by rw [byte_eq (by omega) h1]; rfl
    rw [nm_drop hp, cutL, b0, b1, ← nm_extract]; simp [hn]
theorem OpP.most (h : OpP p pos st n f) (hp : pos < nm.size) (h1 : (nm[pos]).toNat = 32 ∨ (nm[pos]).toNat = 10) : n ≤ 162 := by
  have h4 := h.count
  rcases h1 with h1 | h1
  · have b1 : (nm[pos] == 32) = true := by rw [byte_eq (by omega) h1]; rfl
    rw [nm_drop hp, cutL, b1, cond_true, List.length_cons] at h4
    omega
  · have b0 : (nm[pos] == 32) = false := by rw [byte_eq (by omega) h1]; rfl
    have b1 : (nm[pos] == 10) = true := by rw [byte_eq (by omega) h1]; rfl
    rw [nm_drop hp, cutL, b0, b1, cond_false, cond_true, List.length_cons] at h4
    omega
theorem OpP.done (h : OpP p pos st n f) (hp : ¬ pos < nm.size) : tab.find? p = none ∧ n - 1 = 162 := by
  have hs := nm_size
  have e : nm.data.toList.drop pos = [] := List.drop_eq_nil_of_le (by rw [nmL_length]; omega)
  have h3 := h.rest
  have h4 := h.count
  rw [e] at h3 h4
  simp [cutL] at h3 h4
  exact ⟨by simpa using h3, h4⟩
end
end Go.Proofs.Ytlkbnldpecolbaa

/- Walks of op: find, for any function that is asked of each operator. -/
namespace Go.Proofs.Ytlkbnldpecolbaa
open Go.RowKit
set_option linter.unusedVariables false

theorem startW {t : TypeId} {V : Int → Value} {b : Nat} (w : World) (hb : b < w.heap.size) (hV : w.heap[b]? = some (.cells #[V 0] t (0, 0))) :
    OpW t V b w (((w.alloc (.cells #[.int .i64 0, .int .i64 0, .string ⟨#[]⟩] 81)).alloc (.cells #[.int .i64 1, .int .i64 1, .string ⟨#[]⟩] 81)).iter nm 0) 0 1 1 ⟨#[]⟩ (1 - 1) := by
  obtain ⟨w1, e1, k1, z1, o1⟩ : ∃ w1, w.alloc (.cells #[.int .i64 0, .int .i64 0, .string ⟨#[]⟩] 81) = w1 ∧ Below w.heap.size w w1 ∧ w1.heap.size = w.heap.size + 1 ∧ w1.heap[w.heap.size]? = some (opObj 0 0 ⟨#[]⟩) := ⟨_, rfl, box_below _ _, by simp, heap_alloc_new _ _⟩
  rw [e1]
  obtain ⟨w2, e2, k2, z2, o2⟩ : ∃ w2, w1.alloc (.cells #[.int .i64 1, .int .i64 1, .string ⟨#[]⟩] 81) = w2 ∧ Below w1.heap.size w1 w2 ∧ w2.heap.size = w1.heap.size + 1 ∧ w2.heap[w1.heap.size]? = some (opObj 1 1 ⟨#[]⟩) := ⟨_, rfl, box_below _ _, by simp, heap_alloc_new _ _⟩
  rw [e2]
  obtain ⟨w3, e3, k3, z3, o3⟩ : ∃ w3, w2.iter nm 0 = w3 ∧ Below w2.heap.size w2 w3 ∧ w3.heap.size = w2.heap.size + 1 ∧ w3.heap[w2.heap.size]? = some (.stringIter nm 0) := ⟨_, rfl, box_below _ _, by simp [World.iter], heap_alloc_new _ _⟩
  rw [e3]
  have K := below_and (below_and k1 k2) k3
  rw [z1] at o2 z2
  rw [z2] at o3
  refine ⟨(k3.block _ (by omega)).trans o2, (k3.block _ (by omega)).trans ((k2.block _ (by omega)).trans o1), o3, ?_, ⟨K.os, K.tape, K.output, K.size, fun i hi _ => K.block i hi⟩, hb⟩
  exact (K.block _ hb).trans hV

set_option maxHeartbeats 2000000 in
set_option maxRecDepth 100000 in
theorem find_any (k b : Nat) (hk : Hid (EntersF k)) (p : Int × Int × ByteArray → Bool) (t : TypeId) (V : Int → Value) (w : World) (hb : b < w.heap.size) (hV : w.heap[b]? = some (.cells #[V 0] t (0, 0)))
    (hc : Hid (∀ n f s w1, 1 ≤ n → n ≤ 162 → w.heap.size ≤ w1.heap.size → w1.heap[b]? = some (.cells #[V (n - 1)] t (0, 0)) →
      Calls Try.prog k #[opV (n, f, s), ptrv b] w1 fun e w2 => e = .returned (.bool (p (n, f, s))) ∧ w2.heap[b]? = some (.cells #[V n] t (0, 0)) ∧ Sole b w1 w2)) :
    Calls Try.prog 48 #[.func (.func k) #[] #[ptrv b]] w fun e w' => e = .returned (opV ((tab.find? p).getD (0, 0, ⟨#[]⟩))) ∧ (tab.find? p = none → w'.heap[b]? = some (.cells #[V 162] t (0, 0))) ∧ Sole b w w' := by
  go_enter Try.func48, Try.ntmps48
  rw [nm_def]
  go_wp2_with fail
  go_loopw [4] (fun v wr => ∃ (pos st : Nat) (n f : Int) (s : ByteArray), v = .int .i64 st ∧ OpP p pos st n f ∧ OpW t V b w wr pos n f s (n - 1)) (fun _ wr => 1158 - wr.iterPos (w.heap.size + 2))
  case atStart => 
    exact ⟨0, 0, 1, 1, ⟨#[]⟩, rfl, OpP.start, startW w hb hV⟩
  case round =>
    obtain ⟨pos, st, n, f, s, rfl, hP, hW⟩ := hrel
    by_cases hp : pos < nm.size
    · have hnx : ∀ ty, (Instr.next (.pointer (some ⟨w.heap.size + 2, 0, none⟩)) true ty).run Try.prog wr = _ := fun ty => Lib.run_next_ascii_at wr _ nm pos ty hW.it hp (nm_byte hp)
      have W1 := hW.next (pos + 1)
      have hm0 : wr.iterPos (w.heap.size + 2) = pos := iterPos_of hW.it
      generalize hx : (nm[pos]).toNat = x at hnx
      generalize hw1 : wr.iterAt (w.heap.size + 2) nm (pos + 1) = wi at hnx W1
      have hst : st ≤ pos := hP.hst
      have hpz : pos ≤ nm.size := Nat.le_of_lt hp
      have hs := nm_size
      obtain ⟨c0, c1, c2, f0, f1, f2⟩ := cells3 W1.ob
      by_cases h32 : x = 32
      · subst h32
        have HP := Lib.hid hP
        have HW := Lib.hid W1
        have HX := Lib.hid hx
        clear hP W1 hx hW
        go_upto_region 8 with fail
        have HW2 := Lib.hid (HW.out.name (nm.extract st pos))
        generalize wi.setCell ⟨w.heap.size + 1, 2, none⟩ (.string (nm.extract st pos)) = w2 at HW2
        clear c0 c1 c2 f0 f1 f2 hw1
        obtain ⟨c0, c1, c2, f0, f1, f2⟩ := cells3 HW2.out.ob
        go_wp2_with fail
        rw [hk.out, Oper.upon_enter]
        have hcc := hc.out n f (nm.extract st pos) w2 HP.out.hn (HP.out.most hp (.inl HX.out)) HW2.out.sole.size HW2.out.cell
        refine hcc.mono ?_
        clear hcc
        rintro e w3 ⟨rfl, hv3, hs3⟩
        have HW3 := Lib.hid (HW2.out.call hs3 hv3)
        clear hv3 hs3 c0 c1 c2 f0 f1 f2
        obtain ⟨c0, c1, c2, f0, f1, f2⟩ := cells3 HW3.out.ob
        obtain ⟨r0, r1, r2, q0, q1, q2⟩ := cells3 HW3.out.res
        have hB : Hid (b ≠ w.heap.size) := Lib.hid (by have := HW3.out.hb; omega)
        cases hpp : p (n, f, nm.extract st pos)
        · have HN := Lib.hid (HP.out.sp hp HX.out hpp)
          have HPP := Lib.hid hpp
          have n1 : IntKind.i64.wrap (n + 1) = n + 1 := IntWalk.i64_in _ (by have := HP.out.hn; have := HP.out.most hp (.inl HX.out); omega)
          have n2 : IntKind.i64.wrap ((pos : Int) + 1) = (pos : Int) + 1 := IntWalk.i64_in _ (by omega)
          clear hpp
          go_upto_region 12 with fail
          have HW4 := Lib.hid (HW3.out.num (n + 1))
          generalize w3.setCell ⟨w.heap.size + 1, 0, none⟩ (.int .i64 (n + 1)) = w4 at HW4
          clear c0 c1 c2 f0 f1 f2 r0 r1 r2 q0 q1 q2
          obtain ⟨c0, c1, c2, f0, f1, f2⟩ := cells3 HW4.out.ob
          go_wp2
          go_roundw
          case rel => exact ⟨pos + 1, pos + 1, n + 1, f, _, by simp, HN.out, by have := HW4.out; rwa [show n + 1 - 1 = n from by omega]⟩
          case measure => rw [iterPos_of HW4.out.it, hm0]; omega
        · have HF := Lib.hid (HP.out.found hp (.inl HX.out) hpp)
          clear hpp
          go_wp2
          (try simp only [Exit.inBlock, Exit.then])
          exact bodyPost_ret (results_cell_row rfl _ _ _ _ _ _ _ rfl (set3 HW3.out.res _ _ _) Try.underlying81 rfl (by kernel_rfl)) rfl
            ⟨by rw [HF.out]; rfl, fun h => absurd (HF.out.symm.trans h) (by simp), HW3.out.sole.of_only (only3 _ _ _ _ _) (Nat.le_refl _)⟩
      · by_cases h10 : x = 10
        · subst h10
          have HP := Lib.hid hP
          have HW := Lib.hid W1
          have HX := Lib.hid hx
          clear hP W1 hx hW
          go_upto_region 8 with fail
          have HW2 := Lib.hid (HW.out.name (nm.extract st pos))
          generalize wi.setCell ⟨w.heap.size + 1, 2, none⟩ (.string (nm.extract st pos)) = w2 at HW2
          clear c0 c1 c2 f0 f1 f2 hw1
          obtain ⟨c0, c1, c2, f0, f1, f2⟩ := cells3 HW2.out.ob
          go_wp2_with fail
          rw [hk.out, Oper.upon_enter]
          have hcc := hc.out n f (nm.extract st pos) w2 HP.out.hn (HP.out.most hp (.inr HX.out)) HW2.out.sole.size HW2.out.cell
          refine hcc.mono ?_
          clear hcc
          rintro e w3 ⟨rfl, hv3, hs3⟩
          have HW3 := Lib.hid (HW2.out.call hs3 hv3)
          clear hv3 hs3 c0 c1 c2 f0 f1 f2
          obtain ⟨c0, c1, c2, f0, f1, f2⟩ := cells3 HW3.out.ob
          obtain ⟨r0, r1, r2, q0, q1, q2⟩ := cells3 HW3.out.res
          have hB : Hid (b ≠ w.heap.size) := Lib.hid (by have := HW3.out.hb; omega)
          cases hpp : p (n, f, nm.extract st pos)
          · have HN := Lib.hid (HP.out.nl hp HX.out hpp)
            have HPP := Lib.hid hpp
            have n1 : IntKind.i64.wrap (n + 1) = n + 1 := IntWalk.i64_in _ (by have := HP.out.hn; have := HP.out.most hp (.inr HX.out); omega)
            have n2 : IntKind.i64.wrap ((pos : Int) + 1) = (pos : Int) + 1 := IntWalk.i64_in _ (by omega)
            have n3 : IntKind.i64.wrap (f + 1) = f + 1 := IntWalk.i64_in _ (by have := HP.out.hf; have := HP.out.most hp (.inr HX.out); have := HP.out.hf2; omega)
            clear hpp
            go_upto_region 12 with fail
            have HW4 := Lib.hid (HW3.out.num (n + 1))
            generalize w3.setCell ⟨w.heap.size + 1, 0, none⟩ (.int .i64 (n + 1)) = w4 at HW4
            clear c0 c1 c2 f0 f1 f2 r0 r1 r2 q0 q1 q2
            obtain ⟨c0, c1, c2, f0, f1, f2⟩ := cells3 HW4.out.ob
            go_wp2
            have HW5 := Lib.hid (HW4.out.fam (f + 1))
            go_roundw
            case rel => exact ⟨pos + 1, pos + 1, n + 1, f + 1, _, by simp, HN.out, by have := HW5.out; rwa [show n + 1 - 1 = n from by omega]⟩
            case measure => rw [iterPos_of HW5.out.it, hm0]; omega
          · have HF := Lib.hid (HP.out.found hp (.inr HX.out) hpp)
            clear hpp
            go_wp2
            (try simp only [Exit.inBlock, Exit.then])
            exact bodyPost_ret (results_cell_row rfl _ _ _ _ _ _ _ rfl (set3 HW3.out.res _ _ _) Try.underlying81 rfl (by kernel_rfl)) rfl
              ⟨by rw [HF.out]; rfl, fun h => absurd (HF.out.symm.trans h) (by simp), HW3.out.sole.of_only (only3 _ _ _ _ _) (Nat.le_refl _)⟩
        · have b1 : ((x : Int) != 32) = true := by simp; omega
          have b2 : ((x : Int) != 10) = true := by simp; omega
          go_wp2
          go_roundw
          case rel => exact ⟨pos + 1, st, n, f, s, rfl, hP.other hp (by omega) (by omega), W1⟩
          case measure => rw [iterPos_of W1.it, hm0]; omega
    · have hnx : ∀ ty, (Instr.next (.pointer (some ⟨w.heap.size + 2, 0, none⟩)) true ty).run Try.prog wr = _ := fun ty => Lib.run_next_end_at wr _ nm pos ty hW.it hp
      have HW := Lib.hid hW
      have HD := Lib.hid (hP.done hp)
      obtain ⟨r0, r1, r2, q0, q1, q2⟩ := cells3 HW.out.res
      clear hW hP
      go_wp2
      (try simp only [Exit.inBlock, Exit.then])
      exact bodyPost_ret (results_cell_row rfl _ _ _ _ _ _ _ rfl (set3 HW.out.res _ _ _) Try.underlying81 rfl (by kernel_rfl)) rfl
        ⟨by rw [HD.out.1]; rfl, fun _ => by rw [(only3 _ _ _ _ _).block _ (by have := HW.out.hb; omega), HW.out.cell, HD.out.2], HW.out.sole.of_only (only3 _ _ _ _ _) (Nat.le_refl _)⟩
end Go.Proofs.Ytlkbnldpecolbaa
