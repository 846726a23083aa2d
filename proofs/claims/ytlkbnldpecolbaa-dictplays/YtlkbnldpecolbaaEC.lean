/- DictPlays: a list of deeds, as it came in; region 15 over its frame. -/
import Derived.Test.YtlkbnldpecolbaaY30
import Derived.Deep.Slices
import Derived.WideShapes
import Derived.ChangeSame
import Derived.OpenShut
namespace Go.Proofs.Ytlkbnldpecolbaa
open Go.RowKit Go.ChangeShapes Go.WideShapes Go.Deep
set_option linter.unusedVariables false
set_option linter.unusedSimpArgs false
set_option maxRecDepth 100000

/-- A deed: its cells in the row. -/
structure DeedV where
  what : Int
  key : Int
  val : Int
  o : Ob
abbrev deedL (A : DeedV) : List Value := [.int .i64 A.what, .int .i64 A.key, .int .i64 A.val, .int .i64 A.o.k, .bool A.o.x, .int .i64 A.o.n, .int .i64 A.o.a, .int .i64 A.o.l, .string A.o.s]
abbrev deObj (A : DeedV) : Obj := .cells #[.int .i64 A.what, .int .i64 A.key, .int .i64 A.val, .int .i64 A.o.k, .bool A.o.x, .int .i64 A.o.n, .int .i64 A.o.a, .int .i64 A.o.l, .string A.o.s] 57
structure DeedAt (w : World) (p : Option Addr) (i : Nat) (A : DeedV) : Prop where
  at_ : ∃ ad, p = some ad ∧ ad.block < w.heap.size ∧ ∀ j u, (deedL A)[j]? = some u → w.cell? ((ad.add (i * 9)).add j) = some u
  kb : -9223372036854775808 ≤ A.key ∧ A.key < 9223372036854775808
theorem addBlock (a : Addr) (k : Nat) : (a.add k).block = a.block := by
  unfold Addr.add
  split <;> rfl
section
variable {H : Type} {enc : TypeId × Value → H} {w : World} {base : Nat} {held : Bool} {fuel : Nat} {cs : List Value} {x : DataW H × List MemPlace}
/-- An object's cells. -/
theorem cellsOb (h : DataW.trod enc Try.prog w base (fun _ => true) held fuel 30 cs = some x) : ∃ o : Ob, cs = o.cells := by
  have hC : Try.prog.cellsOf 30 = 6 := by kernel_rfl
  have z3 : Try.prog.cellsOf 3 = 1 := by kernel_rfl
  have z4 : Try.prog.cellsOf 4 = 1 := by kernel_rfl
  have z9 : Try.prog.cellsOf 9 = 1 := by kernel_rfl
  obtain ⟨xs, m, _, hx, hcl, hlen, hg⟩ := DataW.trod_struct Try.underlying30 h
  rw [hC] at hcl
  obtain ⟨c0, c1, c2, c3, c4, c5, rfl⟩ : ∃ c0 c1 c2 c3 c4 c5, cs = [c0, c1, c2, c3, c4, c5] := by
    match cs, hcl with
    | [c0, c1, c2, c3, c4, c5], _ => exact ⟨c0, c1, c2, c3, c4, c5, rfl⟩
  obtain ⟨y0, y1, y2, y3, y4, y5, rfl⟩ : ∃ y0 y1 y2 y3 y4 y5, xs = [y0, y1, y2, y3, y4, y5] := by
    match xs, hlen with
    | [y0, y1, y2, y3, y4, y5], _ => exact ⟨y0, y1, y2, y3, y4, y5, rfl⟩
  have g0 := hg 0 _ rfl
  have g1 := hg 1 _ rfl
  have g2 := hg 2 _ rfl
  have g3 := hg 3 _ rfl
  have g4 := hg 4 _ rfl
  have g5 := hg 5 _ rfl
  simp [z3, z4, z9] at g0 g1 g2 g3 g4 g5
  obtain ⟨k, e0, f0, w0⟩ := DataW.trod_int Try.underlying3 g0
  obtain ⟨b, e1, f1⟩ := DataW.trod_bool Try.underlying4 g1
  obtain ⟨n, e2, f2, w2⟩ := DataW.trod_int Try.underlying3 g2
  obtain ⟨a, e3, f3, w3⟩ := DataW.trod_int Try.underlying3 g3
  obtain ⟨l, e4, f4, w4⟩ := DataW.trod_int Try.underlying3 g4
  obtain ⟨s, e5, f5, w5⟩ := DataW.trod_string Try.underlying9 g5
  simp only [List.cons.injEq, and_true] at e0 e1 e2 e3 e4 e5
  subst e0 e1 e2 e3 e4 e5
  exact ⟨⟨k, b, n, a, l, s⟩, rfl⟩
/-- A deed. -/
theorem cells_deed (h : DataW.trod enc Try.prog w base (fun _ => true) held fuel 57 cs = some x) : ∃ A : DeedV, cs = deedL A ∧ -9223372036854775808 ≤ A.key ∧ A.key < 9223372036854775808 := by
  have hC : Try.prog.cellsOf 57 = 9 := by kernel_rfl
  have z3 : Try.prog.cellsOf 3 = 1 := by kernel_rfl
  have z24 : Try.prog.cellsOf 30 = 6 := by kernel_rfl
  obtain ⟨xs, m, _, hx, hcl, hlen, hg⟩ := DataW.trod_struct Try.underlying57 h
  rw [hC] at hcl
  obtain ⟨c0, c1, c2, c3, c4, c5, c6, c7, c8, rfl⟩ : ∃ c0 c1 c2 c3 c4 c5 c6 c7 c8, cs = [c0, c1, c2, c3, c4, c5, c6, c7, c8] := by
    match cs, hcl with
    | [c0, c1, c2, c3, c4, c5, c6, c7, c8], _ => exact ⟨c0, c1, c2, c3, c4, c5, c6, c7, c8, rfl⟩
  obtain ⟨y0, y1, y2, y3, rfl⟩ : ∃ y0 y1 y2 y3, xs = [y0, y1, y2, y3] := by
    match xs, hlen with
    | [y0, y1, y2, y3], _ => exact ⟨y0, y1, y2, y3, rfl⟩
  have g0 := hg 0 _ rfl
  have g1 := hg 1 _ rfl
  have g2 := hg 2 _ rfl
  have g3 := hg 3 _ rfl
  simp [z3, z24] at g0 g1 g2 g3
  obtain ⟨k, e0, f0, w0⟩ := DataW.trod_int Try.underlying3 g0
  obtain ⟨a, e1, f1, w1⟩ := DataW.trod_int Try.underlying3 g1
  obtain ⟨b, e2, f2, w2⟩ := DataW.trod_int Try.underlying3 g2
  obtain ⟨o, e6⟩ := cellsOb g3
  simp only [List.cons.injEq, and_true] at e0 e1 e2
  simp only [Ob.cells, List.cons.injEq, and_true] at e6
  obtain ⟨r0, r1, r2, r3, r4, r5⟩ := e6
  subst e0 e1 e2 r0 r1 r2 r3 r4 r5
  obtain ⟨b1, b2⟩ := bounds_i64 w1
  exact ⟨⟨k, a, b, o⟩, rfl, by show _ ≤ a; omega, by show a < _; omega⟩
/-- A list of deeds. -/
theorem open_deeds {a : Option Addr} {len cap : Nat} {d : DataW H} {p : List MemPlace} (h : DataW.Trod enc Try.prog w base (fun _ => true) held 50 (.slice a len cap) d p) : len ≤ cap ∧ ∀ i, i < len → ∃ A, DeedAt w a i A := by
  have hC : Try.prog.cellsOf 57 = 9 := by kernel_rfl
  obtain ⟨fuel, hf⟩ := h
  rcases open_slice Try.underlying50 hf with ⟨hcs, _⟩ | ⟨ad, l, c, m, n, D, Pl, hcs, hb, hl, hm, hmm, _, hx⟩
  · simp [Value.cells] at hcs
    obtain ⟨rfl, rfl, rfl⟩ := hcs
    exact ⟨Nat.le_refl _, fun i hi => by omega⟩
  · simp [Value.cells] at hcs
    obtain ⟨rfl, rfl, rfl⟩ := hcs
    simp only [if_true] at hmm
    subst hmm
    rw [hC] at hx
    refine ⟨hl, fun i hi => ?_⟩
    obtain ⟨cs', h1, h2⟩ := hx i (by omega)
    obtain ⟨A, rfl, hv0, hv1⟩ := cells_deed h2
    obtain ⟨_, _, h3⟩ := World.cells?_some h1
    have hc : ∀ j u, (deedL A)[j]? = some u → w.cell? ((ad.add (i * 9)).add j) = some u := fun j u hj => by
      have hj10 : j < 9 := by have := (List.getElem?_eq_some_iff.1 hj).1; simpa using this
      rw [h3 j hj10]
      exact hj
    refine ⟨A, ⟨ad, rfl, ?_, hc⟩, hv0, hv1⟩
    have := World.block_lt_of_cell? w _ (hc 0 _ rfl)
    rwa [addBlock, addBlock] at this
end
/-- A region of a code, by its number. -/
def regionAt (n : Nat) : Code → Option Code
  | .region k ops d => if k = n then some (.region k ops d) else none
  | .seq a b => match regionAt n a with
    | some c => some c
    | none => regionAt n b
  | .cond _ a b => match regionAt n a with
    | some c => some c
    | none => regionAt n b
  | .block _ c => regionAt n c
  | .loop c => regionAt n c
  | _ => none
noncomputable def codeAt (n : Nat) : Code := (Try.f6.body.bind (regionAt n)).getD .skip
set_option maxHeartbeats 20000000 in
set_option maxRecDepth 1000000 in
theorem reg15 (base : Nat → Prop) (w0 wb : World) (hb rb : Nat) (P Q : List Cel) (bs : List (Nat × Obj)) (ba : Nat) (A : DeedV) (k1 : Int) (x_1 : Bool) (n1 a1 l1 : Int) (s1 : ByteArray)
    (x0 x1 x2 x3 x4 x5 x6 x7 x8 x9 x10 x11 x13 x14 x15 x16 x17 x18 x19 x20 x21 x22 x23 x24 x25 x26 x27 x28 x29 x30 x31 x32 x33 x34 x35 x36 x37 x38 x39 x40 x41 x42 x43 x44 x45 x46 x47 x48 x49 x50 x51 x52 x53 x54 x55 x56 x57 x58 x59 x60 x61 x62 x63 x64 x65 x66 x67 x68 x69 x70 x71 x72 x73 x74 x75 x76 x77 x78 x79 x80 x81 x82 x83 x84 x85 x86 x87 x88 x89 x90 x91 x92 x93 x94 x95 x96 x97 x98 x99 x100 x101 x102 x103 x104 x105 x106 x107 x108 x109 x110 x111 x112 x113 x114 x115 x116 x117 x118 x119 x120 x121 x122 x123 x124 x125 x126 x127 x128 x129 x130 x131 x132 x133 x134 x135 x136 x137 x138 x139 x140 x141 x142 x143 x144 x145 x146 x147 x148 x149 x150 x151 x152 x153 x154 x155 x156 x157 x158 x159 x160 x161 x162 x163 x164 x165 x166 x167 x168 x169 x170 x171 x172 x173 x174 x175 x176 x177 x178 x179 x180 x181 x182 x183 x184 x185 x186 x187 x188 x189 x190 x191 x192 x193 x194 x195 x196 x197 x198 x199 x200 x201 x202 x203 x204 x205 x206 x207 x208 x209 x210 x211 x212 x213 x214 x215 x216 x217 x218 : Value)
    (C1 : Hid (∀ wx, Calls Try.prog 26 #[.int .i64 A.key, obV A.o.k A.o.x A.o.n A.o.a A.o.l A.o.s] wx fun e w' => e = .returned (obV k1 x_1 n1 a1 l1 s1) ∧ Below wx.heap.size wx w'))
    (RB : Hid (Dr base w0 hb rb P Q ((ba, deObj A) :: bs) wb)) (Q0 : Exit → Act → World → Prop)
    (hexit : Hid (∀ (b1 b2 : Nat) (y82 y83 y84 y85 y86 y87 y88 y89 : Value) (wj : World), Dr base w0 hb rb P Q ((b2, obObj 3 false A.val 0 0 ⟨#[]⟩) :: (b1, obObj k1 x_1 n1 a1 l1 s1) :: (ba, deObj A) :: bs) wj → Q0 .normal ⟨#[x0, x1, x2, x3, x4, x5, x6, x7, x8, x9, x10, x11, .pointer (some ⟨ba, 0, none⟩), .pointer (some ⟨b1, 0, none⟩), .pointer (some ⟨b2, 0, none⟩), x15, x16, x17, x18, x19, x20, x21, x22, x23, x24, x25, x26, x27, x28, x29, x30, x31, x32, x33, x34, x35, x36, x37, x38, x39, x40, x41, x42, x43, x44, x45, x46, x47, x48, x49, x50, x51, x52, x53, x54, x55, x56, x57, x58, x59, x60, x61, x62, x63, x64, x65, x66, x67, x68, x69, x70, x71, x72, x73, x74, x75, x76, x77, x78, x79, x80, x81, y82, y83, y84, y85, y86, y87, y88, y89, x90, x91, x92, x93, x94, x95, x96, x97, x98, x99, x100, x101, x102, x103, x104, x105, x106, x107, x108, x109, x110, x111, x112, x113, x114, x115, x116, x117, x118, x119, x120, x121, x122, x123, x124, x125, x126, x127, x128, x129, x130, x131, x132, x133, x134, x135, x136, x137, x138, x139, x140, x141, x142, x143, x144, x145, x146, x147, x148, x149, x150, x151, x152, x153, x154, x155, x156, x157, x158, x159, x160, x161, x162, x163, x164, x165, x166, x167, x168, x169, x170, x171, x172, x173, x174, x175, x176, x177, x178, x179, x180, x181, x182, x183, x184, x185, x186, x187, x188, x189, x190, x191, x192, x193, x194, x195, x196, x197, x198, x199, x200, x201, x202, x203, x204, x205, x206, x207, x208, x209, x210, x211, x212, x213, x214, x215, x216, x217, x218], []⟩ wj)) :
    Code.wp Try.prog (codeAt 15) Q0 ⟨#[x0, x1, x2, x3, x4, x5, x6, x7, x8, x9, x10, x11, .pointer (some ⟨ba, 0, none⟩), x13, x14, x15, x16, x17, x18, x19, x20, x21, x22, x23, x24, x25, x26, x27, x28, x29, x30, x31, x32, x33, x34, x35, x36, x37, x38, x39, x40, x41, x42, x43, x44, x45, x46, x47, x48, x49, x50, x51, x52, x53, x54, x55, x56, x57, x58, x59, x60, x61, x62, x63, x64, x65, x66, x67, x68, x69, x70, x71, x72, x73, x74, x75, x76, x77, x78, x79, x80, x81, x82, x83, x84, x85, x86, x87, x88, x89, x90, x91, x92, x93, x94, x95, x96, x97, x98, x99, x100, x101, x102, x103, x104, x105, x106, x107, x108, x109, x110, x111, x112, x113, x114, x115, x116, x117, x118, x119, x120, x121, x122, x123, x124, x125, x126, x127, x128, x129, x130, x131, x132, x133, x134, x135, x136, x137, x138, x139, x140, x141, x142, x143, x144, x145, x146, x147, x148, x149, x150, x151, x152, x153, x154, x155, x156, x157, x158, x159, x160, x161, x162, x163, x164, x165, x166, x167, x168, x169, x170, x171, x172, x173, x174, x175, x176, x177, x178, x179, x180, x181, x182, x183, x184, x185, x186, x187, x188, x189, x190, x191, x192, x193, x194, x195, x196, x197, x198, x199, x200, x201, x202, x203, x204, x205, x206, x207, x208, x209, x210, x211, x212, x213, x214, x215, x216, x217, x218], []⟩ wb := by
  have SX : Hid (wb.drew.heap[ba]? = some (deObj A)) := Lib.hid (RB.out.box (ba, deObj A) (by simp)).1
  have RX : Hid (Dr base w0 hb rb P Q ((ba, deObj A) :: bs) wb.drew) := Lib.hid (RB.out.later (Below.refl _ _).drew)
  clear RB
  conv => arg 2; whnf
  (try refine wp_region_noPanic ?_)
  refine wp_region_held_drew (S := fun wx => wx.heap[ba]? = some (deObj A)) (by kernel_rfl) SX.out (fun _ => ?_)
  generalize wb.drew = w_0 at SX RX ⊢
  refine wpAnyH_take (i := 0) (v := .pointer (some ⟨ba, 1, none⟩)) rfl (by kernel_rfl) (by kernel_rfl) (by kernel_rfl) (fun _ _ _ h => h) (Or.inl ⟨by rfl, fun wx hS => ?_⟩) SX.out ?_
  · go_simp
  try simp only [Act.put, List.getElem_toArray, List.getElem_cons_succ, List.getElem_cons_zero, List.setIfInBounds_toArray, List.set_cons_zero, List.set_cons_succ]
  refine wpAnyH_take (i := 1) (v := .int .i64 A.key) rfl (by kernel_rfl) (by kernel_rfl) (by kernel_rfl) (fun _ _ _ h => h) (Or.inl ⟨by rfl, fun wx hS => ?_⟩) SX.out ?_
  · have hc : ∀ i, wx.cell? ⟨ba, i, none⟩ = (deedL A).toArray[i]? := fun i => cellAt hS i; have c1 := hc 1; have c2 := hc 2; have c3 := hc 3; have c4 := hc 4; have c5 := hc 5; have c6 := hc 6; have c7 := hc 7; have c8 := hc 8; clear hc; go_simp
  try simp only [Act.put, List.getElem_toArray, List.getElem_cons_succ, List.getElem_cons_zero, List.setIfInBounds_toArray, List.set_cons_zero, List.set_cons_succ]
  refine wpAnyH_take (i := 2) (v := .pointer (some ⟨ba, 3, none⟩)) rfl (by kernel_rfl) (by kernel_rfl) (by kernel_rfl) (fun _ _ _ h => h) (Or.inl ⟨by rfl, fun wx hS => ?_⟩) SX.out ?_
  · go_simp
  try simp only [Act.put, List.getElem_toArray, List.getElem_cons_succ, List.getElem_cons_zero, List.setIfInBounds_toArray, List.set_cons_zero, List.set_cons_succ]
  refine wpAnyH_take (i := 3) (v := obV A.o.k A.o.x A.o.n A.o.a A.o.l A.o.s) rfl (by kernel_rfl) (by kernel_rfl) (by kernel_rfl) (fun _ _ _ h => h) (Or.inl ⟨by rfl, fun wx hS => ?_⟩) SX.out ?_
  · have hc : ∀ i, wx.cell? ⟨ba, i, none⟩ = (deedL A).toArray[i]? := fun i => cellAt hS i; have c1 := hc 1; have c2 := hc 2; have c3 := hc 3; have c4 := hc 4; have c5 := hc 5; have c6 := hc 6; have c7 := hc 7; have c8 := hc 8; clear hc; go_simp
  try simp only [Act.put, List.getElem_toArray, List.getElem_cons_succ, List.getElem_cons_zero, List.setIfInBounds_toArray, List.set_cons_zero, List.set_cons_succ]
  refine wpAnyH_take (i := 5) (v := .pointer (some ⟨ba, 2, none⟩)) rfl (by kernel_rfl) (by kernel_rfl) (by kernel_rfl) (fun _ _ _ h => h) (Or.inl ⟨by rfl, fun wx hS => ?_⟩) SX.out ?_
  · go_simp
  try simp only [Act.put, List.getElem_toArray, List.getElem_cons_succ, List.getElem_cons_zero, List.setIfInBounds_toArray, List.set_cons_zero, List.set_cons_succ]
  refine wpAnyH_take (i := 6) (v := .int .i64 A.val) rfl (by kernel_rfl) (by kernel_rfl) (by kernel_rfl) (fun _ _ _ h => h) (Or.inl ⟨by rfl, fun wx hS => ?_⟩) SX.out ?_
  · have hc : ∀ i, wx.cell? ⟨ba, i, none⟩ = (deedL A).toArray[i]? := fun i => cellAt hS i; have c1 := hc 1; have c2 := hc 2; have c3 := hc 3; have c4 := hc 4; have c5 := hc 5; have c6 := hc 6; have c7 := hc 7; have c8 := hc 8; clear hc; go_simp
  try simp only [Act.put, List.getElem_toArray, List.getElem_cons_succ, List.getElem_cons_zero, List.setIfInBounds_toArray, List.set_cons_zero, List.set_cons_succ]
  refine wpAnyH_take (i := 7) (v := obV 3 false A.val 0 0 ⟨#[]⟩) rfl (by kernel_rfl) (by kernel_rfl) (by kernel_rfl) (fun _ _ _ h => h) (Or.inl ⟨by rfl, fun wx hS => ?_⟩) SX.out ?_
  · go_simp
  try simp only [Act.put, List.getElem_toArray, List.getElem_cons_succ, List.getElem_cons_zero, List.setIfInBounds_toArray, List.set_cons_zero, List.set_cons_succ]
  refine wpAnyH_ready (rs := [4, 8, 9]) (by kernel_rfl) (by simp) ?_
  refine AllReadyH.cons rfl (fun K hK => ?_) (AllReadyH.cons rfl (fun K hK => ?_) (AllReadyH.cons rfl (fun K hK => ?_) AllReadyH.nil))
  · go_simp
    refine (C1.out _).mono ?_
    rintro e w_1 ⟨rfl, kk⟩
    have RY := Lib.hid (RX.out.later kk)
    clear RX SX kk
    have RX := RY
    clear RY
    have SX := Lib.hid (RX.out.box (ba, deObj A) (by simp)).1
    refine hK.out _ _ SX.out (fun _ => ?_)
    clear hK
    try simp only [Act.put, List.getElem_toArray, List.getElem_cons_succ, List.getElem_cons_zero, List.setIfInBounds_toArray, List.set_cons_zero, List.set_cons_succ]
    refine wpAnyH_ready (rs := [8, 9]) (by kernel_rfl) (by simp) ?_
    refine AllReadyH.cons rfl (fun K hK => ?_) (AllReadyH.cons rfl (fun K hK => ?_) AllReadyH.nil)
    · go_simp
      obtain ⟨w_2, ey, ry⟩ : ∃ w_2, w_1.alloc emptyOb = w_2 ∧ Dr base w0 hb rb P Q ((w_1.heap.size, emptyOb) :: (ba, deObj A) :: bs) w_2 := ⟨_, rfl, RX.out.new _⟩
      rw [ey]
      clear RX SX ey
      have RX := Lib.hid ry
      clear ry
      have SX := Lib.hid (RX.out.box (ba, deObj A) (by simp)).1
      refine hK.out _ _ SX.out (fun _ => ?_)
      clear hK
      try simp only [Act.put, List.getElem_toArray, List.getElem_cons_succ, List.getElem_cons_zero, List.setIfInBounds_toArray, List.set_cons_zero, List.set_cons_succ]
      refine wpAnyH_ready (rs := [9]) (by kernel_rfl) (by simp) ?_
      refine AllReadyH.cons rfl (fun K hK => ?_) AllReadyH.nil
      go_simp
      obtain ⟨w_3, ey, ry⟩ : ∃ w_3, w_2.alloc emptyOb = w_3 ∧ Dr base w0 hb rb P Q ((w_2.heap.size, emptyOb) :: (w_1.heap.size, emptyOb) :: (ba, deObj A) :: bs) w_3 := ⟨_, rfl, RX.out.new _⟩
      rw [ey]
      clear RX SX ey
      have RX := Lib.hid ry
      clear ry
      have SX := Lib.hid (RX.out.box (ba, deObj A) (by simp)).1
      refine hK.out _ _ SX.out (fun _ => ?_)
      clear hK
      try simp only [Act.put, List.getElem_toArray, List.getElem_cons_succ, List.getElem_cons_zero, List.setIfInBounds_toArray, List.set_cons_zero, List.set_cons_succ]
      have RY := Lib.hid RX.out.swap
      clear RX
      have RX := RY
      clear RY
      obtain ⟨⟨r0, r1, r2, r3, r4, r5⟩, f0, f1, f2, f3, f4, f5⟩ := cells6 (RX.out.box (w_1.heap.size, emptyOb) (by simp)).1
      refine wpAnyH_ready (rs := [10]) (by kernel_rfl) (by simp) ?_
      refine AllReadyH.cons rfl (fun K hK => ?_) AllReadyH.nil
      go_simp
      obtain ⟨w_4, ey, ry⟩ := RX.out.put ⟨k1, x_1, n1, a1, l1, s1⟩
      unfold put6 at ey
      rw [ey]
      have RY := Lib.hid ry
      clear RX SX ey ry r0 r1 r2 r3 r4 r5 f0 f1 f2 f3 f4 f5
      have RX := RY
      clear RY
      have SX := Lib.hid (RX.out.box (ba, deObj A) (by simp)).1
      refine hK.out _ _ SX.out (fun _ => ?_)
      clear hK
      try simp only [Act.put, List.getElem_toArray, List.getElem_cons_succ, List.getElem_cons_zero, List.setIfInBounds_toArray, List.set_cons_zero, List.set_cons_succ]
      have RY := Lib.hid RX.out.swap
      clear RX
      have RX := RY
      clear RY
      obtain ⟨⟨r0, r1, r2, r3, r4, r5⟩, f0, f1, f2, f3, f4, f5⟩ := cells6 (RX.out.box (w_2.heap.size, emptyOb) (by simp)).1
      refine wpAnyH_ready (rs := [11]) (by kernel_rfl) (by simp) ?_
      refine AllReadyH.cons rfl (fun K hK => ?_) AllReadyH.nil
      go_simp
      obtain ⟨w_5, ey, ry⟩ := RX.out.put ⟨3, false, A.val, 0, 0, ⟨#[]⟩⟩
      unfold put6 at ey
      rw [ey]
      have RY := Lib.hid ry
      clear RX SX ey ry r0 r1 r2 r3 r4 r5 f0 f1 f2 f3 f4 f5
      have RX := RY
      clear RY
      have SX := Lib.hid (RX.out.box (ba, deObj A) (by simp)).1
      refine hK.out _ _ SX.out (fun _ => ?_)
      clear hK
      try simp only [Act.put, List.getElem_toArray, List.getElem_cons_succ, List.getElem_cons_zero, List.setIfInBounds_toArray, List.set_cons_zero, List.set_cons_succ]
      refine wpAnyH_done (by kernel_rfl) ?_ _
      (try refine no_panic ?_)
      exact hexit.out _ _ _ _ _ _ _ _ _ _ _ RX.out
    · go_simp
      obtain ⟨w_6, ey, ry⟩ : ∃ w_6, w_1.alloc emptyOb = w_6 ∧ Dr base w0 hb rb P Q ((w_1.heap.size, emptyOb) :: (ba, deObj A) :: bs) w_6 := ⟨_, rfl, RX.out.new _⟩
      rw [ey]
      clear RX SX ey
      have RX := Lib.hid ry
      clear ry
      have SX := Lib.hid (RX.out.box (ba, deObj A) (by simp)).1
      refine hK.out _ _ SX.out (fun _ => ?_)
      clear hK
      try simp only [Act.put, List.getElem_toArray, List.getElem_cons_succ, List.getElem_cons_zero, List.setIfInBounds_toArray, List.set_cons_zero, List.set_cons_succ]
      refine wpAnyH_ready (rs := [8]) (by kernel_rfl) (by simp) ?_
      refine AllReadyH.cons rfl (fun K hK => ?_) AllReadyH.nil
      go_simp
      obtain ⟨w_7, ey, ry⟩ : ∃ w_7, w_6.alloc emptyOb = w_7 ∧ Dr base w0 hb rb P Q ((w_6.heap.size, emptyOb) :: (w_1.heap.size, emptyOb) :: (ba, deObj A) :: bs) w_7 := ⟨_, rfl, RX.out.new _⟩
      rw [ey]
      clear RX SX ey
      have RX := Lib.hid ry
      clear ry
      have SX := Lib.hid (RX.out.box (ba, deObj A) (by simp)).1
      refine hK.out _ _ SX.out (fun _ => ?_)
      clear hK
      try simp only [Act.put, List.getElem_toArray, List.getElem_cons_succ, List.getElem_cons_zero, List.setIfInBounds_toArray, List.set_cons_zero, List.set_cons_succ]
      obtain ⟨⟨r0, r1, r2, r3, r4, r5⟩, f0, f1, f2, f3, f4, f5⟩ := cells6 (RX.out.box (w_6.heap.size, emptyOb) (by simp)).1
      refine wpAnyH_ready (rs := [10]) (by kernel_rfl) (by simp) ?_
      refine AllReadyH.cons rfl (fun K hK => ?_) AllReadyH.nil
      go_simp
      obtain ⟨w_8, ey, ry⟩ := RX.out.put ⟨k1, x_1, n1, a1, l1, s1⟩
      unfold put6 at ey
      rw [ey]
      have RY := Lib.hid ry
      clear RX SX ey ry r0 r1 r2 r3 r4 r5 f0 f1 f2 f3 f4 f5
      have RX := RY
      clear RY
      have SX := Lib.hid (RX.out.box (ba, deObj A) (by simp)).1
      refine hK.out _ _ SX.out (fun _ => ?_)
      clear hK
      try simp only [Act.put, List.getElem_toArray, List.getElem_cons_succ, List.getElem_cons_zero, List.setIfInBounds_toArray, List.set_cons_zero, List.set_cons_succ]
      have RY := Lib.hid RX.out.swap
      clear RX
      have RX := RY
      clear RY
      obtain ⟨⟨r0, r1, r2, r3, r4, r5⟩, f0, f1, f2, f3, f4, f5⟩ := cells6 (RX.out.box (w_1.heap.size, emptyOb) (by simp)).1
      refine wpAnyH_ready (rs := [11]) (by kernel_rfl) (by simp) ?_
      refine AllReadyH.cons rfl (fun K hK => ?_) AllReadyH.nil
      go_simp
      obtain ⟨w_9, ey, ry⟩ := RX.out.put ⟨3, false, A.val, 0, 0, ⟨#[]⟩⟩
      unfold put6 at ey
      rw [ey]
      have RY := Lib.hid ry
      clear RX SX ey ry r0 r1 r2 r3 r4 r5 f0 f1 f2 f3 f4 f5
      have RX := RY
      clear RY
      have SX := Lib.hid (RX.out.box (ba, deObj A) (by simp)).1
      refine hK.out _ _ SX.out (fun _ => ?_)
      clear hK
      try simp only [Act.put, List.getElem_toArray, List.getElem_cons_succ, List.getElem_cons_zero, List.setIfInBounds_toArray, List.set_cons_zero, List.set_cons_succ]
      refine wpAnyH_done (by kernel_rfl) ?_ _
      (try refine no_panic ?_)
      exact hexit.out _ _ _ _ _ _ _ _ _ _ _ RX.out
  · go_simp
    obtain ⟨w_10, ey, ry⟩ : ∃ w_10, w_0.alloc emptyOb = w_10 ∧ Dr base w0 hb rb P Q ((w_0.heap.size, emptyOb) :: (ba, deObj A) :: bs) w_10 := ⟨_, rfl, RX.out.new _⟩
    rw [ey]
    clear RX SX ey
    have RX := Lib.hid ry
    clear ry
    have SX := Lib.hid (RX.out.box (ba, deObj A) (by simp)).1
    refine hK.out _ _ SX.out (fun _ => ?_)
    clear hK
    try simp only [Act.put, List.getElem_toArray, List.getElem_cons_succ, List.getElem_cons_zero, List.setIfInBounds_toArray, List.set_cons_zero, List.set_cons_succ]
    refine wpAnyH_ready (rs := [4, 9]) (by kernel_rfl) (by simp) ?_
    refine AllReadyH.cons rfl (fun K hK => ?_) (AllReadyH.cons rfl (fun K hK => ?_) AllReadyH.nil)
    · go_simp
      refine (C1.out _).mono ?_
      rintro e w_11 ⟨rfl, kk⟩
      have RY := Lib.hid (RX.out.later kk)
      clear RX SX kk
      have RX := RY
      clear RY
      have SX := Lib.hid (RX.out.box (ba, deObj A) (by simp)).1
      refine hK.out _ _ SX.out (fun _ => ?_)
      clear hK
      try simp only [Act.put, List.getElem_toArray, List.getElem_cons_succ, List.getElem_cons_zero, List.setIfInBounds_toArray, List.set_cons_zero, List.set_cons_succ]
      refine wpAnyH_ready (rs := [9]) (by kernel_rfl) (by simp) ?_
      refine AllReadyH.cons rfl (fun K hK => ?_) AllReadyH.nil
      go_simp
      obtain ⟨w_12, ey, ry⟩ : ∃ w_12, w_11.alloc emptyOb = w_12 ∧ Dr base w0 hb rb P Q ((w_11.heap.size, emptyOb) :: (w_0.heap.size, emptyOb) :: (ba, deObj A) :: bs) w_12 := ⟨_, rfl, RX.out.new _⟩
      rw [ey]
      clear RX SX ey
      have RX := Lib.hid ry
      clear ry
      have SX := Lib.hid (RX.out.box (ba, deObj A) (by simp)).1
      refine hK.out _ _ SX.out (fun _ => ?_)
      clear hK
      try simp only [Act.put, List.getElem_toArray, List.getElem_cons_succ, List.getElem_cons_zero, List.setIfInBounds_toArray, List.set_cons_zero, List.set_cons_succ]
      have RY := Lib.hid RX.out.swap
      clear RX
      have RX := RY
      clear RY
      obtain ⟨⟨r0, r1, r2, r3, r4, r5⟩, f0, f1, f2, f3, f4, f5⟩ := cells6 (RX.out.box (w_0.heap.size, emptyOb) (by simp)).1
      refine wpAnyH_ready (rs := [10]) (by kernel_rfl) (by simp) ?_
      refine AllReadyH.cons rfl (fun K hK => ?_) AllReadyH.nil
      go_simp
      obtain ⟨w_13, ey, ry⟩ := RX.out.put ⟨k1, x_1, n1, a1, l1, s1⟩
      unfold put6 at ey
      rw [ey]
      have RY := Lib.hid ry
      clear RX SX ey ry r0 r1 r2 r3 r4 r5 f0 f1 f2 f3 f4 f5
      have RX := RY
      clear RY
      have SX := Lib.hid (RX.out.box (ba, deObj A) (by simp)).1
      refine hK.out _ _ SX.out (fun _ => ?_)
      clear hK
      try simp only [Act.put, List.getElem_toArray, List.getElem_cons_succ, List.getElem_cons_zero, List.setIfInBounds_toArray, List.set_cons_zero, List.set_cons_succ]
      have RY := Lib.hid RX.out.swap
      clear RX
      have RX := RY
      clear RY
      obtain ⟨⟨r0, r1, r2, r3, r4, r5⟩, f0, f1, f2, f3, f4, f5⟩ := cells6 (RX.out.box (w_11.heap.size, emptyOb) (by simp)).1
      refine wpAnyH_ready (rs := [11]) (by kernel_rfl) (by simp) ?_
      refine AllReadyH.cons rfl (fun K hK => ?_) AllReadyH.nil
      go_simp
      obtain ⟨w_14, ey, ry⟩ := RX.out.put ⟨3, false, A.val, 0, 0, ⟨#[]⟩⟩
      unfold put6 at ey
      rw [ey]
      have RY := Lib.hid ry
      clear RX SX ey ry r0 r1 r2 r3 r4 r5 f0 f1 f2 f3 f4 f5
      have RX := RY
      clear RY
      have SX := Lib.hid (RX.out.box (ba, deObj A) (by simp)).1
      refine hK.out _ _ SX.out (fun _ => ?_)
      clear hK
      try simp only [Act.put, List.getElem_toArray, List.getElem_cons_succ, List.getElem_cons_zero, List.setIfInBounds_toArray, List.set_cons_zero, List.set_cons_succ]
      refine wpAnyH_done (by kernel_rfl) ?_ _
      (try refine no_panic ?_)
      exact hexit.out _ _ _ _ _ _ _ _ _ _ _ RX.out
    · go_simp
      obtain ⟨w_15, ey, ry⟩ : ∃ w_15, w_10.alloc emptyOb = w_15 ∧ Dr base w0 hb rb P Q ((w_10.heap.size, emptyOb) :: (w_0.heap.size, emptyOb) :: (ba, deObj A) :: bs) w_15 := ⟨_, rfl, RX.out.new _⟩
      rw [ey]
      clear RX SX ey
      have RX := Lib.hid ry
      clear ry
      have SX := Lib.hid (RX.out.box (ba, deObj A) (by simp)).1
      refine hK.out _ _ SX.out (fun _ => ?_)
      clear hK
      try simp only [Act.put, List.getElem_toArray, List.getElem_cons_succ, List.getElem_cons_zero, List.setIfInBounds_toArray, List.set_cons_zero, List.set_cons_succ]
      refine wpAnyH_ready (rs := [4]) (by kernel_rfl) (by simp) ?_
      refine AllReadyH.cons rfl (fun K hK => ?_) AllReadyH.nil
      go_simp
      refine (C1.out _).mono ?_
      rintro e w_16 ⟨rfl, kk⟩
      have RY := Lib.hid (RX.out.later kk)
      clear RX SX kk
      have RX := RY
      clear RY
      have SX := Lib.hid (RX.out.box (ba, deObj A) (by simp)).1
      refine hK.out _ _ SX.out (fun _ => ?_)
      clear hK
      try simp only [Act.put, List.getElem_toArray, List.getElem_cons_succ, List.getElem_cons_zero, List.setIfInBounds_toArray, List.set_cons_zero, List.set_cons_succ]
      have RY := Lib.hid RX.out.swap
      clear RX
      have RX := RY
      clear RY
      obtain ⟨⟨r0, r1, r2, r3, r4, r5⟩, f0, f1, f2, f3, f4, f5⟩ := cells6 (RX.out.box (w_0.heap.size, emptyOb) (by simp)).1
      refine wpAnyH_ready (rs := [10]) (by kernel_rfl) (by simp) ?_
      refine AllReadyH.cons rfl (fun K hK => ?_) AllReadyH.nil
      go_simp
      obtain ⟨w_17, ey, ry⟩ := RX.out.put ⟨k1, x_1, n1, a1, l1, s1⟩
      unfold put6 at ey
      rw [ey]
      have RY := Lib.hid ry
      clear RX SX ey ry r0 r1 r2 r3 r4 r5 f0 f1 f2 f3 f4 f5
      have RX := RY
      clear RY
      have SX := Lib.hid (RX.out.box (ba, deObj A) (by simp)).1
      refine hK.out _ _ SX.out (fun _ => ?_)
      clear hK
      try simp only [Act.put, List.getElem_toArray, List.getElem_cons_succ, List.getElem_cons_zero, List.setIfInBounds_toArray, List.set_cons_zero, List.set_cons_succ]
      have RY := Lib.hid RX.out.swap
      clear RX
      have RX := RY
      clear RY
      obtain ⟨⟨r0, r1, r2, r3, r4, r5⟩, f0, f1, f2, f3, f4, f5⟩ := cells6 (RX.out.box (w_10.heap.size, emptyOb) (by simp)).1
      refine wpAnyH_ready (rs := [11]) (by kernel_rfl) (by simp) ?_
      refine AllReadyH.cons rfl (fun K hK => ?_) AllReadyH.nil
      go_simp
      obtain ⟨w_18, ey, ry⟩ := RX.out.put ⟨3, false, A.val, 0, 0, ⟨#[]⟩⟩
      unfold put6 at ey
      rw [ey]
      have RY := Lib.hid ry
      clear RX SX ey ry r0 r1 r2 r3 r4 r5 f0 f1 f2 f3 f4 f5
      have RX := RY
      clear RY
      have SX := Lib.hid (RX.out.box (ba, deObj A) (by simp)).1
      refine hK.out _ _ SX.out (fun _ => ?_)
      clear hK
      try simp only [Act.put, List.getElem_toArray, List.getElem_cons_succ, List.getElem_cons_zero, List.setIfInBounds_toArray, List.set_cons_zero, List.set_cons_succ]
      refine wpAnyH_done (by kernel_rfl) ?_ _
      (try refine no_panic ?_)
      exact hexit.out _ _ _ _ _ _ _ _ _ _ _ RX.out
  · go_simp
    obtain ⟨w_19, ey, ry⟩ : ∃ w_19, w_0.alloc emptyOb = w_19 ∧ Dr base w0 hb rb P Q ((w_0.heap.size, emptyOb) :: (ba, deObj A) :: bs) w_19 := ⟨_, rfl, RX.out.new _⟩
    rw [ey]
    clear RX SX ey
    have RX := Lib.hid ry
    clear ry
    have SX := Lib.hid (RX.out.box (ba, deObj A) (by simp)).1
    refine hK.out _ _ SX.out (fun _ => ?_)
    clear hK
    try simp only [Act.put, List.getElem_toArray, List.getElem_cons_succ, List.getElem_cons_zero, List.setIfInBounds_toArray, List.set_cons_zero, List.set_cons_succ]
    refine wpAnyH_ready (rs := [4, 8]) (by kernel_rfl) (by simp) ?_
    refine AllReadyH.cons rfl (fun K hK => ?_) (AllReadyH.cons rfl (fun K hK => ?_) AllReadyH.nil)
    · go_simp
      refine (C1.out _).mono ?_
      rintro e w_20 ⟨rfl, kk⟩
      have RY := Lib.hid (RX.out.later kk)
      clear RX SX kk
      have RX := RY
      clear RY
      have SX := Lib.hid (RX.out.box (ba, deObj A) (by simp)).1
      refine hK.out _ _ SX.out (fun _ => ?_)
      clear hK
      try simp only [Act.put, List.getElem_toArray, List.getElem_cons_succ, List.getElem_cons_zero, List.setIfInBounds_toArray, List.set_cons_zero, List.set_cons_succ]
      refine wpAnyH_ready (rs := [8]) (by kernel_rfl) (by simp) ?_
      refine AllReadyH.cons rfl (fun K hK => ?_) AllReadyH.nil
      go_simp
      obtain ⟨w_21, ey, ry⟩ : ∃ w_21, w_20.alloc emptyOb = w_21 ∧ Dr base w0 hb rb P Q ((w_20.heap.size, emptyOb) :: (w_0.heap.size, emptyOb) :: (ba, deObj A) :: bs) w_21 := ⟨_, rfl, RX.out.new _⟩
      rw [ey]
      clear RX SX ey
      have RX := Lib.hid ry
      clear ry
      have SX := Lib.hid (RX.out.box (ba, deObj A) (by simp)).1
      refine hK.out _ _ SX.out (fun _ => ?_)
      clear hK
      try simp only [Act.put, List.getElem_toArray, List.getElem_cons_succ, List.getElem_cons_zero, List.setIfInBounds_toArray, List.set_cons_zero, List.set_cons_succ]
      obtain ⟨⟨r0, r1, r2, r3, r4, r5⟩, f0, f1, f2, f3, f4, f5⟩ := cells6 (RX.out.box (w_20.heap.size, emptyOb) (by simp)).1
      refine wpAnyH_ready (rs := [10]) (by kernel_rfl) (by simp) ?_
      refine AllReadyH.cons rfl (fun K hK => ?_) AllReadyH.nil
      go_simp
      obtain ⟨w_22, ey, ry⟩ := RX.out.put ⟨k1, x_1, n1, a1, l1, s1⟩
      unfold put6 at ey
      rw [ey]
      have RY := Lib.hid ry
      clear RX SX ey ry r0 r1 r2 r3 r4 r5 f0 f1 f2 f3 f4 f5
      have RX := RY
      clear RY
      have SX := Lib.hid (RX.out.box (ba, deObj A) (by simp)).1
      refine hK.out _ _ SX.out (fun _ => ?_)
      clear hK
      try simp only [Act.put, List.getElem_toArray, List.getElem_cons_succ, List.getElem_cons_zero, List.setIfInBounds_toArray, List.set_cons_zero, List.set_cons_succ]
      have RY := Lib.hid RX.out.swap
      clear RX
      have RX := RY
      clear RY
      obtain ⟨⟨r0, r1, r2, r3, r4, r5⟩, f0, f1, f2, f3, f4, f5⟩ := cells6 (RX.out.box (w_0.heap.size, emptyOb) (by simp)).1
      refine wpAnyH_ready (rs := [11]) (by kernel_rfl) (by simp) ?_
      refine AllReadyH.cons rfl (fun K hK => ?_) AllReadyH.nil
      go_simp
      obtain ⟨w_23, ey, ry⟩ := RX.out.put ⟨3, false, A.val, 0, 0, ⟨#[]⟩⟩
      unfold put6 at ey
      rw [ey]
      have RY := Lib.hid ry
      clear RX SX ey ry r0 r1 r2 r3 r4 r5 f0 f1 f2 f3 f4 f5
      have RX := RY
      clear RY
      have SX := Lib.hid (RX.out.box (ba, deObj A) (by simp)).1
      refine hK.out _ _ SX.out (fun _ => ?_)
      clear hK
      try simp only [Act.put, List.getElem_toArray, List.getElem_cons_succ, List.getElem_cons_zero, List.setIfInBounds_toArray, List.set_cons_zero, List.set_cons_succ]
      refine wpAnyH_done (by kernel_rfl) ?_ _
      (try refine no_panic ?_)
      exact hexit.out _ _ _ _ _ _ _ _ _ _ _ RX.out
    · go_simp
      obtain ⟨w_24, ey, ry⟩ : ∃ w_24, w_19.alloc emptyOb = w_24 ∧ Dr base w0 hb rb P Q ((w_19.heap.size, emptyOb) :: (w_0.heap.size, emptyOb) :: (ba, deObj A) :: bs) w_24 := ⟨_, rfl, RX.out.new _⟩
      rw [ey]
      clear RX SX ey
      have RX := Lib.hid ry
      clear ry
      have SX := Lib.hid (RX.out.box (ba, deObj A) (by simp)).1
      refine hK.out _ _ SX.out (fun _ => ?_)
      clear hK
      try simp only [Act.put, List.getElem_toArray, List.getElem_cons_succ, List.getElem_cons_zero, List.setIfInBounds_toArray, List.set_cons_zero, List.set_cons_succ]
      refine wpAnyH_ready (rs := [4]) (by kernel_rfl) (by simp) ?_
      refine AllReadyH.cons rfl (fun K hK => ?_) AllReadyH.nil
      go_simp
      refine (C1.out _).mono ?_
      rintro e w_25 ⟨rfl, kk⟩
      have RY := Lib.hid (RX.out.later kk)
      clear RX SX kk
      have RX := RY
      clear RY
      have SX := Lib.hid (RX.out.box (ba, deObj A) (by simp)).1
      refine hK.out _ _ SX.out (fun _ => ?_)
      clear hK
      try simp only [Act.put, List.getElem_toArray, List.getElem_cons_succ, List.getElem_cons_zero, List.setIfInBounds_toArray, List.set_cons_zero, List.set_cons_succ]
      obtain ⟨⟨r0, r1, r2, r3, r4, r5⟩, f0, f1, f2, f3, f4, f5⟩ := cells6 (RX.out.box (w_19.heap.size, emptyOb) (by simp)).1
      refine wpAnyH_ready (rs := [10]) (by kernel_rfl) (by simp) ?_
      refine AllReadyH.cons rfl (fun K hK => ?_) AllReadyH.nil
      go_simp
      obtain ⟨w_26, ey, ry⟩ := RX.out.put ⟨k1, x_1, n1, a1, l1, s1⟩
      unfold put6 at ey
      rw [ey]
      have RY := Lib.hid ry
      clear RX SX ey ry r0 r1 r2 r3 r4 r5 f0 f1 f2 f3 f4 f5
      have RX := RY
      clear RY
      have SX := Lib.hid (RX.out.box (ba, deObj A) (by simp)).1
      refine hK.out _ _ SX.out (fun _ => ?_)
      clear hK
      try simp only [Act.put, List.getElem_toArray, List.getElem_cons_succ, List.getElem_cons_zero, List.setIfInBounds_toArray, List.set_cons_zero, List.set_cons_succ]
      have RY := Lib.hid RX.out.swap
      clear RX
      have RX := RY
      clear RY
      obtain ⟨⟨r0, r1, r2, r3, r4, r5⟩, f0, f1, f2, f3, f4, f5⟩ := cells6 (RX.out.box (w_0.heap.size, emptyOb) (by simp)).1
      refine wpAnyH_ready (rs := [11]) (by kernel_rfl) (by simp) ?_
      refine AllReadyH.cons rfl (fun K hK => ?_) AllReadyH.nil
      go_simp
      obtain ⟨w_27, ey, ry⟩ := RX.out.put ⟨3, false, A.val, 0, 0, ⟨#[]⟩⟩
      unfold put6 at ey
      rw [ey]
      have RY := Lib.hid ry
      clear RX SX ey ry r0 r1 r2 r3 r4 r5 f0 f1 f2 f3 f4 f5
      have RX := RY
      clear RY
      have SX := Lib.hid (RX.out.box (ba, deObj A) (by simp)).1
      refine hK.out _ _ SX.out (fun _ => ?_)
      clear hK
      try simp only [Act.put, List.getElem_toArray, List.getElem_cons_succ, List.getElem_cons_zero, List.setIfInBounds_toArray, List.set_cons_zero, List.set_cons_succ]
      refine wpAnyH_done (by kernel_rfl) ?_ _
      (try refine no_panic ?_)
      exact hexit.out _ _ _ _ _ _ _ _ _ _ _ RX.out
end Go.Proofs.Ytlkbnldpecolbaa
