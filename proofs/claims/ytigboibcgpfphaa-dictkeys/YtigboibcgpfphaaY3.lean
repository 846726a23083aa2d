/- The walk of DictKeys. -/
import Derived.Test.YtigboibcgpfphaaDC
import Derived.Test.YtigboibcgpfphaaY2
namespace Go.Proofs.Ytigboibcgpfphaa
open Go.RowKit Go.Maps
set_option linter.unusedVariables false

def keyS (x : Bool) (n : Nat) : Ob := ⟨8, x, 0, 0, n, ⟨#[]⟩⟩
def nameS (x : Bool) (s : ByteArray) : Ob := ⟨5, x, 0, 0, 0, s⟩
def markO : Ob := ⟨6, false, 0, 0, 0, ⟨#[]⟩⟩
def dOne : Ob := ⟨10, false, 1, 0, 0, ⟨#[]⟩⟩
def kdP (l : List UInt8) (ps : List (Ob × Ob)) : List Cel := strX l [⟨10, false, itemsD ps 2, []⟩]
theorem arr_back (s : ByteArray) : (⟨s.data.toList.toArray⟩ : ByteArray) = s := by
  cases s
  simp
theorem keyS_bytes {s : ByteArray} {X : List Cel} {x : Bool} (h : s.size ≤ 300) : bytesL (strX s.data.toList X) (keyS x s.size) = s.data.toList := by
  have := strX_bytes (L := s.data.toList) (X := X) (n := s.size) (toL_size s).symm (by rw [toL_size]; omega)
  exact this
theorem keyS_may {s : ByteArray} {X : List Cel} {x : Bool} (h : s.size ≤ 300) : mayH (strX s.data.toList X) (keyS x s.size) = true := by
  have hok : okO (strX s.data.toList X) (sub8 0 s.size) = true := strX_ok (by rw [toL_size]; exact Nat.le_refl _) (by rw [toL_size]; omega)
  obtain ⟨h1, h2, h3⟩ := okO_iff.1 hok
  have e2 : (keyS x s.size).may = true := h2
  have e3 : inCell (strX s.data.toList X) (keyS x s.size) = true := h3
  simp [mayH, e2, e3]
theorem keyS_short {s : ByteArray} {X : List Cel} {x : Bool} (h : s.size ≤ 100) : keyE (strX s.data.toList X) (keyS x s.size) = 0 ∧ keyO (strX s.data.toList X) (keyS x s.size) = ⟨5, false, 0, 0, 0, s⟩ := by
  have e : keyE (strX s.data.toList X) (keyS x s.size) = 0 := by
    unfold keyE
    rw [keyS_may (by omega), keyS_bytes (by omega), toL_size]
    simp [keyS, h]
  refine ⟨e, ?_⟩
  unfold keyO
  rw [e, keyS_bytes (by omega), arr_back]
  simp [keyS]
theorem keyS_long {s : ByteArray} {X : List Cel} {x : Bool} (h : 100 < s.size) (h' : s.size ≤ 300) : keyE (strX s.data.toList X) (keyS x s.size) = 5 ∧ keyO (strX s.data.toList X) (keyS x s.size) = ⟨0, false, 0, 0, 0, ⟨#[]⟩⟩ := by
  have e : keyE (strX s.data.toList X) (keyS x s.size) = 5 := by
    unfold keyE
    rw [keyS_may h', keyS_bytes h', toL_size]
    simp [keyS]
    omega
  refine ⟨e, ?_⟩
  unfold keyO
  rw [e]
  rfl
theorem nameS_fine (s : ByteArray) (h : s.size ≤ 100) : (nameS false s).Fine := ⟨rfl, rfl, rfl, rfl, by show s.size ≤ maxLen; unfold maxLen; omega⟩
theorem nameS_may {P : List Cel} (x : Bool) (s : ByteArray) (h : s.size ≤ 100) : mayH P (nameS x s) = true := by
  simp [mayH, Ob.may, nameS, mayO, comp, nameP, h]
theorem nameS_key {P : List Cel} (x : Bool) (s : ByteArray) (h : s.size ≤ 100) : keyE P (nameS x s) = 0 ∧ keyO P (nameS x s) = nameS false s := by
  have e : keyE P (nameS x s) = 0 := by
    unfold keyE
    rw [nameS_may x s h]
    simp [nameS]
  refine ⟨e, ?_⟩
  unfold keyO
  rw [e]
  simp [nameS]
theorem kd_c0 (l : List UInt8) : DictC (kdP l []) dOne [] 2 false := ⟨by
  rw [okO_iff]
  exact ⟨rfl, rfl, by simp [inCell, kdP, strX, dOne, cellOf, Cel.size, itemsD]; omega⟩, rfl, rfl, by decide, by decide, by simp⟩
theorem kd_c1 (l : List UInt8) (s : ByteArray) (h : s.size ≤ 100) : DictC (kdP l [(nameS false s, markO)]) dOne [(nameS false s, markO)] 2 false := ⟨by
  rw [okO_iff]
  exact ⟨rfl, rfl, by simp [inCell, kdP, strX, dOne, cellOf, Cel.size, itemsD]; omega⟩, rfl, rfl, by simp, by decide, by
  intro p hp
  simp at hp
  subst hp
  exact nameS_fine s h⟩
theorem kd_ix (s : ByteArray) : ixD [(nameS false s, markO)] (nameS false s) 1 = some 0 := by
  unfold ixD
  rw [if_pos]
  exact ⟨_, rfl, by simp [isKey, nameS]⟩
theorem kd_get (l : List UInt8) (s : ByteArray) (x : Bool) (h : s.size ≤ 100) : dgetE (kdP l [(nameS false s, markO)]) [(nameS false s, markO)] (nameS x s) = 0 ∧ dgetO (kdP l [(nameS false s, markO)]) [(nameS false s, markO)] (nameS x s) = ⟨6, false, 0, 0, 0, ⟨#[]⟩⟩ := by
  have hk := nameS_key (P := kdP l [(nameS false s, markO)]) x s h
  have hi : ixD [(nameS false s, markO)] (nameS false s) [(nameS false s, markO)].length = some 0 := kd_ix s
  constructor
  · unfold dgetE
    rw [if_pos hk.1, hk.2, hi]
    rfl
  · unfold dgetO
    rw [if_pos hk.1, hk.2, hi]
    rfl
theorem kd_new {own : Nat → Prop} {hb : Nat} {L : List UInt8} {w : World} (h : Sep own hb (strX L []) w) (hl : L.length ≤ 300) :
    Calls Try.prog 33 #[ptr hb, .int .i64 2] w fun e w' => e = .returned (.tuple #[obV 10 false 1 0 0 ⟨#[]⟩, .int .i64 0]) ∧ Sep own hb (kdP L []) w' ∧ Kept own w w' :=
  sNewDict h h.lt 2 (by decide) (by simp [strX]) (by simp [strX, usedP, Cel.size]; omega)
theorem kdS_short {s : ByteArray} {ps : List (Ob × Ob)} {x : Bool} (h : s.size ≤ 100) : keyE (kdP s.data.toList ps) (keyS x s.size) = 0 ∧ keyO (kdP s.data.toList ps) (keyS x s.size) = nameS false s := keyS_short h
theorem kdS_long {s : ByteArray} {ps : List (Ob × Ob)} {x : Bool} (h : 100 < s.size) (h' : s.size ≤ 300) : keyE (kdP s.data.toList ps) (keyS x s.size) = 5 := (keyS_long h h').1
theorem kd_set_long {s : ByteArray} {x : Bool} (h : 100 < s.size) (h' : s.size ≤ 300) : dsetE (kdP s.data.toList []) [] 2 false (keyS x s.size) markO = 5 := by
  unfold dsetE
  rw [kdS_long h h']
  rfl
theorem kd_set_short {s : ByteArray} {x : Bool} (h : s.size ≤ 100) : dsetE (kdP s.data.toList []) [] 2 false (keyS x s.size) markO = 0 := by
  unfold dsetE
  rw [if_pos (kdS_short h).1, (kdS_short h).2]
  rfl
theorem null_key {P : List Cel} : ¬ keyE P Ob.null = 0 := by
  show ¬ ((6 : Int) = 0)
  decide
theorem sPairs {own : Nat → Prop} {hb : Nat} {P : List Cel} {w : World} {d : Ob} {ps : List (Ob × Ob)} {room : Nat} {lk : Bool} (h : Sep own hb P w) (D : DictC P d ps room lk) (q : Nat) (hq : q = 2 * ps.length + 1) :
    Calls Try.prog 44 #[ptr hb, d.val] w fun e w' => ∃ g cap ad, e = .returned (.tuple #[.slice ad (q - 1) (cap - 1), .int .i64 0]) ∧ (0 < ps.length → ad = some ⟨g, 6, none⟩) ∧ w.heap.size ≤ g ∧ w'.ownsRow 0 26 6 (.slice (some ⟨g, 0, none⟩) (2 * room + 1) cap) (2 * room + 1) (obCells (itemsD ps room)) ∧ Below w.heap.size w w' := by
  obtain ⟨role, ⟨vc, ivs, pb, rv, h1⟩, h2⟩ := h
  exact pairs_is h1 D q hq
theorem eqO_self (k n a l : Int) (x : Bool) (s : ByteArray) (w : World) : (binOp .eql 26 (obV k x n a l s) (obV k x n a l s)).run Try.prog w = .ok (.bool true) w := by
  have h := eqO k n a l k n a l x x s s w
  simpa using h

set_option maxHeartbeats 2000000 in
set_option maxRecDepth 100000 in
theorem keys_long (s : ByteArray) (ex : Bool) (w : World) (hs : s.size ≤ 300) (hl : 100 < s.size) :
    Calls Try.prog 9 #[.string s, .bool ex] w fun e w' => e = .returned (.bool true) ∧ Below w.heap.size w w' := by
  have hs3 : decide ((300 : Int) < s.size) = false := decide_eq_false (by omega)
  have HS := Lib.hid hs
  have HT' := Lib.hid hl
  have HT : Hid ((100 : Int) < s.size) := Lib.hid (by omega)
  have HL : Hid (s.data.toList.length = s.size) := Lib.hid (toL_size s)
  go_enter Try.func9, Try.ntmps9
  go_wp2_with fail
  refine (dknown_any w).mono ?_
  rintro e w0 ⟨rfl, k0'⟩
  have K0 := Lib.hid k0'
  clear k0'
  go_wp2_with fail
  refine (new_any w0).mono ?_
  rintro e w1 ⟨rfl, rfl⟩
  obtain ⟨w1, e1', s1, b1''⟩ : ∃ w1, w0.alloc (.cells #[.slice none 0 0, .int .i64 0] 86) = w1 ∧ Sep (fun b => b < w0.heap.size) w0.heap.size [] w1 ∧ Below w0.heap.size w0 w1 := ⟨_, rfl, Sep.new w0, box_below _ _⟩
  rw [e1']
  have S1 := Lib.hid s1
  have B1 := Lib.hid b1''
  clear e1' s1 b1''
  go_wp2_with fail
  refine (sString_ok S1.out s (by decide) (by simp [usedP]; have := HS.out; omega)).mono ?_
  rintro e w2 ⟨rfl, s2, k2⟩
  have S2 : Hid (Sep (fun b => b < w0.heap.size) w0.heap.size (strX s.data.toList []) w2) := Lib.hid s2
  have B2 : Hid (Below w0.heap.size w0 w2) := Lib.hid (B1.out.trans (k2.below fun _ h => h))
  clear s2 k2
  go_upto_region 7 with fail
  obtain ⟨w3, e3, s3, k3, o3⟩ := S2.out.box_ob 8 false 0 0 s.size ⟨#[]⟩
  rw [e3]
  obtain ⟨⟨c0, c1, c2, c3, c4, c5⟩, f0, f1, f2, f3, f4, f5⟩ := cells6 o3
  have S3 := Lib.hid s3
  have B3 : Hid (Below w0.heap.size w0 w3) := Lib.hid (B2.out.trans (k3.below fun _ h => h))
  have O3 := Lib.hid o3
  have LT := Lib.hid (S2.out.lt)
  clear e3 s3 k3 o3
  go_upto_region 8 with fail
  obtain ⟨w4, e4⟩ : ∃ w4, w3.setCell ⟨w2.heap.size, 1, none⟩ (.bool ex) = w4 := ⟨_, rfl⟩
  rw [e4]
  have ON : Only w2.heap.size w3 w4 := by rw [← e4]; exact (Only.refl _ _).set 1 _
  have S4 := Lib.hid (S3.out.only (.inr rfl) ON)
  have O4 : Hid (w4.heap[w2.heap.size]? = some (obObj 8 ex 0 0 s.size ⟨#[]⟩)) := Lib.hid (by rw [← e4]; exact heap_setCell_same _ _ 1 _ _ _ O3.out)
  have B4 : Hid (Below w0.heap.size w0 w4) := Lib.hid (only_below ON B3.out B2.out.size)
  clear e4 ON c0 c1 c2 c3 c4 c5 f0 f1 f2 f3 f4 f5
  obtain ⟨c0, c1, c2, c3, c4, c5⟩ := ob_cells O4.out
  go_wp2_with fail
  refine (sKey (k := keyS ex s.size) S4.out 5 0 false 0 0 0 ⟨#[]⟩ (keyS_long HT'.out HS.out).1 (keyS_long HT'.out HS.out).2).mono ?_
  rintro e w5 ⟨rfl, s5, k5⟩
  have S5 := Lib.hid s5
  have B5 : Hid (Below w0.heap.size w0 w5) := Lib.hid (B4.out.trans (k5.below fun _ h => .inl h))
  have O5 := Lib.hid ((k5.block _ (.inr rfl)).trans O4.out)
  clear s5 k5 c0 c1 c2 c3 c4 c5
  go_upto_region 9 with fail
  obtain ⟨w6, e6, s6, k6, o6⟩ := S5.out.box_ob 0 false 0 0 0 ⟨#[]⟩
  rw [e6]
  have S6 := Lib.hid s6
  have B6 : Hid (Below w0.heap.size w0 w6) := Lib.hid (B5.out.trans (k6.below fun _ h => .inl h))
  have O6 := Lib.hid ((k6.block _ (.inr rfl)).trans O5.out)
  have N6 := Lib.hid o6
  clear e6 s6 k6 o6
  go_wp2_with fail
  refine (kd_new S6.out (by have := HS.out; have := HL.out; omega)).mono ?_
  rintro e w7 ⟨rfl, s7, k7⟩
  have S7 : Hid (Sep _ w0.heap.size (kdP s.data.toList []) w7) := Lib.hid s7
  have B7 : Hid (Below w0.heap.size w0 w7) := Lib.hid (B6.out.trans (k7.below fun _ h => .inl (.inl h)))
  have O7 := Lib.hid ((k7.block _ (.inl (.inr rfl))).trans O6.out)
  have N7 := Lib.hid ((k7.block _ (.inr rfl)).trans N6.out)
  clear s7 k7
  go_upto_region 10 with fail
  obtain ⟨w8, e8, s8, k8, o8⟩ := S7.out.box_ob 10 false 1 0 0 ⟨#[]⟩
  rw [e8]
  have S8 := Lib.hid s8
  have B8 : Hid (Below w0.heap.size w0 w8) := Lib.hid (B7.out.trans (k8.below fun _ h => .inl (.inl h)))
  have O8 := Lib.hid ((k8.block _ (.inl (.inr rfl))).trans O7.out)
  have N8 := Lib.hid ((k8.block _ (.inr rfl)).trans N7.out)
  have D8 := Lib.hid o8
  clear e8 s8 k8 o8
  obtain ⟨c0, c1, c2, c3, c4, c5⟩ := ob_cells O8.out
  obtain ⟨d0, d1, d2, d3, d4, d5⟩ := ob_cells D8.out
  go_wp2_with fail
  refine (sDictPut (d := dOne) (k := keyS ex s.size) (v := markO) S8.out (kd_c0 _) (fun h => absurd (h.symm.trans (kdS_long HT'.out HS.out)) (by decide)) (fun h => absurd (h.symm.trans (kdS_long HT'.out HS.out)) (by decide)) 5 (kd_set_long HT'.out HS.out)).mono ?_
  rintro e w9 ⟨rfl, s9, k9⟩
  have B9 : Hid (Below w0.heap.size w0 w9) := Lib.hid (B8.out.trans (k9.below fun _ h => .inl (.inl (.inl h))))
  clear s9 k9 c0 c1 c2 c3 c4 c5 d0 d1 d2 d3 d4 d5
  have ht := HT.out
  go_wp2
  go_ret
  exact ⟨ret_bool (by decide), K0.out.trans (B9.out.mono K0.out.size)⟩

set_option maxHeartbeats 2000000 in
set_option maxRecDepth 100000 in
theorem keys_short (s : ByteArray) (ex : Bool) (w : World) (hs : s.size ≤ 300) (hl : s.size ≤ 100) :
    Calls Try.prog 9 #[.string s, .bool ex] w fun e w' => e = .returned (.bool true) ∧ Below w.heap.size w w' := by
  have hs3 : decide ((300 : Int) < s.size) = false := decide_eq_false (by omega)
  have HS := Lib.hid hs
  have HT := Lib.hid hl
  have HL : Hid (s.data.toList.length = s.size) := Lib.hid (toL_size s)
  go_enter Try.func9, Try.ntmps9
  go_wp2_with fail
  refine (dknown_any w).mono ?_
  rintro e w0 ⟨rfl, k0'⟩
  have K0 := Lib.hid k0'
  clear k0'
  go_wp2_with fail
  refine (new_any w0).mono ?_
  rintro e w1 ⟨rfl, rfl⟩
  obtain ⟨w1, e1', s1, b1''⟩ : ∃ w1, w0.alloc (.cells #[.slice none 0 0, .int .i64 0] 86) = w1 ∧ Sep (fun b => b < w0.heap.size) w0.heap.size [] w1 ∧ Below w0.heap.size w0 w1 := ⟨_, rfl, Sep.new w0, box_below _ _⟩
  rw [e1']
  have S1 := Lib.hid s1
  have B1 := Lib.hid b1''
  clear e1' s1 b1''
  go_wp2_with fail
  refine (sString_ok S1.out s (by decide) (by simp [usedP]; have := HS.out; omega)).mono ?_
  rintro e w2 ⟨rfl, s2, k2⟩
  have S2 : Hid (Sep (fun b => b < w0.heap.size) w0.heap.size (strX s.data.toList []) w2) := Lib.hid s2
  have B2 : Hid (Below w0.heap.size w0 w2) := Lib.hid (B1.out.trans (k2.below fun _ h => h))
  clear s2 k2
  go_upto_region 7 with fail
  obtain ⟨w3, e3, s3, k3, o3⟩ := S2.out.box_ob 8 false 0 0 s.size ⟨#[]⟩
  rw [e3]
  obtain ⟨⟨c0, c1, c2, c3, c4, c5⟩, f0, f1, f2, f3, f4, f5⟩ := cells6 o3
  have S3 := Lib.hid s3
  have B3 : Hid (Below w0.heap.size w0 w3) := Lib.hid (B2.out.trans (k3.below fun _ h => h))
  have O3 := Lib.hid o3
  have LT := Lib.hid (S2.out.lt)
  clear e3 s3 k3 o3
  go_upto_region 8 with fail
  obtain ⟨w4, e4⟩ : ∃ w4, w3.setCell ⟨w2.heap.size, 1, none⟩ (.bool ex) = w4 := ⟨_, rfl⟩
  rw [e4]
  have ON : Only w2.heap.size w3 w4 := by rw [← e4]; exact (Only.refl _ _).set 1 _
  have S4 := Lib.hid (S3.out.only (.inr rfl) ON)
  have O4 : Hid (w4.heap[w2.heap.size]? = some (obObj 8 ex 0 0 s.size ⟨#[]⟩)) := Lib.hid (by rw [← e4]; exact heap_setCell_same _ _ 1 _ _ _ O3.out)
  have B4 : Hid (Below w0.heap.size w0 w4) := Lib.hid (only_below ON B3.out B2.out.size)
  clear e4 ON c0 c1 c2 c3 c4 c5 f0 f1 f2 f3 f4 f5
  obtain ⟨c0, c1, c2, c3, c4, c5⟩ := ob_cells O4.out
  go_wp2_with fail
  refine (sKey (k := keyS ex s.size) S4.out 0 5 false 0 0 0 s (keyS_short HT.out).1 (keyS_short HT.out).2).mono ?_
  rintro e w5 ⟨rfl, s5, k5⟩
  have S5 := Lib.hid s5
  have B5 : Hid (Below w0.heap.size w0 w5) := Lib.hid (B4.out.trans (k5.below fun _ h => .inl h))
  have O5 := Lib.hid ((k5.block _ (.inr rfl)).trans O4.out)
  clear s5 k5 c0 c1 c2 c3 c4 c5
  go_upto_region 9 with fail
  obtain ⟨w6, e6, s6, k6, o6⟩ := S5.out.box_ob 5 false 0 0 0 s
  rw [e6]
  have S6 := Lib.hid s6
  have B6 : Hid (Below w0.heap.size w0 w6) := Lib.hid (B5.out.trans (k6.below fun _ h => .inl h))
  have O6 := Lib.hid ((k6.block _ (.inr rfl)).trans O5.out)
  have N6 := Lib.hid o6
  clear e6 s6 k6 o6
  go_wp2_with fail
  refine (kd_new S6.out (by have := HS.out; have := HL.out; omega)).mono ?_
  rintro e w7 ⟨rfl, s7, k7⟩
  have S7 : Hid (Sep _ w0.heap.size (kdP s.data.toList []) w7) := Lib.hid s7
  have B7 : Hid (Below w0.heap.size w0 w7) := Lib.hid (B6.out.trans (k7.below fun _ h => .inl (.inl h)))
  have O7 := Lib.hid ((k7.block _ (.inl (.inr rfl))).trans O6.out)
  have N7 := Lib.hid ((k7.block _ (.inr rfl)).trans N6.out)
  clear s7 k7
  go_upto_region 10 with fail
  obtain ⟨w8, e8, s8, k8, o8⟩ := S7.out.box_ob 10 false 1 0 0 ⟨#[]⟩
  rw [e8]
  have S8 := Lib.hid s8
  have B8 : Hid (Below w0.heap.size w0 w8) := Lib.hid (B7.out.trans (k8.below fun _ h => .inl (.inl h)))
  have O8 := Lib.hid ((k8.block _ (.inl (.inr rfl))).trans O7.out)
  have N8 := Lib.hid ((k8.block _ (.inr rfl)).trans N7.out)
  have D8 := Lib.hid o8
  clear e8 s8 k8 o8
  obtain ⟨c0, c1, c2, c3, c4, c5⟩ := ob_cells O8.out
  obtain ⟨d0, d1, d2, d3, d4, d5⟩ := ob_cells D8.out
  go_wp2_with fail
  refine (sDictPut (d := dOne) (k := keyS ex s.size) (v := markO) S8.out (kd_c0 _) (fun _ => by rw [(kdS_short HT.out).2]; exact nameS_fine s HT.out) (fun _ => by rw [(kdS_short HT.out).2]; exact nameS_may false s HT.out) 0 (kd_set_short HT.out)).mono ?_
  rintro e w9 ⟨rfl, s9, k9⟩
  rw [if_pos rfl, (kdS_short HT.out).2] at s9
  have S9 : Hid (Sep _ w0.heap.size (kdP s.data.toList [(nameS false s, markO)]) w9) := Lib.hid s9
  have B9 : Hid (Below w0.heap.size w0 w9) := Lib.hid (B8.out.trans (k9.below fun _ h => .inl (.inl (.inl h))))
  have N9 := Lib.hid ((k9.block _ (.inl (.inr rfl))).trans N8.out)
  have D9 := Lib.hid ((k9.block _ (.inr rfl)).trans D8.out)
  clear s9 k9 c0 c1 c2 c3 c4 c5 d0 d1 d2 d3 d4 d5
  have ht : decide ((100 : Int) < s.size) = false := decide_eq_false (by have := HT.out; omega)
  obtain ⟨d0, d1, d2, d3, d4, d5⟩ := ob_cells D9.out
  go_wp2_with fail
  refine (sDictGet (d := dOne) (k := nameS (!ex) s) S9.out (kd_c1 _ s HT.out) (fun _ => by rw [(nameS_key _ s HT.out).2]; exact nameS_fine s HT.out) 0 6 false 0 0 0 ⟨#[]⟩ (kd_get _ s _ HT.out).1 (kd_get _ s _ HT.out).2).mono ?_
  rintro e w10 ⟨rfl, s10, k10⟩
  have S10 := Lib.hid s10
  have B10 : Hid (Below w0.heap.size w0 w10) := Lib.hid (B9.out.trans (k10.below fun _ h => .inl (.inl (.inl h))))
  have N10 := Lib.hid ((k10.block _ (.inl (.inr rfl))).trans N9.out)
  have D10 := Lib.hid ((k10.block _ (.inr rfl)).trans D9.out)
  clear s10 k10 d0 d1 d2 d3 d4 d5 ht
  go_upto_region 14 with fail
  obtain ⟨w11, e11, s11, k11, o11⟩ := S10.out.box_ob 6 false 0 0 0 ⟨#[]⟩
  rw [e11]
  have S11 := Lib.hid s11
  have B11 : Hid (Below w0.heap.size w0 w11) := Lib.hid (B10.out.trans (k11.below fun _ h => .inl (.inl (.inl h))))
  have N11 := Lib.hid ((k11.block _ (.inl (.inr rfl))).trans N10.out)
  have D11 := Lib.hid ((k11.block _ (.inr rfl)).trans D10.out)
  have V11 := Lib.hid o11
  clear e11 s11 k11 o11
  obtain ⟨d0, d1, d2, d3, d4, d5⟩ := ob_cells D11.out
  go_wp2_with fail
  refine (sDictGet (d := dOne) (k := Ob.null) S11.out (kd_c1 _ s HT.out) (fun h => absurd h null_key) 6 0 false 0 0 0 ⟨#[]⟩ rfl rfl).mono ?_
  rintro e w12 ⟨rfl, s12, k12⟩
  have S12 := Lib.hid s12
  have B12 : Hid (Below w0.heap.size w0 w12) := Lib.hid (B11.out.trans (k12.below fun _ h => .inl (.inl (.inl (.inl h)))))
  have N12 := Lib.hid ((k12.block _ (.inl (.inl (.inr rfl)))).trans N11.out)
  have D12 := Lib.hid ((k12.block _ (.inl (.inr rfl))).trans D11.out)
  have V12 := Lib.hid ((k12.block _ (.inr rfl)).trans V11.out)
  clear s12 k12 d0 d1 d2 d3 d4 d5
  go_upto_region 15 with fail
  obtain ⟨w13, e13, s13, k13, o13⟩ := S12.out.box_ob 0 false 0 0 0 ⟨#[]⟩
  rw [e13]
  have S13 := Lib.hid s13
  have B13 : Hid (Below w0.heap.size w0 w13) := Lib.hid (B12.out.trans (k13.below fun _ h => .inl (.inl (.inl (.inl h)))))
  have N13 := Lib.hid ((k13.block _ (.inl (.inl (.inr rfl)))).trans N12.out)
  have D13 := Lib.hid ((k13.block _ (.inl (.inr rfl))).trans D12.out)
  have V13 := Lib.hid ((k13.block _ (.inr rfl)).trans V12.out)
  clear e13 s13 k13 o13
  obtain ⟨d0, d1, d2, d3, d4, d5⟩ := ob_cells D13.out
  go_wp2_with fail
  refine (sPairs S13.out (kd_c1 _ s HT.out) 3 rfl).mono ?_
  rintro e w14 ⟨g, cap, ad, rfl, had, hg, hrow, k14⟩
  have hadd := had Nat.zero_lt_one
  subst hadd
  have B14 : Hid (Below w0.heap.size w0 w14) := Lib.hid (B13.out.trans (k14.mono B13.out.size))
  obtain ⟨n0, n1, n2, n3, n4, n5⟩ := ob_cells ((k14.block _ (blk_lt N13.out)).trans N13.out)
  obtain ⟨v0, v1, v2, v3, v4, v5⟩ := ob_cells ((k14.block _ (blk_lt V13.out)).trans V13.out)
  obtain ⟨g', cap', ev, r0, r1, r2, r3, r4, r5⟩ := row_item (l := itemsD [(nameS false s, markO)] 2) hrow (i := 1) (o := nameS false s) rfl
  obtain ⟨rfl, _⟩ : g = g' ∧ cap = cap' := ⟨by injection ev with e1 _ _; simpa using e1, by injection ev⟩
  dsimp only [nameS] at r0 r1 r2 r3 r4 r5
  simp only [Nat.one_mul, Nat.reduceAdd] at r0 r1 r2 r3 r4 r5
  have hq := eqO_self 5 0 0 0 false s
  clear had hg hrow k14 ev d0 d1 d2 d3 d4 d5
  go_wp2_with fail
  go_quiet (fail)
  go_wp2
  go_ret
  exact ⟨ret_bool (by simp), below_and (K0.out.trans (B14.out.mono K0.out.size)) (below_drewN _ _)⟩

theorem keys_walk (s : ByteArray) (ex : Bool) (w : World) : Calls Try.prog 9 #[.string s, .bool ex] w fun e w' => e = .returned (.bool true) ∧ Below w.heap.size w w' := by
  by_cases h3 : s.size ≤ 300
  · by_cases h1 : s.size ≤ 100
    · exact keys_short s ex w h3 h1
    · exact keys_long s ex w h3 (by omega)
  · have q1 : (300 : Int) < s.size := by omega
    clear h3
    go_enter Try.func9, Try.ntmps9
    go_wp2_with fail
    refine (dknown_any w).mono ?_
    rintro e wc ⟨rfl, kc⟩
    have KC := Lib.hid kc
    go_wp2
    go_ret
    exact ⟨rfl, KC.out⟩
end Go.Proofs.Ytigboibcgpfphaa
