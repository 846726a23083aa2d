/- X15: D15, D16, D17, D18. -/
import Derived.Test.YtlkbnldpecolbaaX14
/- The laws' known case of layer 12. -/
namespace Go.Proofs.Ytlkbnldpecolbaa
open Go.RowKit Go.Maps
set_option linter.unusedVariables false

theorem Sep.lt {own : Nat → Prop} {hb : Nat} {P : List Cel} {w : World} (h : Sep own hb P w) : ∀ b, own b → b < w.heap.size := by
  obtain ⟨role, h1, h2⟩ := h
  exact fun b hb => (h2 b hb).1
section
variable {own : Nat → Prop} {hb : Nat} {P : List Cel} {w : World} {d k v : Ob} {ps : List (Ob × Ob)} {room : Nat} {lk : Bool}
theorem sDictGet (h : Sep own hb P w) (D : DictC P d ps room lk) (hf : keyE P k = 0 → (keyO P k).Fine) (E : Int) (kv : Int) (xv : Bool) (nv av lv : Int) (sv : ByteArray) (hE : dgetE P ps k = E) (hO : dgetO P ps k = ⟨kv, xv, nv, av, lv, sv⟩) :
    Calls Try.prog 31 #[ptr hb, d.val, k.val] w fun e w' => e = .returned (.tuple #[obV kv xv nv av lv sv, .int .i64 E]) ∧ Sep own hb P w' ∧ Kept own w w' := by
  have h0 := h
  obtain ⟨role, ⟨vc, ivs, pb, rv, h1⟩, h2⟩ := h
  refine (dictGet_is h1 D k hf).mono ?_
  rintro e w' ⟨rfl, kk⟩
  rw [hE, hO]
  exact ⟨rfl, h0.below kk⟩
theorem sDictPut (h : Sep own hb P w) (D : DictC P d ps room lk) (hf : keyE P k = 0 → (keyO P k).Fine) (hmq : keyE P k = 0 → mayH P (keyO P k) = true) (E : Int) (hE : dsetE P ps room lk k v = E) :
    Calls Try.prog 20 #[ptr hb, d.val, k.val, v.val] w fun e w' => e = .returned (.int .i64 E) ∧ Sep own hb (if E = 0 then P.set d.n.toNat ⟨10, false, itemsD (dsetL ps (keyO P k) v) room, []⟩ else P) w' ∧ Kept own w w' := by
  have := sDictSet h D h.lt hf hmq (v := v)
  rw [hE] at this
  exact this
theorem sKey (h : Sep own hb P w) (E : Int) (kv : Int) (xv : Bool) (nv av lv : Int) (sv : ByteArray) (hE : keyE P k = E) (hO : keyO P k = ⟨kv, xv, nv, av, lv, sv⟩) :
    Calls Try.prog 27 #[ptr hb, k.val] w fun e w' => e = .returned (.tuple #[obV kv xv nv av lv sv, .int .i64 E]) ∧ Sep own hb P w' ∧ Kept own w w' := by
  have h0 := h
  obtain ⟨role, ⟨vc, ivs, pb, rv, h1⟩, h2⟩ := h
  refine (key_is h1 k).mono ?_
  rintro e w' ⟨rfl, kk⟩
  rw [hE, hO]
  exact ⟨rfl, h0.below kk⟩
end

def qD : Ob := ⟨10, false, 0, 0, 0, ⟨#[]⟩⟩
def qS : Ob := ⟨8, false, 1, 0, 1, ⟨#[]⟩⟩
def qA : Ob := ⟨5, false, 0, 0, 0, ⟨#[97]⟩⟩
def qP (ps : List (Ob × Ob)) : List Cel := [⟨10, false, itemsD ps 1, []⟩, ⟨8, false, [], [97]⟩]
theorem fineA : qA.Fine := ⟨rfl, rfl, rfl, rfl, by decide⟩
theorem fineN (v : Int) (h : -9223372036854775808 ≤ v ∧ v ≤ 9223372036854775807) : (Ob.num v).Fine := ⟨rfl, WalkArith.wf_i64 h, rfl, rfl, Nat.zero_le _⟩
theorem qC0 : DictC (qP []) qD [] 1 false := ⟨by kernel_rfl, rfl, rfl, by decide, by decide, by simp⟩
theorem qC1 : DictC (qP [(qA, Ob.num 5)]) qD [(qA, Ob.num 5)] 1 false := ⟨by kernel_rfl, rfl, rfl, by decide, by decide, by
  intro p hp
  simp at hp
  subst hp
  exact fineA⟩
theorem q1 : keyE (qP []) qS = 0 ∧ keyO (qP []) qS = qA ∧ dsetE (qP []) [] 1 false qS (Ob.num 5) = 0 ∧ mayH (qP []) qA = true := ⟨by kernel_rfl, by kernel_rfl, by kernel_rfl, by kernel_rfl⟩
theorem q2 : keyE (qP [(qA, Ob.num 5)]) qA = 0 ∧ keyO (qP [(qA, Ob.num 5)]) qA = qA ∧ dgetE (qP [(qA, Ob.num 5)]) [(qA, Ob.num 5)] qA = 0 ∧ dgetO (qP [(qA, Ob.num 5)]) [(qA, Ob.num 5)] qA = Ob.num 5 := ⟨by kernel_rfl, by kernel_rfl, by kernel_rfl, by kernel_rfl⟩
theorem q3 : keyE (qP [(qA, Ob.num 5)]) (Ob.num 5) = 0 ∧ keyO (qP [(qA, Ob.num 5)]) (Ob.num 5) = Ob.num 5 ∧ dsetE (qP [(qA, Ob.num 5)]) [(qA, Ob.num 5)] 1 false (Ob.num 5) (Ob.num 5) = 20 ∧ mayH (qP [(qA, Ob.num 5)]) (Ob.num 5) = true := ⟨by kernel_rfl, by kernel_rfl, by kernel_rfl, by kernel_rfl⟩

set_option maxHeartbeats 1000000 in
theorem dknown_any (w : World) : Calls Try.prog 24 #[] w fun e w' => e = .returned (.bool true) ∧ Below w.heap.size w w' := by
  go_enter Try.func24, Try.ntmps24
  go_wp2_with fail
  refine (new_any w).mono ?_
  rintro e w1 ⟨rfl, rfl⟩
  obtain ⟨w1, e1, s1, b1⟩ : ∃ w1, w.alloc (.cells #[.slice none 0 0, .int .i64 0] 72) = w1 ∧ Sep (fun b => b < w.heap.size) w.heap.size [] w1 ∧ Below w.heap.size w w1 := ⟨_, rfl, Sep.new w, box_below _ _⟩
  rw [e1]
  have S1 := Lib.hid s1
  have B1 := Lib.hid b1
  clear e1 s1 b1
  go_wp2_with fail
  refine (sNewDict S1.out S1.out.lt 1 (by decide) (by decide) (by simp [usedP])).mono ?_
  rintro e w2 ⟨rfl, s2, k2⟩
  have S2 := Lib.hid s2
  have B2 : Hid (Below w.heap.size w w2) := Lib.hid (B1.out.trans (k2.below fun _ h => h))
  clear s2 k2
  go_upto_region 3 with fail
  obtain ⟨w3, e3, s3, k3, o3⟩ := S2.out.box_ob 10 false 0 0 0 ⟨#[]⟩
  rw [e3]
  have S3 := Lib.hid s3
  have B3 : Hid (Below w.heap.size w w3) := Lib.hid (B2.out.trans (k3.below fun _ h => h))
  have O3 := Lib.hid o3
  clear e3 s3 k3 o3
  go_wp2_with fail
  refine (sString_ok S3.out ⟨#[97]⟩ (by decide) (by decide)).mono ?_
  rintro e w4 ⟨rfl, s4, k4⟩
  have S4 : Hid (Sep _ w.heap.size (qP []) w4) := Lib.hid s4
  have B4 : Hid (Below w.heap.size w w4) := Lib.hid (B3.out.trans (k4.below fun _ h => .inl h))
  have O4 := Lib.hid ((k4.block _ (.inr rfl)).trans O3.out)
  clear s4 k4
  go_upto_region 4 with fail
  obtain ⟨w5, e5, s5, k5, o5⟩ := S4.out.box_ob 8 false 1 0 1 ⟨#[]⟩
  rw [e5]
  have S5 := Lib.hid s5
  have B5 : Hid (Below w.heap.size w w5) := Lib.hid (B4.out.trans (k5.below fun _ h => .inl h))
  have O5 := Lib.hid ((k5.block _ (.inr rfl)).trans O4.out)
  have R5 := Lib.hid o5
  clear e5 s5 k5 o5
  obtain ⟨c0, c1, c2, c3, c4, c5⟩ := ob_cells O5.out
  obtain ⟨d0, d1, d2, d3, d4, d5⟩ := ob_cells R5.out
  go_wp2_with fail
  refine (sDictPut (d := qD) (k := qS) (v := Ob.num 5) S5.out qC0 (fun _ => by rw [q1.2.1]; exact fineA) (fun _ => by rw [q1.2.1]; exact q1.2.2.2) 0 q1.2.2.1).mono ?_
  rintro e w6 ⟨rfl, s6, k6⟩
  rw [if_pos rfl, q1.2.1] at s6
  have S6 : Hid (Sep _ w.heap.size (qP [(qA, Ob.num 5)]) w6) := Lib.hid s6
  have B6 : Hid (Below w.heap.size w w6) := Lib.hid (B5.out.trans (k6.below fun _ h => .inl (.inl h)))
  have O6 := Lib.hid ((k6.block _ (.inl (.inr rfl))).trans O5.out)
  clear s6 k6 c0 c1 c2 c3 c4 c5 d0 d1 d2 d3 d4 d5
  obtain ⟨c0, c1, c2, c3, c4, c5⟩ := ob_cells O6.out
  go_wp2_with fail
  refine (sDictGet (d := qD) (k := qA) S6.out qC1 (fun _ => by rw [q2.2.1]; exact fineA) 0 3 false 5 0 0 ⟨#[]⟩ q2.2.2.1 q2.2.2.2).mono ?_
  rintro e w7 ⟨rfl, s7, k7⟩
  have S7 := Lib.hid s7
  have B7 : Hid (Below w.heap.size w w7) := Lib.hid (B6.out.trans (k7.below fun _ h => .inl (.inl h)))
  have O7 := Lib.hid ((k7.block _ (.inl (.inr rfl))).trans O6.out)
  clear s7 k7 c0 c1 c2 c3 c4 c5
  go_upto_region 6 with fail
  obtain ⟨w8, e8, s8, k8, o8⟩ := S7.out.box_ob 3 false 5 0 0 ⟨#[]⟩
  rw [e8]
  have S8 := Lib.hid s8
  have B8 : Hid (Below w.heap.size w w8) := Lib.hid (B7.out.trans (k8.below fun _ h => .inl (.inl h)))
  have O8 := Lib.hid ((k8.block _ (.inl (.inr rfl))).trans O7.out)
  have R8 := Lib.hid o8
  clear e8 s8 k8 o8
  obtain ⟨c0, c1, c2, c3, c4, c5⟩ := ob_cells O8.out
  obtain ⟨d0, d1, d2, d3, d4, d5⟩ := ob_cells R8.out
  go_wp2_with fail
  refine (sDictPut (d := qD) (k := Ob.num 5) (v := Ob.num 5) S8.out qC1 (fun _ => by rw [q3.2.1]; exact fineN 5 (by decide)) (fun _ => by rw [q3.2.1]; exact q3.2.2.2) 20 q3.2.2.1).mono ?_
  rintro e w9 ⟨rfl, s9, k9⟩
  have B9 : Hid (Below w.heap.size w w9) := Lib.hid (B8.out.trans (k9.below fun _ h => .inl (.inl (.inl h))))
  clear s9 k9 c0 c1 c2 c3 c4 c5 d0 d1 d2 d3 d4 d5
  go_wp2
  go_ret
  exact ⟨ret_bool (by decide), B9.out⟩
end Go.Proofs.Ytlkbnldpecolbaa

/- dict: what Drop makes of a cell: plain answers. -/
namespace Go.Proofs.Ytlkbnldpecolbaa
open Go.RowKit Go.Maps
set_option linter.unusedVariables false

/-- The first j items from a on are those two further on. -/
def sh (its : List Ob) (a : Nat) : Nat → List Ob
  | 0 => its
  | j + 1 => (sh its a j).set (a + j) (its.getD (a + j + 2) Ob.zero)
theorem sh_length (its : List Ob) (a : Nat) : ∀ j, (sh its a j).length = its.length
  | 0 => rfl
  | j + 1 => by
    rw [sh, List.length_set]
    exact sh_length its a j
theorem sh_get (its : List Ob) (a : Nat) : ∀ j t, a + j + 2 ≤ its.length → (sh its a j)[t]? = if a ≤ t ∧ t < a + j then its[t + 2]? else its[t]?
  | 0, t, h => by rw [if_neg (by omega)]; rfl
  | j + 1, t, h => by
    rw [sh, List.getElem?_set, sh_length]
    by_cases e : a + j = t
    · subst e
      rw [if_pos rfl, if_pos (by omega), if_pos (by omega), List.getD_eq_getElem?_getD, List.getElem?_eq_getElem (by omega)]
      rfl
    · rw [if_neg e, sh_get its a j t (by omega)]
      by_cases h2 : a ≤ t ∧ t < a + j
      · rw [if_pos h2, if_pos (by omega)]
      · rw [if_neg h2, if_neg (by omega)]
theorem items_get1 {ps : List (Ob × Ob)} {room : Nat} (h : ps.length ≤ room) (j : Nat) : (itemsD ps room)[2 * j + 1]? = if j < ps.length then ps[j]?.map (·.1) else if j < room then some Ob.null else none := by
  unfold itemsD
  rw [List.getElem?_cons_succ]
  by_cases hj : j < ps.length
  · rw [if_pos hj, List.getElem?_append_left (by rw [flatD_length]; omega)]
    exact (flatD_get ps j).1
  · rw [if_neg hj, List.getElem?_append_right (by rw [flatD_length]; omega), flatD_length, List.getElem?_replicate]
    by_cases hr : j < room
    · rw [if_pos hr, if_pos (by omega)]
    · rw [if_neg hr, if_neg (by omega)]
theorem items_get2 {ps : List (Ob × Ob)} {room : Nat} (h : ps.length ≤ room) (j : Nat) : (itemsD ps room)[2 * j + 2]? = if j < ps.length then ps[j]?.map (·.2) else if j < room then some Ob.null else none := by
  unfold itemsD
  rw [show 2 * j + 2 = (2 * j + 1) + 1 from rfl, List.getElem?_cons_succ]
  by_cases hj : j < ps.length
  · rw [if_pos hj, List.getElem?_append_left (by rw [flatD_length]; omega)]
    exact (flatD_get ps j).2
  · rw [if_neg hj, List.getElem?_append_right (by rw [flatD_length]; omega), flatD_length, List.getElem?_replicate]
    by_cases hr : j < room
    · rw [if_pos hr, if_pos (by omega)]
    · rw [if_neg hr, if_neg (by omega)]
theorem items_drop {ps : List (Ob × Ob)} {room i m a e : Nat} (hr : ps.length ≤ room) (hi : i < ps.length) (ha : a = 2 * i + 1) (he : e = 2 * ps.length + 1) (hm : a + m = e - 2) :
    (((sh (itemsD ps room) a m).set (e - 2) Ob.null).set (e - 1) Ob.null).set 0 (Ob.num ((ps.length - 1 : Nat) : Int)) = itemsD (ps.eraseIdx i) room := by
  have hl := itemsD_length hr
  have hle : (ps.eraseIdx i).length = ps.length - 1 := List.length_eraseIdx_of_lt hi
  have hr2 : (ps.eraseIdx i).length ≤ room := by omega
  refine List.ext_getElem? fun t => ?_
  rw [List.getElem?_set, List.getElem?_set, List.getElem?_set, List.length_set, List.length_set, sh_length, hl, sh_get _ _ _ _ (by rw [hl]; omega)]
  rcases Nat.eq_zero_or_pos t with rfl | ht
  · rw [if_pos rfl, if_pos (by omega)]
    unfold itemsD
    rw [hle]
    rfl
  rw [if_neg (by omega)]
  obtain ⟨j, hj⟩ : ∃ j, t = 2 * j + 1 ∨ t = 2 * j + 2 := ⟨(t - 1) / 2, by omega⟩
  rcases hj with rfl | rfl
  · rw [items_get1 hr2 j, hle, List.getElem?_eraseIdx, items_get1 hr j, show 2 * j + 1 + 2 = 2 * (j + 1) + 1 from by omega, items_get1 hr (j + 1)]
    by_cases h1 : e - 1 = 2 * j + 1
    · omega
    rw [if_neg h1]
    by_cases h2 : e - 2 = 2 * j + 1
    · rw [if_pos h2, if_pos (by omega), if_neg (by omega), if_pos (by omega)]
    rw [if_neg h2]
    by_cases h3 : a ≤ 2 * j + 1 ∧ 2 * j + 1 < a + m
    · rw [if_pos h3, if_pos (by omega), if_pos (by omega), if_neg (by omega)]
    · rw [if_neg h3]
      by_cases h4 : j < i
      · rw [if_pos (by omega), if_pos (by omega), if_pos h4]
      · rw [if_neg (show ¬ j < ps.length by omega), if_neg (show ¬ j < ps.length - 1 by omega)]
  · rw [items_get2 hr2 j, hle, List.getElem?_eraseIdx, items_get2 hr j, show 2 * j + 2 + 2 = 2 * (j + 1) + 2 from by omega, items_get2 hr (j + 1)]
    by_cases h1 : e - 1 = 2 * j + 2
    · rw [if_pos h1, if_pos (by omega), if_neg (by omega), if_pos (by omega)]
    rw [if_neg h1]
    by_cases h2 : e - 2 = 2 * j + 2
    · omega
    rw [if_neg h2]
    by_cases h3 : a ≤ 2 * j + 2 ∧ 2 * j + 2 < a + m
    · rw [if_pos h3, if_pos (by omega), if_pos (by omega), if_neg (by omega)]
    · rw [if_neg h3]
      by_cases h4 : j < i
      · rw [if_pos (by omega), if_pos (by omega), if_pos h4]
      · rw [if_neg (show ¬ j < ps.length by omega), if_neg (show ¬ j < ps.length - 1 by omega)]
end Go.Proofs.Ytlkbnldpecolbaa

/- Walks of dict: remove. -/
namespace Go.Proofs.Ytlkbnldpecolbaa
open Go.RowKit Go.Maps
set_option linter.unusedVariables false

/-- A heap beside the box of a dict.cell. -/
structure Rem (own : Nat → Prop) (hb : Nat) (P : List Cel) (w wx : World) (A hh : Nat) (d : Ob) (p r : Int) : Prop where
  sep : Sep (fun b => own b ∨ b = A) hb P wx
  kept : Kept own w wx
  b0 : wx.heap[A]? = some (dcObj hh d.k d.x d.n d.a d.l d.s p r)
section
variable {own : Nat → Prop} {hb : Nat} {P P' : List Cel} {w wx wy : World} {A hh : Nat} {d : Ob} {p r : Int}
theorem Rem.below (h : Rem own hb P w wx A hh d p r) (kx : Below wx.heap.size wx wy) : Rem own hb P w wy A hh d p r :=
  ⟨(h.sep.below kx).1, h.kept.trans ((h.sep.below kx).2.sub fun b hb => .inl hb), (kx.block _ (blk_lt h.b0)).trans h.b0⟩
theorem Rem.put (h : Rem own hb P w wx A hh d p r) (s : Sep (fun b => own b ∨ b = A) hb P' wy) (kx : Kept (fun b => own b ∨ b = A) wx wy) : Rem own hb P' w wy A hh d p r :=
  ⟨s, h.kept.trans (kx.sub fun b hb => .inl hb), (kx.block _ (.inr rfl)).trans h.b0⟩
theorem Rem.flat (h : Rem own hb P w wx A hh d p r) : wx.cell? ⟨A, 0, none⟩ = some (ptr hh) ∧ wx.cell? ⟨A, 1, none⟩ = some (.int .i64 d.k) ∧ wx.cell? ⟨A, 2, none⟩ = some (.bool d.x) ∧ wx.cell? ⟨A, 3, none⟩ = some (.int .i64 d.n) ∧ wx.cell? ⟨A, 4, none⟩ = some (.int .i64 d.a) ∧ wx.cell? ⟨A, 5, none⟩ = some (.int .i64 d.l) ∧ wx.cell? ⟨A, 6, none⟩ = some (.string d.s) ∧ wx.cell? ⟨A, 7, none⟩ = some (.int .i64 p) ∧ wx.cell? ⟨A, 8, none⟩ = some (.int .i64 r) :=
  dc_cells h.b0
end
theorem DictR.self {P : List Cel} {d : Ob} {its : List Ob} (h : DictR P d its) : P.set d.n.toNat ⟨10, false, its, []⟩ = P := by
  rw [← h.cell]
  have := cellOf_get (P := P) (o := d) (ok_bd h.ok).1 (ok_bd h.ok).2.1
  refine List.ext_getElem? fun j => ?_
  rw [List.getElem?_set]
  split
  · next e =>
    subst e
    rw [if_pos h.lt, this]
  · rfl
theorem DictR.get {P : List Cel} {d : Ob} {its : List Ob} (h : DictR P d its) {i : Nat} {o : Ob} (hi : its[i]? = some o) : getE P d i = 0 ∧ getO P d i = o := by
  have hl := (List.getElem?_eq_some_iff.1 hi).1
  have hz : d.a = 0 := ((ok_bd h.ok).2.2.2.2.2.2.2.2 h.k).1
  have hlen : lenO P d = its.length := by
    rw [lenO, h.ok, h.cell]
    simp [h.k, Cel.size]
  have e : getE P d i = 0 := by
    rw [getE, h.ok, hlen]
    simp
    omega
  refine ⟨e, ?_⟩
  rw [getO, e, h.cell, hz]
  simp [itemAt, hi]
theorem measure_one (K A : Nat) (q : Int) (h : q = ((A + 1 : Nat) : Int)) (hx : A < K) : K - (intOf (.int .i64 q)).toNat < K - (intOf (.int .i64 (A : Int))).toNat := by
  subst h
  simp [intOf]
  omega
theorem wrap64_one {A : Nat} (h : A ≤ 3000) : wrap64 ((A : Int) + 1) = ((A + 1 : Nat) : Int) := by
  unfold wrap64
  omega

set_option maxHeartbeats 1000000 in
set_option maxRecDepth 100000 in
theorem sRemove {own : Nat → Prop} {hb : Nat} {P : List Cel} {w : World} {d : Ob} {its : List Ob} (h : Sep own hb P w) (D : DictR P d its) (hv : ∀ x ∈ its, mayH P x = true) (r : Int) (p p1 a e E1 E2 m : Nat) (he : e = 2 * p + 1) (hE1 : E1 = e - 1) (hE2 : E2 = e - 2) (hm : a + m = E2) (hp1 : p1 = p - 1) (hp : 1 ≤ p) (hp' : p ≤ 1000) (hl : e ≤ its.length) :
    Calls Try.prog 57 #[dcV hb d.k d.x d.n d.a d.l d.s p r, .int .i64 a] w fun e_ w' => e_ = .returned (.tuple #[]) ∧ Sep own hb (P.set d.n.toNat ⟨10, false, (((sh its a m).set E2 Ob.null).set E1 Ob.null).set 0 (Ob.num p1), []⟩) w' ∧ Kept own w w' := by
  have w1 : IntKind.i64.wrap ((e : Int) - 2) = E2 := by rw [wrapi_in _ (by omega) (by omega)]; omega
  have w2 : IntKind.i64.wrap ((e : Int) - 1) = E1 := by rw [wrapi_in _ (by omega) (by omega)]; omega
  have w3 : IntKind.i64.wrap ((p : Int) - 1) = p1 := by rw [wrapi_in _ (by omega) (by omega)]; omega
  have H := Lib.hid h
  have HD := Lib.hid D
  have HV := Lib.hid hv
  have HN : Hid (e = 2 * p + 1 ∧ E1 = e - 1 ∧ E2 = e - 2 ∧ a + m = E2 ∧ p1 = p - 1 ∧ 1 ≤ p ∧ p ≤ 1000 ∧ e ≤ its.length) := Lib.hid ⟨he, hE1, hE2, hm, hp1, hp, hp', hl⟩
  have DJ : Hid (∀ j, DictR (P.set d.n.toNat ⟨10, false, sh its a j, []⟩) d (sh its a j)) := Lib.hid fun j => D.setAll (sh_length _ _ _)
  have MJ : Hid (∀ its', its'.length = its.length → ∀ x, mayH (P.set d.n.toNat ⟨10, false, its', []⟩) x = mayH P x) := Lib.hid fun its' hl x => D.may hl x
  have DA : Hid (∀ its', its'.length = its.length → DictR (P.set d.n.toNat ⟨10, false, its', []⟩) d its') := Lib.hid fun its' hl => D.setAll hl
  have DS := Lib.hid D.self
  clear h D hv he hE1 hE2 hm hp1 hp hp' hl
  go_enter Try.func57, Try.ntmps57
  go_upto_region 1 with fail
  obtain ⟨wb, eb, sb, kb, ob⟩ := H.out.box_dc hb d.k d.x d.n d.a d.l d.s p r
  rw [eb]
  have R0 : Hid (Rem own hb (P.set d.n.toNat ⟨10, false, sh its a 0, []⟩) w wb w.heap.size hb d p r) := Lib.hid ⟨by rw [show sh its a 0 = its from rfl, DS.out]; exact sb, kb, ob⟩
  clear eb sb kb ob
  go_wp2
  go_loopw [4] (fun at_ wr => ∃ j A : Nat, j ≤ m ∧ A = a + j ∧ at_ = .int .i64 A ∧ Rem own hb (P.set d.n.toNat ⟨10, false, sh its a j, []⟩) w wr w.heap.size hb d p r) (fun at_ _ => E2 - (intOf at_).toNat)
  case atStart => exact ⟨0, a, Nat.zero_le _, rfl, rfl, R0.out⟩
  case round =>
    obtain ⟨j, A, hj, hA, rfl, hr⟩ := hrel
    have HR := Lib.hid hr
    have HA := Lib.hid hA
    obtain ⟨c0, c1, c2, c3, c4, c5, c6, c7, c8⟩ := hr.flat
    clear hr hA
    go_wp2_with fail
    refine (end_is hb d.k d.n d.a d.l r d.x d.s p e HN.out.1 (by have := HN.out; omega) wr).mono ?_
    rintro e_ wa ⟨rfl, ka⟩
    have R1 := Lib.hid (HR.out.below ka)
    clear ka c0 c1 c2 c3 c4 c5 c6 c7 c8
    by_cases hlt : j < m
    · have t1 : (A : Int) < E2 := by have := HA.out; have := HN.out; omega
      have w4 : IntKind.i64.wrap ((A : Int) + 2) = ((A + 2 : Nat) : Int) := by
        have := HA.out
        have := HN.out
        rw [wrapi_in _ (by omega) (by omega)]
        omega
      obtain ⟨c0, c1, c2, c3, c4, c5, c6, c7, c8⟩ := R1.out.flat
      have hlen : A + 2 < its.length := by have := HA.out; have := HN.out; omega
      obtain ⟨o, ho⟩ : ∃ o, its[A + 2]? = some o := ⟨_, List.getElem?_eq_getElem hlen⟩
      have hget : Calls Try.prog 71 #[ptr hb, obV d.k d.x d.n d.a d.l d.s, .int .i64 ((A + 2 : Nat) : Int)] wa fun e_ w' => e_ = .returned (.tuple #[obV o.k o.x o.n o.a o.l o.s, .int .i64 0]) ∧ Below wa.heap.size wa w' := by
        obtain ⟨role, ⟨vc, ivs, pb, rv, h1⟩, h2⟩ := R1.out.sep
        have q := (DJ.out j).get (i := A + 2) (o := o) (by rw [sh_get _ _ _ _ (by have := HA.out; omega), if_neg (by have := HA.out; omega)]; exact ho)
        have := get_is h1 d (A + 2 : Nat)
        rw [q.1, q.2] at this
        exact this
      have HO : Hid (mayH P o = true ∧ its.getD (a + j + 2) Ob.zero = o) := Lib.hid ⟨HV.out o (List.mem_of_getElem? ho), by rw [List.getD_eq_getElem?_getD, ← HA.out, ho]; rfl⟩
      clear hlen ho
      go_wp2_with fail
      refine hget.mono ?_
      rintro e_ wc ⟨rfl, kc⟩
      have R2 := Lib.hid (R1.out.below kc)
      clear hget kc c0 c1 c2 c3 c4 c5 c6 c7 c8
      go_upto_region 5 with fail
      obtain ⟨wd, ed, sd, kd, od⟩ := R2.out.sep.box_ob o.k o.x o.n o.a o.l o.s
      rw [ed]
      have B3 := Lib.hid ((kd.block _ (.inr rfl)).trans R2.out.b0)
      have SD := Lib.hid sd
      have KD := Lib.hid kd
      obtain ⟨c0, c1, c2, c3, c4, c5, c6, c7, c8⟩ := dc_cells B3.out
      obtain ⟨d0, d1, d2, d3, d4, d5⟩ := ob_cells od
      clear ed sd kd od
      go_wp2_with fail
      refine (sPutItem SD.out (DJ.out j) p r A o (by rw [sh_length]; have := HA.out; have := HN.out; omega) (by rw [MJ.out _ (sh_length _ _ _)]; exact HO.out.1)).mono ?_
      rintro e_ wf ⟨rfl, sf, kf⟩
      have hnext : (sh its a j).set A o = sh its a (j + 1) := by rw [sh, HO.out.2, HA.out]
      rw [List.set_set, hnext] at sf
      have R3 : Hid (Rem own hb (P.set d.n.toNat ⟨10, false, sh its a (j + 1), []⟩) w wf w.heap.size hb d p r) := Lib.hid ⟨sf.sub fun b hb => .inl hb, (R2.out.kept.trans (KD.out.sub fun b hb => .inl hb)).trans (kf.sub fun b hb => .inl (.inl hb)), (kf.block _ (.inl (.inr rfl))).trans B3.out⟩
      have HW := Lib.hid (wrap64_one (A := A) (by have := HA.out; have := HN.out; omega))
      clear sf kf hnext c0 c1 c2 c3 c4 c5 c6 c7 c8 d0 d1 d2 d3 d4 d5
      go_wp2
      go_roundw
      case rel => exact ⟨j + 1, A + 1, hlt, by have := HA.out; omega, congrArg (Value.int .i64) HW.out, R3.out⟩
      case measure => exact measure_one E2 A _ HW.out (by omega)
    · have t0 := HA.out
      have t2 := HN.out
      have t1 : decide (A < E2) = false := decide_eq_false (by omega)
      have ej : j = m := by omega
      clear t0 t2
      subst ej
      go_wp2_with fail
      have go := Lib.hid (R1.out.below (Below.refl _ wa).drew)
      clear R1 HR R0
      go_region_held3 (fun wx => wx.cell? ⟨w.heap.size, 0, none⟩ = some (ptr hb) ∧ wx.cell? ⟨w.heap.size, 1, none⟩ = some (.int .i64 d.k) ∧ wx.cell? ⟨w.heap.size, 2, none⟩ = some (.bool d.x) ∧ wx.cell? ⟨w.heap.size, 3, none⟩ = some (.int .i64 d.n) ∧ wx.cell? ⟨w.heap.size, 4, none⟩ = some (.int .i64 d.a) ∧ wx.cell? ⟨w.heap.size, 5, none⟩ = some (.int .i64 d.l) ∧ wx.cell? ⟨w.heap.size, 6, none⟩ = some (.string d.s) ∧ wx.cell? ⟨w.heap.size, 7, none⟩ = some (.int .i64 p) ∧ wx.cell? ⟨w.heap.size, 8, none⟩ = some (.int .i64 r))
        (first | exact go.out.flat | go_keep)
        (first | (go_at_call 60; refine (end_is hb d.k d.n d.a d.l r d.x d.s p e HN.out.1 HN.out.2.2.2.2.2.2.1 _).mono ?_; rintro e_ wc ⟨rfl, kc⟩; replace go := Lib.hid (go.out.below kc); clear kc) | (go_at_call 86; refine (sPutItem go.out.sep (DJ.out j) p r E2 Ob.null (by rw [sh_length]; have := HN.out; omega) rfl).mono ?_; rintro e_ wd ⟨rfl, sd, kd⟩; replace go := Lib.hid (go.out.put sd kd); clear sd kd))
      go_upto_region 8 with fail
      replace go := Lib.hid (go.out.below (Below.refl _ _).drew)
      have st := go.out
      rw [List.set_set] at st
      replace go := Lib.hid st
      clear st
      go_region_held3 (fun wx => wx.cell? ⟨w.heap.size, 0, none⟩ = some (ptr hb) ∧ wx.cell? ⟨w.heap.size, 1, none⟩ = some (.int .i64 d.k) ∧ wx.cell? ⟨w.heap.size, 2, none⟩ = some (.bool d.x) ∧ wx.cell? ⟨w.heap.size, 3, none⟩ = some (.int .i64 d.n) ∧ wx.cell? ⟨w.heap.size, 4, none⟩ = some (.int .i64 d.a) ∧ wx.cell? ⟨w.heap.size, 5, none⟩ = some (.int .i64 d.l) ∧ wx.cell? ⟨w.heap.size, 6, none⟩ = some (.string d.s) ∧ wx.cell? ⟨w.heap.size, 7, none⟩ = some (.int .i64 p) ∧ wx.cell? ⟨w.heap.size, 8, none⟩ = some (.int .i64 r))
        (first | exact go.out.flat | go_keep)
        (first | (go_at_call 60; refine (end_is hb d.k d.n d.a d.l r d.x d.s p e HN.out.1 HN.out.2.2.2.2.2.2.1 _).mono ?_; rintro e_ wc ⟨rfl, kc⟩; replace go := Lib.hid (go.out.below kc); clear kc) | (go_at_call 86; refine (sPutItem go.out.sep (DA.out ((sh its a j).set E2 Ob.null) (by rw [List.length_set, sh_length])) p r E1 Ob.null (by rw [List.length_set, sh_length]; have := HN.out; omega) rfl).mono ?_; rintro e_ wd ⟨rfl, sd, kd⟩; replace go := Lib.hid (go.out.put sd kd); clear sd kd))
      go_upto_region 9 with fail
      have st := go.out
      rw [List.set_set] at st
      have ST := Lib.hid st
      obtain ⟨c0, c1, c2, c3, c4, c5, c6, c7, c8⟩ := st.flat
      clear st go
      go_wp2_with fail
      refine (sCount ST.out.sep (DA.out (((sh its a j).set E2 Ob.null).set E1 Ob.null) (by rw [List.length_set, List.length_set, sh_length])) p r p1 (by rw [List.length_set, List.length_set, sh_length]; have := HN.out; omega) (by have := HN.out; omega)).mono ?_
      rintro e_ wz ⟨rfl, sz, kz⟩
      rw [List.set_set] at sz
      have SZ := Lib.hid (sz.sub fun b hb => Or.inl hb)
      have KZ := Lib.hid (ST.out.kept.trans (kz.sub fun b hb => .inl hb))
      clear sz kz c0 c1 c2 c3 c4 c5 c6 c7 c8
      go_wp2
      go_end0
      exact ⟨rfl, SZ.out, KZ.out⟩
end Go.Proofs.Ytlkbnldpecolbaa

/- Walks of dict: Drop. -/
namespace Go.Proofs.Ytlkbnldpecolbaa
open Go.RowKit Go.Maps
set_option linter.unusedVariables false

/-- A heap beside boxes of ours: q, and the dictionary's cell. -/
structure DropAt (own : Nat → Prop) (hb : Nat) (P : List Cel) (w wx : World) (A C : Nat) (q : Ob) (dc : Obj) : Prop where
  sep : Sep (fun b => own b ∨ b = A ∨ b = A + 1 ∨ b = C) hb P wx
  kept : Kept own w wx
  b1 : wx.heap[A + 1]? = some (obObj q.k q.x q.n q.a q.l q.s)
  b3 : wx.heap[C]? = some dc
structure Box2 (own : Nat → Prop) (hb : Nat) (P : List Cel) (w wx : World) (A : Nat) (d k : Ob) : Prop where
  sep : Sep (fun b => own b ∨ b = A ∨ b = A + 1) hb P wx
  kept : Kept own w wx
  b0 : wx.heap[A]? = some (obObj d.k d.x d.n d.a d.l d.s)
  b1 : wx.heap[A + 1]? = some (obObj k.k k.x k.n k.a k.l k.s)
section
variable {own : Nat → Prop} {hb : Nat} {P P' : List Cel} {w wx wy : World} {A C hh : Nat} {d q k v : Ob} {dc : Obj}
theorem DropAt.below (h : DropAt own hb P w wx A C q dc) (kx : Below wx.heap.size wx wy) : DropAt own hb P w wy A C q dc :=
  ⟨(h.sep.below kx).1, h.kept.trans ((h.sep.below kx).2.sub fun b hb => .inl hb), (kx.block _ (blk_lt h.b1)).trans h.b1, (kx.block _ (blk_lt h.b3)).trans h.b3⟩
theorem DropAt.put (h : DropAt own hb P w wx A C q dc) (s : Sep (fun b => own b ∨ b = A ∨ b = A + 1 ∨ b = C) hb P' wy) (kx : Kept (fun b => own b ∨ b = A ∨ b = A + 1 ∨ b = C) wx wy) : DropAt own hb P' w wy A C q dc :=
  ⟨s, h.kept.trans (kx.sub fun b hb => .inl hb), (kx.block _ (.inr (.inr (.inl rfl)))).trans h.b1, (kx.block _ (.inr (.inr (.inr rfl)))).trans h.b3⟩
theorem Box2.below (h : Box2 own hb P w wx A d k) (kx : Below wx.heap.size wx wy) : Box2 own hb P w wy A d k :=
  ⟨(h.sep.below kx).1, h.kept.trans ((h.sep.below kx).2.sub fun b hb => .inl hb), (kx.block _ (blk_lt h.b0)).trans h.b0, (kx.block _ (blk_lt h.b1)).trans h.b1⟩
theorem Box2.start (h : Sep own hb P w) (d k : Ob) :
    ∃ wb, ((w.alloc (.cells #[.int .i64 d.k, .bool d.x, .int .i64 d.n, .int .i64 d.a, .int .i64 d.l, .string d.s] 30)).alloc (.cells #[.int .i64 k.k, .bool k.x, .int .i64 k.n, .int .i64 k.a, .int .i64 k.l, .string k.s] 30)) = wb ∧ Box2 own hb P w wb w.heap.size d k := by
  obtain ⟨w1, e1, s1, k1, o1⟩ := h.box_ob d.k d.x d.n d.a d.l d.s
  have z1 : w1.heap.size = w.heap.size + 1 := by rw [← e1]; simp
  obtain ⟨w2, e2, s2, k2, o2⟩ := s1.box_ob k.k k.x k.n k.a k.l k.s
  rw [e1, e2]
  rw [z1] at s2 o2
  refine ⟨w2, rfl, s2.sub fun b hb => ?_, k1.trans (k2.sub fun b hb => .inl hb), ?_, o2⟩
  · rcases hb with hb | hb | hb
    · exact .inl (.inl hb)
    · exact .inl (.inr hb)
    · exact .inr hb
  · rw [k2.block _ (.inr rfl)]
    exact o1
theorem Box2.opened (h : Box2 own hb P w wx A d k) (hA : ∀ b, own b → b < A) (cs : Array Value) (q : Ob) : DropAt own hb P w (put6 (wx.alloc (.cells cs 86)) (A + 1) (.int .i64 q.k) (.bool q.x) (.int .i64 q.n) (.int .i64 q.a) (.int .i64 q.l) (.string q.s)) A wx.heap.size q (.cells cs 86 (0, 0)) := by
  have hx := h.sep.box (.cells cs 86)
  have on : Only (A + 1) (wx.alloc (.cells cs 86)) (put6 (wx.alloc (.cells cs 86)) (A + 1) (.int .i64 q.k) (.bool q.x) (.int .i64 q.n) (.int .i64 q.a) (.int .i64 q.l) (.string q.s)) := only6 _ _ _ _ _ _ _ _
  have kb := box_below wx (.cells cs 86)
  have l1 := blk_lt h.b1
  refine ⟨(hx.only (.inl (.inr (.inr rfl))) on).sub fun b hb => ?_, (h.kept.trans ((h.sep.below kb).2.sub fun b hb => .inl hb)).only (own' := own) on (fun e => by have := hA _ e; omega), ?_, ?_⟩
  · rcases hb with hb | hb | hb | hb
    · exact .inl (.inl hb)
    · exact .inl (.inr (.inl hb))
    · exact .inl (.inr (.inr hb))
    · exact .inr hb
  · exact set6 ((kb.block _ l1).trans h.b1) _ _ _ _ _ _
  · rw [on.block _ (by omega)]
    exact heap_alloc_new _ _
end
section
variable {own : Nat → Prop} {hb : Nat} {P : List Cel} {w : World} {d k : Ob} {ps : List (Ob × Ob)} {room : Nat} {lk : Bool}
set_option maxHeartbeats 1000000 in
set_option maxRecDepth 100000 in
theorem drop_fail (h : Sep own hb P w) (D : DictC P d ps room lk) (E : Int) (hk : keyE P k = E) (hE : E ≠ 0) :
    Calls Try.prog 21 #[ptr hb, d.val, k.val] w fun e w' => e = .returned (.int .i64 E) ∧ Sep own hb P w' ∧ Kept own w w' := by
  show Calls Try.prog 21 #[ptr hb, obV d.k d.x d.n d.a d.l d.s, obV k.k k.x k.n k.a k.l k.s] w _
  have H := Lib.hid h
  have HD := Lib.hid D
  have HA := Lib.hid h.lt
  have HK := Lib.hid hk
  have HE := Lib.hid hE
  have HE' : Hid ((E != 0) = true) := Lib.hid (by simpa using hE)
  clear h D hk hE
  go_enter Try.func21, Try.ntmps21
  go_upto_region 1 with fail
  obtain ⟨wb, eb, st⟩ := Box2.start H.out d k
  rw [eb]
  have ST := Lib.hid st
  obtain ⟨o0, o1, o2, o3, o4, o5⟩ := ob_cells st.b0
  obtain ⟨p0, p1, p2, p3, p4, p5⟩ := ob_cells st.b1
  clear eb st
  go_wp2_with fail
  have hop : Calls Try.prog 51 #[ptr hb, d.val, k.val] wb fun e w' => e = .returned (.tuple #[zeroDcV, zeroOb, .int .i64 E]) ∧ Below wb.heap.size wb w' := by
    obtain ⟨role, ⟨vc, ivs, pb, rv, h1⟩, h2⟩ := ST.out.sep
    have := openFor_no h1 HD.out k (by rw [HK.out]; exact HE.out)
    rw [HK.out] at this
    exact this
  refine hop.mono ?_
  rintro e w1 ⟨rfl, k1⟩
  have S1 := Lib.hid (ST.out.below k1)
  clear hop k1 o0 o1 o2 o3 o4 o5 p0 p1 p2 p3 p4 p5
  obtain ⟨⟨p0, p1, p2, p3, p4, p5⟩, f0, f1, f2, f3, f4, f5⟩ := later6 S1.out.b1
  go_upto_region 2 with fail
  obtain ⟨w3, e3⟩ : ∃ w3, put6 (w1.alloc (.cells #[.pointer none, .int .i64 0, .bool false, .int .i64 0, .int .i64 0, .int .i64 0, .string ⟨#[]⟩, .int .i64 0, .int .i64 0] 86)) (w.heap.size + 1) (.int .i64 0) (.bool false) (.int .i64 0) (.int .i64 0) (.int .i64 0) (.string ⟨#[]⟩) = w3 := ⟨_, rfl⟩
  have go : DropAt own hb P w (put6 (w1.alloc (.cells #[.pointer none, .int .i64 0, .bool false, .int .i64 0, .int .i64 0, .int .i64 0, .string ⟨#[]⟩, .int .i64 0, .int .i64 0] 86)) (w.heap.size + 1) (.int .i64 0) (.bool false) (.int .i64 0) (.int .i64 0) (.int .i64 0) (.string ⟨#[]⟩)) w.heap.size w1.heap.size Ob.zero _ := S1.out.opened HA.out #[.pointer none, .int .i64 0, .bool false, .int .i64 0, .int .i64 0, .int .i64 0, .string ⟨#[]⟩, .int .i64 0, .int .i64 0] Ob.zero
  rw [e3] at go
  unfold put6 at e3
  rw [e3]
  have GO := Lib.hid go
  clear go e3 p0 p1 p2 p3 p4 p5 f0 f1 f2 f3 f4 f5
  have hE' := HE'.out
  go_wp2
  go_ret
  exact ⟨rfl, GO.out.sep.sub fun b hb => .inl hb, GO.out.kept⟩

set_option maxHeartbeats 1000000 in
set_option maxRecDepth 100000 in
theorem drop_miss (h : Sep own hb P w) (D : DictC P d ps room lk) (hk : keyE P k = 0) (hf : (keyO P k).Fine) (hi : ixD ps (keyO P k) ps.length = none) :
    Calls Try.prog 21 #[ptr hb, d.val, k.val] w fun e w' => e = .returned (.int .i64 0) ∧ Sep own hb P w' ∧ Kept own w w' := by
  show Calls Try.prog 21 #[ptr hb, obV d.k d.x d.n d.a d.l d.s, obV k.k k.x k.n k.a k.l k.s] w _
  have H := Lib.hid h
  have HD := Lib.hid D
  have HA := Lib.hid h.lt
  have HK := Lib.hid hk
  have HF := Lib.hid hf
  have HI := Lib.hid hi
  clear h D hk hf hi
  go_enter Try.func21, Try.ntmps21
  go_upto_region 1 with fail
  obtain ⟨wb, eb, st⟩ := Box2.start H.out d k
  rw [eb]
  have ST := Lib.hid st
  obtain ⟨o0, o1, o2, o3, o4, o5⟩ := ob_cells st.b0
  obtain ⟨p0, p1, p2, p3, p4, p5⟩ := ob_cells st.b1
  clear eb st
  go_wp2_with fail
  have hop : Calls Try.prog 51 #[ptr hb, d.val, k.val] wb fun e w' => e = .returned (.tuple #[dcV hb d.k d.x d.n d.a d.l d.s ps.length room, (keyO P k).val, .int .i64 0]) ∧ Below wb.heap.size wb w' := by
    obtain ⟨role, ⟨vc, ivs, pb, rv, h1⟩, h2⟩ := ST.out.sep
    exact openFor_is h1 HD.out k HK.out
  obtain ⟨q, hq⟩ : ∃ q, keyO P k = q := ⟨_, rfl⟩
  rw [hq] at hop
  have HQ := Lib.hid hq
  simp only [Ob.val] at hop
  clear hq
  refine hop.mono ?_
  rintro e w1 ⟨rfl, k1⟩
  have S1 := Lib.hid (ST.out.below k1)
  clear hop k1 o0 o1 o2 o3 o4 o5 p0 p1 p2 p3 p4 p5
  obtain ⟨⟨p0, p1, p2, p3, p4, p5⟩, f0, f1, f2, f3, f4, f5⟩ := later6 S1.out.b1
  go_upto_region 2 with fail
  obtain ⟨w3, e3⟩ : ∃ w3, put6 (w1.alloc (.cells #[ptr hb, .int .i64 d.k, .bool d.x, .int .i64 d.n, .int .i64 d.a, .int .i64 d.l, .string d.s, .int .i64 ps.length, .int .i64 room] 86)) (w.heap.size + 1) (.int .i64 q.k) (.bool q.x) (.int .i64 q.n) (.int .i64 q.a) (.int .i64 q.l) (.string q.s) = w3 := ⟨_, rfl⟩
  have go : DropAt own hb P w (put6 (w1.alloc (.cells #[ptr hb, .int .i64 d.k, .bool d.x, .int .i64 d.n, .int .i64 d.a, .int .i64 d.l, .string d.s, .int .i64 ps.length, .int .i64 room] 86)) (w.heap.size + 1) (.int .i64 q.k) (.bool q.x) (.int .i64 q.n) (.int .i64 q.a) (.int .i64 q.l) (.string q.s)) w.heap.size w1.heap.size q _ := S1.out.opened HA.out #[ptr hb, .int .i64 d.k, .bool d.x, .int .i64 d.n, .int .i64 d.a, .int .i64 d.l, .string d.s, .int .i64 ps.length, .int .i64 room] q
  rw [e3] at go
  unfold put6 at e3
  rw [e3]
  have GO := Lib.hid go
  clear go e3 p0 p1 p2 p3 p4 p5 f0 f1 f2 f3 f4 f5
  obtain ⟨d0, d1, d2, d3, d4, d5, d6, d7, d8⟩ := dc_cells GO.out.b3
  obtain ⟨q0, q1, q2, q3, q4, q5⟩ := ob_cells GO.out.b1
  go_wp2_with fail
  have hfind : Calls Try.prog 54 #[dcV hb d.k d.x d.n d.a d.l d.s ps.length room, q.val] w3 fun e w' => e = .returned (.tuple #[.int .i64 (atI (ixD ps q ps.length)), .bool (ixD ps q ps.length).isSome]) ∧ Below w3.heap.size w3 w' := by
    obtain ⟨role, ⟨vc, ivs, pb, rv, h1⟩, h2⟩ := GO.out.sep
    exact find_is h1 HD.out q (by rw [← HQ.out]; exact HF.out)
  rw [show ixD ps q ps.length = none from by rw [← HQ.out]; exact HI.out] at hfind
  skip
  refine hfind.mono ?_
  rintro e w6 ⟨rfl, k6⟩
  replace GO := Lib.hid (GO.out.below k6)
  clear hfind k6 d0 d1 d2 d3 d4 d5 d6 d7 d8 q0 q1 q2 q3 q4 q5
  go_wp2
  go_ret
  exact ⟨rfl, GO.out.sep.sub fun b hb => .inl hb, GO.out.kept⟩

set_option maxHeartbeats 1000000 in
set_option maxRecDepth 100000 in
theorem drop_lock (h : Sep own hb P w) (D : DictC P d ps room lk) (hl : lk = true) (hk : keyE P k = 0) (hf : (keyO P k).Fine) (i A : Nat) (hAA : A = 2 * i + 1) (hi : ixD ps (keyO P k) ps.length = some i) :
    Calls Try.prog 21 #[ptr hb, d.val, k.val] w fun e w' => e = .returned (.int .i64 1) ∧ Sep own hb P w' ∧ Kept own w w' := by
  show Calls Try.prog 21 #[ptr hb, obV d.k d.x d.n d.a d.l d.s, obV k.k k.x k.n k.a k.l k.s] w _
  have H := Lib.hid h
  have HD := Lib.hid D
  have HA := Lib.hid h.lt
  subst hl
  have HK := Lib.hid hk
  have HF := Lib.hid hf
  have HI := Lib.hid hi
  have HI2 : Hid (i < ps.length) := Lib.hid (ixD_some hi).1
  have HAA := Lib.hid hAA
  clear h D hk hf hi hAA
  go_enter Try.func21, Try.ntmps21
  go_upto_region 1 with fail
  obtain ⟨wb, eb, st⟩ := Box2.start H.out d k
  rw [eb]
  have ST := Lib.hid st
  obtain ⟨o0, o1, o2, o3, o4, o5⟩ := ob_cells st.b0
  obtain ⟨p0, p1, p2, p3, p4, p5⟩ := ob_cells st.b1
  clear eb st
  go_wp2_with fail
  have hop : Calls Try.prog 51 #[ptr hb, d.val, k.val] wb fun e w' => e = .returned (.tuple #[dcV hb d.k d.x d.n d.a d.l d.s ps.length room, (keyO P k).val, .int .i64 0]) ∧ Below wb.heap.size wb w' := by
    obtain ⟨role, ⟨vc, ivs, pb, rv, h1⟩, h2⟩ := ST.out.sep
    exact openFor_is h1 HD.out k HK.out
  obtain ⟨q, hq⟩ : ∃ q, keyO P k = q := ⟨_, rfl⟩
  rw [hq] at hop
  have HQ := Lib.hid hq
  simp only [Ob.val] at hop
  clear hq
  refine hop.mono ?_
  rintro e w1 ⟨rfl, k1⟩
  have S1 := Lib.hid (ST.out.below k1)
  clear hop k1 o0 o1 o2 o3 o4 o5 p0 p1 p2 p3 p4 p5
  obtain ⟨⟨p0, p1, p2, p3, p4, p5⟩, f0, f1, f2, f3, f4, f5⟩ := later6 S1.out.b1
  go_upto_region 2 with fail
  obtain ⟨w3, e3⟩ : ∃ w3, put6 (w1.alloc (.cells #[ptr hb, .int .i64 d.k, .bool d.x, .int .i64 d.n, .int .i64 d.a, .int .i64 d.l, .string d.s, .int .i64 ps.length, .int .i64 room] 86)) (w.heap.size + 1) (.int .i64 q.k) (.bool q.x) (.int .i64 q.n) (.int .i64 q.a) (.int .i64 q.l) (.string q.s) = w3 := ⟨_, rfl⟩
  have go : DropAt own hb P w (put6 (w1.alloc (.cells #[ptr hb, .int .i64 d.k, .bool d.x, .int .i64 d.n, .int .i64 d.a, .int .i64 d.l, .string d.s, .int .i64 ps.length, .int .i64 room] 86)) (w.heap.size + 1) (.int .i64 q.k) (.bool q.x) (.int .i64 q.n) (.int .i64 q.a) (.int .i64 q.l) (.string q.s)) w.heap.size w1.heap.size q _ := S1.out.opened HA.out #[ptr hb, .int .i64 d.k, .bool d.x, .int .i64 d.n, .int .i64 d.a, .int .i64 d.l, .string d.s, .int .i64 ps.length, .int .i64 room] q
  rw [e3] at go
  unfold put6 at e3
  rw [e3]
  have GO := Lib.hid go
  clear go e3 p0 p1 p2 p3 p4 p5 f0 f1 f2 f3 f4 f5
  obtain ⟨d0, d1, d2, d3, d4, d5, d6, d7, d8⟩ := dc_cells GO.out.b3
  obtain ⟨q0, q1, q2, q3, q4, q5⟩ := ob_cells GO.out.b1
  go_wp2_with fail
  have hfind : Calls Try.prog 54 #[dcV hb d.k d.x d.n d.a d.l d.s ps.length room, q.val] w3 fun e w' => e = .returned (.tuple #[.int .i64 (atI (ixD ps q ps.length)), .bool (ixD ps q ps.length).isSome]) ∧ Below w3.heap.size w3 w' := by
    obtain ⟨role, ⟨vc, ivs, pb, rv, h1⟩, h2⟩ := GO.out.sep
    exact find_is h1 HD.out q (by rw [← HQ.out]; exact HF.out)
  rw [show ixD ps q ps.length = some i from by rw [← HQ.out]; exact HI.out] at hfind
  rw [show atI (some i) = (A : Int) from by simp [atI, HAA.out]] at hfind
  refine hfind.mono ?_
  rintro e w6 ⟨rfl, k6⟩
  replace GO := Lib.hid (GO.out.below k6)
  clear hfind k6 d0 d1 d2 d3 d4 d5 d6 d7 d8 q0 q1 q2 q3 q4 q5
  obtain ⟨d0, d1, d2, d3, d4, d5, d6, d7, d8⟩ := dc_cells GO.out.b3
  go_wp2_with fail
  refine (sLocked GO.out.sep HD.out ps.length room).mono ?_
  rintro e w5 ⟨rfl, s5, k5⟩
  replace GO := Lib.hid (GO.out.put s5 k5)
  clear s5 k5 d0 d1 d2 d3 d4 d5 d6 d7 d8
  go_wp2
  go_ret
  exact ⟨rfl, GO.out.sep.sub fun b hb => .inl hb, GO.out.kept⟩

set_option maxHeartbeats 1000000 in
set_option maxRecDepth 100000 in
theorem drop_have (h : Sep own hb P w) (D : DictC P d ps room lk) (hl : lk = false) (hk : keyE P k = 0) (hf : (keyO P k).Fine) (i A : Nat) (hAA : A = 2 * i + 1) (hi : ixD ps (keyO P k) ps.length = some i) (hv : ∀ x ∈ itemsD ps room, mayH P x = true) :
    Calls Try.prog 21 #[ptr hb, d.val, k.val] w fun e w' => e = .returned (.int .i64 0) ∧ Sep own hb (P.set d.n.toNat ⟨10, false, itemsD (ps.eraseIdx i) room, []⟩) w' ∧ Kept own w w' := by
  show Calls Try.prog 21 #[ptr hb, obV d.k d.x d.n d.a d.l d.s, obV k.k k.x k.n k.a k.l k.s] w _
  have H := Lib.hid h
  have HD := Lib.hid D
  have HA := Lib.hid h.lt
  subst hl
  have HK := Lib.hid hk
  have HF := Lib.hid hf
  have HI := Lib.hid hi
  have HI2 : Hid (i < ps.length) := Lib.hid (ixD_some hi).1
  have HAA := Lib.hid hAA
  have HV := Lib.hid hv
  clear h D hk hf hi hAA hv
  go_enter Try.func21, Try.ntmps21
  go_upto_region 1 with fail
  obtain ⟨wb, eb, st⟩ := Box2.start H.out d k
  rw [eb]
  have ST := Lib.hid st
  obtain ⟨o0, o1, o2, o3, o4, o5⟩ := ob_cells st.b0
  obtain ⟨p0, p1, p2, p3, p4, p5⟩ := ob_cells st.b1
  clear eb st
  go_wp2_with fail
  have hop : Calls Try.prog 51 #[ptr hb, d.val, k.val] wb fun e w' => e = .returned (.tuple #[dcV hb d.k d.x d.n d.a d.l d.s ps.length room, (keyO P k).val, .int .i64 0]) ∧ Below wb.heap.size wb w' := by
    obtain ⟨role, ⟨vc, ivs, pb, rv, h1⟩, h2⟩ := ST.out.sep
    exact openFor_is h1 HD.out k HK.out
  obtain ⟨q, hq⟩ : ∃ q, keyO P k = q := ⟨_, rfl⟩
  rw [hq] at hop
  have HQ := Lib.hid hq
  simp only [Ob.val] at hop
  clear hq
  refine hop.mono ?_
  rintro e w1 ⟨rfl, k1⟩
  have S1 := Lib.hid (ST.out.below k1)
  clear hop k1 o0 o1 o2 o3 o4 o5 p0 p1 p2 p3 p4 p5
  obtain ⟨⟨p0, p1, p2, p3, p4, p5⟩, f0, f1, f2, f3, f4, f5⟩ := later6 S1.out.b1
  go_upto_region 2 with fail
  obtain ⟨w3, e3⟩ : ∃ w3, put6 (w1.alloc (.cells #[ptr hb, .int .i64 d.k, .bool d.x, .int .i64 d.n, .int .i64 d.a, .int .i64 d.l, .string d.s, .int .i64 ps.length, .int .i64 room] 86)) (w.heap.size + 1) (.int .i64 q.k) (.bool q.x) (.int .i64 q.n) (.int .i64 q.a) (.int .i64 q.l) (.string q.s) = w3 := ⟨_, rfl⟩
  have go : DropAt own hb P w (put6 (w1.alloc (.cells #[ptr hb, .int .i64 d.k, .bool d.x, .int .i64 d.n, .int .i64 d.a, .int .i64 d.l, .string d.s, .int .i64 ps.length, .int .i64 room] 86)) (w.heap.size + 1) (.int .i64 q.k) (.bool q.x) (.int .i64 q.n) (.int .i64 q.a) (.int .i64 q.l) (.string q.s)) w.heap.size w1.heap.size q _ := S1.out.opened HA.out #[ptr hb, .int .i64 d.k, .bool d.x, .int .i64 d.n, .int .i64 d.a, .int .i64 d.l, .string d.s, .int .i64 ps.length, .int .i64 room] q
  rw [e3] at go
  unfold put6 at e3
  rw [e3]
  have GO := Lib.hid go
  clear go e3 p0 p1 p2 p3 p4 p5 f0 f1 f2 f3 f4 f5
  obtain ⟨d0, d1, d2, d3, d4, d5, d6, d7, d8⟩ := dc_cells GO.out.b3
  obtain ⟨q0, q1, q2, q3, q4, q5⟩ := ob_cells GO.out.b1
  go_wp2_with fail
  have hfind : Calls Try.prog 54 #[dcV hb d.k d.x d.n d.a d.l d.s ps.length room, q.val] w3 fun e w' => e = .returned (.tuple #[.int .i64 (atI (ixD ps q ps.length)), .bool (ixD ps q ps.length).isSome]) ∧ Below w3.heap.size w3 w' := by
    obtain ⟨role, ⟨vc, ivs, pb, rv, h1⟩, h2⟩ := GO.out.sep
    exact find_is h1 HD.out q (by rw [← HQ.out]; exact HF.out)
  rw [show ixD ps q ps.length = some i from by rw [← HQ.out]; exact HI.out] at hfind
  rw [show atI (some i) = (A : Int) from by simp [atI, HAA.out]] at hfind
  refine hfind.mono ?_
  rintro e w6 ⟨rfl, k6⟩
  replace GO := Lib.hid (GO.out.below k6)
  clear hfind k6 d0 d1 d2 d3 d4 d5 d6 d7 d8 q0 q1 q2 q3 q4 q5
  obtain ⟨d0, d1, d2, d3, d4, d5, d6, d7, d8⟩ := dc_cells GO.out.b3
  go_wp2_with fail
  refine (sLocked GO.out.sep HD.out ps.length room).mono ?_
  rintro e w5 ⟨rfl, s5, k5⟩
  replace GO := Lib.hid (GO.out.put s5 k5)
  clear s5 k5 d0 d1 d2 d3 d4 d5 d6 d7 d8
  obtain ⟨d0, d1, d2, d3, d4, d5, d6, d7, d8⟩ := dc_cells GO.out.b3
  go_wp2_with fail
  have hrem := sRemove GO.out.sep HD.out.r HV.out room ps.length (ps.length - 1) A (2 * ps.length + 1) (2 * ps.length + 1 - 1) (2 * ps.length + 1 - 2) (2 * ps.length + 1 - 2 - A) rfl rfl rfl (by have := HI2.out; have := HAA.out; omega) rfl (by have := HI2.out; omega) (Nat.le_trans HD.out.le HD.out.most) (by rw [itemsD_length HD.out.le]; have := HD.out.le; omega)
  rw [items_drop HD.out.le HI2.out HAA.out rfl (by have := HI2.out; have := HAA.out; omega)] at hrem
  refine hrem.mono ?_
  rintro e w7 ⟨rfl, s7, k7⟩
  replace GO := Lib.hid (GO.out.put s7 k7)
  clear hrem s7 k7 d0 d1 d2 d3 d4 d5 d6 d7 d8
  go_wp2
  go_ret
  exact ⟨rfl, GO.out.sep.sub fun b hb => .inl hb, GO.out.kept⟩

/-- What Drop returns, and the pairs behind it. -/
def dropE (P : List Cel) (ps : List (Ob × Ob)) (lk : Bool) (k : Ob) : Int := if keyE P k = 0 then (if (ixD ps (keyO P k) ps.length).isSome ∧ lk = true then 1 else 0) else keyE P k
def dropL (ps : List (Ob × Ob)) (k : Ob) : List (Ob × Ob) := match ixD ps k ps.length with | some i => ps.eraseIdx i | none => ps
theorem sDictDrop (h : Sep own hb P w) (D : DictC P d ps room false) (hf : keyE P k = 0 → (keyO P k).Fine) (hv : ∀ x ∈ itemsD ps room, mayH P x = true) :
    Calls Try.prog 21 #[ptr hb, d.val, k.val] w fun e w' => e = .returned (.int .i64 (dropE P ps false k)) ∧ Sep own hb (if dropE P ps false k = 0 then P.set d.n.toNat ⟨10, false, itemsD (dropL ps (keyO P k)) room, []⟩ else P) w' ∧ Kept own w w' := by
  by_cases hk : keyE P k = 0
  · have e : dropE P ps false k = 0 := by simp [dropE, hk]
    rw [e, if_pos rfl]
    cases hi : ixD ps (keyO P k) ps.length with
    | none =>
      have q : dropL ps (keyO P k) = ps := by simp [dropL, hi]
      rw [q, D.r.self]
      exact drop_miss h D hk (hf hk) hi
    | some i =>
      have q : dropL ps (keyO P k) = ps.eraseIdx i := by simp [dropL, hi]
      rw [q]
      exact drop_have h D rfl hk (hf hk) i _ rfl hi hv
  · have e : dropE P ps false k = keyE P k := by simp [dropE, hk]
    rw [e, if_neg hk]
    exact drop_fail h D _ rfl hk
end
end Go.Proofs.Ytlkbnldpecolbaa
