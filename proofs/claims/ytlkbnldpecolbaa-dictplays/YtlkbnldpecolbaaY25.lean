/- Y25: D14, D15, D16, D17. -/
import Derived.Test.YtlkbnldpecolbaaY24
/- Walks of dict: Get, New, Pairs whole. -/
namespace Go.Proofs.Ytlkbnldpecolbaa
open Go.RowKit Go.Maps
set_option linter.unusedVariables false

/-- What Get returns. -/
def dgetE (P : List Cel) (ps : List (Ob × Ob)) (k : Ob) : Int := if keyE P k = 0 then (if (ixD ps (keyO P k) ps.length).isSome then 0 else 9) else keyE P k
def dgetO (P : List Cel) (ps : List (Ob × Ob)) (k : Ob) : Ob := if keyE P k = 0 then (match ixD ps (keyO P k) ps.length with | some i => (ps.getD i (Ob.zero, Ob.zero)).2 | none => Ob.zero) else Ob.zero
section
variable {role : Nat → Nat × Nat} {c hb : Nat} {vc : Value} {ivs : List Value} {pb : Nat → Nat} {rv : Nat → Value} {P : List Cel} {w w' : World} {d : Ob} {ps : List (Ob × Ob)} {room : Nat} {lk : Bool}
theorem dictGet_is (h : PH role c hb vc ivs pb rv P w) (D : DictC P d ps room lk) (k : Ob) (hf : keyE P k = 0 → (keyO P k).Fine) :
    Calls Try.prog 31 #[ptr hb, d.val, k.val] w fun e w' => e = .returned (.tuple #[(dgetO P ps k).val, .int .i64 (dgetE P ps k)]) ∧ Below w.heap.size w w' := by
  by_cases hk : keyE P k = 0
  · have hop : Hid (∀ wx, Below w.heap.size w wx → Calls Try.prog 51 #[ptr hb, d.val, k.val] wx fun e w' => e = .returned (.tuple #[dcV hb d.k d.x d.n d.a d.l d.s ps.length room, (keyO P k).val, .int .i64 0]) ∧ Below wx.heap.size wx w') := Lib.hid fun wx kx => openFor_is (h.below kx) D k hk
    have hfd := fun wx kx => find_is (h.below (w' := wx) kx) D (keyO P k) (hf hk)
    cases hi : ixD ps (keyO P k) ps.length with
    | none =>
      have e1 : dgetE P ps k = 9 := by simp [dgetE, hk, hi]
      have e2 : dgetO P ps k = Ob.zero := by simp [dgetO, hk, hi]
      rw [e1, e2]
      rw [hi] at hfd
      exact get_miss hb d.k d.n d.a d.l ps.length room 0 d.x d.s k.k k.n k.a k.l k.x k.s (keyO P k).k (keyO P k).n (keyO P k).a (keyO P k).l (keyO P k).x (keyO P k).s 0 0 0 0 false ⟨#[]⟩ w hop (Lib.hid hfd)
    | some i =>
      obtain ⟨hil, p, hp, _⟩ := ixD_some hi
      have e1 : dgetE P ps k = 0 := by simp [dgetE, hk, hi]
      have e2 : dgetO P ps k = p.2 := by simp [dgetO, hk, hi, List.getD_eq_getElem?_getD, hp]
      rw [e1, e2]
      rw [hi] at hfd
      refine get_have hb d.k d.n d.a d.l ps.length room (2 * (i : Int) + 1) (((2 * i + 2 : Nat) : Int)) 0 d.x d.s k.k k.n k.a k.l k.x k.s (keyO P k).k (keyO P k).n (keyO P k).a (keyO P k).l (keyO P k).x (keyO P k).s p.2.k p.2.n p.2.a p.2.l p.2.x p.2.s w ?_ hop (Lib.hid hfd) (Lib.hid fun wx kx => ?_)
      · have := D.le
        have := D.most
        rw [wrapi_in _ (by omega) (by omega)]
        omega
      · exact dget_is (h.below kx) D (itemsD_key hp).2
  · have e1 : dgetE P ps k = keyE P k := by simp [dgetE, hk]
    have e2 : dgetO P ps k = Ob.zero := by simp [dgetO, hk]
    rw [e1, e2]
    exact get_fail hb d.k d.n d.a d.l 0 0 (keyE P k) d.x d.s k.k k.n k.a k.l k.x k.s 0 0 0 0 false ⟨#[]⟩ 0 0 0 0 false ⟨#[]⟩ w (by simpa using hk) (Lib.hid fun wx kx => openFor_no (h.below kx) D k hk)

theorem items_all (D : DictC P d ps room lk) : itemsL P d = itemsD ps room := by
  rw [itemsL, D.len, D.cell, D.zeros.1]
  show ((itemsD ps room).drop 0).take (((2 * room + 1 : Nat) : Int)).toNat = _
  rw [List.drop_zero, Int.toNat_natCast, List.take_of_length_le (by rw [itemsD_length D.le]; exact Nat.le_refl _)]
set_option maxRecDepth 100000 in
theorem pairs_is (h : PH role c hb vc ivs pb rv P w) (D : DictC P d ps room lk) (q : Nat) (hq : q = 2 * ps.length + 1) :
    Calls Try.prog 22 #[ptr hb, d.val] w fun e w' => ∃ g cap ad, e = .returned (.tuple #[.slice ad (q - 1) (cap - 1), .int .i64 0]) ∧ (0 < ps.length → ad = some ⟨g, 6, none⟩) ∧ w.heap.size ≤ g ∧ w'.ownsRow 0 30 6 (.slice (some ⟨g, 0, none⟩) (2 * room + 1) cap) (2 * room + 1) (obCells (itemsD ps room)) ∧ Below w.heap.size w w' := by
  have hop : Hid (∀ wx, Below w.heap.size w wx → _) := Lib.hid fun wx kx => open_is (h.below kx) D
  have hit : Hid (∀ wx, Below w.heap.size w wx → _) := Lib.hid fun wx kx => items_is (h.below kx) d D.ok (by rw [D.k]; decide)
  rw [items_all D, itemsD_length D.le] at hit
  have HP : Hid (ps.length ≤ 1000 ∧ ps.length ≤ room) := Lib.hid ⟨Nat.le_trans D.le D.most, D.le⟩
  have HQ := Lib.hid hq
  clear hq h D
  show Calls Try.prog 22 #[ptr hb, obV d.k d.x d.n d.a d.l d.s] w _
  go_enter Try.func22, Try.ntmps22
  go_wp2_with fail
  obtain ⟨wb, eb, kb, zb, ob⟩ := ob_box w d.k d.n d.a d.l d.x d.s
  rw [eb]
  refine (hop.out wb kb).mono ?_
  rintro e w1 ⟨rfl, k1⟩
  have K1 := Lib.hid (below_and kb k1)
  have O1 := Lib.hid (ob.later k1)
  clear eb kb zb ob k1
  go_upto_region 2 with fail
  obtain ⟨w2, e2, k2, z2, b2⟩ := dc_box w1 hb d.k d.x d.n d.a d.l d.s ps.length room
  rw [e2]
  have K2 := Lib.hid (below_and K1.out k2)
  have D2 := Lib.hid b2
  obtain ⟨o0, o1, o2, o3, o4, o5⟩ := O1.out.later k2
  clear e2 k2 z2 b2
  go_wp2_with fail
  refine (hit.out w2 K2.out).mono ?_
  rintro e w3 ⟨v, rfl, r3, k3⟩
  obtain ⟨g, cap, rfl, _, _⟩ := r3.form (by omega)
  have hcap : 2 * room + 1 ≤ cap := by
    rcases r3.2 with ⟨hn, _⟩ | ⟨g', cap', cur, hv, _, _, hc, _⟩
    · cases hn
    · injection hv with _ _ h3
      omega
  have K3 := Lib.hid (below_and K2.out k3)
  have R3 := Lib.hid (r3.mono (Nat.zero_le _))
  have G3 := Lib.hid (Nat.le_trans K2.out.size (r3.lt g rfl).1)
  obtain ⟨d0, d1, d2, d3, d4, d5, d6, d7, d8⟩ := dc_cells ((k3.block _ (blk_lt D2.out)).trans D2.out)
  have hsl := slice33 (some ⟨g, 0, none⟩) (2 * room + 1) cap 1 q (by have := HQ.out; omega) (by have := HQ.out; have := HP.out; omega)
  obtain ⟨ad, had⟩ : ∃ ad, (if cap = 1 then some (⟨g, 0, none⟩ : Addr) else (some (⟨g, 0, none⟩ : Addr)).map (·.add (1 * 6))) = ad := ⟨_, rfl⟩
  rw [had] at hsl
  rw [show (((1 : Nat) : Int)) = 1 from rfl] at hsl
  have HAD : Hid (0 < ps.length → ad = some ⟨g, 6, none⟩) := Lib.hid fun h0 => by
    rw [← had, if_neg (by have := HP.out; omega)]
    simp only [Option.map_some, Addr.add_mid, Nat.zero_add, Nat.one_mul]
  clear o0 o1 o2 o3 o4 o5 r3 k3 hcap had
  go_wp2_with fail
  refine (end_is hb d.k d.n d.a d.l room d.x d.s ps.length q HQ.out HP.out.1 w3).mono ?_
  rintro e w4 ⟨rfl, k4⟩
  have K4 := Lib.hid (below_and K3.out k4)
  have R4 := Lib.hid (owns_same R3.out fun b _ hb => k4.block b hb)
  clear k4 d0 d1 d2 d3 d4 d5 d6 d7 d8
  go_wp2
  go_ret2
  exact ⟨g, cap, ad, rfl, HAD.out, G3.out, R4.out, K4.out⟩
end
section
variable {own : Nat → Prop} {hb : Nat} {P : List Cel} {w : World}
theorem sDict_ok (h : Sep own hb P w) (n : Nat) (hn : n ≤ 1000) (hl : P.length < 2000) (hu : 2 * n + 1 + usedP P ≤ 40000) :
    Calls Try.prog 44 #[ptr hb, .int .i64 n] w fun e w' => e = .returned (.tuple #[obV 10 false P.length 0 0 ⟨#[]⟩, .int .i64 0]) ∧ Sep own hb (P ++ [⟨10, false, emptyD n, []⟩]) w' ∧ Kept own w w' := by
  obtain ⟨role, ⟨vc, ivs, pb, rv, h1⟩, h2⟩ := h
  refine (dict_ok h1 n (2 * n) rfl hn hl hu).mono ?_
  rintro e w' ⟨rfl, role', q1, q2⟩
  exact ⟨rfl, Sep.of_keep h2 q1 q2⟩
set_option maxRecDepth 100000 in
theorem newDict_walk (hb : Nat) (m k n a l E : Int) (x : Bool) (s : ByteArray) (w : World) (R : World → World → Prop)
    (hs : Hid (∀ wx, wx = w.alloc emptyOb → Calls Try.prog 44 #[ptr hb, .int .i64 m] wx fun e w' => e = .returned (.tuple #[obV k x n a l s, .int .i64 E]) ∧ R wx w' ∧ w'.heap[w.heap.size]? = some emptyOb)) :
    Calls Try.prog 12 #[ptr hb, .int .i64 m] w fun e w' => e = .returned (.tuple #[obV k x n a l s, .int .i64 E]) ∧ ∃ wx wy, wx = w.alloc emptyOb ∧ R wx wy ∧ w' = put6 wy w.heap.size (.int .i64 k) (.bool x) (.int .i64 n) (.int .i64 a) (.int .i64 l) (.string s) := by
  go_enter Try.func12, Try.ntmps12
  go_wp2_with fail
  refine (hs.out _ rfl).mono ?_
  rintro e w1 ⟨rfl, hR, hblk⟩
  have HR := Lib.hid hR
  have HB := Lib.hid hblk
  obtain ⟨⟨c0, c1, c2, c3, c4, c5⟩, f0, f1, f2, f3, f4, f5⟩ := cells6 hblk
  clear hR hblk
  go_wp2
  (try simp only [Exit.inBlock, Exit.then])
  exact bodyPost_ret (ret_cell rfl _ _ _ _ _ _ _ _ rfl rfl (set6 HB.out _ _ _ _ _ _) Try.underlying30 rfl (by kernel_rfl)) rfl ⟨rfl, _, w1, rfl, HR.out, rfl⟩
theorem sNewDict (h : Sep own hb P w) (hA : ∀ b, own b → b < w.heap.size) (n : Nat) (hn : n ≤ 1000) (hl : P.length < 2000) (hu : 2 * n + 1 + usedP P ≤ 40000) :
    Calls Try.prog 12 #[ptr hb, .int .i64 n] w fun e w' => e = .returned (.tuple #[obV 10 false P.length 0 0 ⟨#[]⟩, .int .i64 0]) ∧ Sep own hb (P ++ [⟨10, false, emptyD n, []⟩]) w' ∧ Kept own w w' := by
  refine (newDict_walk hb n 10 P.length 0 0 0 false ⟨#[]⟩ w (fun wx w' => wx = w.alloc emptyOb → Sep (fun b => own b ∨ b = w.heap.size) hb (P ++ [⟨10, false, emptyD n, []⟩]) w' ∧ Kept (fun b => own b ∨ b = w.heap.size) wx w') (Lib.hid fun wx hx => ?_)).mono ?_
  · subst hx
    refine (sDict_ok (h.box emptyOb) n hn hl hu).mono ?_
    rintro e w' ⟨rfl, s1, k1⟩
    exact ⟨rfl, fun _ => ⟨s1, k1⟩, (k1.block _ (.inr rfl)).trans (heap_alloc_new _ _)⟩
  · rintro e w' ⟨rfl, wx, wy, rfl, hR, rfl⟩
    obtain ⟨s1, k1⟩ := hR rfl
    have on : Only w.heap.size wy (put6 wy w.heap.size (.int .i64 10) (.bool false) (.int .i64 P.length) (.int .i64 0) (.int .i64 0) (.string ⟨#[]⟩)) := only6 _ _ _ _ _ _ _ _
    refine ⟨rfl, (s1.only (.inr rfl) on).sub fun b hb => .inl hb, ?_⟩
    exact ((h.below (box_below w emptyOb)).2.trans (k1.sub fun b hb => .inl hb)).only (own' := own) on fun e => by
      have := hA _ e
      omega
end
end Go.Proofs.Ytlkbnldpecolbaa

/- The laws' known case of layer 12. -/
namespace Go.Proofs.Ytlkbnldpecolbaa
open Go.RowKit Go.Maps
set_option linter.unusedVariables false

theorem Sep.lt {own : Nat → Prop} {hb : Nat} {P : List Cel} {w : World} (h : Sep own hb P w) : ∀ b, own b → b < w.heap.size := by
  obtain ⟨role, h1, h2⟩ := h
  exact fun b hb => (h2 b hb).1
section
variable {own : Nat → Prop} {hb : Nat} {P : List Cel} {w : World} {d k v : Ob} {ps : List (Ob × Ob)} {room : Nat} {lk : Bool}
theorem sDictGet (h : Sep own hb P w) (D : DictC P d ps room lk) (hf : keyE P k = 0 → (keyO P k).Fine) (E : Int) (kv : Int) (xv : Bool) (nv av lv : Int) (sv : ByteArray) (hE : dgetE P ps k = E) (hO : dgetO P ps k = ⟨kv, xv, nv, av, lv, sv⟩) :
    Calls Try.prog 31 #[ptr hb, d.val, k.val] w fun e w' => e = .returned (.tuple #[obV kv xv nv av lv sv, .int .i64 E]) ∧ Sep own hb P w' ∧ Kept own w w' := by
  have h0 := h
  obtain ⟨role, ⟨vc, ivs, pb, rv, h1⟩, h2⟩ := h
  refine (dictGet_is h1 D k hf).mono ?_
  rintro e w' ⟨rfl, kk⟩
  rw [hE, hO]
  exact ⟨rfl, h0.below kk⟩
theorem sDictPut (h : Sep own hb P w) (D : DictC P d ps room lk) (hf : keyE P k = 0 → (keyO P k).Fine) (hmq : keyE P k = 0 → mayH P (keyO P k) = true) (E : Int) (hE : dsetE P ps room lk k v = E) :
    Calls Try.prog 20 #[ptr hb, d.val, k.val, v.val] w fun e w' => e = .returned (.int .i64 E) ∧ Sep own hb (if E = 0 then P.set d.n.toNat ⟨10, false, itemsD (dsetL ps (keyO P k) v) room, []⟩ else P) w' ∧ Kept own w w' := by
  have := sDictSet h D h.lt hf hmq (v := v)
  rw [hE] at this
  exact this
theorem sKey (h : Sep own hb P w) (E : Int) (kv : Int) (xv : Bool) (nv av lv : Int) (sv : ByteArray) (hE : keyE P k = E) (hO : keyO P k = ⟨kv, xv, nv, av, lv, sv⟩) :
    Calls Try.prog 27 #[ptr hb, k.val] w fun e w' => e = .returned (.tuple #[obV kv xv nv av lv sv, .int .i64 E]) ∧ Sep own hb P w' ∧ Kept own w w' := by
  have h0 := h
  obtain ⟨role, ⟨vc, ivs, pb, rv, h1⟩, h2⟩ := h
  refine (key_is h1 k).mono ?_
  rintro e w' ⟨rfl, kk⟩
  rw [hE, hO]
  exact ⟨rfl, h0.below kk⟩
end

def qD : Ob := ⟨10, false, 0, 0, 0, ⟨#[]⟩⟩
def qS : Ob := ⟨8, false, 1, 0, 1, ⟨#[]⟩⟩
def qA : Ob := ⟨5, false, 0, 0, 0, ⟨#[97]⟩⟩
def qP (ps : List (Ob × Ob)) : List Cel := [⟨10, false, itemsD ps 1, []⟩, ⟨8, false, [], [97]⟩]
theorem fineA : qA.Fine := ⟨rfl, rfl, rfl, rfl, by decide⟩
theorem fineN (v : Int) (h : -9223372036854775808 ≤ v ∧ v ≤ 9223372036854775807) : (Ob.num v).Fine := ⟨rfl, WalkArith.wf_i64 h, rfl, rfl, Nat.zero_le _⟩
theorem qC0 : DictC (qP []) qD [] 1 false := ⟨by kernel_rfl, rfl, rfl, by decide, by decide, by simp⟩
theorem qC1 : DictC (qP [(qA, Ob.num 5)]) qD [(qA, Ob.num 5)] 1 false := ⟨by kernel_rfl, rfl, rfl, by decide, by decide, by
  intro p hp
  simp at hp
  subst hp
  exact fineA⟩
theorem q1 : keyE (qP []) qS = 0 ∧ keyO (qP []) qS = qA ∧ dsetE (qP []) [] 1 false qS (Ob.num 5) = 0 ∧ mayH (qP []) qA = true := ⟨by kernel_rfl, by kernel_rfl, by kernel_rfl, by kernel_rfl⟩
theorem q2 : keyE (qP [(qA, Ob.num 5)]) qA = 0 ∧ keyO (qP [(qA, Ob.num 5)]) qA = qA ∧ dgetE (qP [(qA, Ob.num 5)]) [(qA, Ob.num 5)] qA = 0 ∧ dgetO (qP [(qA, Ob.num 5)]) [(qA, Ob.num 5)] qA = Ob.num 5 := ⟨by kernel_rfl, by kernel_rfl, by kernel_rfl, by kernel_rfl⟩
theorem q3 : keyE (qP [(qA, Ob.num 5)]) (Ob.num 5) = 0 ∧ keyO (qP [(qA, Ob.num 5)]) (Ob.num 5) = Ob.num 5 ∧ dsetE (qP [(qA, Ob.num 5)]) [(qA, Ob.num 5)] 1 false (Ob.num 5) (Ob.num 5) = 20 ∧ mayH (qP [(qA, Ob.num 5)]) (Ob.num 5) = true := ⟨by kernel_rfl, by kernel_rfl, by kernel_rfl, by kernel_rfl⟩

set_option maxHeartbeats 1000000 in
theorem dknown_any (w : World) : Calls Try.prog 24 #[] w fun e w' => e = .returned (.bool true) ∧ Below w.heap.size w w' := by
  go_enter Try.func24, Try.ntmps24
  go_wp2_with fail
  refine (new_any w).mono ?_
  rintro e w1 ⟨rfl, rfl⟩
  obtain ⟨w1, e1, s1, b1⟩ : ∃ w1, w.alloc (.cells #[.slice none 0 0, .int .i64 0] 72) = w1 ∧ Sep (fun b => b < w.heap.size) w.heap.size [] w1 ∧ Below w.heap.size w w1 := ⟨_, rfl, Sep.new w, box_below _ _⟩
  rw [e1]
  have S1 := Lib.hid s1
  have B1 := Lib.hid b1
  clear e1 s1 b1
  go_wp2_with fail
  refine (sNewDict S1.out S1.out.lt 1 (by decide) (by decide) (by simp [usedP])).mono ?_
  rintro e w2 ⟨rfl, s2, k2⟩
  have S2 := Lib.hid s2
  have B2 : Hid (Below w.heap.size w w2) := Lib.hid (B1.out.trans (k2.below fun _ h => h))
  clear s2 k2
  go_upto_region 3 with fail
  obtain ⟨w3, e3, s3, k3, o3⟩ := S2.out.box_ob 10 false 0 0 0 ⟨#[]⟩
  rw [e3]
  have S3 := Lib.hid s3
  have B3 : Hid (Below w.heap.size w w3) := Lib.hid (B2.out.trans (k3.below fun _ h => h))
  have O3 := Lib.hid o3
  clear e3 s3 k3 o3
  go_wp2_with fail
  refine (sString_ok S3.out ⟨#[97]⟩ (by decide) (by decide)).mono ?_
  rintro e w4 ⟨rfl, s4, k4⟩
  have S4 : Hid (Sep _ w.heap.size (qP []) w4) := Lib.hid s4
  have B4 : Hid (Below w.heap.size w w4) := Lib.hid (B3.out.trans (k4.below fun _ h => .inl h))
  have O4 := Lib.hid ((k4.block _ (.inr rfl)).trans O3.out)
  clear s4 k4
  go_upto_region 4 with fail
  obtain ⟨w5, e5, s5, k5, o5⟩ := S4.out.box_ob 8 false 1 0 1 ⟨#[]⟩
  rw [e5]
  have S5 := Lib.hid s5
  have B5 : Hid (Below w.heap.size w w5) := Lib.hid (B4.out.trans (k5.below fun _ h => .inl h))
  have O5 := Lib.hid ((k5.block _ (.inr rfl)).trans O4.out)
  have R5 := Lib.hid o5
  clear e5 s5 k5 o5
  obtain ⟨c0, c1, c2, c3, c4, c5⟩ := ob_cells O5.out
  obtain ⟨d0, d1, d2, d3, d4, d5⟩ := ob_cells R5.out
  go_wp2_with fail
  refine (sDictPut (d := qD) (k := qS) (v := Ob.num 5) S5.out qC0 (fun _ => by rw [q1.2.1]; exact fineA) (fun _ => by rw [q1.2.1]; exact q1.2.2.2) 0 q1.2.2.1).mono ?_
  rintro e w6 ⟨rfl, s6, k6⟩
  rw [if_pos rfl, q1.2.1] at s6
  have S6 : Hid (Sep _ w.heap.size (qP [(qA, Ob.num 5)]) w6) := Lib.hid s6
  have B6 : Hid (Below w.heap.size w w6) := Lib.hid (B5.out.trans (k6.below fun _ h => .inl (.inl h)))
  have O6 := Lib.hid ((k6.block _ (.inl (.inr rfl))).trans O5.out)
  clear s6 k6 c0 c1 c2 c3 c4 c5 d0 d1 d2 d3 d4 d5
  obtain ⟨c0, c1, c2, c3, c4, c5⟩ := ob_cells O6.out
  go_wp2_with fail
  refine (sDictGet (d := qD) (k := qA) S6.out qC1 (fun _ => by rw [q2.2.1]; exact fineA) 0 3 false 5 0 0 ⟨#[]⟩ q2.2.2.1 q2.2.2.2).mono ?_
  rintro e w7 ⟨rfl, s7, k7⟩
  have S7 := Lib.hid s7
  have B7 : Hid (Below w.heap.size w w7) := Lib.hid (B6.out.trans (k7.below fun _ h => .inl (.inl h)))
  have O7 := Lib.hid ((k7.block _ (.inl (.inr rfl))).trans O6.out)
  clear s7 k7 c0 c1 c2 c3 c4 c5
  go_upto_region 6 with fail
  obtain ⟨w8, e8, s8, k8, o8⟩ := S7.out.box_ob 3 false 5 0 0 ⟨#[]⟩
  rw [e8]
  have S8 := Lib.hid s8
  have B8 : Hid (Below w.heap.size w w8) := Lib.hid (B7.out.trans (k8.below fun _ h => .inl (.inl h)))
  have O8 := Lib.hid ((k8.block _ (.inl (.inr rfl))).trans O7.out)
  have R8 := Lib.hid o8
  clear e8 s8 k8 o8
  obtain ⟨c0, c1, c2, c3, c4, c5⟩ := ob_cells O8.out
  obtain ⟨d0, d1, d2, d3, d4, d5⟩ := ob_cells R8.out
  go_wp2_with fail
  refine (sDictPut (d := qD) (k := Ob.num 5) (v := Ob.num 5) S8.out qC1 (fun _ => by rw [q3.2.1]; exact fineN 5 (by decide)) (fun _ => by rw [q3.2.1]; exact q3.2.2.2) 20 q3.2.2.1).mono ?_
  rintro e w9 ⟨rfl, s9, k9⟩
  have B9 : Hid (Below w.heap.size w w9) := Lib.hid (B8.out.trans (k9.below fun _ h => .inl (.inl (.inl h))))
  clear s9 k9 c0 c1 c2 c3 c4 c5 d0 d1 d2 d3 d4 d5
  go_wp2
  go_ret
  exact ⟨ret_bool (by decide), B9.out⟩
end Go.Proofs.Ytlkbnldpecolbaa

/- dict: what Drop makes of a cell: plain answers. -/
namespace Go.Proofs.Ytlkbnldpecolbaa
open Go.RowKit Go.Maps
set_option linter.unusedVariables false

/-- The first j items from a on are those two further on. -/
def sh (its : List Ob) (a : Nat) : Nat → List Ob
  | 0 => its
  | j + 1 => (sh its a j).set (a + j) (its.getD (a + j + 2) Ob.zero)
theorem sh_length (its : List Ob) (a : Nat) : ∀ j, (sh its a j).length = its.length
  | 0 => rfl
  | j + 1 => by
    rw [sh, List.length_set]
    exact sh_length its a j
theorem sh_get (its : List Ob) (a : Nat) : ∀ j t, a + j + 2 ≤ its.length → (sh its a j)[t]? = if a ≤ t ∧ t < a + j then its[t + 2]? else its[t]?
  | 0, t, h => by rw [if_neg (by omega)]; rfl
  | j + 1, t, h => by
    rw [sh, List.getElem?_set, sh_length]
    by_cases e : a + j = t
    · subst e
      rw [if_pos rfl, if_pos (by omega), if_pos (by omega), List.getD_eq_getElem?_getD, List.getElem?_eq_getElem (by omega)]
      rfl
    · rw [if_neg e, sh_get its a j t (by omega)]
      by_cases h2 : a ≤ t ∧ t < a + j
      · rw [if_pos h2, if_pos (by omega)]
      · rw [if_neg h2, if_neg (by omega)]
theorem items_get1 {ps : List (Ob × Ob)} {room : Nat} (h : ps.length ≤ room) (j : Nat) : (itemsD ps room)[2 * j + 1]? = if j < ps.length then ps[j]?.map (·.1) else if j < room then some Ob.null else none := by
  unfold itemsD
  rw [List.getElem?_cons_succ]
  by_cases hj : j < ps.length
  · rw [if_pos hj, List.getElem?_append_left (by rw [flatD_length]; omega)]
    exact (flatD_get ps j).1
  · rw [if_neg hj, List.getElem?_append_right (by rw [flatD_length]; omega), flatD_length, List.getElem?_replicate]
    by_cases hr : j < room
    · rw [if_pos hr, if_pos (by omega)]
    · rw [if_neg hr, if_neg (by omega)]
theorem items_get2 {ps : List (Ob × Ob)} {room : Nat} (h : ps.length ≤ room) (j : Nat) : (itemsD ps room)[2 * j + 2]? = if j < ps.length then ps[j]?.map (·.2) else if j < room then some Ob.null else none := by
  unfold itemsD
  rw [show 2 * j + 2 = (2 * j + 1) + 1 from rfl, List.getElem?_cons_succ]
  by_cases hj : j < ps.length
  · rw [if_pos hj, List.getElem?_append_left (by rw [flatD_length]; omega)]
    exact (flatD_get ps j).2
  · rw [if_neg hj, List.getElem?_append_right (by rw [flatD_length]; omega), flatD_length, List.getElem?_replicate]
    by_cases hr : j < room
    · rw [if_pos hr, if_pos (by omega)]
    · rw [if_neg hr, if_neg (by omega)]
theorem items_drop {ps : List (Ob × Ob)} {room i m a e : Nat} (hr : ps.length ≤ room) (hi : i < ps.length) (ha : a = 2 * i + 1) (he : e = 2 * ps.length + 1) (hm : a + m = e - 2) :
    (((sh (itemsD ps room) a m).set (e - 2) Ob.null).set (e - 1) Ob.null).set 0 (Ob.num ((ps.length - 1 : Nat) : Int)) = itemsD (ps.eraseIdx i) room := by
  have hl := itemsD_length hr
  have hle : (ps.eraseIdx i).length = ps.length - 1 := List.length_eraseIdx_of_lt hi
  have hr2 : (ps.eraseIdx i).length ≤ room := by omega
  refine List.ext_getElem? fun t => ?_
  rw [List.getElem?_set, List.getElem?_set, List.getElem?_set, List.length_set, List.length_set, sh_length, hl, sh_get _ _ _ _ (by rw [hl]; omega)]
  rcases Nat.eq_zero_or_pos t with rfl | ht
  · rw [if_pos rfl, if_pos (by omega)]
    unfold itemsD
    rw [hle]
    rfl
  rw [if_neg (by omega)]
  obtain ⟨j, hj⟩ : ∃ j, t = 2 * j + 1 ∨ t = 2 * j + 2 := ⟨(t - 1) / 2, by omega⟩
  rcases hj with rfl | rfl
  · rw [items_get1 hr2 j, hle, List.getElem?_eraseIdx, items_get1 hr j, show 2 * j + 1 + 2 = 2 * (j + 1) + 1 from by omega, items_get1 hr (j + 1)]
    by_cases h1 : e - 1 = 2 * j + 1
    · omega
    rw [if_neg h1]
    by_cases h2 : e - 2 = 2 * j + 1
    · rw [if_pos h2, if_pos (by omega), if_neg (by omega), if_pos (by omega)]
    rw [if_neg h2]
    by_cases h3 : a ≤ 2 * j + 1 ∧ 2 * j + 1 < a + m
    · rw [if_pos h3, if_pos (by omega), if_pos (by omega), if_neg (by omega)]
    · rw [if_neg h3]
      by_cases h4 : j < i
      · rw [if_pos (by omega), if_pos (by omega), if_pos h4]
      · rw [if_neg (show ¬ j < ps.length by omega), if_neg (show ¬ j < ps.length - 1 by omega)]
  · rw [items_get2 hr2 j, hle, List.getElem?_eraseIdx, items_get2 hr j, show 2 * j + 2 + 2 = 2 * (j + 1) + 2 from by omega, items_get2 hr (j + 1)]
    by_cases h1 : e - 1 = 2 * j + 2
    · rw [if_pos h1, if_pos (by omega), if_neg (by omega), if_pos (by omega)]
    rw [if_neg h1]
    by_cases h2 : e - 2 = 2 * j + 2
    · omega
    rw [if_neg h2]
    by_cases h3 : a ≤ 2 * j + 2 ∧ 2 * j + 2 < a + m
    · rw [if_pos h3, if_pos (by omega), if_pos (by omega), if_neg (by omega)]
    · rw [if_neg h3]
      by_cases h4 : j < i
      · rw [if_pos (by omega), if_pos (by omega), if_pos h4]
      · rw [if_neg (show ¬ j < ps.length by omega), if_neg (show ¬ j < ps.length - 1 by omega)]
end Go.Proofs.Ytlkbnldpecolbaa

/- Walks of dict: remove. -/
namespace Go.Proofs.Ytlkbnldpecolbaa
open Go.RowKit Go.Maps
set_option linter.unusedVariables false

/-- A heap beside the box of a dict.cell. -/
structure Rem (own : Nat → Prop) (hb : Nat) (P : List Cel) (w wx : World) (A hh : Nat) (d : Ob) (p r : Int) : Prop where
  sep : Sep (fun b => own b ∨ b = A) hb P wx
  kept : Kept own w wx
  b0 : wx.heap[A]? = some (dcObj hh d.k d.x d.n d.a d.l d.s p r)
section
variable {own : Nat → Prop} {hb : Nat} {P P' : List Cel} {w wx wy : World} {A hh : Nat} {d : Ob} {p r : Int}
theorem Rem.below (h : Rem own hb P w wx A hh d p r) (kx : Below wx.heap.size wx wy) : Rem own hb P w wy A hh d p r :=
  ⟨(h.sep.below kx).1, h.kept.trans ((h.sep.below kx).2.sub fun b hb => .inl hb), (kx.block _ (blk_lt h.b0)).trans h.b0⟩
theorem Rem.put (h : Rem own hb P w wx A hh d p r) (s : Sep (fun b => own b ∨ b = A) hb P' wy) (kx : Kept (fun b => own b ∨ b = A) wx wy) : Rem own hb P' w wy A hh d p r :=
  ⟨s, h.kept.trans (kx.sub fun b hb => .inl hb), (kx.block _ (.inr rfl)).trans h.b0⟩
theorem Rem.flat (h : Rem own hb P w wx A hh d p r) : wx.cell? ⟨A, 0, none⟩ = some (ptr hh) ∧ wx.cell? ⟨A, 1, none⟩ = some (.int .i64 d.k) ∧ wx.cell? ⟨A, 2, none⟩ = some (.bool d.x) ∧ wx.cell? ⟨A, 3, none⟩ = some (.int .i64 d.n) ∧ wx.cell? ⟨A, 4, none⟩ = some (.int .i64 d.a) ∧ wx.cell? ⟨A, 5, none⟩ = some (.int .i64 d.l) ∧ wx.cell? ⟨A, 6, none⟩ = some (.string d.s) ∧ wx.cell? ⟨A, 7, none⟩ = some (.int .i64 p) ∧ wx.cell? ⟨A, 8, none⟩ = some (.int .i64 r) :=
  dc_cells h.b0
end
theorem DictR.self {P : List Cel} {d : Ob} {its : List Ob} (h : DictR P d its) : P.set d.n.toNat ⟨10, false, its, []⟩ = P := by
  rw [← h.cell]
  have := cellOf_get (P := P) (o := d) (ok_bd h.ok).1 (ok_bd h.ok).2.1
  refine List.ext_getElem? fun j => ?_
  rw [List.getElem?_set]
  split
  · next e =>
    subst e
    rw [if_pos h.lt, this]
  · rfl
theorem DictR.get {P : List Cel} {d : Ob} {its : List Ob} (h : DictR P d its) {i : Nat} {o : Ob} (hi : its[i]? = some o) : getE P d i = 0 ∧ getO P d i = o := by
  have hl := (List.getElem?_eq_some_iff.1 hi).1
  have hz : d.a = 0 := ((ok_bd h.ok).2.2.2.2.2.2.2.2 h.k).1
  have hlen : lenO P d = its.length := by
    rw [lenO, h.ok, h.cell]
    simp [h.k, Cel.size]
  have e : getE P d i = 0 := by
    rw [getE, h.ok, hlen]
    simp
    omega
  refine ⟨e, ?_⟩
  rw [getO, e, h.cell, hz]
  simp [itemAt, hi]
theorem measure_one (K A : Nat) (q : Int) (h : q = ((A + 1 : Nat) : Int)) (hx : A < K) : K - (intOf (.int .i64 q)).toNat < K - (intOf (.int .i64 (A : Int))).toNat := by
  subst h
  simp [intOf]
  omega
theorem wrap64_one {A : Nat} (h : A ≤ 3000) : wrap64 ((A : Int) + 1) = ((A + 1 : Nat) : Int) := by
  unfold wrap64
  omega

set_option maxHeartbeats 1000000 in
set_option maxRecDepth 100000 in
theorem sRemove {own : Nat → Prop} {hb : Nat} {P : List Cel} {w : World} {d : Ob} {its : List Ob} (h : Sep own hb P w) (D : DictR P d its) (hv : ∀ x ∈ its, mayH P x = true) (r : Int) (p p1 a e E1 E2 m : Nat) (he : e = 2 * p + 1) (hE1 : E1 = e - 1) (hE2 : E2 = e - 2) (hm : a + m = E2) (hp1 : p1 = p - 1) (hp : 1 ≤ p) (hp' : p ≤ 1000) (hl : e ≤ its.length) :
    Calls Try.prog 57 #[dcV hb d.k d.x d.n d.a d.l d.s p r, .int .i64 a] w fun e_ w' => e_ = .returned (.tuple #[]) ∧ Sep own hb (P.set d.n.toNat ⟨10, false, (((sh its a m).set E2 Ob.null).set E1 Ob.null).set 0 (Ob.num p1), []⟩) w' ∧ Kept own w w' := by
  have w1 : IntKind.i64.wrap ((e : Int) - 2) = E2 := by rw [wrapi_in _ (by omega) (by omega)]; omega
  have w2 : IntKind.i64.wrap ((e : Int) - 1) = E1 := by rw [wrapi_in _ (by omega) (by omega)]; omega
  have w3 : IntKind.i64.wrap ((p : Int) - 1) = p1 := by rw [wrapi_in _ (by omega) (by omega)]; omega
  have H := Lib.hid h
  have HD := Lib.hid D
  have HV := Lib.hid hv
  have HN : Hid (e = 2 * p + 1 ∧ E1 = e - 1 ∧ E2 = e - 2 ∧ a + m = E2 ∧ p1 = p - 1 ∧ 1 ≤ p ∧ p ≤ 1000 ∧ e ≤ its.length) := Lib.hid ⟨he, hE1, hE2, hm, hp1, hp, hp', hl⟩
  have DJ : Hid (∀ j, DictR (P.set d.n.toNat ⟨10, false, sh its a j, []⟩) d (sh its a j)) := Lib.hid fun j => D.setAll (sh_length _ _ _)
  have MJ : Hid (∀ its', its'.length = its.length → ∀ x, mayH (P.set d.n.toNat ⟨10, false, its', []⟩) x = mayH P x) := Lib.hid fun its' hl x => D.may hl x
  have DA : Hid (∀ its', its'.length = its.length → DictR (P.set d.n.toNat ⟨10, false, its', []⟩) d its') := Lib.hid fun its' hl => D.setAll hl
  have DS := Lib.hid D.self
  clear h D hv he hE1 hE2 hm hp1 hp hp' hl
  go_enter Try.func57, Try.ntmps57
  go_upto_region 1 with fail
  obtain ⟨wb, eb, sb, kb, ob⟩ := H.out.box_dc hb d.k d.x d.n d.a d.l d.s p r
  rw [eb]
  have R0 : Hid (Rem own hb (P.set d.n.toNat ⟨10, false, sh its a 0, []⟩) w wb w.heap.size hb d p r) := Lib.hid ⟨by rw [show sh its a 0 = its from rfl, DS.out]; exact sb, kb, ob⟩
  clear eb sb kb ob
  go_wp2
  go_loopw [4] (fun at_ wr => ∃ j A : Nat, j ≤ m ∧ A = a + j ∧ at_ = .int .i64 A ∧ Rem own hb (P.set d.n.toNat ⟨10, false, sh its a j, []⟩) w wr w.heap.size hb d p r) (fun at_ _ => E2 - (intOf at_).toNat)
  case atStart => exact ⟨0, a, Nat.zero_le _, rfl, rfl, R0.out⟩
  case round =>
    obtain ⟨j, A, hj, hA, rfl, hr⟩ := hrel
    have HR := Lib.hid hr
    have HA := Lib.hid hA
    obtain ⟨c0, c1, c2, c3, c4, c5, c6, c7, c8⟩ := hr.flat
    clear hr hA
    go_wp2_with fail
    refine (end_is hb d.k d.n d.a d.l r d.x d.s p e HN.out.1 (by have := HN.out; omega) wr).mono ?_
    rintro e_ wa ⟨rfl, ka⟩
    have R1 := Lib.hid (HR.out.below ka)
    clear ka c0 c1 c2 c3 c4 c5 c6 c7 c8
    by_cases hlt : j < m
    · have t1 : (A : Int) < E2 := by have := HA.out; have := HN.out; omega
      have w4 : IntKind.i64.wrap ((A : Int) + 2) = ((A + 2 : Nat) : Int) := by
        have := HA.out
        have := HN.out
        rw [wrapi_in _ (by omega) (by omega)]
        omega
      obtain ⟨c0, c1, c2, c3, c4, c5, c6, c7, c8⟩ := R1.out.flat
      have hlen : A + 2 < its.length := by have := HA.out; have := HN.out; omega
      obtain ⟨o, ho⟩ : ∃ o, its[A + 2]? = some o := ⟨_, List.getElem?_eq_getElem hlen⟩
      have hget : Calls Try.prog 71 #[ptr hb, obV d.k d.x d.n d.a d.l d.s, .int .i64 ((A + 2 : Nat) : Int)] wa fun e_ w' => e_ = .returned (.tuple #[obV o.k o.x o.n o.a o.l o.s, .int .i64 0]) ∧ Below wa.heap.size wa w' := by
        obtain ⟨role, ⟨vc, ivs, pb, rv, h1⟩, h2⟩ := R1.out.sep
        have q := (DJ.out j).get (i := A + 2) (o := o) (by rw [sh_get _ _ _ _ (by have := HA.out; omega), if_neg (by have := HA.out; omega)]; exact ho)
        have := get_is h1 d (A + 2 : Nat)
        rw [q.1, q.2] at this
        exact this
      have HO : Hid (mayH P o = true ∧ its.getD (a + j + 2) Ob.zero = o) := Lib.hid ⟨HV.out o (List.mem_of_getElem? ho), by rw [List.getD_eq_getElem?_getD, ← HA.out, ho]; rfl⟩
      clear hlen ho
      go_wp2_with fail
      refine hget.mono ?_
      rintro e_ wc ⟨rfl, kc⟩
      have R2 := Lib.hid (R1.out.below kc)
      clear hget kc c0 c1 c2 c3 c4 c5 c6 c7 c8
      go_upto_region 5 with fail
      obtain ⟨wd, ed, sd, kd, od⟩ := R2.out.sep.box_ob o.k o.x o.n o.a o.l o.s
      rw [ed]
      have B3 := Lib.hid ((kd.block _ (.inr rfl)).trans R2.out.b0)
      have SD := Lib.hid sd
      have KD := Lib.hid kd
      obtain ⟨c0, c1, c2, c3, c4, c5, c6, c7, c8⟩ := dc_cells B3.out
      obtain ⟨d0, d1, d2, d3, d4, d5⟩ := ob_cells od
      clear ed sd kd od
      go_wp2_with fail
      refine (sPutItem SD.out (DJ.out j) p r A o (by rw [sh_length]; have := HA.out; have := HN.out; omega) (by rw [MJ.out _ (sh_length _ _ _)]; exact HO.out.1)).mono ?_
      rintro e_ wf ⟨rfl, sf, kf⟩
      have hnext : (sh its a j).set A o = sh its a (j + 1) := by rw [sh, HO.out.2, HA.out]
      rw [List.set_set, hnext] at sf
      have R3 : Hid (Rem own hb (P.set d.n.toNat ⟨10, false, sh its a (j + 1), []⟩) w wf w.heap.size hb d p r) := Lib.hid ⟨sf.sub fun b hb => .inl hb, (R2.out.kept.trans (KD.out.sub fun b hb => .inl hb)).trans (kf.sub fun b hb => .inl (.inl hb)), (kf.block _ (.inl (.inr rfl))).trans B3.out⟩
      have HW := Lib.hid (wrap64_one (A := A) (by have := HA.out; have := HN.out; omega))
      clear sf kf hnext c0 c1 c2 c3 c4 c5 c6 c7 c8 d0 d1 d2 d3 d4 d5
      go_wp2
      go_roundw
      case rel => exact ⟨j + 1, A + 1, hlt, by have := HA.out; omega, congrArg (Value.int .i64) HW.out, R3.out⟩
      case measure => exact measure_one E2 A _ HW.out (by omega)
    · have t0 := HA.out
      have t2 := HN.out
      have t1 : decide (A < E2) = false := decide_eq_false (by omega)
      have ej : j = m := by omega
      clear t0 t2
      subst ej
      go_wp2_with fail
      have go := Lib.hid (R1.out.below (Below.refl _ wa).drew)
      clear R1 HR R0
      go_region_held3 (fun wx => wx.cell? ⟨w.heap.size, 0, none⟩ = some (ptr hb) ∧ wx.cell? ⟨w.heap.size, 1, none⟩ = some (.int .i64 d.k) ∧ wx.cell? ⟨w.heap.size, 2, none⟩ = some (.bool d.x) ∧ wx.cell? ⟨w.heap.size, 3, none⟩ = some (.int .i64 d.n) ∧ wx.cell? ⟨w.heap.size, 4, none⟩ = some (.int .i64 d.a) ∧ wx.cell? ⟨w.heap.size, 5, none⟩ = some (.int .i64 d.l) ∧ wx.cell? ⟨w.heap.size, 6, none⟩ = some (.string d.s) ∧ wx.cell? ⟨w.heap.size, 7, none⟩ = some (.int .i64 p) ∧ wx.cell? ⟨w.heap.size, 8, none⟩ = some (.int .i64 r))
        (first | exact go.out.flat | go_keep)
        (first | (go_at_call 60; refine (end_is hb d.k d.n d.a d.l r d.x d.s p e HN.out.1 HN.out.2.2.2.2.2.2.1 _).mono ?_; rintro e_ wc ⟨rfl, kc⟩; replace go := Lib.hid (go.out.below kc); clear kc) | (go_at_call 86; refine (sPutItem go.out.sep (DJ.out j) p r E2 Ob.null (by rw [sh_length]; have := HN.out; omega) rfl).mono ?_; rintro e_ wd ⟨rfl, sd, kd⟩; replace go := Lib.hid (go.out.put sd kd); clear sd kd))
      go_upto_region 8 with fail
      replace go := Lib.hid (go.out.below (Below.refl _ _).drew)
      have st := go.out
      rw [List.set_set] at st
      replace go := Lib.hid st
      clear st
      go_region_held3 (fun wx => wx.cell? ⟨w.heap.size, 0, none⟩ = some (ptr hb) ∧ wx.cell? ⟨w.heap.size, 1, none⟩ = some (.int .i64 d.k) ∧ wx.cell? ⟨w.heap.size, 2, none⟩ = some (.bool d.x) ∧ wx.cell? ⟨w.heap.size, 3, none⟩ = some (.int .i64 d.n) ∧ wx.cell? ⟨w.heap.size, 4, none⟩ = some (.int .i64 d.a) ∧ wx.cell? ⟨w.heap.size, 5, none⟩ = some (.int .i64 d.l) ∧ wx.cell? ⟨w.heap.size, 6, none⟩ = some (.string d.s) ∧ wx.cell? ⟨w.heap.size, 7, none⟩ = some (.int .i64 p) ∧ wx.cell? ⟨w.heap.size, 8, none⟩ = some (.int .i64 r))
        (first | exact go.out.flat | go_keep)
        (first | (go_at_call 60; refine (end_is hb d.k d.n d.a d.l r d.x d.s p e HN.out.1 HN.out.2.2.2.2.2.2.1 _).mono ?_; rintro e_ wc ⟨rfl, kc⟩; replace go := Lib.hid (go.out.below kc); clear kc) | (go_at_call 86; refine (sPutItem go.out.sep (DA.out ((sh its a j).set E2 Ob.null) (by rw [List.length_set, sh_length])) p r E1 Ob.null (by rw [List.length_set, sh_length]; have := HN.out; omega) rfl).mono ?_; rintro e_ wd ⟨rfl, sd, kd⟩; replace go := Lib.hid (go.out.put sd kd); clear sd kd))
      go_upto_region 9 with fail
      have st := go.out
      rw [List.set_set] at st
      have ST := Lib.hid st
      obtain ⟨c0, c1, c2, c3, c4, c5, c6, c7, c8⟩ := st.flat
      clear st go
      go_wp2_with fail
      refine (sCount ST.out.sep (DA.out (((sh its a j).set E2 Ob.null).set E1 Ob.null) (by rw [List.length_set, List.length_set, sh_length])) p r p1 (by rw [List.length_set, List.length_set, sh_length]; have := HN.out; omega) (by have := HN.out; omega)).mono ?_
      rintro e_ wz ⟨rfl, sz, kz⟩
      rw [List.set_set] at sz
      have SZ := Lib.hid (sz.sub fun b hb => Or.inl hb)
      have KZ := Lib.hid (ST.out.kept.trans (kz.sub fun b hb => .inl hb))
      clear sz kz c0 c1 c2 c3 c4 c5 c6 c7 c8
      go_wp2
      go_end0
      exact ⟨rfl, SZ.out, KZ.out⟩
end Go.Proofs.Ytlkbnldpecolbaa
