/- Y16: Q11, S5, K30, S6. -/
import Derived.Test.YtlkbnldpecolbaaY15
import Derived.Test.YtlkbnldpecolbaaY14
import Derived.Test.YtlkbnldpecolbaaY11
/- Walks of tympanref11: Set of a byte, and what it refuses first. -/
namespace Go.Proofs.Ytlkbnldpecolbaa
open Go.RowKit
set_option linter.unusedVariables false
set_option linter.unusedSimpArgs false
set_option maxHeartbeats 1000000
set_option maxRecDepth 100000

theorem rset_err (rb : Nat) (k n a l k' n' a' l' i u z E : Int) (x x' : Bool) (s s' : ByteArray) (w : World) (hE : (E != 0) = true)
    (h2 : Hid (∀ wx, Below w.heap.size w wx → Calls Try.prog 94 #[ptr rb, obV k x n a l s] wx fun e w' => e = .returned (.tuple #[.int .i64 u, .int .i64 z, .int .i64 E]) ∧ Below wx.heap.size wx w')) :
    Calls Try.prog 69 #[ptr rb, obV k x n a l s, .int .i64 i, obV k' x' n' a' l' s'] w fun e w' => e = .returned (.int .i64 E) ∧ Below w.heap.size w w' := by
  go_enter Try.func69, Try.ntmps69
  go_upto_region 1 with fail
  obtain ⟨wb, eb, kb, ⟨c0, c1, c2, c3, c4, c5⟩, o2⟩ := two_box w k n a l k' n' a' l' x x' s s'
  rw [eb]
  go_wp2_with fail
  refine (h2.out _ kb).mono ?_
  rintro e wc ⟨rfl, kc⟩
  have KC := Lib.hid (below_and kb kc)
  clear eb kb kc c0 c1 c2 c3 c4 c5 o2
  go_wp2
  go_ret
  exact ⟨rfl, KC.out⟩
theorem rset_index (rb : Nat) (k n a l k' n' a' l' i u z : Int) (x x' : Bool) (s s' : ByteArray) (w : World) (hi : decide (i < 0) = true ∨ (decide (i < 0) = false ∧ decide (z ≤ i) = true))
    (h2 : Hid (∀ wx, Below w.heap.size w wx → Calls Try.prog 94 #[ptr rb, obV k x n a l s] wx fun e w' => e = .returned (.tuple #[.int .i64 u, .int .i64 z, .int .i64 0]) ∧ Below wx.heap.size wx w')) :
    Calls Try.prog 69 #[ptr rb, obV k x n a l s, .int .i64 i, obV k' x' n' a' l' s'] w fun e w' => e = .returned (.int .i64 12) ∧ Below w.heap.size w w' := by
  rcases hi with hi | ⟨hi, hz⟩
  · go_enter Try.func69, Try.ntmps69
    go_upto_region 1 with fail
    obtain ⟨wb, eb, kb, ⟨c0, c1, c2, c3, c4, c5⟩, o2⟩ := two_box w k n a l k' n' a' l' x x' s s'
    rw [eb]
    go_wp2_with fail
    refine (h2.out _ kb).mono ?_
    rintro e wc ⟨rfl, kc⟩
    have KC := Lib.hid (below_and kb kc)
    clear eb kb kc c0 c1 c2 c3 c4 c5 o2
    go_wp2
    go_ret
    exact ⟨rfl, KC.out⟩
  · go_enter Try.func69, Try.ntmps69
    go_upto_region 1 with fail
    obtain ⟨wb, eb, kb, ⟨c0, c1, c2, c3, c4, c5⟩, o2⟩ := two_box w k n a l k' n' a' l' x x' s s'
    rw [eb]
    go_wp2_with fail
    refine (h2.out _ kb).mono ?_
    rintro e wc ⟨rfl, kc⟩
    have KC := Lib.hid (below_and kb kc)
    clear eb kb kc c0 c1 c2 c3 c4 c5 o2
    go_wp2
    go_ret
    exact ⟨rfl, KC.out⟩

/-- The two boxed objects, and the heap's slice. -/
structure SetX (w : World) (rb A g z cap n : Nat) (k a l k' n' a' l' : Int) (x x' : Bool) (s s' : ByteArray) : Prop where
  hd : w.heap[rb]? = some (.cells #[.slice (some ⟨g, 0, none⟩) z cap] 54 (0, 0))
  o : w.heap[A]? = some (obObj k x n a l s)
  q : w.heap[A + 1]? = some (obObj k' x' n' a' l' s')
theorem SetX.keep {w w' : World} {rb A g z cap n : Nat} {k a l k' n' a' l' : Int} {x x' : Bool} {s s' : ByteArray} (h : SetX w rb A g z cap n k a l k' n' a' l' x x' s s') (e : ∀ b, b = rb ∨ b = A ∨ b = A + 1 → b < w.heap.size → w'.heap[b]? = w.heap[b]?) : SetX w' rb A g z cap n k a l k' n' a' l' x x' s s' :=
  ⟨(e _ (.inl rfl) (blk_lt h.hd)).trans h.hd, (e _ (.inr (.inl rfl)) (blk_lt h.o)).trans h.o, (e _ (.inr (.inr rfl)) (blk_lt h.q)).trans h.q⟩
theorem set_box2 (w : World) (rb g z cap n : Nat) (k a l k' n' a' l' : Int) (x x' : Bool) (s s' : ByteArray) (hd : w.heap[rb]? = some (.cells #[.slice (some ⟨g, 0, none⟩) z cap] 54 (0, 0))) :
    ∃ wb, (w.alloc (.cells #[.int .i64 k, .bool x, .int .i64 n, .int .i64 a, .int .i64 l, .string s] 30)).alloc (.cells #[.int .i64 k', .bool x', .int .i64 n', .int .i64 a', .int .i64 l', .string s'] 30) = wb ∧ Below w.heap.size w wb ∧ wb.heap.size = w.heap.size + 2 ∧ SetX wb rb w.heap.size g z cap n k a l k' n' a' l' x x' s s' := by
  have h2 := heap_alloc_new (w.alloc (.cells #[.int .i64 k, .bool x, .int .i64 n, .int .i64 a, .int .i64 l, .string s] 30)) (obObj k' x' n' a' l' s')
  have kb := below_and (box_below w (.cells #[.int .i64 k, .bool x, .int .i64 n, .int .i64 a, .int .i64 l, .string s] 30)) (box_below (w.alloc (.cells #[.int .i64 k, .bool x, .int .i64 n, .int .i64 a, .int .i64 l, .string s] 30)) (.cells #[.int .i64 k', .bool x', .int .i64 n', .int .i64 a', .int .i64 l', .string s'] 30))
  exact ⟨_, rfl, kb, by simp, (kb.block _ (blk_lt hd)).trans hd, (Below.heap_alloc _ _ _ (by simp)).trans (heap_alloc_new _ _), by simpa using h2⟩
theorem info119 : (Try.prog.info? 5).map (fun i => (i.zero, i.size, i.bytes)) = some (some (.int .u8 0), 1, 1) := by kernel_rfl
theorem u8_in (c : Int) (h0 : 0 ≤ c) (h1 : c ≤ 255) : IntKind.u8.wrap c = c := by
  simp [IntKind.wrap, IntKind.bits, IntKind.signed]
  omega
theorem own_eq {g b n c : Nat} (e : (Value.slice (some ⟨g, 0, none⟩) n c).ownBlock = some b) : g = b := by simpa [Value.ownBlock] using e
theorem rcCells_set {R : List RC} {n : Nat} {r r' : RC} (h : R[n]? = some r) (e1 : r'.c.k = r.c.k) (e2 : r'.it = r.it) (e3 : r'.c.lk = r.c.lk) : rcCells (R.set n r') = (rcCells R).set (n * 4 + 2) r'.bs := by
  induction R generalizing n with
  | nil => simp at h
  | cons p R ih =>
    cases n with
    | zero =>
      obtain rfl : p = r := by simpa using h
      show rcL r' ++ rcCells R = (rcL p ++ rcCells R).set 2 r'.bs
      simp [rcL, e1, e2, e3]
    | succ n =>
      have h' : R[n]? = some r := by simpa using h
      show rcL p ++ rcCells (R.set n r') = (rcL p ++ rcCells R).set ((n + 1) * 4 + 2) r'.bs
      rw [ih h', List.set_append_right _ _ (by rw [show (rcL p).length = 4 from rfl]; omega)]
      rw [show (n + 1) * 4 + 2 - (rcL p).length = n * 4 + 2 from by rw [show (rcL p).length = 4 from rfl]; omega]
theorem cels_set (R : List RC) (n : Nat) (r : RC) : cels (R.set n r) = (cels R).set n r.c := by simp [cels, List.map_set]
theorem owns_cap {w : World} {base : Nat} {e : TypeId} {size n : Nat} {v : Value} {cs : List Value} (h : w.ownsRow base e size v n cs) : ∃ p cap, v = .slice p n cap ∧ n ≤ cap := by
  rcases h.2 with ⟨rfl, rfl⟩ | ⟨g, cap, cur, rfl, _, _, hc, _⟩
  · exact ⟨_, _, rfl, Nat.le_refl _⟩
  · exact ⟨_, _, rfl, by omega⟩
/-- A string's byte has been set: the heap as it lies then. -/
theorem RH.byte {own : Nat → Prop} {rb g cap n j g2 cp2 : Nat} {R : List RC} {r : RC} {c : Int} {p2 : Option Addr} {c2 : Nat} {w w1 w2 w4 : World} (h : RH own rb (.slice (some ⟨g, 0, none⟩) R.length cap) R w) (ho : ∀ b, own b → b < w.heap.size) (hr : R[n]? = some r) (hg : g ≠ rb) (e2 : r.bs = .slice p2 r.c.bs.length c2) (hj : j < r.c.bs.length) (c0 : 0 ≤ c) (c1 : c ≤ 255)
    (k1 : Below w.heap.size w w1) (hg2 : w.heap.size ≤ g2) (hown : w1.ownsRow w.heap.size 5 1 (.slice (some ⟨g2, 0, none⟩) r.c.bs.length cp2) r.c.bs.length (byCells r.c.bs))
    (on : Only g w1 w2) (cg : w2.cell? ⟨g, n * 4 + 2, none⟩ = some (.slice (some ⟨g2, 0, none⟩) r.c.bs.length cp2)) (co : ∀ t, t ≠ n * 4 + 2 → w2.cell? ⟨g, t, none⟩ = w1.cell? ⟨g, t, none⟩) (fo : ∀ t, w2.frozen? ⟨g, t, none⟩ = w1.frozen? ⟨g, t, none⟩)
    (e4 : w2.drew.setCell ⟨g2, j, none⟩ (.int .u8 c) = w4) :
    RH (Plus own w w4) rb (.slice (some ⟨g, 0, none⟩) R.length cap) (R.set n ⟨⟨r.c.k, r.c.lk, r.c.it, r.c.bs.set j (UInt8.ofNat c.toNat)⟩, r.it, .slice (some ⟨g2, 0, none⟩) r.c.bs.length cp2⟩) w4 := by
  have on4 : Only g2 w2.drew w4 := by rw [← e4]; exact (Only.refl _ _).set _ _
  have hgl : g < w.heap.size := own_lt h rfl
  have hrb := blk_lt h.hdr
  have hg2' := hown.lt g2 rfl
  have hs : w.heap.size ≤ w4.heap.size := by
    rw [on4.size]
    show w.heap.size ≤ w2.heap.size
    rw [on.size]
    exact k1.size
  have old : ∀ b, b < w.heap.size → b ≠ g → w4.heap[b]? = w.heap[b]? := fun b hb hbg => (on4.block b (by omega)).trans ((on.block b hbg).trans (k1.block b hb))
  have atg : ∀ t, w4.cell? ⟨g, t, none⟩ = w2.cell? ⟨g, t, none⟩ := fun t => World.cell?_of_block (w := w2) (a := ⟨g, t, none⟩) (on4.block g (by omega))
  have fx : ∀ b, Im own rb (.slice (some ⟨g, 0, none⟩) R.length cap) b → b < w.heap.size → Im (Plus own w w4) rb (.slice (some ⟨g, 0, none⟩) R.length cap) b ∧ w4.heap[b]? = w.heap[b]? := fun b q hb => ⟨⟨.inl q.1, q.2.1, q.2.2⟩, old b hb fun e => q.2.2 (by rw [e]; rfl)⟩
  have hz4 : g2 < w4.heap.size := by
    rw [on4.size]
    show g2 < w2.heap.size
    rw [on.size]
    exact hg2'.2
  refine ⟨(old rb hrb (Ne.symm hg)).trans h.hdr, .inl h.mine, ?_, fun i x hx => ?_, ⟨?_, ?_, fun d hd => ?_⟩, fun b e t => ?_⟩
  · rcases h.row with ⟨q, _, _⟩ | ⟨g', cap', q, q2, q3, q4, q5⟩
    · cases q
    · injection q with w1' w2' w3'
      injection w1' with w1'
      injection w1' with w1' _ _
      subst w1' w3'
      refine .inr ⟨g, cap, by rw [List.length_set], by rw [List.length_set]; exact q2, ⟨.inl q3.1, q3.2⟩, Nat.lt_of_lt_of_le q4 hs, fun t u ht => ?_⟩
      rw [rcCells_set (r' := ⟨⟨r.c.k, r.c.lk, r.c.it, r.c.bs.set j (UInt8.ofNat c.toNat)⟩, r.it, .slice (some ⟨g2, 0, none⟩) r.c.bs.length cp2⟩) hr rfl rfl rfl] at ht
      rw [atg]
      by_cases e : t = n * 4 + 2
      · subst e
        rw [List.getElem?_set_self (by
          have := (List.getElem?_eq_some_iff.1 ht).1
          simpa using this)] at ht
        rw [cg]
        exact ht
      · rw [List.getElem?_set_ne (Ne.symm e)] at ht
        rw [co t e, World.cell?_of_block (w := w) (a := ⟨g, t, none⟩) (k1.block g hgl)]
        exact q5 t u ht
  · by_cases e : i = n
    · subst e
      rw [List.getElem?_set_self (List.getElem?_eq_some_iff.1 hr).1] at hx
      obtain rfl := Option.some.inj hx
      refine ⟨(h.sub i r hr).1.same hs fx, .inr ⟨g2, cp2, by rw [List.length_set], ?_, ⟨.inr ⟨hg2, hz4⟩, by omega, fun e => by have := own_eq e; omega⟩, hz4, fun t u ht => ?_⟩⟩
      · obtain ⟨_, _, q, q2⟩ := owns_cap hown
        injection q with _ _ q3
        rw [List.length_set]
        omega
      · have hb : w2.drew.heap[g2]? = w1.heap[g2]? := on.block g2 (by omega)
        rw [← e4]
        rw [byCells_get] at ht
        by_cases et : t = j
        · subst et
          rw [List.getElem?_set_self hj] at ht
          have hc : w2.drew.cell? ⟨g2, t, none⟩ = some (.int .u8 (r.c.bs[t]).toNat) := by
            rw [World.cell?_of_block (w := w1) (a := ⟨g2, t, none⟩) hb]
            have := hown.cells rfl t (.int .u8 (r.c.bs[t]).toNat) (by rw [byCells_get, List.getElem?_eq_getElem hj]; rfl)
            rwa [Addr.add_mid, Nat.zero_add] at this
          rw [World.cell?_setCell_same _ _ _ hc]
          have : ((UInt8.ofNat c.toNat).toNat : Int) = c := by
            simp [UInt8.toNat_ofNat]
            omega
          rw [← ht, Option.map_some, this]
        · rw [List.getElem?_set_ne (Ne.symm et)] at ht
          rw [World.cell?_setCell_other _ _ _ _ (by simp <;> omega), World.cell?_of_block (w := w1) (a := ⟨g2, t, none⟩) hb]
          have := hown.cells rfl t u (by rw [byCells_get]; exact ht)
          rwa [Addr.add_mid, Nat.zero_add] at this
    · rw [List.getElem?_set_ne (Ne.symm e)] at hx
      exact ⟨(h.sub i x hx).1.same hs fx, (h.sub i x hx).2.same hs fx⟩
  · rw [cels_set]
    simpa using h.wf.len
  · rw [cels_set, used_set (cels_get hr) (by simp [Cel.size])]
    exact h.wf.used
  · rw [cels_set] at hd
    rcases List.mem_or_eq_of_mem_set hd with hd | rfl
    · exact h.wf.kind d hd
    · rcases h.wf.kind r.c (cell_mem (cels_get hr)) with q | ⟨q, q2⟩
      · exact .inl q
      · rw [q2] at hj
        simp at hj
  · obtain rfl := own_eq e
    rw [World.frozen?_of_block (w := w2) (a := ⟨g, t, none⟩) (on4.block g (by omega)), fo, World.frozen?_of_block (w := w) (a := ⟨g, t, none⟩) (k1.block g hgl)]
    exact h.free g rfl t
/-- A slice of bytes, copied. -/
structure CopyB (l : List UInt8) (w : World) (v' : Value) (w' : World) : Prop where
  own : w'.ownsRow w.heap.size 5 1 v' l.length (byCells l)
  below : Below w.heap.size w w'
section
variable {own : Nat → Prop} {rb : Nat} {v : Value} {R : List RC} {w : World}
theorem bytes_copy (h : RH own rb v R w) {i : Nat} {r : RC} (hr : R[i]? = some r) {p : Option Addr} {c : Nat} (e : r.bs = .slice p r.c.bs.length c) (hz : r.c.bs.length ≤ 40000) (ty : TypeId) :
    ∃ v' w', (Builtin.append_ #[100, 100] ty #[.slice none 0 0, .slice p r.c.bs.length c]).run Try.prog w = .ok v' w' ∧ CopyB r.c.bs w v' w' := by
  obtain ⟨i0, hi, hz0, hz1, hz2⟩ := info_parts info119
  have hs := (h.sub i r hr).2
  rw [e] at hs
  obtain ⟨v', w', h1, h2, h3, _⟩ := app_copy hs 100 5 i0 _ 1 1 Try.underlying100 hi hz0 hz1 hz2 rfl (by decide) (by rw [byCells_length]; omega) (byCells_one _) (by unfold maxLen; omega) (by omega) ty
  exact ⟨v', w', h1, h2, h3⟩
theorem rset_byte (h : RH own rb v R w) (ho : ∀ b, own b → b < w.heap.size) (o : Ob) (i : Nat) (c : Int) (hok : okO (cels R) o = true) (hk : o.k = 8) (hi : (i : Int) < lenO (cels R) o) (hlk : (cellOf (cels R) o).lk = false) (c0 : 0 ≤ c) (c1 : c ≤ 255) :
    Calls Try.prog 69 #[ptr rb, o.val, .int .i64 i, (Ob.num c).val] w fun e w' => e = .returned (.int .i64 0) ∧ (∃ R', RH (Plus own w w') rb v R' w' ∧ cels R' = setP (cels R) o i (Ob.num c)) ∧ Kept (fun b => b < w.heap.size ∧ b ≠ rb ∧ v.ownBlock ≠ some b) w w' := by
  obtain ⟨b0, b1, b2, b3, b4, b5, b6, b7, b8⟩ := ok_bd hok
  obtain ⟨n0, n1⟩ := len_in hok
  rw [cels_length] at b1
  obtain ⟨r, hr⟩ : ∃ r, R[o.n.toNat]? = some r := ⟨_, List.getElem?_eq_getElem (by omega)⟩
  have hco := h.cellOf (o := o) hr
  rw [hco] at b6 b7 n1 hlk
  rw [hk] at b6
  have hit : r.c.it = [] := by
    rcases h.wf.kind r.c (cell_mem (cels_get hr)) with ⟨_, q⟩ | ⟨q, _⟩
    · exact q
    · omega
  have hs : r.c.size = r.c.bs.length := by simp [Cel.size, hit]
  have hz := h.wf.size (cels_get hr)
  obtain ⟨g, cap, ev, hgo, hgr, hgl, d0, d1, d2, d3⟩ := h.at hr
  rw [hlk] at d3
  have hd := h.hdr
  rw [ev] at hd
  have hfree := h.free g (by rw [ev]; rfl)
  obtain ⟨n, hn⟩ : ∃ n, o.n.toNat = n := ⟨_, rfl⟩
  obtain ⟨lo, hlo⟩ : ∃ lo, o.a.toNat = lo := ⟨_, rfl⟩
  obtain ⟨m, hm⟩ : ∃ m, (lenO (cels R) o).toNat = m := ⟨_, rfl⟩
  have en : o.n = (n : Int) := by omega
  have hroom : Hid (∀ wx, Below w.heap.size w wx → Calls Try.prog 94 #[ptr rb, obV 8 o.x n o.a o.l o.s] wx fun e w' => e = .returned (.tuple #[.int .i64 lo, .int .i64 m, .int .i64 0]) ∧ Below wx.heap.size wx w') := Lib.hid fun wx kx => by
    have := rroom_any (h.below kx) o
    rw [errO_ok hok, show atO (cels R) o = (lo : Int) from by simp [atO, hok]; omega, show lenO (cels R) o = (m : Int) from by omega] at this
    rw [show o.val = obV 8 o.x n o.a o.l o.s from by rw [← hk, ← en]; rfl] at this
    exact this
  have hsp : setP (cels R) o i (Ob.num c) = (cels R).set o.n.toNat ⟨r.c.k, r.c.lk, r.c.it, r.c.bs.set (lo + i) (UInt8.ofNat c.toNat)⟩ := by
    have e : setE (cels R) o i (Ob.num c) = 0 := by
      rw [setE, hok, hco, hlk]
      simp [hk, hi, Ob.num]
      omega
    rw [setP, if_pos e, putItem, hco, if_pos b6, show (o.a + (i : Int)).toNat = lo + i from by omega]
    rfl
  rw [hn] at hr d0 d1 d2 d3 hsp
  have HSP := Lib.hid hsp
  clear hsp
  have hnz : n < R.length := by omega
  have hidx : lo + i < r.c.bs.length := by omega
  have him : (i : Int) < m := by omega
  obtain ⟨p2, c2, e2, _⟩ := (h.sub _ r hr).2.form
  rw [e2] at d2
  rw [show o.val = obV 8 o.x n o.a o.l o.s from by rw [← hk, ← en]; rfl, show (Ob.num c).val = obV 3 false c 0 0 ⟨#[]⟩ from rfl]
  have H := Lib.hid h
  have HO := Lib.hid ho
  have HR := Lib.hid hr
  have HX := Lib.hid hidx
  have HC := Lib.hid (And.intro c0 c1)
  have D2 := Lib.hid d2
  have D3 := Lib.hid d3
  have HD := Lib.hid hd
  have HF := Lib.hid hfree
  have HG := Lib.hid (And.intro hgr hgl)
  have HZ : Hid (r.c.bs.length ≤ 40000) := Lib.hid (by omega)
  have t0 : (0 : Int) ≤ n := by omega
  have t1 : (n : Int) < R.length := by omega
  have t2 : ¬ ((i : Int) < 0) := by omega
  have t3 : ¬ ((i : Int) ≥ m) := by omega
  have t4 : ¬ (c < 0) := by omega
  have t5 : ¬ (c > 255) := by omega
  clear h ho hok hi hlk b0 b1 b2 b3 b4 b5 b6 b7 b8 n0 n1 hco hit hs hz d0 d1 d2 d3 hd hfree hgo hgr hgl hnz hidx him hr
  go_enter Try.func69, Try.ntmps69
  go_upto_region 1 with fail
  obtain ⟨wb, eb, kb, zb, sx⟩ := set_box2 w rb g R.length cap n 8 o.a o.l 3 c 0 0 o.x false o.s ⟨#[]⟩ HD.out
  rw [eb]
  have SX := Lib.hid sx
  have KB := Lib.hid kb
  have ZB := Lib.hid zb
  obtain ⟨c0', c1', c2', c3', c4', c5'⟩ := ob_cells sx.o
  clear eb kb zb sx
  go_wp2_with fail
  refine (hroom.out _ KB.out).mono ?_
  rintro e wc ⟨rfl, kc⟩
  have SC := Lib.hid (SX.out.keep fun b _ hb => kc.block b hb)
  have KC := Lib.hid (below_and KB.out kc)
  have ZC : Hid (w.heap.size + 2 ≤ wc.heap.size) := Lib.hid (by have := kc.size; have := ZB.out; omega)
  clear kc c0' c1' c2' c3' c4' c5' SX KB ZB
  have h0 : wc.cell? ⟨rb, 0, none⟩ = some (.slice (some ⟨g, 0, none⟩) R.length cap) := cellAt SC.out.hd 0
  have d3 := cell_later KC.out D3.out
  obtain ⟨c0', c1', c2', c3', c4', c5'⟩ := ob_cells SC.out.o
  obtain ⟨q0, q1, q2, q3, q4, q5⟩ := ob_cells SC.out.q
  go_upto_region 6 with fail
  go_quiet (fail)
  go_upto_region 13 with fail
  have sq : SetX (wc.drewN nq) rb w.heap.size g R.length cap n 8 o.a o.l 3 c 0 0 o.x false o.s ⟨#[]⟩ := SC.out.keep fun _ _ _ => rfl
  have kq : Below w.heap.size w (wc.drewN nq) := below_and KC.out (below_drewN _ _)
  have zq : w.heap.size + 2 ≤ (wc.drewN nq).heap.size := ZC.out
  generalize wc.drewN nq = wq at sq kq zq ⊢
  clear h0 d3 c0' c1' c2' c3' c4' c5' q0 q1 q2 q3 q4 q5
  have SQ' : SetX wq.drew rb w.heap.size g R.length cap n 8 o.a o.l 3 c 0 0 o.x false o.s ⟨#[]⟩ := sq.keep fun _ _ _ => rfl
  have kd : Below w.heap.size w wq.drew := kq.drew
  have zd : w.heap.size + 2 ≤ wq.drew.heap.size := zq
  (try refine wp_region_noPanic ?_)
  refine wp_region_held_drew (S := fun wx => SetX wx rb w.heap.size g R.length cap n 8 o.a o.l 3 c 0 0 o.x false o.s ⟨#[]⟩) (by kernel_rfl) SQ' (fun _ => ?_)
  generalize wq.drew = wd at SQ' kd zd ⊢
  have SQ := Lib.hid SQ'
  have KD := Lib.hid kd
  have ZD := Lib.hid zd
  clear sq kq zq SQ' kd zd
  refine wpAnyH_take (i := 0) (v := ptr rb) rfl (by kernel_rfl) (by kernel_rfl) (by kernel_rfl) (fun _ _ _ h => h) (Or.inl ⟨by rfl, fun wx hS => ?_⟩) SQ.out ?_
  · have hh : wx.cell? ⟨rb, 0, none⟩ = some (.slice (some ⟨g, 0, none⟩) R.length cap) := cellAt hS.hd 0
    have hq : wx.cell? ⟨w.heap.size, 2, none⟩ = some (.int .i64 n) := cellAt hS.o 2
    go_simp
  try simp only [Act.put, List.getElem_toArray, List.getElem_cons_succ, List.getElem_cons_zero, List.setIfInBounds_toArray, List.set_cons_zero, List.set_cons_succ]
  refine wpAnyH_take (i := 1) (v := ptr rb) rfl (by kernel_rfl) (by kernel_rfl) (by kernel_rfl) (fun _ _ _ h => h) (Or.inl ⟨by rfl, fun wx hS => ?_⟩) SQ.out ?_
  · have hh : wx.cell? ⟨rb, 0, none⟩ = some (.slice (some ⟨g, 0, none⟩) R.length cap) := cellAt hS.hd 0
    have hq : wx.cell? ⟨w.heap.size, 2, none⟩ = some (.int .i64 n) := cellAt hS.o 2
    go_simp
  try simp only [Act.put, List.getElem_toArray, List.getElem_cons_succ, List.getElem_cons_zero, List.setIfInBounds_toArray, List.set_cons_zero, List.set_cons_succ]
  refine wpAnyH_take (i := 2) (v := .pointer (some ⟨rb, 0, none⟩)) rfl (by kernel_rfl) (by kernel_rfl) (by kernel_rfl) (fun _ _ _ h => h) (Or.inl ⟨by rfl, fun wx hS => ?_⟩) SQ.out ?_
  · have hh : wx.cell? ⟨rb, 0, none⟩ = some (.slice (some ⟨g, 0, none⟩) R.length cap) := cellAt hS.hd 0
    have hq : wx.cell? ⟨w.heap.size, 2, none⟩ = some (.int .i64 n) := cellAt hS.o 2
    go_simp
  try simp only [Act.put, List.getElem_toArray, List.getElem_cons_succ, List.getElem_cons_zero, List.setIfInBounds_toArray, List.set_cons_zero, List.set_cons_succ]
  refine wpAnyH_take (i := 3) (v := .slice (some ⟨g, 0, none⟩) R.length cap) rfl (by kernel_rfl) (by kernel_rfl) (by kernel_rfl) (fun _ _ _ h => h) (Or.inl ⟨by rfl, fun wx hS => ?_⟩) SQ.out ?_
  · have hh : wx.cell? ⟨rb, 0, none⟩ = some (.slice (some ⟨g, 0, none⟩) R.length cap) := cellAt hS.hd 0
    have hq : wx.cell? ⟨w.heap.size, 2, none⟩ = some (.int .i64 n) := cellAt hS.o 2
    go_simp
  try simp only [Act.put, List.getElem_toArray, List.getElem_cons_succ, List.getElem_cons_zero, List.setIfInBounds_toArray, List.set_cons_zero, List.set_cons_succ]
  refine wpAnyH_take (i := 4) (v := .pointer (some ⟨w.heap.size, 2, none⟩)) rfl (by kernel_rfl) (by kernel_rfl) (by kernel_rfl) (fun _ _ _ h => h) (Or.inl ⟨by rfl, fun wx hS => ?_⟩) SQ.out ?_
  · have hh : wx.cell? ⟨rb, 0, none⟩ = some (.slice (some ⟨g, 0, none⟩) R.length cap) := cellAt hS.hd 0
    have hq : wx.cell? ⟨w.heap.size, 2, none⟩ = some (.int .i64 n) := cellAt hS.o 2
    go_simp
  try simp only [Act.put, List.getElem_toArray, List.getElem_cons_succ, List.getElem_cons_zero, List.setIfInBounds_toArray, List.set_cons_zero, List.set_cons_succ]
  refine wpAnyH_take (i := 5) (v := .int .i64 n) rfl (by kernel_rfl) (by kernel_rfl) (by kernel_rfl) (fun _ _ _ h => h) (Or.inl ⟨by rfl, fun wx hS => ?_⟩) SQ.out ?_
  · have hh : wx.cell? ⟨rb, 0, none⟩ = some (.slice (some ⟨g, 0, none⟩) R.length cap) := cellAt hS.hd 0
    have hq : wx.cell? ⟨w.heap.size, 2, none⟩ = some (.int .i64 n) := cellAt hS.o 2
    go_simp
  try simp only [Act.put, List.getElem_toArray, List.getElem_cons_succ, List.getElem_cons_zero, List.setIfInBounds_toArray, List.set_cons_zero, List.set_cons_succ]
  refine wpAnyH_take (i := 6) (v := ptr rb) rfl (by kernel_rfl) (by kernel_rfl) (by kernel_rfl) (fun _ _ _ h => h) (Or.inl ⟨by rfl, fun wx hS => ?_⟩) SQ.out ?_
  · have hh : wx.cell? ⟨rb, 0, none⟩ = some (.slice (some ⟨g, 0, none⟩) R.length cap) := cellAt hS.hd 0
    have hq : wx.cell? ⟨w.heap.size, 2, none⟩ = some (.int .i64 n) := cellAt hS.o 2
    go_simp
  try simp only [Act.put, List.getElem_toArray, List.getElem_cons_succ, List.getElem_cons_zero, List.setIfInBounds_toArray, List.set_cons_zero, List.set_cons_succ]
  refine wpAnyH_take (i := 7) (v := ptr rb) rfl (by kernel_rfl) (by kernel_rfl) (by kernel_rfl) (fun _ _ _ h => h) (Or.inl ⟨by rfl, fun wx hS => ?_⟩) SQ.out ?_
  · have hh : wx.cell? ⟨rb, 0, none⟩ = some (.slice (some ⟨g, 0, none⟩) R.length cap) := cellAt hS.hd 0
    have hq : wx.cell? ⟨w.heap.size, 2, none⟩ = some (.int .i64 n) := cellAt hS.o 2
    go_simp
  try simp only [Act.put, List.getElem_toArray, List.getElem_cons_succ, List.getElem_cons_zero, List.setIfInBounds_toArray, List.set_cons_zero, List.set_cons_succ]
  refine wpAnyH_take (i := 8) (v := .pointer (some ⟨rb, 0, none⟩)) rfl (by kernel_rfl) (by kernel_rfl) (by kernel_rfl) (fun _ _ _ h => h) (Or.inl ⟨by rfl, fun wx hS => ?_⟩) SQ.out ?_
  · have hh : wx.cell? ⟨rb, 0, none⟩ = some (.slice (some ⟨g, 0, none⟩) R.length cap) := cellAt hS.hd 0
    have hq : wx.cell? ⟨w.heap.size, 2, none⟩ = some (.int .i64 n) := cellAt hS.o 2
    go_simp
  try simp only [Act.put, List.getElem_toArray, List.getElem_cons_succ, List.getElem_cons_zero, List.setIfInBounds_toArray, List.set_cons_zero, List.set_cons_succ]
  refine wpAnyH_take (i := 9) (v := .slice (some ⟨g, 0, none⟩) R.length cap) rfl (by kernel_rfl) (by kernel_rfl) (by kernel_rfl) (fun _ _ _ h => h) (Or.inl ⟨by rfl, fun wx hS => ?_⟩) SQ.out ?_
  · have hh : wx.cell? ⟨rb, 0, none⟩ = some (.slice (some ⟨g, 0, none⟩) R.length cap) := cellAt hS.hd 0
    have hq : wx.cell? ⟨w.heap.size, 2, none⟩ = some (.int .i64 n) := cellAt hS.o 2
    go_simp
  try simp only [Act.put, List.getElem_toArray, List.getElem_cons_succ, List.getElem_cons_zero, List.setIfInBounds_toArray, List.set_cons_zero, List.set_cons_succ]
  refine wpAnyH_take (i := 10) (v := .pointer (some ⟨w.heap.size, 2, none⟩)) rfl (by kernel_rfl) (by kernel_rfl) (by kernel_rfl) (fun _ _ _ h => h) (Or.inl ⟨by rfl, fun wx hS => ?_⟩) SQ.out ?_
  · have hh : wx.cell? ⟨rb, 0, none⟩ = some (.slice (some ⟨g, 0, none⟩) R.length cap) := cellAt hS.hd 0
    have hq : wx.cell? ⟨w.heap.size, 2, none⟩ = some (.int .i64 n) := cellAt hS.o 2
    go_simp
  try simp only [Act.put, List.getElem_toArray, List.getElem_cons_succ, List.getElem_cons_zero, List.setIfInBounds_toArray, List.set_cons_zero, List.set_cons_succ]
  refine wpAnyH_take (i := 11) (v := .int .i64 n) rfl (by kernel_rfl) (by kernel_rfl) (by kernel_rfl) (fun _ _ _ h => h) (Or.inl ⟨by rfl, fun wx hS => ?_⟩) SQ.out ?_
  · have hh : wx.cell? ⟨rb, 0, none⟩ = some (.slice (some ⟨g, 0, none⟩) R.length cap) := cellAt hS.hd 0
    have hq : wx.cell? ⟨w.heap.size, 2, none⟩ = some (.int .i64 n) := cellAt hS.o 2
    go_simp
  try simp only [Act.put, List.getElem_toArray, List.getElem_cons_succ, List.getElem_cons_zero, List.setIfInBounds_toArray, List.set_cons_zero, List.set_cons_succ]
  refine wpAnyH_take (i := 12) (v := .pointer (some ⟨g, n * 4, none⟩)) rfl (by kernel_rfl) (by kernel_rfl) (by kernel_rfl) (fun _ _ _ h => h) (Or.inl ⟨by rfl, fun wx hS => ?_⟩) SQ.out ?_
  · have hh : wx.cell? ⟨rb, 0, none⟩ = some (.slice (some ⟨g, 0, none⟩) R.length cap) := cellAt hS.hd 0
    have hq : wx.cell? ⟨w.heap.size, 2, none⟩ = some (.int .i64 n) := cellAt hS.o 2
    go_simp
  try simp only [Act.put, List.getElem_toArray, List.getElem_cons_succ, List.getElem_cons_zero, List.setIfInBounds_toArray, List.set_cons_zero, List.set_cons_succ]
  refine wpAnyH_take (i := 13) (v := .pointer (some ⟨g, n * 4 + 2, none⟩)) rfl (by kernel_rfl) (by kernel_rfl) (by kernel_rfl) (fun _ _ _ h => h) (Or.inl ⟨by rfl, fun wx hS => ?_⟩) SQ.out ?_
  · have hh : wx.cell? ⟨rb, 0, none⟩ = some (.slice (some ⟨g, 0, none⟩) R.length cap) := cellAt hS.hd 0
    have hq : wx.cell? ⟨w.heap.size, 2, none⟩ = some (.int .i64 n) := cellAt hS.o 2
    go_simp
  try simp only [Act.put, List.getElem_toArray, List.getElem_cons_succ, List.getElem_cons_zero, List.setIfInBounds_toArray, List.set_cons_zero, List.set_cons_succ]
  have d2 := cell_later KD.out D2.out
  refine wpAnyH_ready (rs := [14]) (by kernel_rfl) (by simp) ?_
  refine AllReadyH.cons rfl (fun K hK => ?_) AllReadyH.nil
  go_simp
  refine hK.out _ _ SQ.out (fun _ => ?_)
  clear hK
  try simp only [Act.put, List.getElem_toArray, List.getElem_cons_succ, List.getElem_cons_zero, List.setIfInBounds_toArray, List.set_cons_zero, List.set_cons_succ]
  refine wpAnyH_ready (rs := [15]) (by kernel_rfl) (by simp) ?_
  refine AllReadyH.cons rfl (fun K hK => ?_) AllReadyH.nil
  refine step_append_ex rfl _ _ 100 rfl (.slice none 0 0) (.slice p2 r.c.bs.length c2) rfl rfl _ (bytes_copy (H.out.below KD.out) HR.out e2 HZ.out _) ?_
  rintro v1 w1 hcp
  obtain ⟨g2, cp2, rfl, hg2, hg2'⟩ := hcp.own.form (by have := HX.out; omega)
  have CP := Lib.hid hcp
  have HG2 := Lib.hid (And.intro hg2 hg2')
  clear hcp hg2 hg2' d2
  have S1 := Lib.hid (SQ.out.keep fun b _ hb => CP.out.below.block b hb)
  refine hK.out _ _ S1.out (fun _ => ?_)
  clear hK
  try simp only [Act.put, List.getElem_toArray, List.getElem_cons_succ, List.getElem_cons_zero, List.setIfInBounds_toArray, List.set_cons_zero, List.set_cons_succ]
  refine wpAnyH_take (i := 16) (v := .pointer (some ⟨g, n * 4, none⟩)) rfl (by kernel_rfl) (by kernel_rfl) (by kernel_rfl) (fun _ _ _ h => h) (Or.inl ⟨by rfl, fun wx hS => ?_⟩) S1.out ?_
  · have hh : wx.cell? ⟨rb, 0, none⟩ = some (.slice (some ⟨g, 0, none⟩) R.length cap) := cellAt hS.hd 0
    have hq : wx.cell? ⟨w.heap.size, 2, none⟩ = some (.int .i64 n) := cellAt hS.o 2
    go_simp
  try simp only [Act.put, List.getElem_toArray, List.getElem_cons_succ, List.getElem_cons_zero, List.setIfInBounds_toArray, List.set_cons_zero, List.set_cons_succ]
  refine wpAnyH_take (i := 17) (v := .pointer (some ⟨g, n * 4 + 2, none⟩)) rfl (by kernel_rfl) (by kernel_rfl) (by kernel_rfl) (fun _ _ _ h => h) (Or.inl ⟨by rfl, fun wx hS => ?_⟩) S1.out ?_
  · have hh : wx.cell? ⟨rb, 0, none⟩ = some (.slice (some ⟨g, 0, none⟩) R.length cap) := cellAt hS.hd 0
    have hq : wx.cell? ⟨w.heap.size, 2, none⟩ = some (.int .i64 n) := cellAt hS.o 2
    go_simp
  try simp only [Act.put, List.getElem_toArray, List.getElem_cons_succ, List.getElem_cons_zero, List.setIfInBounds_toArray, List.set_cons_zero, List.set_cons_succ]
  have K1 : Hid (Below w.heap.size w w1) := Lib.hid (below_and KD.out CP.out.below)
  have c2 := cell_later K1.out D2.out
  have f2 : w1.frozen? ⟨g, n * 4 + 2, none⟩ = false := by rw [World.frozen?_of_block (w := w) (a := ⟨g, n * 4 + 2, none⟩) (K1.out.block _ HG.out.2)]; exact HF.out _
  refine wpAnyH_ready (rs := [18]) (by kernel_rfl) (by simp) ?_
  refine AllReadyH.cons rfl (fun K hK => ?_) AllReadyH.nil
  go_simp
  have onG : Only g w1 (w1.setCell ⟨g, n * 4 + 2, none⟩ (.slice (some ⟨g2, 0, none⟩) r.c.bs.length cp2)) := (Only.refl _ _).set _ _
  have cG : (w1.setCell ⟨g, n * 4 + 2, none⟩ (.slice (some ⟨g2, 0, none⟩) r.c.bs.length cp2)).cell? ⟨g, n * 4 + 2, none⟩ = some (.slice (some ⟨g2, 0, none⟩) r.c.bs.length cp2) := World.cell?_setCell_same _ _ _ c2
  have cO : ∀ j, j ≠ n * 4 + 2 → (w1.setCell ⟨g, n * 4 + 2, none⟩ (.slice (some ⟨g2, 0, none⟩) r.c.bs.length cp2)).cell? ⟨g, j, none⟩ = w1.cell? ⟨g, j, none⟩ := fun j hj => World.cell?_setCell_other _ _ _ _ (by simp <;> omega)
  have fO : ∀ j, (w1.setCell ⟨g, n * 4 + 2, none⟩ (.slice (some ⟨g2, 0, none⟩) r.c.bs.length cp2)).frozen? ⟨g, j, none⟩ = w1.frozen? ⟨g, j, none⟩ := fun j => by simp
  generalize w1.setCell ⟨g, n * 4 + 2, none⟩ (.slice (some ⟨g2, 0, none⟩) r.c.bs.length cp2) = w2 at onG cG cO fO ⊢
  have S2 := Lib.hid (S1.out.keep (w' := w2) fun b hb _ => onG.block b (by have := HG.out; rcases hb with q | q | q <;> omega))
  refine hK.out _ _ S2.out (fun _ => ?_)
  clear hK
  refine wpAnyH_done (by kernel_rfl) ?_ _
  (try refine no_panic ?_)
  have ON := Lib.hid onG
  have CG := Lib.hid cG
  have CO := Lib.hid cO
  have FO := Lib.hid fO
  clear onG cG cO fO c2 f2
  go_upto_region 14 with fail
  have hh : w2.cell? ⟨rb, 0, none⟩ = some (.slice (some ⟨g, 0, none⟩) R.length cap) := cellAt S2.out.hd 0
  have hq : w2.cell? ⟨w.heap.size, 2, none⟩ = some (.int .i64 n) := cellAt S2.out.o 2
  have hx : w2.cell? ⟨w.heap.size + 1, 2, none⟩ = some (.int .i64 c) := cellAt S2.out.q 2
  have hv := CG.out
  obtain ⟨j, hj⟩ : ∃ j, lo + i = j := ⟨_, rfl⟩
  have e5 : IntKind.i64.wrap ((lo : Int) + (i : Int)) = j := by rw [IntWalk.i64_in _ (by have := HX.out; have := HZ.out; omega)]; omega
  have HJ : Hid (j < r.c.bs.length) := Lib.hid (by have := HX.out; omega)
  have j0 : (0 : Int) ≤ j := by omega
  have j1 : (j : Int) < r.c.bs.length := by have := HJ.out; omega
  have ec : IntKind.u8.wrap c = c := by have := HC.out; exact u8_in c this.1 this.2
  go_still_tail 16, (by kernel_rfl)
  change wpList _ _ _ _ _ w2.drew
  have hne : g2 ≠ g := by have := HG.out; have := HG2.out; have := ZD.out; omega
  have rg := owns_at CP.out.own (w' := w2.drew) fun b e => ON.out.block b (by have := own_eq e; omega)
  obtain ⟨b0, hb0⟩ : ∃ b0, r.c.bs[j]? = some b0 := ⟨_, List.getElem?_eq_getElem HJ.out⟩
  have cj : w2.drew.cell? ⟨g2, j, none⟩ = some (.int .u8 b0.toNat) := by
    have := rg.cells rfl j (.int .u8 b0.toNat) (by rw [byCells_get, hb0]; rfl)
    rwa [Addr.add_mid, Nat.zero_add] at this
  have fj : w2.drew.frozen? ⟨g2, j, none⟩ = false := rg.frozenAt j
  obtain ⟨wx, ewx⟩ : ∃ wx, w2.drew = wx := ⟨_, rfl⟩
  have EWX := Lib.hid ewx
  rw [ewx] at cj fj ⊢
  clear ewx rg hb0 hh hq hx hv
  go_wp2
  go_ret
  obtain ⟨w4, ew4⟩ : ∃ w4, wx.setCell ⟨g2, j, none⟩ (.int .u8 c) = w4 := ⟨_, rfl⟩
  rw [ew4]
  have K1 : Below w.heap.size w w1 := below_and KD.out CP.out.below
  have on4 : Only g2 wx w4 := by rw [← ew4]; exact (Only.refl _ _).set _ _
  have hgd : w.heap.size ≤ g2 := by have := HG2.out; have := ZD.out; omega
  refine ⟨rfl, ⟨_, by rw [ev]; exact RH.byte (by rw [← ev]; exact H.out) HO.out HR.out HG.out.1 e2 HJ.out HC.out.1 HC.out.2 K1 hgd (CP.out.own.mono (by have := ZD.out; omega)) ON.out CG.out CO.out FO.out (by rw [EWX.out]; exact ew4), ?_⟩, ?_⟩
  · rw [HSP.out, hj, cels_set]
  · refine ((kept_of K1 fun b q => q.1).trans (kept_only ON.out fun q => q.2.2 (by rw [ev]; rfl))).trans (Kept.trans (w1 := wx) (by rw [← EWX.out]; exact ⟨rfl, rfl, rfl, Nat.le_refl _, fun _ _ => rfl⟩) (kept_only on4 fun q => by have := q.1; omega))
end
end Go.Proofs.Ytlkbnldpecolbaa

/- Walks of save: Back. -/
namespace Go.Proofs.Ytlkbnldpecolbaa
open Go.RowKit
set_option linter.unusedVariables false

section
variable {own : Nat → Prop} {hb sb last : Nat} {P : List Cel} {L : List Sv} {w : World}
end
end Go.Proofs.Ytlkbnldpecolbaa

/- Walks of heap: Dict that fits; Size. -/
namespace Go.Proofs.Ytlkbnldpecolbaa
open Go.RowKit
set_option linter.unusedVariables false

/-- The items of an empty dictionary of n pairs. -/
def emptyD (n : Nat) : List Ob := Ob.num 0 :: List.replicate (2 * n) Ob.null
theorem emptyD_length (n : Nat) : (emptyD n).length = 2 * n + 1 := by simp [emptyD]
theorem emptyD_set (n : Nat) : (List.replicate (2 * n + 1) Ob.null).set 0 (Ob.num 0) = emptyD n := by
  rw [List.replicate_succ]
  rfl
theorem below_set6 {n g : Nat} {w w' : World} (h : Below n w w') (hg : n ≤ g) (v0 v1 v2 v3 v4 v5 : Value) : Below n w (w'.setCells g 0 [v0, v1, v2, v3, v4, v5]) :=
  (((((h.setCell (p := ⟨g, 0, none⟩) hg v0).setCell (p := ⟨g, 1, none⟩) hg v1).setCell (p := ⟨g, 2, none⟩) hg v2).setCell (p := ⟨g, 3, none⟩) hg v3).setCell (p := ⟨g, 4, none⟩) hg v4).setCell (p := ⟨g, 5, none⟩) hg v5
section
variable {role : Nat → Nat × Nat} {c hb : Nat} {vc : Value} {ivs : List Value} {pb : Nat → Nat} {rv : Nat → Value} {P : List Cel} {w w' : World}
set_option maxHeartbeats 1000000 in
set_option maxRecDepth 100000 in
theorem dict_ok (h : PH role c hb vc ivs pb rv P w) (n m : Nat) (hm : m = 2 * n) (hn : n ≤ 1000) (hl : P.length < 2000) (hu : m + 1 + usedP P ≤ 40000) :
    Calls Try.prog 44 #[ptr hb, .int .i64 n] w fun e w' => e = .returned (.tuple #[obV 10 false P.length 0 0 ⟨#[]⟩, .int .i64 0]) ∧ ∃ role', PHeap role' c hb (P ++ [⟨10, false, emptyD n, []⟩]) w' ∧ Keep role c w role' w' := by
  have H := Lib.hid h
  have HL : Hid (decide (P.length < 2000 ∧ (((m + 1 : Nat) : Int)) + usedP P ≤ 40000) = true) := Lib.hid (decide_eq_true (by omega))
  have Hl := Lib.hid hl
  have Hu := Lib.hid hu
  have HM := Lib.hid hm
  have HN := Lib.hid hn
  have h1 : decide ((n : Int) < 0) = false := decide_eq_false (by omega)
  have h2 : decide ((n : Int) > 1000) = false := decide_eq_false (by omega)
  have e1 : IntKind.i64.wrap (2 * (n : Int)) = m := by rw [wrapi_in _ (by omega) (by omega)]; omega
  have e2 : IntKind.i64.wrap ((m : Int) + 1) = ((m + 1 : Nat) : Int) := by rw [wrapi_in _ (by omega) (by omega)]; omega
  clear h hl hu hm hn
  go_enter Try.func44, Try.ntmps44
  go_wp2_with fail
  obtain ⟨wa, ea, ka, za, oa⟩ := zero_box w
  rw [ea]
  have HA := Lib.hid (H.out.paint ka fun _ => (c + 1, 0))
  refine (hasRoom_is HA.out ((m + 1 : Nat) : Int) true HL.out).mono ?_
  rintro e wc ⟨rfl, rfl⟩
  have KA := Lib.hid ka
  have OA := Lib.hid oa
  have ZA := Lib.hid za
  clear ea ka za oa
  go_wp2_with fail
  refine (newItems_any 10 (m + 1) (by have := Hu.out; omega) wa).mono ?_
  rintro e w1 ⟨b, row, rfl, hb1, eblk, erow, ern, k1⟩
  obtain ⟨gr, cap, rfl, _, _⟩ := erow.form (by omega)
  have hgr : gr = wa.heap.size := by simpa [Value.ownBlock] using ern
  have B1 := Lib.hid hb1
  have B2 := Lib.hid eblk
  have B3 := Lib.hid erow
  have B4 := Lib.hid hgr
  have B5 := Lib.hid k1
  obtain ⟨gr', cap', ev, c0, c1, c2, c3, c4, c5⟩ := row_item (l := List.replicate (m + 1) Ob.null) (by rw [List.length_replicate]; exact erow) (i := 0) (o := Ob.null) (by simp)
  obtain ⟨rfl, _⟩ : gr = gr' ∧ cap = cap' := by rw [List.length_replicate] at ev; simpa using ev
  dsimp only [Ob.null] at c0 c1 c2 c3 c4 c5
  simp only [Nat.zero_mul, Nat.zero_add] at c0 c1 c2 c3 c4 c5
  have f0 : w1.frozen? ⟨gr, 0, none⟩ = false := erow.frozenAt 0
  have f1 : w1.frozen? ⟨gr, 1, none⟩ = false := erow.frozenAt 1
  have f2 : w1.frozen? ⟨gr, 2, none⟩ = false := erow.frozenAt 2
  have f3 : w1.frozen? ⟨gr, 3, none⟩ = false := erow.frozenAt 3
  have f4 : w1.frozen? ⟨gr, 4, none⟩ = false := erow.frozenAt 4
  have f5 : w1.frozen? ⟨gr, 5, none⟩ = false := erow.frozenAt 5
  have d2 : w1.cell? ⟨b, 2, none⟩ = some (.slice (some ⟨gr, 0, none⟩) (m + 1) cap) := by
    rw [cellAt eblk]
    rfl
  have hz : (0 : Int) < ((m + 1 : Nat) : Int) := by omega
  have hz' : (0 : Int) ≤ 0 := by omega
  clear hb1 eblk erow ern k1 hgr ev
  go_upto_region 9 with fail
  obtain ⟨wz, ez⟩ : ∃ wz, w1.setCells gr 0 [.int .i64 3, .bool false, .int .i64 0, .int .i64 0, .int .i64 0, .string ⟨#[]⟩] = wz := ⟨_, rfl⟩
  have EZ := Lib.hid ez
  change Code.wp _ _ _ _ (w1.setCells gr 0 [.int .i64 3, .bool false, .int .i64 0, .int .i64 0, .int .i64 0, .string ⟨#[]⟩])
  rw [ez]
  have K1 : Hid (Below wa.heap.size wa wz) := Lib.hid (by rw [← ez]; exact below_set6 B5.out (by rw [B4.out]; exact Nat.le_refl _) _ _ _ _ _ _)
  have hne : b ≠ gr := by
    have := B1.out
    have := B4.out
    omega
  have E0 := owns_put (Ob.num 0).cells 0 w1 _ B3.out
  have hr : wz.ownsRow 0 30 6 (.slice (some ⟨gr, 0, none⟩) (m + 1) cap) (m + 1) (obCells (emptyD n)) := by
    have q := E0.1
    have := obCells_put (Ob.num 0) (List.replicate (m + 1) Ob.null) 0 (by simp)
    rw [Nat.zero_mul] at this
    rw [this, show List.replicate (m + 1) Ob.null = List.replicate (2 * n + 1) Ob.null from by rw [HM.out], emptyD_set] at q
    rw [← ez]
    exact q
  have hbk : wz.heap[b]? = some (.cells #[.int .i64 10, .bool false, .slice (some ⟨gr, 0, none⟩) (m + 1) cap] 118 (0, 0)) := by
    rw [← ez]
    exact (E0.2.block b hne).trans B2.out
  have HR := Lib.hid hr
  have HK := Lib.hid hbk
  have H1 := Lib.hid (HA.out.below K1.out)
  clear ez hr hbk E0 hne c0 c1 c2 c3 c4 c5 f0 f1 f2 f3 f4 f5 d2 hz hz'
  go_wp2_with fail
  refine (cadd_any hb vc ivs P.length (usedP P) ((m + 1 : Nat) : Int) 113 b wz H1.out.hblk H1.out.crow H1.out.ne (by have := Hl.out; omega) (by omega) (by have := Hu.out; omega) (by omega) (by have := Hu.out; omega)).mono ?_
  rintro e w2 ⟨rfl, g, cap2, e1, e2, e3, e4, e5, e6, e7, e8⟩
  have hlen : (emptyD n).length = m + 1 := by rw [emptyD_length, HM.out]
  have cl : PCell wz (.iface 113 (ptr b)) b (.slice (some ⟨gr, 0, none⟩) (m + 1) cap) ⟨10, false, emptyD n, []⟩ := .inl ⟨rfl, .inr rfl, rfl, HK.out, by rw [hlen]; exact HR.out⟩
  have sz : (⟨10, false, emptyD n, []⟩ : Cel).size = m + 1 := by simp [Cel.size, hlen]
  have AD := Lib.hid (HA.out.added K1.out (Nat.le_of_lt B1.out) cl (fun q hq => by
    have : gr = q := by simpa [Value.ownBlock] using hq
    have := B1.out
    have := B4.out
    omega) Hl.out (by rw [sz]; exact Hu.out) (by rw [sz]; exact e1) e2 e3 e4 e5 e6 e7 e8)
  have O2 : w2.heap[w.heap.size]? = some emptyOb := (AD.out.2.block _ (blk_lt OA.out) (by rw [paint_new (Nat.le_refl _)]; simp)).trans OA.out
  have P2 := Lib.hid O2
  obtain ⟨⟨c0, c1, c2, c3, c4, c5⟩, f0, f1, f2, f3, f4, f5⟩ := cells6 O2
  clear e1 e2 e3 e4 e5 e6 e7 e8 cl sz O2
  go_wp2
  (try simp only [Exit.inBlock, Exit.then])
  refine bodyPost_ret (ret_cell rfl _ _ _ _ _ _ _ _ rfl rfl (set6 P2.out _ _ _ _ _ _) Try.underlying30 rfl (by kernel_rfl)) rfl ⟨rfl, _, AD.out.1.only (only6 _ _ _ _ _ _ _ _) ?_, (only6 _ _ _ _ _ _ _ _).keep ((Keep.paint role c KA.out _).trans AD.out.2) (Nat.le_refl _)⟩
  rw [AD.out.2.same _ (blk_lt OA.out), paint_new (Nat.le_refl _)]
  simp

theorem size_walk (hb : Nat) (k n a l u z E : Int) (x : Bool) (s : ByteArray) (iv : Value) (w : World) (hiv : iv = .nilIface ∨ ∃ T r, iv = .iface T (ptr r))
    (hf : Hid (∀ wx, Below w.heap.size w wx → Calls Try.prog 81 #[ptr hb, obV k x n a l s] wx fun e w' => e = .returned (.tuple #[pcV iv u z, .int .i64 E]) ∧ Below wx.heap.size wx w')) :
    Calls Try.prog 88 #[ptr hb, obV k x n a l s] w fun e w' => e = .returned (.tuple #[.int .i64 z, .int .i64 E]) ∧ Below w.heap.size w w' := by
  rcases hiv with rfl | ⟨T, r, rfl⟩
  · go_enter Try.func88, Try.ntmps88
    go_wp2_with fail
    obtain ⟨wb, eb, kb, zb, ob⟩ := ob_box w k n a l x s
    rw [eb]
    refine (hf.out _ kb).mono ?_
    rintro e wc ⟨rfl, kc⟩
    have KC := Lib.hid (below_and kb kc)
    clear eb kb zb kc ob
    go_upto_region 2 with fail
    obtain ⟨wd, ed, kd, zd, d0, d1, d2⟩ := pc_box wc .nilIface u z
    rw [ed]
    have KD := Lib.hid (below_and KC.out kd)
    clear ed kd zd
    go_wp2
    go_ret2
    exact ⟨rfl, KD.out⟩
  · go_enter Try.func88, Try.ntmps88
    go_wp2_with fail
    obtain ⟨wb, eb, kb, zb, ob⟩ := ob_box w k n a l x s
    rw [eb]
    refine (hf.out _ kb).mono ?_
    rintro e wc ⟨rfl, kc⟩
    have KC := Lib.hid (below_and kb kc)
    clear eb kb zb kc ob
    go_upto_region 2 with fail
    obtain ⟨wd, ed, kd, zd, d0, d1, d2⟩ := pc_box wc (.iface T (ptr r)) u z
    rw [ed]
    have KD := Lib.hid (below_and KC.out kd)
    clear ed kd zd
    go_wp2
    go_ret2
    exact ⟨rfl, KD.out⟩
theorem size_is (h : PH role c hb vc ivs pb rv P w) (o : Ob) : Calls Try.prog 88 #[ptr hb, o.val] w fun e w' => e = .returned (.tuple #[.int .i64 (lenO P o), .int .i64 (errO P o)]) ∧ Below w.heap.size w w' := by
  cases ho : okO P o
  · have e1 : lenO P o = 0 := by simp [lenO, ho]
    rw [e1]
    exact size_walk hb o.k o.n o.a o.l 0 0 (errO P o) o.x o.s .nilIface w (.inl rfl) (Lib.hid fun wx kx => find_no (h.below kx) o ho)
  · have e1 : errO P o = 0 := errO_ok ho
    rw [e1]
    exact size_walk hb o.k o.n o.a o.l o.a (lenO P o) 0 o.x o.s (.iface (celT (cellOf P o)) (ptr (pb o.n.toNat))) w (.inr ⟨_, _, rfl⟩) (Lib.hid fun wx kx => find_ok (h.below kx) o ho)
end
end Go.Proofs.Ytlkbnldpecolbaa

/- What the heap's calls do beside the saves; the known case of layer 13's laws. -/
namespace Go.Proofs.Ytlkbnldpecolbaa
open Go.RowKit
set_option linter.unusedVariables false

section
variable {own : Nat → Prop} {hb sb last : Nat} {P P' : List Cel} {L : List Sv} {w w' : World}
theorem shString (h : SH own hb P sb L last w) (s : ByteArray) (hl : P.length < 2000) (hu : s.size + usedP P ≤ 40000) :
    Calls Try.prog 61 #[ptr hb, .string s] w fun e w' => e = .returned (.tuple #[obV 8 false P.length 0 s.size ⟨#[]⟩, .int .i64 0]) ∧ SH own hb (P ++ [⟨8, false, [], s.data.toList⟩]) sb L last w' ∧ Kept own w w' := by
  obtain ⟨own', q, ho, hc⟩ := h.lift
  refine (sString_ok q s hl hu).mono ?_
  rintro e w' ⟨rfl, q, k⟩
  exact ⟨rfl, hc _ _ q k, k.sub ho⟩
theorem shDict (h : SH own hb P sb L last w) (n : Nat) (hn : n ≤ 1000) (hl : P.length < 2000) (hu : 2 * n + 1 + usedP P ≤ 40000) :
    Calls Try.prog 44 #[ptr hb, .int .i64 n] w fun e w' => e = .returned (.tuple #[obV 10 false P.length 0 0 ⟨#[]⟩, .int .i64 0]) ∧ SH own hb (P ++ [⟨10, false, emptyD n, []⟩]) sb L last w' ∧ Kept own w w' := by
  obtain ⟨own', ⟨role, ⟨vc, ivs, pb, rv, h1⟩, h2⟩, ho, hc⟩ := h.lift
  refine (dict_ok h1 n (2 * n) rfl hn hl hu).mono ?_
  rintro e w' ⟨rfl, role', q1, q2⟩
  have := Sep.of_keep h2 q1 q2
  exact ⟨rfl, hc _ _ this.1 this.2, this.2.sub ho⟩
theorem shSet (h : SH own hb P sb L last w) (o : Ob) (i : Int) (x : Ob) (E : Int) (P' : List Cel) (hE : setE P o i x = E) (hP : setP P o i x = P') :
    Calls Try.prog 55 #[ptr hb, o.val, .int .i64 i, x.val] w fun e w' => e = .returned (.int .i64 E) ∧ SH own hb P' sb L last w' ∧ Kept own w w' := by
  obtain ⟨own', q, ho, hc⟩ := h.lift
  refine (sSet q o i x E P' hE hP).mono ?_
  rintro e w' ⟨rfl, q, k⟩
  exact ⟨rfl, hc _ _ q k, k.sub ho⟩
theorem shBytes (h : SH own hb P sb L last w) (o : Ob) (M : List UInt8) (ho : okO P o = true) (hk : o.k = 8) (hpos : 0 < (cellOf P o).bs.length) (hL : bytesL P o = M) :
    Calls Try.prog 91 #[ptr hb, o.val] w fun e w' => e = .returned (.tuple #[.string ⟨M.toArray⟩, .int .i64 0]) ∧ SH own hb P sb L last w' ∧ Kept own w w' := by
  obtain ⟨own', q, hq, hc⟩ := h.lift
  refine (sBytes q o M ho hk hpos hL).mono ?_
  rintro e w' ⟨rfl, q, k⟩
  exact ⟨rfl, hc _ _ q k, k.sub hq⟩
theorem shCells (h : SH own hb P sb L last w) : Calls Try.prog 23 #[ptr hb] w fun e w' => e = .returned (.int .i64 P.length) ∧ w = w' := sCells h.many.sep
/-- A slice of ours has grown. -/
theorem SH.grow {q : Option Nat} (h : SH own hb P sb L last w) (k : w.grownBy w' q) (hq : ∀ g, q = some g → own g) : SH (fun b => own b ∨ (w.heap.size ≤ b ∧ b < w'.heap.size)) hb P sb L last w' := by
  obtain ⟨role, h1, h2, h3⟩ := h.many
  have ne : ∀ b, (role b).1 ≠ 0 → some b ≠ q := fun b hc e => hc (h3 b (.inl (hq b e.symm))).2
  have hs : sb < w.heap.size := h.sat.lt
  refine ⟨⟨paint role w.heap.size fun _ => (0, 0), h1.same fun b hb hc => ⟨k.block b hb (ne b (by omega)), paint_old hb⟩, fun i g hg => (h2 i g hg).same fun b hb hc => ⟨k.block b hb (ne b (by omega)), paint_old hb⟩, fun b hb => ?_⟩, h.sat.same (k.block _ hs fun e => h.nown (hq _ e.symm)) k.size, fun e => ?_⟩
  · by_cases hl : b < w.heap.size
    · have hown : own b ∨ b = sb := by
        rcases hb with (hb | hb) | hb
        · exact .inl hb
        · omega
        · exact .inr hb
      refine ⟨Nat.lt_of_lt_of_le hl k.size, ?_⟩
      rw [paint_old hl]
      exact (h3 b hown).2
    · have : b < w'.heap.size := by
        rcases hb with (hb | hb) | hb
        · exact absurd (h3 b (.inl hb)).1 hl
        · exact hb.2
        · omega
      exact ⟨this, by rw [paint_new (by omega)]⟩
  · rcases e with e | e
    · exact h.nown e
    · omega
theorem kept_grown {q : Option Nat} (k : w.grownBy w' q) (hq : ∀ g, q = some g → ¬ own g) (ho : ∀ b, own b → b < w.heap.size) : Kept own w w' :=
  ⟨k.os, k.tape, k.output, k.size, fun b hb => k.block b (ho b hb) fun e => hq b e.symm hb⟩
end
/-- Which open save the object of number n is. -/
theorem atS_num (L : List Sv) (n : Nat) (x : Bool) : atS L ⟨11, x, n, 0, 0, ⟨#[]⟩⟩ = L.findIdx? fun s => decide (s.n = n) := by
  unfold atS
  congr 1
  funext s
  rw [same_sv s.n ⟨11, x, n, 0, 0, ⟨#[]⟩⟩]
  apply decide_eq_decide.2
  simp
  omega
/-- The numbers of the open saves are 1, 2, .., j; the heap was empty at each. -/
def Nums (L : List Sv) (j : Nat) : Prop := L.length = j ∧ ∀ (i : Nat) (s : Sv), L[i]? = some s → s.n = i + 1
theorem Nums.at {L : List Sv} {j : Nat} (h : Nums L j) {k : Nat} (hk : k < j) (x : Bool) : atS L ⟨11, x, ((k + 1 : Nat) : Int), 0, 0, ⟨#[]⟩⟩ = some k := by
  rw [atS_num, List.findIdx?_eq_some_iff_getElem]
  refine ⟨by rw [h.1]; exact hk, ?_, fun i hi => ?_⟩
  · have := h.2 k _ (List.getElem?_eq_getElem (by rw [h.1]; exact hk))
    simpa using this
  · have := h.2 i _ (List.getElem?_eq_getElem (by rw [h.1]; omega))
    simp
    omega
theorem Nums.none {L : List Sv} {j : Nat} (h : Nums L j) {k : Nat} (hk : j ≤ k) (x : Bool) : atS L ⟨11, x, ((k + 1 : Nat) : Int), 0, 0, ⟨#[]⟩⟩ = .none := by
  rw [atS_num, List.findIdx?_eq_none_iff]
  intro s hs
  obtain ⟨i, hi⟩ := List.mem_iff_getElem?.1 hs
  have := h.2 i s hi
  have := (List.getElem?_eq_some_iff.1 hi).1
  have := h.1
  simp
  omega
theorem Nums.zero : Nums [] 0 := ⟨rfl, fun i s h => by simp at h⟩
theorem Nums.push {L : List Sv} {j : Nat} (h : Nums L j) (g : Nat) (q : List Cel) : Nums (L ++ [⟨j + 1, g, q⟩]) (j + 1) := by
  refine ⟨by simp [h.1], fun i s hi => ?_⟩
  rw [List.getElem?_append] at hi
  split at hi
  · exact h.2 i s hi
  · next hl =>
    have e : i = j := by
      have := (List.getElem?_eq_some_iff.1 hi).1
      have := h.1
      simp at *
      omega
    subst e
    have := h.1
    simp [this] at hi
    subst hi
    rfl
theorem Nums.take {L : List Sv} {j : Nat} (h : Nums L j) {k : Nat} (hk : k ≤ j) : Nums (L.take k) k := by
  refine ⟨by rw [List.length_take, h.1]; omega, fun i s hi => ?_⟩
  rw [List.getElem?_take] at hi
  split at hi
  · exact h.2 i s hi
  · cases hi

end Go.Proofs.Ytlkbnldpecolbaa
