/- Y20: U12, U13, U14, U15. -/
import Derived.Test.YtlkbnldpecolbaaY19
/- Walks of tympanref11: what Set refuses; Set, whatever is asked. -/
namespace Go.Proofs.Ytlkbnldpecolbaa
open Go.RowKit
set_option linter.unusedVariables false
set_option linter.unusedSimpArgs false

set_option maxHeartbeats 2000000 in
set_option maxRecDepth 100000 in
theorem rset_locked (rb g cap n lo m i z : Nat) (lk : Bool) (o q : Ob) (w : World) (hn : n < z) (hi : i < m) (hd : w.heap[rb]? = some (.cells #[.slice (some ⟨g, 0, none⟩) z cap] 54 (0, 0))) (d3' : w.cell? ⟨g, n * 4 + 3, none⟩ = some (.bool lk)) (hl : lk = true)
    (hr : Hid (∀ wx, Below w.heap.size w wx → Calls Try.prog 94 #[ptr rb, obV o.k o.x n o.a o.l o.s] wx fun e w' => e = .returned (.tuple #[.int .i64 lo, .int .i64 m, .int .i64 0]) ∧ Below wx.heap.size wx w')) :
    Calls Try.prog 69 #[ptr rb, obV o.k o.x n o.a o.l o.s, .int .i64 i, obV q.k q.x q.n q.a q.l q.s] w fun e w' => e = .returned (.int .i64 1) ∧ Below w.heap.size w w' := by
  subst hl
  have HD := Lib.hid hd
  have D3 := Lib.hid d3'
  have t0 : (0 : Int) ≤ n := by omega
  have t1 : (n : Int) < z := by omega
  have t2 : ¬ ((i : Int) < 0) := by omega
  have t3 : ¬ ((i : Int) ≥ m) := by omega
  clear hd d3' hn hi
  go_enter Try.func69, Try.ntmps69
  go_upto_region 1 with fail
  obtain ⟨wb, eb, kb, zb, sx⟩ := set_box2 w rb g z cap n o.k o.a o.l q.k q.n q.a q.l o.x q.x o.s q.s HD.out
  rw [eb]
  have SX := Lib.hid sx
  have KB := Lib.hid kb
  have ZB := Lib.hid zb
  obtain ⟨c0', c1', c2', c3', c4', c5'⟩ := ob_cells sx.o
  clear eb kb zb sx
  go_wp2_with fail
  refine (hr.out _ KB.out).mono ?_
  rintro e wc ⟨rfl, kc⟩
  have SC := Lib.hid (SX.out.keep fun b _ hb => kc.block b hb)
  have KC := Lib.hid (below_and KB.out kc)
  have ZC : Hid (w.heap.size + 2 ≤ wc.heap.size) := Lib.hid (by have := kc.size; have := ZB.out; omega)
  clear kc c0' c1' c2' c3' c4' c5' SX KB ZB
  have h0 : wc.cell? ⟨rb, 0, none⟩ = some (.slice (some ⟨g, 0, none⟩) z cap) := cellAt SC.out.hd 0
  have d3 := cell_later KC.out D3.out
  obtain ⟨c0', c1', c2', c3', c4', c5'⟩ := ob_cells SC.out.o
  obtain ⟨q0, q1, q2, q3, q4, q5⟩ := ob_cells SC.out.q
  go_upto_region 6 with fail
  go_quiet (fail)
  go_wp2
  go_ret
  exact ⟨rfl, below_and KC.out (below_drewN _ _)⟩
set_option maxHeartbeats 2000000 in
set_option maxRecDepth 100000 in
theorem rset_type (rb g cap n lo m i z : Nat) (lk : Bool) (o q : Ob) (w : World) (hn : n < z) (hi : i < m) (hd : w.heap[rb]? = some (.cells #[.slice (some ⟨g, 0, none⟩) z cap] 54 (0, 0))) (d3' : w.cell? ⟨g, n * 4 + 3, none⟩ = some (.bool lk)) (hl : lk = false) (hk8 : (o.k == 8) = true) (hq3 : (q.k != 3) = true)
    (hr : Hid (∀ wx, Below w.heap.size w wx → Calls Try.prog 94 #[ptr rb, obV o.k o.x n o.a o.l o.s] wx fun e w' => e = .returned (.tuple #[.int .i64 lo, .int .i64 m, .int .i64 0]) ∧ Below wx.heap.size wx w')) :
    Calls Try.prog 69 #[ptr rb, obV o.k o.x n o.a o.l o.s, .int .i64 i, obV q.k q.x q.n q.a q.l q.s] w fun e w' => e = .returned (.int .i64 6) ∧ Below w.heap.size w w' := by
  subst hl
  have HD := Lib.hid hd
  have D3 := Lib.hid d3'
  have t0 : (0 : Int) ≤ n := by omega
  have t1 : (n : Int) < z := by omega
  have t2 : ¬ ((i : Int) < 0) := by omega
  have t3 : ¬ ((i : Int) ≥ m) := by omega
  clear hd d3' hn hi
  go_enter Try.func69, Try.ntmps69
  go_upto_region 1 with fail
  obtain ⟨wb, eb, kb, zb, sx⟩ := set_box2 w rb g z cap n o.k o.a o.l q.k q.n q.a q.l o.x q.x o.s q.s HD.out
  rw [eb]
  have SX := Lib.hid sx
  have KB := Lib.hid kb
  have ZB := Lib.hid zb
  obtain ⟨c0', c1', c2', c3', c4', c5'⟩ := ob_cells sx.o
  clear eb kb zb sx
  go_wp2_with fail
  refine (hr.out _ KB.out).mono ?_
  rintro e wc ⟨rfl, kc⟩
  have SC := Lib.hid (SX.out.keep fun b _ hb => kc.block b hb)
  have KC := Lib.hid (below_and KB.out kc)
  have ZC : Hid (w.heap.size + 2 ≤ wc.heap.size) := Lib.hid (by have := kc.size; have := ZB.out; omega)
  clear kc c0' c1' c2' c3' c4' c5' SX KB ZB
  have h0 : wc.cell? ⟨rb, 0, none⟩ = some (.slice (some ⟨g, 0, none⟩) z cap) := cellAt SC.out.hd 0
  have d3 := cell_later KC.out D3.out
  obtain ⟨c0', c1', c2', c3', c4', c5'⟩ := ob_cells SC.out.o
  obtain ⟨q0, q1, q2, q3, q4, q5⟩ := ob_cells SC.out.q
  go_upto_region 6 with fail
  go_quiet (fail)
  go_wp2
  go_ret
  exact ⟨rfl, below_and KC.out (below_drewN _ _)⟩
set_option maxHeartbeats 2000000 in
set_option maxRecDepth 100000 in
theorem rset_range1 (rb g cap n lo m i z : Nat) (lk : Bool) (o q : Ob) (w : World) (hn : n < z) (hi : i < m) (hd : w.heap[rb]? = some (.cells #[.slice (some ⟨g, 0, none⟩) z cap] 54 (0, 0))) (d3' : w.cell? ⟨g, n * 4 + 3, none⟩ = some (.bool lk)) (hl : lk = false) (hk8 : (o.k == 8) = true) (hq3 : (q.k != 3) = false) (hq0 : decide (q.n < 0) = true)
    (hr : Hid (∀ wx, Below w.heap.size w wx → Calls Try.prog 94 #[ptr rb, obV o.k o.x n o.a o.l o.s] wx fun e w' => e = .returned (.tuple #[.int .i64 lo, .int .i64 m, .int .i64 0]) ∧ Below wx.heap.size wx w')) :
    Calls Try.prog 69 #[ptr rb, obV o.k o.x n o.a o.l o.s, .int .i64 i, obV q.k q.x q.n q.a q.l q.s] w fun e w' => e = .returned (.int .i64 2) ∧ Below w.heap.size w w' := by
  subst hl
  have HD := Lib.hid hd
  have D3 := Lib.hid d3'
  have t0 : (0 : Int) ≤ n := by omega
  have t1 : (n : Int) < z := by omega
  have t2 : ¬ ((i : Int) < 0) := by omega
  have t3 : ¬ ((i : Int) ≥ m) := by omega
  clear hd d3' hn hi
  go_enter Try.func69, Try.ntmps69
  go_upto_region 1 with fail
  obtain ⟨wb, eb, kb, zb, sx⟩ := set_box2 w rb g z cap n o.k o.a o.l q.k q.n q.a q.l o.x q.x o.s q.s HD.out
  rw [eb]
  have SX := Lib.hid sx
  have KB := Lib.hid kb
  have ZB := Lib.hid zb
  obtain ⟨c0', c1', c2', c3', c4', c5'⟩ := ob_cells sx.o
  clear eb kb zb sx
  go_wp2_with fail
  refine (hr.out _ KB.out).mono ?_
  rintro e wc ⟨rfl, kc⟩
  have SC := Lib.hid (SX.out.keep fun b _ hb => kc.block b hb)
  have KC := Lib.hid (below_and KB.out kc)
  have ZC : Hid (w.heap.size + 2 ≤ wc.heap.size) := Lib.hid (by have := kc.size; have := ZB.out; omega)
  clear kc c0' c1' c2' c3' c4' c5' SX KB ZB
  have h0 : wc.cell? ⟨rb, 0, none⟩ = some (.slice (some ⟨g, 0, none⟩) z cap) := cellAt SC.out.hd 0
  have d3 := cell_later KC.out D3.out
  obtain ⟨c0', c1', c2', c3', c4', c5'⟩ := ob_cells SC.out.o
  obtain ⟨q0, q1, q2, q3, q4, q5⟩ := ob_cells SC.out.q
  go_upto_region 6 with fail
  go_quiet (fail)
  go_wp2
  go_ret
  exact ⟨rfl, below_and KC.out (below_drewN _ _)⟩
set_option maxHeartbeats 2000000 in
set_option maxRecDepth 100000 in
theorem rset_range2 (rb g cap n lo m i z : Nat) (lk : Bool) (o q : Ob) (w : World) (hn : n < z) (hi : i < m) (hd : w.heap[rb]? = some (.cells #[.slice (some ⟨g, 0, none⟩) z cap] 54 (0, 0))) (d3' : w.cell? ⟨g, n * 4 + 3, none⟩ = some (.bool lk)) (hl : lk = false) (hk8 : (o.k == 8) = true) (hq3 : (q.k != 3) = false) (hq0 : decide (q.n < 0) = false) (hq1 : decide (q.n > 255) = true)
    (hr : Hid (∀ wx, Below w.heap.size w wx → Calls Try.prog 94 #[ptr rb, obV o.k o.x n o.a o.l o.s] wx fun e w' => e = .returned (.tuple #[.int .i64 lo, .int .i64 m, .int .i64 0]) ∧ Below wx.heap.size wx w')) :
    Calls Try.prog 69 #[ptr rb, obV o.k o.x n o.a o.l o.s, .int .i64 i, obV q.k q.x q.n q.a q.l q.s] w fun e w' => e = .returned (.int .i64 2) ∧ Below w.heap.size w w' := by
  subst hl
  have HD := Lib.hid hd
  have D3 := Lib.hid d3'
  have t0 : (0 : Int) ≤ n := by omega
  have t1 : (n : Int) < z := by omega
  have t2 : ¬ ((i : Int) < 0) := by omega
  have t3 : ¬ ((i : Int) ≥ m) := by omega
  clear hd d3' hn hi
  go_enter Try.func69, Try.ntmps69
  go_upto_region 1 with fail
  obtain ⟨wb, eb, kb, zb, sx⟩ := set_box2 w rb g z cap n o.k o.a o.l q.k q.n q.a q.l o.x q.x o.s q.s HD.out
  rw [eb]
  have SX := Lib.hid sx
  have KB := Lib.hid kb
  have ZB := Lib.hid zb
  obtain ⟨c0', c1', c2', c3', c4', c5'⟩ := ob_cells sx.o
  clear eb kb zb sx
  go_wp2_with fail
  refine (hr.out _ KB.out).mono ?_
  rintro e wc ⟨rfl, kc⟩
  have SC := Lib.hid (SX.out.keep fun b _ hb => kc.block b hb)
  have KC := Lib.hid (below_and KB.out kc)
  have ZC : Hid (w.heap.size + 2 ≤ wc.heap.size) := Lib.hid (by have := kc.size; have := ZB.out; omega)
  clear kc c0' c1' c2' c3' c4' c5' SX KB ZB
  have h0 : wc.cell? ⟨rb, 0, none⟩ = some (.slice (some ⟨g, 0, none⟩) z cap) := cellAt SC.out.hd 0
  have d3 := cell_later KC.out D3.out
  obtain ⟨c0', c1', c2', c3', c4', c5'⟩ := ob_cells SC.out.o
  obtain ⟨q0, q1, q2, q3, q4, q5⟩ := ob_cells SC.out.q
  go_upto_region 6 with fail
  go_quiet (fail)
  go_wp2
  go_ret
  exact ⟨rfl, below_and KC.out (below_drewN _ _)⟩
set_option maxHeartbeats 2000000 in
set_option maxRecDepth 100000 in
theorem rset_nomay (rb g cap n lo m i z : Nat) (lk : Bool) (o q : Ob) (w : World) (hn : n < z) (hi : i < m) (hd : w.heap[rb]? = some (.cells #[.slice (some ⟨g, 0, none⟩) z cap] 54 (0, 0))) (d3' : w.cell? ⟨g, n * 4 + 3, none⟩ = some (.bool lk)) (hl : lk = false) (hk8 : (o.k == 8) = false) (hm : Hid (∀ wx, Below w.heap.size w wx → Calls Try.prog 65 #[ptr rb, obV q.k q.x q.n q.a q.l q.s] wx fun e w' => e = .returned (.bool false) ∧ Below wx.heap.size wx w'))
    (hr : Hid (∀ wx, Below w.heap.size w wx → Calls Try.prog 94 #[ptr rb, obV o.k o.x n o.a o.l o.s] wx fun e w' => e = .returned (.tuple #[.int .i64 lo, .int .i64 m, .int .i64 0]) ∧ Below wx.heap.size wx w')) :
    Calls Try.prog 69 #[ptr rb, obV o.k o.x n o.a o.l o.s, .int .i64 i, obV q.k q.x q.n q.a q.l q.s] w fun e w' => e = .returned (.int .i64 1) ∧ Below w.heap.size w w' := by
  subst hl
  have HD := Lib.hid hd
  have D3 := Lib.hid d3'
  have t0 : (0 : Int) ≤ n := by omega
  have t1 : (n : Int) < z := by omega
  have t2 : ¬ ((i : Int) < 0) := by omega
  have t3 : ¬ ((i : Int) ≥ m) := by omega
  clear hd d3' hn hi
  go_enter Try.func69, Try.ntmps69
  go_upto_region 1 with fail
  obtain ⟨wb, eb, kb, zb, sx⟩ := set_box2 w rb g z cap n o.k o.a o.l q.k q.n q.a q.l o.x q.x o.s q.s HD.out
  rw [eb]
  have SX := Lib.hid sx
  have KB := Lib.hid kb
  have ZB := Lib.hid zb
  obtain ⟨c0', c1', c2', c3', c4', c5'⟩ := ob_cells sx.o
  clear eb kb zb sx
  go_wp2_with fail
  refine (hr.out _ KB.out).mono ?_
  rintro e wc ⟨rfl, kc⟩
  have SC := Lib.hid (SX.out.keep fun b _ hb => kc.block b hb)
  have KC := Lib.hid (below_and KB.out kc)
  have ZC : Hid (w.heap.size + 2 ≤ wc.heap.size) := Lib.hid (by have := kc.size; have := ZB.out; omega)
  clear kc c0' c1' c2' c3' c4' c5' SX KB ZB
  have h0 : wc.cell? ⟨rb, 0, none⟩ = some (.slice (some ⟨g, 0, none⟩) z cap) := cellAt SC.out.hd 0
  have d3 := cell_later KC.out D3.out
  obtain ⟨c0', c1', c2', c3', c4', c5'⟩ := ob_cells SC.out.o
  obtain ⟨q0, q1, q2, q3, q4, q5⟩ := ob_cells SC.out.q
  go_upto_region 6 with fail
  go_quiet (fail)
  go_upto_region 16 with fail
  go_wp2_with fail
  refine (hm.out _ (below_and KC.out (below_drewN _ _))).mono ?_
  rintro e wq ⟨rfl, km⟩
  have KQ := Lib.hid (below_and (below_and KC.out (below_drewN _ _)) km)
  clear km
  go_wp2
  go_ret
  exact ⟨rfl, KQ.out⟩
section
variable {own : Nat → Prop} {rb : Nat} {v : Value} {R : List RC} {w : World}
theorem rset_tot (h : RH own rb v R w) (ho : ∀ b, own b → b < w.heap.size) (o : Ob) (i : Int) (q : Ob) : Calls Try.prog 69 #[ptr rb, o.val, .int .i64 i, q.val] w fun e w' => e = .returned (.int .i64 (setE (cels R) o i q)) ∧ (∃ R', RH (Plus own w w') rb v R' w' ∧ cels R' = setP (cels R) o i q) ∧ Kept (fun b => b < w.heap.size ∧ b ≠ rb ∧ v.ownBlock ≠ some b) w w' := by
  have still : ∀ {E : Int}, setE (cels R) o i q = E → E ≠ 0 → Calls Try.prog 69 #[ptr rb, o.val, .int .i64 i, q.val] w (fun e w' => e = .returned (.int .i64 E) ∧ Below w.heap.size w w') → Calls Try.prog 69 #[ptr rb, o.val, .int .i64 i, q.val] w fun e w' => e = .returned (.int .i64 (setE (cels R) o i q)) ∧ (∃ R', RH (Plus own w w') rb v R' w' ∧ cels R' = setP (cels R) o i q) ∧ Kept (fun b => b < w.heap.size ∧ b ≠ rb ∧ v.ownBlock ≠ some b) w w' := by
    intro E e1 e0 hc
    refine hc.mono ?_
    rintro e w' ⟨rfl, k⟩
    exact ⟨by rw [e1], ⟨R, h.plus k, by rw [setP, e1, if_neg e0]⟩, ⟨k.os, k.tape, k.output, k.size, fun b q => k.block b q.1⟩⟩
  have hr := Lib.hid (fun wx (kx : Below w.heap.size w wx) => rroom_any (h.below kx) o)
  cases hq : okO (cels R) o
  · have hE := errO_no hq
    exact still (by rw [setE, hq]; rfl) hE (rset_err rb o.k o.n o.a o.l q.k q.n q.a q.l i _ _ _ o.x q.x o.s q.s w (by simpa using hE) hr)
  rw [errO_ok hq] at hr
  by_cases hi : 0 ≤ i ∧ i < lenO (cels R) o
  case neg =>
    refine still (E := 12) (by rw [setE, hq]; simp [hi]) (by decide) (rset_index rb o.k o.n o.a o.l q.k q.n q.a q.l i _ _ o.x q.x o.s q.s w ?_ hr)
    by_cases a : i < 0
    · exact .inl (decide_eq_true a)
    · exact .inr ⟨decide_eq_false a, decide_eq_true (by omega)⟩
  obtain ⟨m', rfl⟩ := Int.eq_ofNat_of_zero_le hi.1
  obtain ⟨r, n, lo, m, g, cap, O, og, gr, gl⟩ := h.opened o hq
  have hi2 := hi.2
  have hlen := O.leno
  rw [O.at_, O.leno] at hr
  have hv := O.val
  have hr2 := hr
  rw [hv] at hr2
  have hd := h.hdr
  rw [O.row] at hd
  have hlt := O.lt
  have hmi : m' < m := by rw [hlen] at hi2; omega
  have hcell := O.cell
  cases hlk : r.c.lk
  case true =>
    refine still (E := 1) (by rw [setE, hq, O.cell, hlk]; simp [hi]) (by decide) ?_
    rw [hv]
    exact rset_locked rb g cap n lo m m' R.length r.c.lk o q w hlt hmi hd O.d3 hlk hr2
  case false =>
    have hlk' : (cellOf (cels R) o).lk = false := by rw [hcell]; exact hlk
    by_cases hk : o.k = 8
    · by_cases hq3 : q.k = 3
      · by_cases hn0 : q.n < 0
        · refine still (E := 2) (by rw [setE, hq, hlk']; simp [hi, hk, hq3, hn0]) (by decide) ?_
          rw [hv]
          exact rset_range1 rb g cap n lo m m' R.length r.c.lk o q w hlt hmi hd O.d3 hlk (by simpa using hk) (by simp [hq3]) (decide_eq_true hn0) hr2
        · by_cases hn1 : 255 < q.n
          · refine still (E := 2) (by rw [setE, hq, hlk']; simp [hi, hk, hq3, hn1]) (by decide) ?_
            rw [hv]
            exact rset_range2 rb g cap n lo m m' R.length r.c.lk o q w hlt hmi hd O.d3 hlk (by simpa using hk) (by simp [hq3]) (decide_eq_false hn0) (decide_eq_true hn1) hr2
          · have e0 : setE (cels R) o (m' : Int) q = 0 := by rw [setE, hq, hlk']; simp [hi, hk, hq3]; omega
            have hqv : q = ⟨3, q.x, q.n, q.a, q.l, q.s⟩ := by rw [← hq3]
            have := rset_byteX h ho o m' q.n q.a q.l q.x q.s hq hk hi2 hlk' (by omega) (by omega)
            rw [← hqv] at this
            rw [e0]
            rw [show q.val = obV 3 q.x q.n q.a q.l q.s from by rw [← hq3]; rfl]
            exact this
      · refine still (E := 6) (by rw [setE, hq, hlk']; simp [hi, hk, hq3]) (by decide) ?_
        rw [hv]
        exact rset_type rb g cap n lo m m' R.length r.c.lk o q w hlt hmi hd O.d3 hlk (by simpa using hk) (by simpa using hq3) hr2
    · cases hm : mayH (cels R) q
      · refine still (E := 1) (by rw [setE, hq, hlk']; simp [hi, hk, hm]) (by decide) ?_
        rw [hv]
        exact rset_nomay rb g cap n lo m m' R.length r.c.lk o q w hlt hmi hd O.d3 hlk (by simpa using hk) (Lib.hid fun wx kx => by have := rmayH_any (h.below kx) q; rw [hm] at this; exact this) hr2
      · have e0 : setE (cels R) o (m' : Int) q = 0 := by rw [setE, hq, hlk']; simp [hi, hk, hm]
        rw [e0]
        exact rset_item h ho o m' q hq hk hi2 hlk' hm
end
end Go.Proofs.Ytlkbnldpecolbaa

/- Walks of tympanref11: Part. -/
namespace Go.Proofs.Ytlkbnldpecolbaa
open Go.RowKit
set_option linter.unusedVariables false

theorem part_box (w : World) (k n a l : Int) (x : Bool) (s : ByteArray) :
    ∃ wb, (w.alloc (.cells #[.int .i64 k, .bool x, .int .i64 n, .int .i64 a, .int .i64 l, .string s] 30)).alloc (.cells #[.int .i64 0, .bool false, .int .i64 0, .int .i64 0, .int .i64 0, .string ⟨#[]⟩] 30) = wb ∧ Below w.heap.size w wb ∧ wb.heap[w.heap.size]? = some (obObj k x n a l s) ∧ wb.heap[w.heap.size + 1]? = some emptyOb := by
  refine ⟨_, rfl, below_and (box_below _ _) (box_below _ _), ?_, ?_⟩
  · rw [Below.heap_alloc _ _ _ (by simp)]
    exact heap_alloc_new _ _
  · have := heap_alloc_new (w.alloc (.cells #[.int .i64 k, .bool x, .int .i64 n, .int .i64 a, .int .i64 l, .string s] 30)) emptyOb
    simpa using this
section
variable {own : Nat → Prop} {rb : Nat} {v : Value} {R : List RC} {w : World}
end
end Go.Proofs.Ytlkbnldpecolbaa

/- heap: Array, String, Dict, Items, Lock, whatever is asked. -/
namespace Go.Proofs.Ytlkbnldpecolbaa
open Go.RowKit
set_option linter.unusedVariables false

/-- String. -/
def strE (P : List Cel) (s : ByteArray) : Int := mkE P s.size
def strO (P : List Cel) (s : ByteArray) : Ob := mkO P 8 s.size
def strQ (P : List Cel) (s : ByteArray) : List Cel := mkP P ⟨8, false, [], s.data.toList⟩
theorem str_size (s : ByteArray) : (⟨8, false, [], s.data.toList⟩ : Cel).size = s.size := by
  show 0 + s.data.toList.length = s.size
  rw [Array.length_toList, Nat.zero_add]
  rfl
section
variable {role : Nat → Nat × Nat} {c hb : Nat} {vc : Value} {ivs : List Value} {pb : Nat → Nat} {rv : Nat → Value} {P : List Cel} {w w' : World}
theorem PH.heap (h : PH role c hb vc ivs pb rv P w) : PHeap role c hb P w := ⟨_, _, _, _, h⟩
theorem PH.kept (h : PH role c hb vc ivs pb rv P w) (k : Below w.heap.size w w') : ∃ role', PHeap role' c hb P w' ∧ Keep role c w role' w' := ⟨role, ⟨_, _, _, _, h.below k⟩, Keep.of_below c k⟩
theorem mk_room (P : List Cel) (n : Nat) : (mkE P n = 0 ↔ P.length < 2000 ∧ n + usedP P ≤ 40000) ∧ (mkE P n ≠ 0 → mkE P n = 5) := by
  unfold mkE
  by_cases q : P.length < 2000 ∧ usedP P + n ≤ 40000
  · rw [if_pos q]
    exact ⟨⟨fun _ => ⟨q.1, by omega⟩, fun _ => rfl⟩, fun h => absurd rfl h⟩
  · rw [if_neg q]
    exact ⟨⟨fun h => absurd h (by decide), fun h => absurd ⟨h.1, by omega⟩ q⟩, fun _ => rfl⟩
theorem string_tot (h : PH role c hb vc ivs pb rv P w) (s : ByteArray) : Calls Try.prog 61 #[ptr hb, .string s] w fun e w' => e = .returned (.tuple #[(strO P s).val, .int .i64 (strE P s)]) ∧ ∃ role', PHeap role' c hb (strQ P s) w' ∧ Keep role c w role' w' := by
  obtain ⟨q1, q2⟩ := mk_room P s.size
  rw [strO, strE, strQ, mkO, mkP, str_size]
  by_cases q : mkE P s.size = 0
  · rw [q, if_pos rfl, if_pos rfl]
    have hq := q1.1 q
    exact string_ok h s hq.1 hq.2
  · rw [if_neg q, if_neg q, q2 q]
    refine (string_limit h s (fun hh => q (q1.2 ⟨hh.1, by omega⟩))).mono ?_
    rintro e w' ⟨rfl, k⟩
    exact ⟨rfl, h.kept k⟩
theorem dict_tot (h : PH role c hb vc ivs pb rv P w) (n : Int) : Calls Try.prog 44 #[ptr hb, .int .i64 n] w fun e w' => e = .returned (.tuple #[(dicO P n).val, .int .i64 (dicE P n)]) ∧ ∃ role', PHeap role' c hb (dicP P n) w' ∧ Keep role c w role' w' := by
  by_cases h0 : n < 0 ∨ 1000 < n
  · rw [show dicE P n = 2 from by rw [dicE, if_pos h0], show dicO P n = Ob.zero from by rw [dicO, dicE, if_pos h0]; rfl, show dicP P n = P from by rw [dicP, if_pos h0]]
    refine (dict_range h n h0).mono ?_
    rintro e w' ⟨rfl, k⟩
    exact ⟨rfl, h.kept k⟩
  · obtain ⟨m, rfl⟩ := Int.eq_ofNat_of_zero_le (by omega : 0 ≤ n)
    obtain ⟨q1, q2⟩ := mk_room P (2 * m + 1)
    have e1 : dicE P (m : Int) = mkE P (2 * m + 1) := by rw [dicE, if_neg h0]; rfl
    have e3 : dicP P (m : Int) = mkP P ⟨10, false, emptyD m, []⟩ := by rw [dicP, if_neg h0]; rfl
    have e2 : dicO P (m : Int) = mkO P 10 (2 * m + 1) := by
      rw [dicO, e1]
      by_cases q : mkE P (2 * m + 1) = 0
      · rw [if_pos q]; rfl
      · rw [if_neg q, mkO, if_neg q]
    have hsz : (⟨10, false, emptyD m, []⟩ : Cel).size = 2 * m + 1 := by simp [Cel.size, emptyD_length]
    rw [e1, e2, e3, mkO, mkP, hsz]
    by_cases q : mkE P (2 * m + 1) = 0
    · rw [q, if_pos rfl, if_pos rfl]
      have hq := q1.1 q
      exact dict_ok h m (2 * m) rfl (by omega) hq.1 (by omega)
    · rw [if_neg q, if_neg q, q2 q]
      refine (dict_limit h (m : Int) (by omega) (by omega) (fun hh => q (q1.2 ⟨hh.1, by omega⟩))).mono ?_
      rintro e w' ⟨rfl, k⟩
      exact ⟨rfl, h.kept k⟩
theorem items_tot (h : PH role c hb vc ivs pb rv P w) (o : Ob) : Calls Try.prog 59 #[ptr hb, o.val] w fun e w' => ∃ v, e = .returned (.tuple #[v, .int .i64 (itsE P o)]) ∧ ItemsOf w (itsL P o) v w' := by
  cases ho : okO P o
  · have hE := errO_no ho
    rw [show itsE P o = errO P o from by simp [itsE, ho], show itsL P o = [] from by simp [itsL, itsE, ho, hE]]
    refine (items_err hb o.k o.n o.a o.l (errO P o) o.x o.s w (by simpa using hE) (Lib.hid fun wx kx => find_no (h.below kx) o ho)).mono ?_
    rintro e w' ⟨rfl, k⟩
    exact ⟨_, rfl, .nil k⟩
  · by_cases hk : o.k = 8
    · rw [show itsE P o = 6 from by simp [itsE, ho, hk], show itsL P o = [] from by simp [itsL, itsE, ho, hk]]
      have hf := fun wx kx => find_ok (h.below (w' := wx) kx) o ho
      obtain ⟨b0, b1, b2, b3, _, _, b6, _⟩ := ok_bd ho
      have eT : celT (cellOf P o) = 134 := by unfold celT; rw [b6, if_pos hk]
      rw [eT] at hf
      refine (items_type hb (pb o.n.toNat) o.k o.n o.a o.l _ _ o.x o.s w (Lib.hid hf)).mono ?_
      rintro e w' ⟨rfl, k⟩
      exact ⟨_, rfl, .nil k⟩
    · rw [show itsE P o = 0 from by simp [itsE, ho, hk], show itsL P o = itemsL P o from by simp [itsL, itsE, ho, hk]]
      refine (items_is h o ho hk).mono ?_
      rintro e w' ⟨v, rfl, k1, k2⟩
      exact ⟨v, rfl, k1, k2⟩
theorem lock_tot (h : PH role c hb vc ivs pb rv P w) (o : Ob) : Calls Try.prog 75 #[ptr hb, o.val] w fun e w' => e = .returned (.int .i64 (errO P o)) ∧ ∃ role', PHeap role' c hb (lokP P o) w' ∧ Keep role c w role' w' := by
  cases ho : okO P o
  · have hE := errO_no ho
    rw [lokP, if_neg hE]
    refine (lock_err hb o.k o.n o.a o.l (errO P o) o.x o.s w (by simpa using hE) (Lib.hid fun wx kx => find_no (h.below kx) o ho)).mono ?_
    rintro e w' ⟨rfl, k⟩
    exact ⟨rfl, h.kept k⟩
  · have hE := errO_ok ho
    rw [lokP, if_pos hE, hE]
    refine (lock_is h o ho).mono ?_
    rintro e w' ⟨rfl, k1, k2⟩
    exact ⟨rfl, role, ⟨_, _, _, _, k1⟩, k2⟩
end
end Go.Proofs.Ytlkbnldpecolbaa

/- Walks of tympanref11: String, whatever is asked. -/
namespace Go.Proofs.Ytlkbnldpecolbaa
open Go.RowKit
set_option linter.unusedVariables false
set_option maxHeartbeats 2000000
set_option maxRecDepth 100000

section
variable {own : Nat → Prop} {rb : Nat} {v : Value} {R : List RC} {w : World}
end
end Go.Proofs.Ytlkbnldpecolbaa
