/- ScopeStores: the walk. -/
import Derived.Test.YtlkbnldpecolbaaX28
namespace Go.Proofs.Ytlkbnldpecolbaa
open Go.RowKit
set_option linter.unusedVariables false
set_option linter.unusedSimpArgs false
set_option maxRecDepth 1000000
set_option maxHeartbeats 4000000

theorem dc_size {c : Dc} (h : c.ps.length ≤ c.rm) : c.cel.size = 2 * c.rm + 1 := by
  show (itemsD c.ps c.rm).length + ([] : List UInt8).length = _
  rw [itemsD_length h]
  rfl
theorem used_hd {ds : List Dc} (ok : DsOk ds) : usedP (HD ds) = (ds.map fun c => 2 * c.rm + 1).sum := by
  unfold usedP HD
  rw [List.map_map]
  congr 1
  exact List.map_congr_left fun c hc => dc_size (ok c hc).1
/-- A third dictionary. -/
def thrO : Ob := ⟨10, false, 2, 0, 0, ⟨#[]⟩⟩
/-- A dictionary with one name. -/
def oneD (nm : ByteArray) (v : Ob) (n : Nat) : Dc := ⟨[(nmO nm, v)], n, false⟩
section
variable {nm : ByteArray} {v u : Ob} {P : List Cel} {n : Nat} {ds : List Dc} {d : Ob}
theorem isK_self : isKey (nmO nm) (nmO nm) := nm_is.2 ⟨rfl, rfl⟩
theorem ix_one : ixD [(nmO nm, v)] (nmO nm) 1 = some 0 := ixD_at rfl isK_self (by decide) fun j h1 h2 => by omega
theorem hasN_one (h : dcOf ds d = oneD nm v n) : hasN ds d nm = some 0 := by
  rw [hasN, h]
  exact ix_one
theorem atN_one (h : dcOf ds d = oneD nm v n) : atN ds d 0 = v := by
  rw [atN, h]
  rfl
theorem set_new (hs : nm.size ≤ 100) (hv : mayH P v = true) (hn : 0 < n) : dsetE P [] n false (nmO nm) v = 0 ∧ dsetL [] (keyO P (nmO nm)) v = [(nmO nm, v)] := by
  have hk := nm_key (P := P) hs
  refine ⟨?_, by rw [hk.2]; rfl⟩
  rw [dsetE, if_pos hk.1, hk.2, if_pos ⟨hv, rfl⟩]
  show (if [].length = n then _ else _) = _
  rw [if_neg (by simp; omega)]
theorem set_one (hs : nm.size ≤ 100) (hv : mayH P v = true) : dsetE P [(nmO nm, u)] n false (nmO nm) v = 0 ∧ dsetL [(nmO nm, u)] (keyO P (nmO nm)) v = [(nmO nm, v)] := by
  have hk := nm_key (P := P) hs
  have hi : ixD [(nmO nm, u)] (nmO nm) [(nmO nm, u)].length = some 0 := ix_one
  refine ⟨?_, by rw [hk.2, dsetL, hi]; rfl⟩
  rw [dsetE, if_pos hk.1, hk.2, if_pos ⟨hv, rfl⟩, hi]
theorem may_z {v : Int} (h1 : -2147483647 ≤ v) (h2 : v ≤ 2147483647) : mayH P ⟨3, false, v, 0, 0, ⟨#[]⟩⟩ = true := by
  simp [mayH, Ob.may, mayO, onlyP, comp]
  omega
theorem may_null : mayH P ⟨1, false, 0, 0, 0, ⟨#[]⟩⟩ = true := by
  simp [mayH, Ob.may, mayO, onlyP, comp]
end
def nulO : Ob := ⟨1, false, 0, 0, 0, ⟨#[]⟩⟩
def dsB (nm : ByteArray) (v : Ob) : List Dc := [sysL, oneD nm v 200]
theorem one_ok {nm : ByteArray} {v : Ob} {n : Nat} (hs : nm.size ≤ 100) (h0 : 0 < n) (hn : n ≤ 1000) : (oneD nm v n).ps.length ≤ (oneD nm v n).rm ∧ (oneD nm v n).rm ≤ 1000 ∧ ∀ p ∈ (oneD nm v n).ps, p.1.Fine := by
  refine ⟨h0, hn, fun p hp => ?_⟩
  obtain rfl : p = (nmO nm, v) := by simpa [oneD] using hp
  exact fine_may (by simp [nmO, Ob.may, mayO, nameP, hs])
theorem isD_thr {n : Nat} (h : 2 < n) : IsD n thrO := ⟨rfl, by decide, by decide, by show (2 : Int) < n; omega, rfl, rfl, rfl⟩
section
variable {out : Nat → Prop} {hb sb : Nat} {w : World} {nm : ByteArray} {ds : List Dc} {L : List Ob}
theorem xNew3 (h : SC out hb sb ds L w) (hl : ds.length = 2) (hr : (ds.map fun c => 2 * c.rm + 1).sum = 726) : Calls Try.prog 12 #[ptr hb, .int .i64 3] w fun e w' => e = .returned (.tuple #[obV 10 false 2 0 0 ⟨#[]⟩, .int .i64 0]) ∧ SC out hb sb (ds ++ [newD 3]) L w' ∧ Kept out w w' := by
  have := xNew h 3 (by decide) (by omega) (by rw [used_hd h.ok, hr]; decide)
  rw [hl] at this
  exact this
/-- What is stored comes into the top one. -/
theorem xStoreTop (h : SC out hb sb (ds0 ++ [newD 3]) [sysO, usrO, thrO] w) (hs : nm.size ≤ 100) {v : Ob} (hv : ∀ P, mayH P v = true) :
    Calls Try.prog 17 #[ptr sb, (nmO nm).val, v.val] w fun e w' => e = .returned (.int .i64 0) ∧ SC out hb sb (ds0 ++ [oneD nm v 3]) [sysO, usrO, thrO] w' ∧ Kept out w w' := by
  have g1 := fnd_no (ds := ds0 ++ [newD 3]) (L := [sysO, usrO]) (d := thrO) hs (hasN_new (n := 3) rfl)
  have g2 := fnd_no (ds := ds0 ++ [newD 3]) (L := [sysO]) (d := usrO) hs (hasN_new (n := 200) rfl)
  have hset := set_new (P := HD (ds0 ++ [newD 3])) (n := 3) hs (hv _) (by decide)
  have e1 : setD (ds0 ++ [newD 3]) (newD 3) thrO (nmO nm) v = ds0 ++ [oneD nm v 3] := by
    rw [setD, show (newD 3).ps = [] from rfl, show (newD 3).rm = 3 from rfl, show (newD 3).lk = false from rfl, if_pos hset.1, hset.2]
    rfl
  cases hn : hasN (ds0 ++ [newD 3]) sysO nm with
  | none =>
    have g3 := fnd_no (ds := ds0 ++ [newD 3]) (L := []) (d := sysO) hs hn
    have g4 := fnd_nil (ds := ds0 ++ [newD 3]) hs
    have := xStoreNone h (m := 2) (d := thrO) (b := sysO) (c := newD 3) rfl rfl rfl (nmO nm) v (g1.1.trans (g2.1.trans (g3.1.trans g4.1)))
    rw [e1, show dsetE (HD (ds0 ++ [newD 3])) (newD 3).ps (newD 3).rm (newD 3).lk (nmO nm) v = 0 from hset.1] at this
    exact this
  | some i =>
    have g3 := fnd_yes (ds := ds0 ++ [newD 3]) (L := []) (d := sysO) hs hn
    have hO : fndO (ds0 ++ [newD 3]) [sysO, usrO, thrO] (nmO nm) = sysO := g1.2.1.trans (g2.2.1.trans g3.2.1)
    have := xStoreLow h (m := 2) (d := thrO) (b := sysO) (c := newD 3) rfl rfl rfl (nmO nm) v rfl (g1.1.trans (g2.1.trans g3.1)) (by rw [hO])
    rw [e1, show dsetE (HD (ds0 ++ [newD 3])) (newD 3).ps (newD 3).rm (newD 3).lk (nmO nm) v = 0 from hset.1] at this
    exact this
/-- What is stored comes where it was found. -/
theorem xStoreUsr (h : SC out hb sb (dsB nm nulO ++ [newD 3]) [sysO, usrO, thrO] w) (hs : nm.size ≤ 100) {v : Ob} (hv : ∀ P, mayH P v = true) :
    Calls Try.prog 17 #[ptr sb, (nmO nm).val, v.val] w fun e w' => e = .returned (.int .i64 0) ∧ SC out hb sb (dsB nm v ++ [newD 3]) [sysO, usrO, thrO] w' ∧ Kept out w w' := by
  have g1 := fnd_no (ds := dsB nm nulO ++ [newD 3]) (L := [sysO, usrO]) (d := thrO) hs (hasN_new (n := 3) rfl)
  have g2 := fnd_yes (ds := dsB nm nulO ++ [newD 3]) (L := [sysO]) (d := usrO) hs (hasN_one (v := nulO) (n := 200) rfl)
  have hO : fndO (dsB nm nulO ++ [newD 3]) [sysO, usrO, thrO] (nmO nm) = usrO := g1.2.1.trans g2.2.1
  have hset := set_one (P := HD (dsB nm nulO ++ [newD 3])) (n := 200) (u := nulO) hs (hv _)
  have e1 : setD (dsB nm nulO ++ [newD 3]) (oneD nm nulO 200) usrO (nmO nm) v = dsB nm v ++ [newD 3] := by
    rw [setD, show (oneD nm nulO 200).ps = [(nmO nm, nulO)] from rfl, show (oneD nm nulO 200).rm = 200 from rfl, show (oneD nm nulO 200).lk = false from rfl, if_pos hset.1, hset.2]
    rfl
  have := xStoreAt h (b := sysO) (c := oneD nm nulO 200) (nmO nm) v rfl (g1.1.trans g2.1) (by rw [hO]; decide) (by rw [hO]; rfl)
  rw [hO, e1, show dsetE (HD (dsB nm nulO ++ [newD 3])) (oneD nm nulO 200).ps (oneD nm nulO 200).rm (oneD nm nulO 200).lk (nmO nm) v = 0 from hset.1] at this
  exact this
theorem xDefUsr (h : SC out hb sb ds0 [sysO, usrO] w) (hs : nm.size ≤ 100) : Calls Try.prog 14 #[ptr sb, (nmO nm).val, nulO.val] w fun e w' => e = .returned (.int .i64 0) ∧ SC out hb sb (dsB nm nulO) [sysO, usrO] w' ∧ Kept out w w' := by
  have hset := set_new (P := HD ds0) (n := 200) (v := nulO) hs may_null (by decide)
  have e1 : setD ds0 (newD 200) usrO (nmO nm) nulO = dsB nm nulO := by
    rw [setD, show (newD 200).ps = [] from rfl, show (newD 200).rm = 200 from rfl, show (newD 200).lk = false from rfl, if_pos hset.1, hset.2]
    rfl
  have := xDef h (m := 1) (d := usrO) (c := newD 200) rfl rfl rfl (nmO nm) nulO
  rw [e1, show dsetE (HD ds0) (newD 200).ps (newD 200).rm (newD 200).lk (nmO nm) nulO = 0 from hset.1] at this
  exact this
end
theorem Rs.at4 {w0 w : World} {hb sb : Nat} {ds : List Dc} {L : List Ob} {bs : List (Nat × Obj)} {p q r t u : Nat × Obj} (h : Rs w0 hb sb ds L (u :: t :: r :: q :: p :: bs) w) : w.heap[p.1]? = some p.2 := (h.box _ (by simp)).1
theorem F1 (nm : ByteArray) (hs : nm.size ≤ 100) : fndE (dsB nm nulO ++ [newD 3]) ([sysO, usrO] ++ [thrO]) (nmO nm) = 0 ∧ fndO (dsB nm nulO ++ [newD 3]) ([sysO, usrO] ++ [thrO]) (nmO nm) = usrO ∧ fndV (dsB nm nulO ++ [newD 3]) ([sysO, usrO] ++ [thrO]) (nmO nm) = nulO := by
  have g1 := fnd_no (ds := dsB nm nulO ++ [newD 3]) (L := [sysO, usrO]) (d := thrO) hs (hasN_new (n := 3) rfl)
  have g2 := fnd_yes (ds := dsB nm nulO ++ [newD 3]) (L := [sysO]) (d := usrO) hs (hasN_one (v := nulO) (n := 200) rfl)
  exact ⟨g1.1.trans g2.1, g1.2.1.trans g2.2.1, g1.2.2.trans (g2.2.2.trans (atN_one (nm := nm) (n := 200) rfl))⟩
theorem F2 (nm : ByteArray) (hs : nm.size ≤ 100) (v : Ob) : fndE (dsB nm v ++ [newD 3]) [sysO, usrO, thrO] (nmO nm) = 0 ∧ fndO (dsB nm v ++ [newD 3]) [sysO, usrO, thrO] (nmO nm) = usrO ∧ fndV (dsB nm v ++ [newD 3]) [sysO, usrO, thrO] (nmO nm) = v := by
  have g1 := fnd_no (ds := dsB nm v ++ [newD 3]) (L := [sysO, usrO]) (d := thrO) hs (hasN_new (n := 3) rfl)
  have g2 := fnd_yes (ds := dsB nm v ++ [newD 3]) (L := [sysO]) (d := usrO) hs (hasN_one (v := v) (n := 200) rfl)
  exact ⟨g1.1.trans g2.1, g1.2.1.trans g2.2.1, g1.2.2.trans (g2.2.2.trans (atN_one (nm := nm) (n := 200) rfl))⟩
theorem F3 (nm : ByteArray) (hs : nm.size ≤ 100) (v : Ob) : fndE (ds0 ++ [oneD nm v 3]) [sysO, usrO, thrO] (nmO nm) = 0 ∧ fndO (ds0 ++ [oneD nm v 3]) [sysO, usrO, thrO] (nmO nm) = thrO ∧ fndV (ds0 ++ [oneD nm v 3]) [sysO, usrO, thrO] (nmO nm) = v := by
  have g1 := fnd_yes (ds := ds0 ++ [oneD nm v 3]) (L := [sysO, usrO]) (d := thrO) hs (hasN_one (v := v) (n := 3) rfl)
  exact ⟨g1.1, g1.2.1, g1.2.2.trans (atN_one (nm := nm) (n := 3) rfl)⟩
theorem stores_core (nm : ByteArray) (z : Int) (h1 : -32768 ≤ z) (h2 : z ≤ 32767) (deep : Bool) (w : World) : Calls Try.prog 4 #[.string nm, .int .i16 z, .bool deep] w fun e w' => e = .returned (.bool true) ∧ Below w.heap.size w w' := by
  have HZ : Hid (∀ z : Int, -32768 ≤ z → z ≤ 32767 → ∀ P, mayH P ⟨3, false, z, 0, 0, ⟨#[]⟩⟩ = true) := Lib.hid fun z h1 h2 P => may_z (by omega) (by omega)
  have q2 : IntKind.i64.wrap z = z := IntWalk.i64_in _ (by omega)
  have q4 : wrap64 z = z := by rw [← IntWalk.i64_left]; exact q2
  go_enter Try.func4, Try.ntmps4
  go_wp2_with fail
  refine (scKnown _).mono ?_
  rintro e w2 ⟨rfl, k2⟩
  have K2 := Lib.hid k2
  clear k2
  by_cases hs : (100 : Int) < nm.size
  · go_wp2
    go_ret
    exact ⟨rfl, K2.out⟩
  have HS : Hid (nm.size ≤ 100) := Lib.hid (by omega)
  go_wp2_with fail
  refine (new_any _).mono ?_
  rintro e w3 ⟨rfl, rfl⟩
  go_wp2_with fail
  refine (Rs.begin (w0 := w) (bs := []) K2.out (by simp) (by simp)).mono ?_
  rintro e w4 ⟨sb, rfl, r4⟩
  obtain ⟨hb, hhb⟩ : ∃ hb, w2.heap.size = hb := ⟨_, rfl⟩
  rw [hhb] at r4 ⊢
  have R := Lib.hid r4
  clear r4 hhb K2
  cases deep
  case false =>
    go_wp2_with fail
    have hc := R.out.call fun out h => xNew3 h rfl rfl
    refine hc.mono ?_
    rintro e w6 ⟨rfl, rr⟩
    replace R := Lib.hid rr
    clear hc rr 
    go_upto_region 12 with fail
    obtain ⟨w7, ee, rr⟩ := R.out.one thrO
    simp only [thrO] at ee rr
    rw [ee]
    replace R := Lib.hid rr
    clear ee rr
    obtain ⟨⟨c0, c1, c2, c3, c4, c5⟩, _⟩ := cells6 R.out.at0
    go_wp2_with fail
    have hc := R.out.call fun out h => xBegin h (d := thrO) (isD_thr (by show 2 < 3; decide)) (by decide)
    refine hc.mono ?_
    rintro e w8 ⟨rfl, rr⟩
    replace R := Lib.hid rr
    clear hc rr c0 c1 c2 c3 c4 c5
    go_wp2_with fail
    refine (scName _ _).mono ?_
    rintro e w9 ⟨rfl, kk⟩
    replace R := Lib.hid (R.out.later kk)
    clear kk
    obtain ⟨E1, h1⟩ : ∃ E1, fndE (ds0 ++ [newD 3]) [sysO, usrO, thrO] (nmO nm) = E1 := ⟨_, rfl⟩
    obtain ⟨O1, h2⟩ : ∃ O1, fndO (ds0 ++ [newD 3]) [sysO, usrO, thrO] (nmO nm) = O1 := ⟨_, rfl⟩
    obtain ⟨V1, h3⟩ : ∃ V1, fndV (ds0 ++ [newD 3]) [sysO, usrO, thrO] (nmO nm) = V1 := ⟨_, rfl⟩
    go_wp2_with fail
    have hc := R.out.leaf fun out h => xFind h (nmO nm)
    rw [show fndE (ds0 ++ [newD 3]) ([sysO, usrO] ++ [thrO]) (nmO nm) = E1 from h1, show fndO (ds0 ++ [newD 3]) ([sysO, usrO] ++ [thrO]) (nmO nm) = O1 from h2, show fndV (ds0 ++ [newD 3]) ([sysO, usrO] ++ [thrO]) (nmO nm) = V1 from h3] at hc
    simp only [Ob.val, nulO, thrO, sysO, usrO] at hc
    refine hc.mono ?_
    rintro e wa ⟨rfl, rr⟩
    replace R := Lib.hid rr
    clear hc rr
    go_upto_region 14 with fail
    obtain ⟨wab, ee, rr⟩ := R.out.two V1 O1
    (try simp only [nulO, thrO, sysO, usrO] at ee rr)
    rw [ee]
    replace R := Lib.hid rr
    clear ee rr
    clear h1 h2 h3
    go_wp2_with fail
    refine (scName _ _).mono ?_
    rintro e wc ⟨rfl, kk⟩
    replace R := Lib.hid (R.out.later kk)
    clear kk
    go_wp2_with fail
    have hc := R.out.call fun out h => xStoreTop h HS.out (HZ.out z h1 h2)
    refine hc.mono ?_
    rintro e wd ⟨rfl, rr⟩
    replace R := Lib.hid rr
    clear hc rr 
    go_wp2_with fail
    refine (scName _ _).mono ?_
    rintro e we ⟨rfl, kk⟩
    replace R := Lib.hid (R.out.later kk)
    clear kk
    go_wp2_with fail
    have hc := R.out.leaf fun out h => xFind h (nmO nm)
    rw [(F3 nm HS.out ⟨3, false, z, 0, 0, ⟨#[]⟩⟩).1, (F3 nm HS.out ⟨3, false, z, 0, 0, ⟨#[]⟩⟩).2.1, (F3 nm HS.out ⟨3, false, z, 0, 0, ⟨#[]⟩⟩).2.2] at hc
    simp only [Ob.val, nulO, thrO, sysO, usrO] at hc
    refine hc.mono ?_
    rintro e wf ⟨rfl, rr⟩
    replace R := Lib.hid rr
    clear hc rr
    go_upto_region 16 with fail
    obtain ⟨wfb, ee, rr⟩ := R.out.two ⟨3, false, z, 0, 0, ⟨#[]⟩⟩ thrO
    (try simp only [nulO, thrO, sysO, usrO] at ee rr)
    rw [ee]
    replace R := Lib.hid rr
    clear ee rr
    obtain ⟨⟨c0, c1, c2, c3, c4, c5⟩, _⟩ := cells6 R.out.at1
    obtain ⟨⟨d0, d1, d2, d3, d4, d5⟩, _⟩ := cells6 R.out.at0
    obtain ⟨⟨e0, e1, e2, e3, e4, e5⟩, _⟩ := cells6 R.out.at4
    go_wp2
    go_ret
    exact ⟨rfl, R.out.below⟩
  case true =>
    go_wp2_with fail
    refine (scName _ _).mono ?_
    rintro e w4 ⟨rfl, kk⟩
    replace R := Lib.hid (R.out.later kk)
    clear kk
    go_wp2_with fail
    have hc := R.out.call fun out h => xDefUsr h HS.out
    refine hc.mono ?_
    rintro e w5 ⟨rfl, rr⟩
    replace R := Lib.hid rr
    clear hc rr 
    go_wp2_with fail
    have hc := R.out.call fun out h => xNew3 h rfl rfl
    refine hc.mono ?_
    rintro e w6 ⟨rfl, rr⟩
    replace R := Lib.hid rr
    clear hc rr 
    go_upto_region 12 with fail
    obtain ⟨w7, ee, rr⟩ := R.out.one thrO
    simp only [thrO] at ee rr
    rw [ee]
    replace R := Lib.hid rr
    clear ee rr
    obtain ⟨⟨c0, c1, c2, c3, c4, c5⟩, _⟩ := cells6 R.out.at0
    go_wp2_with fail
    have hc := R.out.call fun out h => xBegin h (d := thrO) (isD_thr (by show 2 < 3; decide)) (by decide)
    refine hc.mono ?_
    rintro e w8 ⟨rfl, rr⟩
    replace R := Lib.hid rr
    clear hc rr c0 c1 c2 c3 c4 c5
    go_wp2_with fail
    refine (scName _ _).mono ?_
    rintro e w9 ⟨rfl, kk⟩
    replace R := Lib.hid (R.out.later kk)
    clear kk
    go_wp2_with fail
    have hc := R.out.leaf fun out h => xFind h (nmO nm)
    rw [(F1 nm HS.out).1, (F1 nm HS.out).2.1, (F1 nm HS.out).2.2] at hc
    simp only [Ob.val, nulO, thrO, sysO, usrO] at hc
    refine hc.mono ?_
    rintro e wa ⟨rfl, rr⟩
    replace R := Lib.hid rr
    clear hc rr
    go_upto_region 14 with fail
    obtain ⟨wab, ee, rr⟩ := R.out.two nulO usrO
    (try simp only [nulO, thrO, sysO, usrO] at ee rr)
    rw [ee]
    replace R := Lib.hid rr
    clear ee rr
    go_wp2_with fail
    refine (scName _ _).mono ?_
    rintro e wc ⟨rfl, kk⟩
    replace R := Lib.hid (R.out.later kk)
    clear kk
    go_wp2_with fail
    have hc := R.out.call fun out h => xStoreUsr h HS.out (HZ.out z h1 h2)
    refine hc.mono ?_
    rintro e wd ⟨rfl, rr⟩
    replace R := Lib.hid rr
    clear hc rr 
    go_wp2_with fail
    refine (scName _ _).mono ?_
    rintro e we ⟨rfl, kk⟩
    replace R := Lib.hid (R.out.later kk)
    clear kk
    go_wp2_with fail
    have hc := R.out.leaf fun out h => xFind h (nmO nm)
    rw [(F2 nm HS.out ⟨3, false, z, 0, 0, ⟨#[]⟩⟩).1, (F2 nm HS.out ⟨3, false, z, 0, 0, ⟨#[]⟩⟩).2.1, (F2 nm HS.out ⟨3, false, z, 0, 0, ⟨#[]⟩⟩).2.2] at hc
    simp only [Ob.val, nulO, thrO, sysO, usrO] at hc
    refine hc.mono ?_
    rintro e wf ⟨rfl, rr⟩
    replace R := Lib.hid rr
    clear hc rr
    go_upto_region 16 with fail
    obtain ⟨wfb, ee, rr⟩ := R.out.two ⟨3, false, z, 0, 0, ⟨#[]⟩⟩ usrO
    (try simp only [nulO, thrO, sysO, usrO] at ee rr)
    rw [ee]
    replace R := Lib.hid rr
    clear ee rr
    obtain ⟨⟨c0, c1, c2, c3, c4, c5⟩, _⟩ := cells6 R.out.at1
    obtain ⟨⟨d0, d1, d2, d3, d4, d5⟩, _⟩ := cells6 R.out.at0
    obtain ⟨⟨e0, e1, e2, e3, e4, e5⟩, _⟩ := cells6 R.out.at2
    go_wp2
    go_ret
    exact ⟨rfl, R.out.below⟩
end Go.Proofs.Ytlkbnldpecolbaa
