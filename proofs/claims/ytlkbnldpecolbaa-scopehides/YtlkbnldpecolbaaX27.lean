/- X27: V8, P8, P9, PA. -/
import Derived.Test.YtlkbnldpecolbaaX26
import Derived.Test.YtlkbnldpecolbaaX25
import Derived.Test.YtlkbnldpecolbaaX15
/- Walks of tympanlaw15: known. -/
namespace Go.Proofs.Ytlkbnldpecolbaa
open Go.RowKit
set_option linter.unusedVariables false

theorem byName_add : byName ⟨#[97, 100, 100]⟩ = (11, 1, ⟨#[97, 100, 100]⟩) := by kernel_rfl
theorem byNum_1 : byNum 1 = (1, 1, ⟨#[112, 111, 112]⟩) := by kernel_rfl
theorem byNum_11 : byNum 11 = (11, 1, ⟨#[97, 100, 100]⟩) := by kernel_rfl
end Go.Proofs.Ytlkbnldpecolbaa

/- Walks of scope: define, New. -/
namespace Go.Proofs.Ytlkbnldpecolbaa
open Go.RowKit
set_option linter.unusedVariables false
set_option linter.unusedSimpArgs false
set_option maxRecDepth 100000
set_option maxHeartbeats 1000000

theorem sc_apart : (List.range 162).all (fun i => (List.range 162).all fun j => ((refAll.getD i ⟨#[]⟩).toList == (refAll.getD j ⟨#[]⟩).toList) == (i == j)) = true := by kernel_rfl
theorem sc_short : (List.range 162).all (fun i => decide ((refAll.getD i ⟨#[]⟩).size ≤ 100)) = true := by kernel_rfl
theorem sc_range {n : Nat} {p : Nat → Bool} (h : (List.range n).all p = true) (i : Nat) (hi : i < n) : p i = true := List.all_eq_true.1 h i (List.mem_range.2 hi)
/-- The name of the i-th operator, and the operator. -/
def nmAt (i : Nat) : Ob := nmO (refAll.getD i ⟨#[]⟩)
def opAt (i : Nat) : Ob := ⟨7, true, (i : Int) + 1, 0, 0, ⟨#[]⟩⟩
def prs (n : Nat) : List (Ob × Ob) := (List.range n).map fun i => (nmAt i, opAt i)
/-- The system dictionary behind n operators; at last. -/
def sysD (n : Nat) : Dc := ⟨prs n, 162, false⟩
def sysL : Dc := ⟨prs 162, 162, true⟩
def sysO : Ob := ⟨10, false, 0, 0, 0, ⟨#[]⟩⟩
def usrO : Ob := ⟨10, false, 1, 0, 0, ⟨#[]⟩⟩
def dsN (n : Nat) : List Dc := [sysD n, newD 200]
def ds0 : List Dc := [sysL, newD 200]
theorem prs_length (n : Nat) : (prs n).length = n := by simp [prs]
theorem prs_succ (n : Nat) : prs (n + 1) = prs n ++ [(nmAt n, opAt n)] := by simp [prs, List.range_succ]
theorem prs_get {n i : Nat} (h : i < n) : (prs n)[i]? = some (nmAt i, opAt i) := by simp [prs, h]
theorem nm_short {i : Nat} (h : i < 162) : (refAll.getD i ⟨#[]⟩).size ≤ 100 := by simpa using sc_range sc_short i h
theorem nm_apart {i j : Nat} (hi : i < 162) (hj : j < 162) (h : refAll.getD i ⟨#[]⟩ = refAll.getD j ⟨#[]⟩) : i = j := by
  have := sc_range (sc_range sc_apart i hi) j hj
  rw [h] at this
  simpa using this
theorem nm_fine {i : Nat} (h : i < 162) : (nmAt i).Fine := fine_may (by simp [nmAt, nmO, Ob.may, mayO, nameP]; simpa using nm_short h)
theorem prs_fine {n : Nat} (h : n ≤ 162) : ∀ p ∈ prs n, p.1.Fine := fun p hp => by
  obtain ⟨i, hi, rfl⟩ := List.mem_map.1 hp
  exact nm_fine (by have := List.mem_range.1 hi; omega)
theorem ixD_none {ps : List (Ob × Ob)} {k : Ob} : ∀ {n : Nat}, (∀ j, j < n → ∀ p, ps[j]? = some p → ¬ isKey k p.1) → ixD ps k n = none
  | 0, _ => rfl
  | n + 1, h => by
    rw [ixD, if_neg fun ⟨p, hp, hk⟩ => h n (Nat.lt_succ_self n) p hp hk]
    exact ixD_none fun j hj => h j (Nat.lt_succ_of_lt hj)
theorem ixD_at {ps : List (Ob × Ob)} {k : Ob} {i : Nat} {p : Ob × Ob} (hi : ps[i]? = some p) (hk : isKey k p.1) : ∀ {n : Nat}, i < n → (∀ j, i < j → j < n → ∀ p, ps[j]? = some p → ¬ isKey k p.1) → ixD ps k n = some i
  | 0, h, _ => by omega
  | n + 1, h, hno => by
    by_cases e : i = n
    · subst e
      rw [ixD, if_pos ⟨p, hi, hk⟩]
    · rw [ixD, if_neg fun ⟨p, hp, hk⟩ => hno n (by omega) (Nat.lt_succ_self n) p hp hk]
      exact ixD_at hi hk (by omega) fun j h1 h2 => hno j h1 (Nat.lt_succ_of_lt h2)
theorem isK_nm {i j : Nat} (hi : i < 162) (hj : j < 162) : isKey (nmAt i) (nmAt j) ↔ i = j := by
  rw [nmAt, nm_is]
  constructor
  · rintro ⟨_, h⟩
    exact (nm_apart hj hi h).symm
  · rintro rfl
    exact ⟨rfl, rfl⟩
theorem ix_new {n : Nat} (h : n < 162) : ixD (prs n) (nmAt n) (prs n).length = none := by
  rw [prs_length]
  refine ixD_none fun j hj p hp => ?_
  rw [prs_get hj] at hp
  cases hp
  rw [isK_nm h (by omega)]
  omega
theorem ix_old {i : Nat} (h : i < 162) : ixD (prs 162) (nmAt i) (prs 162).length = some i := by
  rw [prs_length]
  refine ixD_at (prs_get h) ((isK_nm h h).2 rfl) h fun j h1 h2 p hp => ?_
  rw [prs_get h2] at hp
  cases hp
  rw [isK_nm h h2]
  omega
theorem dsN_ok {n : Nat} (h : n ≤ 162) : DsOk (dsN n) := fun c hc => by
  rcases List.mem_cons.1 hc with rfl | hc
  · exact ⟨by rw [sysD, prs_length]; exact h, by show 162 ≤ 1000; decide, prs_fine h⟩
  · obtain rfl : c = newD 200 := by simpa using hc
    exact newD_ok 200 (by decide)
theorem ds0_ok : DsOk ds0 := fun c hc => by
  rcases List.mem_cons.1 hc with rfl | hc
  · exact ⟨by rw [sysL, prs_length]; exact Nat.le_refl _, by decide, prs_fine (Nat.le_refl _)⟩
  · obtain rfl : c = newD 200 := by simpa using hc
    exact newD_ok 200 (by decide)
theorem isD_sys {n : Nat} (h : 0 < n) : IsD n sysO := ⟨rfl, by decide, by decide, by show (0 : Int) < n; omega, rfl, rfl, rfl⟩
theorem isD_usr {n : Nat} (h : 1 < n) : IsD n usrO := ⟨rfl, by decide, by decide, by show (1 : Int) < n; omega, rfl, rfl, rfl⟩
theorem def_step {i : Nat} (h : i < 162) : dsetE (HD (dsN i)) (prs i) 162 false (nmAt i) (opAt i) = 0 ∧ setD (dsN i) (sysD i) sysO (nmAt i) (opAt i) = dsN (i + 1) := by
  have hk := nm_key (P := HD (dsN i)) (nm_short h)
  have e : dsetE (HD (dsN i)) (prs i) 162 false (nmAt i) (opAt i) = 0 := by
    have hm : mayH (HD (dsN i)) (opAt i) = true := by
      simp [mayH, opAt, Ob.may, mayO, onlyP, comp]
      omega
    have hx := ix_new h
    rw [show nmAt i = nmO (refAll.getD i ⟨#[]⟩) from rfl] at hx ⊢
    rw [dsetE, if_pos hk.1, hk.2, if_pos ⟨hm, rfl⟩, hx]
    simp only
    rw [if_neg (by rw [prs_length]; omega)]
  refine ⟨e, ?_⟩
  rw [setD, if_pos (show dsetE (HD (dsN i)) (sysD i).ps (sysD i).rm (sysD i).lk (nmAt i) (opAt i) = 0 from e)]
  have hx := ix_new h
  have : dsetL (sysD i).ps (keyO (HD (dsN i)) (nmAt i)) (opAt i) = prs (i + 1) := by
    rw [show keyO (HD (dsN i)) (nmAt i) = nmAt i from hk.2, prs_succ]
    show dsetL (prs i) (nmAt i) (opAt i) = _
    rw [dsetL, hx]
  rw [this]
  rfl
theorem def_lock : lockP (HD (dsN 162)) sysO = HD ds0 := rfl
section
variable {own : Nat → Prop} {hb : Nat} {w : World}
theorem opNm (i : Nat) (h : i < 162) (x : Int) (hx : x = (i : Int) + 1) (w : World) : Calls Try.prog 19 #[.int .i64 x] w fun e w' => e = .returned (.string (refAll.getD i ⟨#[]⟩)) ∧ Below w.heap.size w w' := by
  subst hx
  have := opName ((i : Int) + 1) w
  rw [byNum_in ((i : Int) + 1) (by omega) (by omega), show ((i : Int) + 1 - 1).toNat = i from by omega] at this
  exact this
theorem sLockSys (h : Sep own hb (HD (dsN 162)) w) : Calls Try.prog 75 #[ptr hb, obV 10 false 0 0 0 ⟨#[]⟩] w fun e w' => e = .returned (.int .i64 0) ∧ Sep own hb (HD ds0) w' ∧ Kept own w w' := by
  obtain ⟨role, ⟨vc, ivs, pb, rv, h1⟩, h2⟩ := h
  refine (lock_is h1 sysO (okO_hd (isD_sys (by decide)))).mono ?_
  rintro e w' ⟨rfl, q1, q2⟩
  rw [def_lock] at q1
  exact ⟨rfl, Sep.of_keep h2 ⟨vc, ivs, pb, rv, q1⟩ q2⟩
theorem define_any (h : Sep own hb (HD (dsN 0)) w) : Calls Try.prog 41 #[ptr hb, obV 10 false 0 0 0 ⟨#[]⟩] w fun e w' => e = .returned (.tuple #[]) ∧ Sep own hb (HD ds0) w' ∧ Kept own w w' := by
  have H := Lib.hid h
  clear h
  go_enter Try.func41, Try.ntmps41
  go_upto_region 1 with fail
  obtain ⟨w1, e1, s1, k1, o1⟩ := H.out.box_ob 10 false 0 0 0 ⟨#[]⟩
  rw [e1]
  have K1 := Lib.hid k1
  have O1 := Lib.hid o1
  have S1 := Lib.hid s1
  clear e1 s1 k1 o1
  go_wp2_with fail
  refine (opCount w1).mono ?_
  rintro e w2 ⟨rfl, k2⟩
  have S2 := Lib.hid (S1.out.below k2)
  clear k2
  go_wp2_with fail
  go_loopw [8] (fun x wr => ∃ i : Nat, i ≤ 162 ∧ x = .int .i64 i ∧ Sep (fun b => own b ∨ b = w.heap.size) hb (HD (dsN i)) wr ∧ Kept (fun b => own b ∨ b = w.heap.size) w1 wr) (fun x _ => 162 - (intOf x).toNat)
  case atStart => exact ⟨0, Nat.zero_le _, rfl, S2.out.1, S2.out.2⟩
  case round =>
    obtain ⟨i, hi, rfl, si, ki⟩ := hrel
    have SI := Lib.hid si
    have KI := Lib.hid ki
    have OI : Hid (wr.heap[w.heap.size]? = some (obObj 10 false 0 0 0 ⟨#[]⟩)) := Lib.hid ((ki.block _ (.inr rfl)).trans O1.out)
    clear si ki
    by_cases hlt : i < 162
    · have t1 : (i : Int) < 162 := by omega
      have w1' : IntKind.i64.wrap ((i : Int) + 1) = (i : Int) + 1 := IntWalk.i64_in _ (by omega)
      have w2' : wrap64 ((i : Int) + 1) = (i : Int) + 1 := by rw [← IntWalk.i64_left]; exact w1'
      have HL := Lib.hid hlt
      clear hi hlt
      obtain ⟨nm, hnm⟩ : ∃ nm, refAll.getD i ⟨#[]⟩ = nm := ⟨_, rfl⟩
      have HN := Lib.hid hnm
      have hop := Lib.hid fun wx => opNm i HL.out ((i : Int) + 1) rfl wx
      rw [hnm] at hop
      clear hnm
      go_wp2_with fail
      refine (hop.out _).mono ?_
      rintro e w3 ⟨rfl, k3⟩
      have S3 := Lib.hid (SI.out.below k3)
      clear k3
      go_upto_region 6 with fail
      obtain ⟨w4, e4, s4, k4, o4⟩ := S3.out.1.box_ob 5 false 0 0 0 nm
      rw [e4]
      have S4 := Lib.hid s4
      have K4 := Lib.hid (S3.out.2.trans k4)
      have O4 : Hid (w4.heap[w.heap.size]? = some (obObj 10 false 0 0 0 ⟨#[]⟩)) := Lib.hid (((S3.out.2.trans k4).block _ (.inr rfl)).trans OI.out)
      obtain ⟨⟨n0, n1, n2, n3, n4, n5⟩, _⟩ := cells6 o4
      obtain ⟨⟨c0, c1, c2, c3, c4, c5⟩, _⟩ := cells6 O4.out
      clear e4 s4 k4 o4
      go_wp2_with fail
      have hset := hSet (c := sysD i) S4.out (dsN_ok (Nat.le_of_lt HL.out)) (isD_sys (by show 0 < 2; decide)) rfl (nmAt i) (opAt i)
      rw [show dsetE (HD (dsN i)) (sysD i).ps (sysD i).rm (sysD i).lk (nmAt i) (opAt i) = 0 from (def_step HL.out).1, (def_step HL.out).2, show (nmAt i).val = obV 5 false 0 0 0 nm from by rw [nmAt, HN.out]; rfl] at hset
      refine hset.mono ?_
      rintro e w5 ⟨rfl, s5, k5⟩
      have S5 : Hid (Sep (fun b => own b ∨ b = w.heap.size) hb (HD (dsN (i + 1))) w5) := Lib.hid (s5.sub fun b q => .inl q)
      have K5 : Hid (Kept (fun b => own b ∨ b = w.heap.size) w1 w5) := Lib.hid ((KI.out.trans K4.out).trans (k5.sub fun b q => .inl q))
      clear hset s5 k5 n0 n1 n2 n3 n4 n5 c0 c1 c2 c3 c4 c5
      go_wp2
      go_roundw
      case rel => exact ⟨i + 1, HL.out, by simp, S5.out, K5.out⟩
      case measure => simp [intOf]; have := HL.out; omega
    · obtain rfl : i = 162 := by omega
      obtain ⟨⟨c0, c1, c2, c3, c4, c5⟩, _⟩ := cells6 OI.out
      go_wp2_with fail
      refine (sLockSys SI.out).mono ?_
      rintro e w3 ⟨rfl, s3, k3⟩
      have S3 := Lib.hid (s3.sub fun b q => Or.inl q)
      have K3 := Lib.hid (((K1.out.trans ((KI.out.trans k3).sub fun b q => Or.inl q))))
      clear s3 k3 c0 c1 c2 c3 c4 c5
      go_wp2
      go_end0
      exact ⟨rfl, S3.out, K3.out⟩
theorem SC.made (h : Sep own hb (HD ds0) w) : SC own hb (w.heap.size + 1) ds0 [sysO, usrO] ((w.alloc (.cells #[.int .i64 10, .bool false, .int .i64 0, .int .i64 0, .int .i64 0, .string ⟨#[]⟩, .int .i64 10, .bool false, .int .i64 1, .int .i64 0, .int .i64 0, .string ⟨#[]⟩] 30)).alloc (.cells #[ptr hb, .slice (some ⟨w.heap.size, 0, none⟩) 2 2] 76)) := by
  have row := World.ownsRow_lit (base := 0) (e := 30) (size := 6) w #[.int .i64 10, .bool false, .int .i64 0, .int .i64 0, .int .i64 0, .string ⟨#[]⟩, .int .i64 10, .bool false, .int .i64 1, .int .i64 0, .int .i64 0, .string ⟨#[]⟩] 2 (Nat.zero_le _) (by decide) rfl
  refine ⟨fun b => b = w.heap.size ∨ b = w.heap.size + 1, .slice (some ⟨w.heap.size, 0, none⟩) 2 2, ((h.box _).box _).sub ?_, ⟨?_, row.alloc _, by simp [Value.ownBlock], by decide, by decide⟩, .inr rfl, fun g e => .inl (by simpa [Value.ownBlock] using e.symm), fun b q e => ?_, ds0_ok, ?_⟩
  · rintro b ((rfl | rfl) | q)
    · exact .inl (.inr rfl)
    · exact .inr (by simp)
    · exact .inl (.inl q)
  · have := heap_alloc_new (w.alloc (.cells #[.int .i64 10, .bool false, .int .i64 0, .int .i64 0, .int .i64 0, .string ⟨#[]⟩, .int .i64 10, .bool false, .int .i64 1, .int .i64 0, .int .i64 0, .string ⟨#[]⟩] 30)) (.cells #[ptr hb, .slice (some ⟨w.heap.size, 0, none⟩) 2 2] 76)
    rwa [World.size_alloc] at this
  · have := h.lt b q
    omega
  · intro d hd
    rcases List.mem_cons.1 hd with rfl | hd
    · exact isD_sys (by decide)
    · obtain rfl : d = usrO := by simpa using hd
      exact isD_usr (by decide)
theorem scopeNew (h : Sep own hb [] w) : Calls Try.prog 9 #[ptr hb] w fun e w' => ∃ sb, e = .returned (.tuple #[ptr sb, .int .i64 0]) ∧ SC own hb sb ds0 [sysO, usrO] w' ∧ Kept own w w' := by
  have H := Lib.hid h
  clear h
  go_enter Try.func9, Try.ntmps9
  go_wp2_with fail
  refine (sCopy H.out).mono ?_
  rintro e w1 ⟨gb, rfl, d1, k1⟩
  have S1 : Hid (Sep own hb (HD []) w1) := Lib.hid d1.sep
  have K1 := Lib.hid k1
  clear d1 k1
  go_wp2_with fail
  refine (opCount w1).mono ?_
  rintro e w2 ⟨rfl, k2⟩
  have S2 := Lib.hid (S1.out.below k2)
  clear k2
  go_wp2_with fail
  have hn1 := hNew (ds := []) S2.out.1 162 (by decide) (by decide) (by decide)
  rw [show (([] : List Dc).length : Int) = 0 from rfl] at hn1
  refine hn1.mono ?_
  rintro e w3 ⟨rfl, s3, k3⟩
  have S3 : Hid (Sep own hb (HD [newD 162]) w3) := Lib.hid s3
  have K3 := Lib.hid ((K1.out.trans S2.out.2).trans k3)
  clear s3 k3 hn1
  go_upto_region 5 with fail
  obtain ⟨w4, e4, s4, k4, o4⟩ := S3.out.box_ob 10 false 0 0 0 ⟨#[]⟩
  rw [e4]
  have S4 := Lib.hid s4
  have K4 := Lib.hid (K3.out.trans k4)
  have O4 := Lib.hid o4
  clear e4 s4 k4 o4
  go_wp2_with fail
  have hn2 := hNew (ds := [newD 162]) S4.out 200 (by decide) (by decide) (by decide)
  rw [show (([newD 162] : List Dc).length : Int) = 1 from rfl] at hn2
  refine hn2.mono ?_
  rintro e w5 ⟨rfl, s5, k5⟩
  have S5 : Hid (Sep (fun b => own b ∨ b = w3.heap.size) hb (HD (dsN 0)) w5) := Lib.hid s5
  have K5 := Lib.hid (K4.out.trans (k5.sub fun b q => .inl q))
  have O5 : Hid (w5.heap[w3.heap.size]? = some (obObj 10 false 0 0 0 ⟨#[]⟩)) := Lib.hid ((k5.block _ (.inr rfl)).trans O4.out)
  clear s5 k5 hn2
  go_upto_region 8 with fail
  obtain ⟨w6, e6, s6, k6, o6⟩ := S5.out.box_ob 10 false 1 0 0 ⟨#[]⟩
  rw [e6]
  have S6 := Lib.hid s6
  have K6 := Lib.hid (K5.out.trans (k6.sub fun b q => .inl q))
  have O6 : Hid (w6.heap[w3.heap.size]? = some (obObj 10 false 0 0 0 ⟨#[]⟩)) := Lib.hid ((k6.block _ (.inr rfl)).trans O5.out)
  have P6 := Lib.hid o6
  obtain ⟨⟨c0, c1, c2, c3, c4, c5⟩, _⟩ := cells6 O6.out
  clear e6 s6 k6 o6
  go_wp2_with fail
  refine (define_any S6.out).mono ?_
  rintro e w7 ⟨rfl, s7, k7⟩
  have S7 : Hid (Sep own hb (HD ds0) w7) := Lib.hid (s7.sub fun b q => .inl (.inl q))
  have K7 := Lib.hid (K6.out.trans (k7.sub fun b q => .inl (.inl q)))
  obtain ⟨⟨o0, o1, o2, o3, o4, o5⟩, _⟩ := cells6 ((k7.block _ (.inl (.inr rfl))).trans O6.out)
  obtain ⟨⟨p0, p1, p2, p3, p4, p5⟩, _⟩ := cells6 ((k7.block _ (.inr rfl)).trans P6.out)
  clear s7 k7 c0 c1 c2 c3 c4 c5
  go_wp2
  go_ret2
  exact ⟨_, rfl, SC.made S7.out, K7.out.trans (kept_of (below_and (box_below w7 _) (box_below _ _)) fun b q => S7.out.lt b q)⟩
end
end Go.Proofs.Ytlkbnldpecolbaa

/- Scope: what Find returns for names; a state within a law. -/
namespace Go.Proofs.Ytlkbnldpecolbaa
open Go.RowKit
set_option linter.unusedVariables false
set_option linter.unusedSimpArgs false

section
variable {P : List Cel} {ps : List (Ob × Ob)} {s : ByteArray} {ds ds' : List Dc} {L : List Ob} {d q : Ob} {i : Nat}
theorem dget_nmE (hs : s.size ≤ 100) : dgetE P ps (nmO s) = if (ixD ps (nmO s) ps.length).isSome then 0 else 9 := by
  have h := nm_key (P := P) hs
  rw [dgetE, if_pos h.1, h.2]
theorem dget_nmO (hs : s.size ≤ 100) : dgetO P ps (nmO s) = match ixD ps (nmO s) ps.length with | some i => (ps.getD i (Ob.zero, Ob.zero)).2 | none => Ob.zero := by
  have h := nm_key (P := P) hs
  rw [dgetO, if_pos h.1, h.2]
  rfl
/-- Where a dictionary has a name; the value there. -/
def hasN (ds : List Dc) (d : Ob) (s : ByteArray) : Option Nat := ixD (dcOf ds d).ps (nmO s) (dcOf ds d).ps.length
def atN (ds : List Dc) (d : Ob) (i : Nat) : Ob := ((dcOf ds d).ps.getD i (Ob.zero, Ob.zero)).2
theorem topD_snoc : topD ds (L ++ [d]) q = if dgetE (HD ds) (dcOf ds d).ps q = 0 then some d else topD ds L q := by
  rw [topD, List.reverse_append, List.reverse_singleton, List.singleton_append, List.find?_cons]
  by_cases h : dgetE (HD ds) (dcOf ds d).ps q = 0 <;> simp [h, topD]
theorem fnd_top (hs : s.size ≤ 100) : fndE ds L (nmO s) = (if (topD ds L (nmO s)).isSome then 0 else 9) ∧ fndO ds L (nmO s) = (topD ds L (nmO s)).getD Ob.zero ∧ fndV ds L (nmO s) = (match topD ds L (nmO s) with | some d => dgetO (HD ds) (dcOf ds d).ps (nmO s) | none => Ob.zero) := by
  have hk := nm_key (P := HD ds) hs
  refine ⟨?_, ?_, ?_⟩
  · rw [fndE, if_pos hk.1, hk.2]
  · rw [fndO, if_pos hk.1, hk.2]
  · rw [fndV, if_pos hk.1, hk.2]
    rfl
theorem fnd_nil (hs : s.size ≤ 100) : fndE ds [] (nmO s) = 9 ∧ fndO ds [] (nmO s) = Ob.zero ∧ fndV ds [] (nmO s) = Ob.zero := by
  obtain ⟨h1, h2, h3⟩ := fnd_top (ds := ds) (L := []) hs
  rw [h1, h2, h3]
  exact ⟨rfl, rfl, rfl⟩
theorem fnd_yes (hs : s.size ≤ 100) (h : hasN ds d s = some i) : fndE ds (L ++ [d]) (nmO s) = 0 ∧ fndO ds (L ++ [d]) (nmO s) = d ∧ fndV ds (L ++ [d]) (nmO s) = atN ds d i := by
  have ht : topD ds (L ++ [d]) (nmO s) = some d := by
    rw [topD_snoc, dget_nmE hs, show ixD (dcOf ds d).ps (nmO s) (dcOf ds d).ps.length = some i from h]
    rfl
  obtain ⟨h1, h2, h3⟩ := fnd_top (ds := ds) (L := L ++ [d]) hs
  rw [h1, h2, h3, ht]
  refine ⟨rfl, rfl, ?_⟩
  show dgetO (HD ds) (dcOf ds d).ps (nmO s) = _
  rw [dget_nmO hs, show ixD (dcOf ds d).ps (nmO s) (dcOf ds d).ps.length = some i from h]
  rfl
theorem fnd_no (hs : s.size ≤ 100) (h : hasN ds d s = none) : fndE ds (L ++ [d]) (nmO s) = fndE ds L (nmO s) ∧ fndO ds (L ++ [d]) (nmO s) = fndO ds L (nmO s) ∧ fndV ds (L ++ [d]) (nmO s) = fndV ds L (nmO s) := by
  have ht : topD ds (L ++ [d]) (nmO s) = topD ds L (nmO s) := by
    rw [topD_snoc, dget_nmE hs, show ixD (dcOf ds d).ps (nmO s) (dcOf ds d).ps.length = none from h]
    rfl
  obtain ⟨h1, h2, h3⟩ := fnd_top (ds := ds) (L := L ++ [d]) hs
  obtain ⟨g1, g2, g3⟩ := fnd_top (ds := ds) (L := L) hs
  rw [h1, h2, h3, g1, g2, g3, ht]
  exact ⟨rfl, rfl, rfl⟩
theorem find_same {M : List Ob} {p q : Ob → Bool} (h : ∀ d ∈ M, p d = q d) : M.find? p = M.find? q := by
  induction M with
  | nil => rfl
  | cons a M ih => rw [List.find?_cons, List.find?_cons, h a (List.mem_cons_self ..), ih fun d hd => h d (List.mem_cons_of_mem _ hd)]
theorem fnd_same (hs : s.size ≤ 100) (h : ∀ d ∈ L, (dcOf ds d).ps = (dcOf ds' d).ps) : fndE ds L (nmO s) = fndE ds' L (nmO s) ∧ fndO ds L (nmO s) = fndO ds' L (nmO s) ∧ fndV ds L (nmO s) = fndV ds' L (nmO s) := by
  have ht : topD ds L (nmO s) = topD ds' L (nmO s) := find_same fun d hd => by
    rw [dget_nmE hs, dget_nmE hs, h d (List.mem_reverse.1 hd)]
  obtain ⟨h1, h2, h3⟩ := fnd_top (ds := ds) (L := L) hs
  obtain ⟨g1, g2, g3⟩ := fnd_top (ds := ds') (L := L) hs
  rw [h1, h2, h3, g1, g2, g3, ht]
  refine ⟨rfl, rfl, ?_⟩
  cases hd : topD ds' L (nmO s) with
  | none => rfl
  | some d =>
    have : d ∈ L := List.mem_reverse.1 (List.mem_of_find?_eq_some hd)
    show dgetO (HD ds) (dcOf ds d).ps (nmO s) = dgetO (HD ds') (dcOf ds' d).ps (nmO s)
    rw [dget_nmO hs, dget_nmO hs, h d this]
theorem hasN_new {n : Nat} (h : dcOf ds d = newD n) : hasN ds d s = none := by
  rw [hasN, h]
  rfl
/-- What the scope that New made finds. -/
theorem fnd0_usr (hs : s.size ≤ 100) : fndE ds0 [sysO, usrO] (nmO s) = fndE ds0 [sysO] (nmO s) ∧ fndO ds0 [sysO, usrO] (nmO s) = fndO ds0 [sysO] (nmO s) ∧ fndV ds0 [sysO, usrO] (nmO s) = fndV ds0 [sysO] (nmO s) := fnd_no (L := [sysO]) hs (hasN_new (n := 200) rfl)
theorem fnd0_op (h : i < 162) : fndE ds0 [sysO, usrO] (nmAt i) = 0 ∧ fndO ds0 [sysO, usrO] (nmAt i) = sysO ∧ fndV ds0 [sysO, usrO] (nmAt i) = opAt i := by
  have hs := nm_short h
  obtain ⟨h1, h2, h3⟩ := fnd0_usr hs
  obtain ⟨g1, g2, g3⟩ := fnd_yes (ds := ds0) (L := []) (d := sysO) (i := i) hs (ix_old h)
  rw [nmAt, h1, h2, h3]
  refine ⟨g1, g2, g3.trans ?_⟩
  show ((prs 162).getD i (Ob.zero, Ob.zero)).2 = opAt i
  rw [List.getD_eq_getElem?_getD, prs_get h]
  rfl
end
/-- The scope and its heap, and the boxes bs (a block and what lies in it); w0 is the world at the call. -/
structure Rs (w0 : World) (hb sb : Nat) (ds : List Dc) (L : List Ob) (bs : List (Nat × Obj)) (w : World) : Prop where
  st : ∃ out, SC out hb sb ds L w ∧ (∀ b, b < w0.heap.size → out b) ∧ ∀ p, p ∈ bs → out p.1
  box : ∀ p, p ∈ bs → w.heap[p.1]? = some p.2 ∧ w0.heap.size ≤ p.1
  nd : (bs.map (·.1)).Nodup
  below : Below w0.heap.size w0 w
section
variable {w0 w w' : World} {hb sb : Nat} {ds ds' : List Dc} {L L' : List Ob} {bs : List (Nat × Obj)}
theorem Rs.blk (h : Rs w0 hb sb ds L bs w) {p : Nat × Obj} (q : p ∈ bs) : p.1 < w.heap.size := by
  obtain ⟨out, h1, _, h3⟩ := h.st
  exact h1.lt (h3 p q)
/-- A call: what it leaves of what is ours. -/
theorem Rs.step (h : Rs w0 hb sb ds L bs w) : ∃ out, SC out hb sb ds L w ∧ ∀ (ds' : List Dc) (L' : List Ob) (w' : World), SC out hb sb ds' L' w' → Kept out w w' → Rs w0 hb sb ds' L' bs w' := by
  obtain ⟨out, h1, h2, h3⟩ := h.st
  exact ⟨out, h1, fun _ _ w' p k => ⟨⟨out, p, h2, h3⟩, fun q m => ⟨(k.block _ (h3 q m)).trans (h.box q m).1, (h.box q m).2⟩, h.nd, h.below.trans (k.below fun b q => h2 b q)⟩⟩
theorem Rs.call (h : Rs w0 hb sb ds L bs w) {f : Nat} {xs : Array Value} {v : Value} (C : ∀ out, SC out hb sb ds L w → Calls Try.prog f xs w fun e w' => e = .returned v ∧ SC out hb sb ds' L' w' ∧ Kept out w w') :
    Calls Try.prog f xs w fun e w' => e = .returned v ∧ Rs w0 hb sb ds' L' bs w' := by
  obtain ⟨out, h1, fin⟩ := h.step
  refine (C out h1).mono ?_
  rintro e w' ⟨rfl, s, k⟩
  exact ⟨rfl, fin _ _ _ s k⟩
theorem Rs.later (h : Rs w0 hb sb ds L bs w) (k : Below w.heap.size w w') : Rs w0 hb sb ds L bs w' := by
  obtain ⟨out, h1, fin⟩ := h.step
  exact fin _ _ w' (h1.below k) (h1.kept k)
theorem Rs.leaf (h : Rs w0 hb sb ds L bs w) {f : Nat} {xs : Array Value} {v : Value} (C : ∀ out, SC out hb sb ds L w → Calls Try.prog f xs w fun e w' => e = .returned v ∧ Below w.heap.size w w') :
    Calls Try.prog f xs w fun e w' => e = .returned v ∧ Rs w0 hb sb ds L bs w' := by
  obtain ⟨out, h1, fin⟩ := h.step
  refine (C out h1).mono ?_
  rintro e w' ⟨rfl, k⟩
  exact ⟨rfl, fin _ _ w' (h1.below k) (h1.kept k)⟩
theorem Rs.new (h : Rs w0 hb sb ds L bs w) (o : Obj) : Rs w0 hb sb ds L ((w.heap.size, o) :: bs) (w.alloc o) := by
  obtain ⟨out, h1, h2, h3⟩ := h.st
  have hn : w0.heap.size ≤ w.heap.size := h.below.size
  refine ⟨⟨_, h1.box o, fun b q => .inl (h2 b q), fun p q => ?_⟩, fun p q => ?_, ?_, h.below.trans ((box_below w o).mono hn)⟩
  · rcases List.mem_cons.1 q with rfl | q
    · exact .inr rfl
    · exact .inl (h3 p q)
  · rcases List.mem_cons.1 q with rfl | q
    · exact ⟨heap_alloc_new _ _, hn⟩
    · exact ⟨(Below.heap_alloc _ _ _ (h.blk q)).trans (h.box p q).1, (h.box p q).2⟩
  · rw [List.map_cons, List.nodup_cons]
    refine ⟨fun e => ?_, h.nd⟩
    obtain ⟨p, q, e⟩ := List.mem_map.1 e
    have := h.blk q
    omega
theorem Rs.sub {bs' : List (Nat × Obj)} (h : Rs w0 hb sb ds L bs w) (s : bs'.Sublist bs) : Rs w0 hb sb ds L bs' w := by
  obtain ⟨out, h1, h2, h3⟩ := h.st
  exact ⟨⟨out, h1, h2, fun p q => h3 p (s.subset q)⟩, fun p q => h.box p (s.subset q), h.nd.sublist (s.map _), h.below⟩
theorem Rs.swap {a b : Nat × Obj} (h : Rs w0 hb sb ds L (a :: b :: bs) w) : Rs w0 hb sb ds L (b :: a :: bs) w := by
  obtain ⟨out, h1, h2, h3⟩ := h.st
  have hp : ∀ p, p ∈ b :: a :: bs → p ∈ a :: b :: bs := fun p q => by simpa [or_left_comm] using q
  refine ⟨⟨out, h1, h2, fun p q => h3 p (hp p q)⟩, fun p q => h.box p (hp p q), ?_, h.below⟩
  have := h.nd
  simp only [List.map_cons, List.nodup_cons, List.mem_cons, not_or] at this ⊢
  exact ⟨⟨fun e => this.1.1 e.symm, this.2.1⟩, this.1.2, this.2.2⟩
/-- Two boxes more. -/
theorem Rs.two (h : Rs w0 hb sb ds L bs w) (a b : Ob) : ∃ wb, (w.alloc (.cells #[.int .i64 a.k, .bool a.x, .int .i64 a.n, .int .i64 a.a, .int .i64 a.l, .string a.s] 30)).alloc (.cells #[.int .i64 b.k, .bool b.x, .int .i64 b.n, .int .i64 b.a, .int .i64 b.l, .string b.s] 30) = wb ∧ Rs w0 hb sb ds L ((w.heap.size + 1, obObj b.k b.x b.n b.a b.l b.s) :: (w.heap.size, obObj a.k a.x a.n a.a a.l a.s) :: bs) wb := by
  have := (h.new (.cells #[.int .i64 a.k, .bool a.x, .int .i64 a.n, .int .i64 a.a, .int .i64 a.l, .string a.s] 30)).new (.cells #[.int .i64 b.k, .bool b.x, .int .i64 b.n, .int .i64 b.a, .int .i64 b.l, .string b.s] 30)
  rw [World.size_alloc] at this
  exact ⟨_, rfl, this⟩
theorem Rs.one (h : Rs w0 hb sb ds L bs w) (a : Ob) : ∃ wb, w.alloc (.cells #[.int .i64 a.k, .bool a.x, .int .i64 a.n, .int .i64 a.a, .int .i64 a.l, .string a.s] 30) = wb ∧ Rs w0 hb sb ds L ((w.heap.size, obObj a.k a.x a.n a.a a.l a.s) :: bs) wb := ⟨_, rfl, h.new _⟩
theorem Rs.at0 {p : Nat × Obj} (h : Rs w0 hb sb ds L (p :: bs) w) : w.heap[p.1]? = some p.2 := (h.box _ (List.mem_cons_self ..)).1
theorem Rs.at1 {p q : Nat × Obj} (h : Rs w0 hb sb ds L (q :: p :: bs) w) : w.heap[p.1]? = some p.2 := (h.box _ (List.mem_cons_of_mem _ (List.mem_cons_self ..))).1
theorem Rs.at2 {p q r : Nat × Obj} (h : Rs w0 hb sb ds L (r :: q :: p :: bs) w) : w.heap[p.1]? = some p.2 := (h.box _ (List.mem_cons_of_mem _ (List.mem_cons_of_mem _ (List.mem_cons_self ..)))).1
theorem Rs.at3 {p q r t : Nat × Obj} (h : Rs w0 hb sb ds L (t :: r :: q :: p :: bs) w) : w.heap[p.1]? = some p.2 := (h.box _ (List.mem_cons_of_mem _ (List.mem_cons_of_mem _ (List.mem_cons_of_mem _ (List.mem_cons_self ..))))).1
/-- The newest box is written. -/
theorem Rs.set {b : Nat} {o o' : Obj} (h : Rs w0 hb sb ds L ((b, o) :: bs) w) (on : Only b w w') (hb' : w'.heap[b]? = some o') : Rs w0 hb sb ds L ((b, o') :: bs) w' := by
  obtain ⟨out, h1, h2, h3⟩ := h.st
  have ob : out b := h3 _ (List.mem_cons_self ..)
  have hb0 : w0.heap.size ≤ b := (h.box _ (List.mem_cons_self ..)).2
  have nd := h.nd
  rw [List.map_cons, List.nodup_cons] at nd
  refine ⟨⟨out, (h1.mine (kept_only on fun q => q.2 ob)).sub fun b q => .inl q, h2, fun p q => ?_⟩, fun p q => ?_, ?_, h.below.trans (Kept.below (kept_only on (own := fun c => c < w0.heap.size) fun q => Nat.lt_irrefl _ (Nat.lt_of_lt_of_le q hb0)) fun _ q => q)⟩
  · rcases List.mem_cons.1 q with rfl | q
    · exact ob
    · exact h3 p (List.mem_cons_of_mem _ q)
  · rcases List.mem_cons.1 q with rfl | q
    · exact ⟨hb', hb0⟩
    · refine ⟨(on.block _ fun e => nd.1 (List.mem_map.2 ⟨p, q, e⟩)).trans (h.box p (List.mem_cons_of_mem _ q)).1, (h.box p (List.mem_cons_of_mem _ q)).2⟩
  · rw [List.map_cons, List.nodup_cons]
    exact nd
end
/-- A law begins: its heap, its scope. -/
theorem Rs.start {w0 w : World} {hb : Nat} {bs : List (Nat × Obj)} (h : Sep (fun b => b < w0.heap.size ∨ b ∈ bs.map (·.1)) hb [] w) (k : Below w0.heap.size w0 w) (hbx : ∀ p, p ∈ bs → w.heap[p.1]? = some p.2 ∧ w0.heap.size ≤ p.1) (hn : (bs.map (·.1)).Nodup) :
    Calls Try.prog 9 #[ptr hb] w fun e w' => ∃ sb, e = .returned (.tuple #[ptr sb, .int .i64 0]) ∧ Rs w0 hb sb ds0 [sysO, usrO] bs w' := by
  refine (scopeNew h).mono ?_
  rintro e w' ⟨sb, rfl, s, kk⟩
  exact ⟨sb, rfl, ⟨_, s, fun b q => .inl q, fun p q => .inr (List.mem_map.2 ⟨p, q, rfl⟩)⟩, fun p q => ⟨(kk.block _ (.inr (List.mem_map.2 ⟨p, q, rfl⟩))).trans (hbx p q).1, (hbx p q).2⟩, hn, k.trans (kk.below fun b q => .inl q)⟩
end Go.Proofs.Ytlkbnldpecolbaa

/- Scope: the laws' name and known case. -/
namespace Go.Proofs.Ytlkbnldpecolbaa
open Go.RowKit
set_option linter.unusedVariables false
set_option linter.unusedSimpArgs false
set_option maxHeartbeats 1000000

theorem scName (s : ByteArray) (w : World) : Calls Try.prog 11 #[.string s] w fun e w' => e = .returned (obV 5 false 0 0 0 s) ∧ Below w.heap.size w w' := by
  go_enter Try.func11, Try.ntmps11
  go_upto_region 1 with fail
  obtain ⟨wb, eb, kb, ob⟩ : ∃ wb, w.alloc (.cells #[.int .i64 0, .bool false, .int .i64 0, .int .i64 0, .int .i64 0, .string ⟨#[]⟩] 30) = wb ∧ Below w.heap.size w wb ∧ wb.heap[w.heap.size]? = some (obObj 0 false 0 0 0 ⟨#[]⟩) := ⟨_, rfl, box_below _ _, heap_alloc_new _ _⟩
  rw [eb]
  have KB := Lib.hid kb
  have OB := Lib.hid ob
  obtain ⟨⟨o0, o1, o2, o3, o4, o5⟩, f0, f1, f2, f3, f4, f5⟩ := cells6 ob
  clear eb kb ob
  go_wp2
  (try simp only [Exit.inBlock, Exit.then])
  refine bodyPost_ret (results_cell_row rfl _ _ _ _ _ _ _ rfl (set6 OB.out _ _ _ _ _ _) Try.underlying30 rfl (by kernel_rfl)) rfl ⟨rfl, set6_below KB.out (Nat.le_refl _) _ _ _ _ _ _⟩
theorem nm_add : nmAt 10 = nmO ⟨#[97, 100, 100]⟩ := by kernel_rfl
theorem find_add : fndE ds0 [sysO, usrO] (nmO ⟨#[97, 100, 100]⟩) = 0 ∧ fndO ds0 [sysO, usrO] (nmO ⟨#[97, 100, 100]⟩) = sysO ∧ fndV ds0 [sysO, usrO] (nmO ⟨#[97, 100, 100]⟩) = ⟨7, true, 11, 0, 0, ⟨#[]⟩⟩ := by
  have := fnd0_op (i := 10) (by decide)
  rwa [nm_add] at this
theorem scKnown (w : World) : Calls Try.prog 7 #[] w fun e w' => e = .returned (.bool true) ∧ Below w.heap.size w w' := by
  go_enter Try.func7, Try.ntmps7
  go_wp2_with fail
  refine (new_any w).mono ?_
  rintro e w1 ⟨rfl, rfl⟩
  obtain ⟨w1, e1, s1, b1⟩ : ∃ w1, w.alloc (.cells #[.slice none 0 0, .int .i64 0] 72) = w1 ∧ Sep (fun b => b < w.heap.size ∨ b ∈ ([] : List (Nat × Obj)).map (·.1)) w.heap.size [] w1 ∧ Below w.heap.size w w1 := ⟨_, rfl, (Sep.new w).sub (fun b q => q.elim id (fun q => by simp at q)), box_below _ _⟩
  rw [e1]
  have S1 := Lib.hid s1
  have B1 := Lib.hid b1
  clear e1 s1 b1
  go_wp2_with fail
  refine (Rs.start S1.out B1.out (by simp) (by simp)).mono ?_
  rintro e w2 ⟨sb, rfl, r2⟩
  have R := Lib.hid r2
  clear S1 B1 r2
  go_wp2_with fail
  refine (scName _ _).mono ?_
  rintro e w3 ⟨rfl, k3⟩
  replace R := Lib.hid (R.out.later k3)
  clear k3
  go_wp2_with fail
  have hf := R.out.leaf fun out h => xFind h (nmO ⟨#[97, 100, 100]⟩)
  rw [find_add.1, find_add.2.1, find_add.2.2] at hf
  simp only [Ob.val, sysO] at hf
  refine hf.mono ?_
  rintro e w4 ⟨rfl, r4⟩
  replace R := Lib.hid r4
  clear hf r4
  go_upto_region 6 with fail
  obtain ⟨w5, e5, r5⟩ := R.out.two ⟨7, true, 11, 0, 0, ⟨#[]⟩⟩ sysO
  simp only [sysO] at e5 r5
  rw [e5]
  have A0 := Lib.hid r5.at1
  have A1 := Lib.hid r5.at0
  replace R := Lib.hid r5
  obtain ⟨⟨c0, c1, c2, c3, c4, c5⟩, _⟩ := cells6 A0.out
  obtain ⟨⟨d0, d1, d2, d3, d4, d5⟩, _⟩ := cells6 A1.out
  clear e5 r5
  go_wp2_with fail
  have hd := R.out.leaf fun out h => (xDepth h).mono fun e w' q => ⟨q.1, q.2 ▸ Below.refl _ _⟩
  refine hd.mono ?_
  rintro e w6 ⟨rfl, r6⟩
  replace R := Lib.hid r6
  clear hd r6 c0 c1 c2 c3 c4 c5 d0 d1 d2 d3 d4 d5
  go_wp2_with fail
  have he := R.out.leaf fun out h => (xEndNo h rfl).mono fun e w' q => ⟨q.1, q.2 ▸ Below.refl _ _⟩
  refine he.mono ?_
  rintro e w7 ⟨rfl, r7⟩
  have B := Lib.hid r7.below
  clear he r7
  go_wp2
  go_ret
  exact ⟨ret_bool (by decide), B.out⟩
end Go.Proofs.Ytlkbnldpecolbaa
