/- Walks of tympanref15: Count, Name, Number, Family. -/
import Derived.Test.YtmlkmgeddkpgiaaV4
import Derived.Test.YtmlkmgeddkpgiaaV6
namespace Go.Proofs.Ytmlkmgeddkpgiaa
open Go.RowKit
set_option linter.unusedVariables false

theorem find_range (g : Nat → Int × Int × ByteArray) (hg : ∀ i, (g i).1 = (i : Int) + 1) (m : Int) : ∀ n : Nat, ((List.range n).map g).find? (fun t => t.1 == m) = if 1 ≤ m ∧ m ≤ n then some (g (m - 1).toNat) else none
  | 0 => by simp; omega
  | n + 1 => by
    rw [List.range_succ, List.map_append, List.find?_append, find_range g hg m n]
    by_cases h : 1 ≤ m ∧ m ≤ n
    · rw [if_pos h, if_pos (by omega)]; rfl
    · rw [if_neg h]
      by_cases e : m = n + 1
      · rw [if_pos (by omega)]
        have : (m - 1).toNat = n := by omega
        rw [this]
        simp [hg, e]
      · rw [if_neg (by omega)]
        have : ((n : Int) + 1 == m) = false := by simp; omega
        simp [hg, this]
theorem byNum_in (m : Int) (h1 : 1 ≤ m) (h2 : m ≤ 162) : byNum m = (m, famE (m - 1).toNat, refAll.getD (m - 1).toNat ⟨#[]⟩) := by
  unfold byNum tab
  rw [find_range _ (fun _ => rfl), if_pos ⟨h1, h2⟩]
  have : (((m - 1).toNat : Nat) : Int) + 1 = m := by omega
  simp only [Option.getD_some, this]
theorem byNum_out (m : Int) (h : m < 1 ∨ 162 < m) : byNum m = (0, 0, ⟨#[]⟩) := by
  unfold byNum tab
  rw [find_range _ (fun _ => rfl), if_neg (by omega)]
  rfl
theorem refAll_length : refAll.length = 162 := by kernel_rfl
theorem tab_get (i : Nat) (h : i < 162) : tab[i]? = some ((i : Int) + 1, famE i, refAll.getD i ⟨#[]⟩) := by
  unfold tab
  rw [List.getElem?_map, List.getElem?_range h]
  rfl
theorem strs_at (i : Nat) (h : i < 162) : (strsV refAll)[i]? = some (.string (refAll.getD i ⟨#[]⟩)) := by
  unfold strsV
  have := refAll_length
  rw [List.getElem?_map, List.getD_eq_getElem?_getD, List.getElem?_eq_getElem (by omega)]
  rfl
/-- What all gives, as cells. -/
theorem all_cells (w : World) : Calls Try.prog 104 #[] w fun e w' => ∃ g cap, e = .returned (.slice (some ⟨g, 0, none⟩) 162 cap) ∧ (∀ i, i < 162 → w'.cell? ⟨g, i, none⟩ = some (.string (refAll.getD i ⟨#[]⟩))) ∧ Below w.heap.size w w' := by
  refine (all_any w).mono ?_
  rintro e w' ⟨v, rfl, ho, hB⟩
  obtain ⟨g, cap, rfl, _, _⟩ := ho.form (by decide)
  refine ⟨g, cap, rfl, fun i hi => ?_, hB⟩
  have := ho.cells rfl i _ (strs_at i hi)
  rwa [Addr.add_mid, Nat.zero_add] at this
set_option maxRecDepth 100000 in
theorem ropCount (w : World) : Calls Try.prog 60 #[] w fun e w' => e = .returned (.int .i64 162) ∧ Below w.heap.size w w' := by
  go_enter Try.func60, Try.ntmps60
  go_wp2_with fail
  refine (all_cells w).mono ?_
  rintro e wc ⟨g, cap, rfl, hc, k⟩
  go_wp2
  go_ret
  exact ⟨rfl, k⟩
set_option maxRecDepth 100000 in
theorem ropName (m : Int) (b1 : -9223372036854775808 ≤ m) (b2 : m ≤ 9223372036854775807) (w : World) : Calls Try.prog 62 #[.int .i64 m] w fun e w' => e = .returned (.string (byNum m).2.2) ∧ Below w.heap.size w w' := by
  by_cases h1 : m < 1
  · have e := byNum_out m (.inl h1)
    rw [e]
    go_enter Try.func62, Try.ntmps62
    go_wp2_with fail
    refine (all_cells w).mono ?_
    rintro e wc ⟨g, cap, rfl, hc, k⟩
    clear hc
    go_wp2
    go_ret
    exact ⟨rfl, k⟩
  · by_cases h2 : 162 < m
    · have e := byNum_out m (.inr h2)
      rw [e]
      go_enter Try.func62, Try.ntmps62
      go_wp2_with fail
      refine (all_cells w).mono ?_
      rintro e wc ⟨g, cap, rfl, hc, k⟩
      clear hc
      go_wp2
      go_ret
      exact ⟨rfl, k⟩
    · have e := byNum_in m (by omega) (by omega)
      rw [e]
      clear e
      obtain ⟨i, hi'⟩ : ∃ i : Nat, (m - 1).toNat = i := ⟨_, rfl⟩
      rw [hi']
      have hi : i < 162 := by omega
      have ew : IntKind.i64.wrap (m - 1) = (i : Int) := by rw [IntWalk.i64_in _ (by omega)]; omega
      clear hi'
      go_enter Try.func62, Try.ntmps62
      go_wp2_with fail
      refine (all_cells w).mono ?_
      rintro e wc ⟨g, cap, rfl, hc, k⟩
      have c := hc i hi
      clear hc
      go_wp2
      go_ret
      exact ⟨rfl, k⟩
theorem drop_tab (i : Nat) (h : i < 162) : tab.drop i = ((i : Int) + 1, famE i, refAll.getD i ⟨#[]⟩) :: tab.drop (i + 1) := by
  have hl := tab_length
  rw [List.drop_eq_getElem_cons (by omega)]
  have := tab_get i h
  rw [List.getElem?_eq_getElem (by omega)] at this
  rw [Option.some.inj this]
set_option maxHeartbeats 1000000 in
set_option maxRecDepth 100000 in
theorem ropNumber (q : ByteArray) (w : World) : Calls Try.prog 58 #[.string q] w fun e w' => e = .returned (.tuple #[.int .i64 (byName q).1, .bool (decide (0 < (byName q).1))]) ∧ Below w.heap.size w w' := by
  go_enter Try.func58, Try.ntmps58
  go_wp2_with fail
  refine (all_cells w).mono ?_
  rintro e wc ⟨g, cap, rfl, hc, k⟩
  have HC := Lib.hid hc
  have HK := Lib.hid k
  clear hc k
  go_wp2_with fail
  go_loop [5] (fun i => ∃ n : Nat, i = .int .i64 n ∧ n ≤ 162 ∧ tab.find? (fun t => t.2.2.toList == q.toList) = (tab.drop n).find? (fun t => t.2.2.toList == q.toList)) (fun i => (162 - intOf i).toNat)
  case atStart => exact ⟨0, rfl, by omega, rfl⟩
  case round =>
    obtain ⟨n, rfl, hn, hr⟩ := hrel
    by_cases hlt : n < 162
    · obtain ⟨S, hS⟩ : ∃ S, refAll.getD n ⟨#[]⟩ = S := ⟨_, rfl⟩
      have c := HC.out n hlt
      have hd := drop_tab n hlt
      rw [hS] at c hd
      have HD := Lib.hid hd
      clear hd hS
      have ew : IntKind.i64.wrap ((n : Int) + 1) = (n : Int) + 1 := IntWalk.i64_in _ (by omega)
      have HR := Lib.hid hr
      clear hr
      cases he : (S.toList == q.toList)
      · have HE := Lib.hid he
        go_wp2
        go_round
        case rel =>
          refine ⟨n + 1, by simp, by omega, ?_⟩
          rw [HR.out, HD.out, List.find?_cons, HE.out]
        case measure => simp [intOf]; omega
      · have HE : Hid (byName q = ((n : Int) + 1, famE n, S)) := Lib.hid (by
          unfold byName
          rw [HR.out, HD.out, List.find?_cons, he]
          rfl)
        go_wp2
        go_ret2
        rw [HE.out]
        have : decide ((0 : Int) < (n : Int) + 1) = true := decide_eq_true (by omega)
        exact ⟨by rw [this]; rfl, HK.out⟩
    · have e : n = 162 := by omega
      subst e
      have HE : Hid (byName q = (0, 0, ⟨#[]⟩)) := Lib.hid (by
        unfold byName
        rw [hr, List.drop_eq_nil_of_le (by rw [tab_length]; exact Nat.le_refl _)]
        rfl)
      clear hr
      go_wp2
      go_ret2
      rw [HE.out]
      exact ⟨rfl, HK.out⟩
def cumF : Nat → Int
  | 0 => 0 | 1 => 38 | 2 => 58 | 3 => 71 | 4 => 80 | 5 => 101 | _ => 162
theorem cumF_len (k : Nat) (h : k < 6) : ((refN ((k : Int) + 1)).length : Int) = cumF (k + 1) - cumF k ∧ 0 ≤ cumF k ∧ cumF k < cumF (k + 1) ∧ cumF (k + 1) ≤ 162 := by
  have : k = 0 ∨ k = 1 ∨ k = 2 ∨ k = 3 ∨ k = 4 ∨ k = 5 := by omega
  rcases this with rfl | rfl | rfl | rfl | rfl | rfl <;> exact ⟨by kernel_rfl, by decide, by decide, by decide⟩
theorem famE_of (k : Nat) (h : k < 6) (m : Int) (h1 : cumF k < m) (h2 : m ≤ cumF (k + 1)) : famE (m - 1).toNat = (k : Int) + 1 := by
  have : k = 0 ∨ k = 1 ∨ k = 2 ∨ k = 3 ∨ k = 4 ∨ k = 5 := by omega
  unfold famE
  rcases this with rfl | rfl | rfl | rfl | rfl | rfl <;> simp only [cumF] at h1 h2 <;> (repeat' split) <;> omega
set_option maxHeartbeats 1000000 in
set_option maxRecDepth 100000 in
theorem ropFamily (m : Int) (b1 : -9223372036854775808 ≤ m) (b2 : m ≤ 9223372036854775807) (w : World) : Calls Try.prog 64 #[.int .i64 m] w fun e w' => e = .returned (.int .i64 (byNum m).2.1) ∧ Below w.heap.size w w' := by
  by_cases h1 : m < 1
  · have e := byNum_out m (.inl h1)
    rw [e]
    go_enter Try.func64, Try.ntmps64
    go_wp2
    go_ret
    exact ⟨rfl, Below.refl _ _⟩
  · have hm1 : 1 ≤ m := by omega
    go_enter Try.func64, Try.ntmps64
    go_wp2_with fail
    go_loopw [0, 3] (fun x f wr => ∃ (k : Nat) (n : Int), k ≤ 6 ∧ f = .int .i64 ((k : Int) + 1) ∧ x = .int .i64 n ∧ n = m - cumF k ∧ 1 ≤ n ∧ n ≤ m ∧ Below w.heap.size w wr) (fun _ f _ => (7 - intOf f).toNat)
    case atStart => exact ⟨0, m, by omega, rfl, rfl, by simp [cumF], hm1, by omega, Below.refl _ _⟩
    case round =>
      obtain ⟨k, n, hk, rfl, rfl, hn, hn1, hnm, hB⟩ := hrel
      by_cases h6 : k < 6
      · have l1 : ((k : Int) + 1 ≤ 6) := by omega
        have e1 : IntKind.i64.wrap ((k : Int) + 1 + 1) = (k : Int) + 1 + 1 := IntWalk.i64_in _ (by omega)
        obtain ⟨hL, hc0, hc1, hc2⟩ := cumF_len k h6
        have hcall := names_any ((k : Int) + 1) (by omega) l1 wr
        generalize refN ((k : Int) + 1) = R at hL hcall
        have HB := Lib.hid (below_and hB (box_below wr (.cells (R.map Value.string).toArray 9)))
        generalize hwn : wr.alloc (.cells (R.map Value.string).toArray 9) = wn at hcall HB
        clear hwn hB
        generalize R.length = L at hL hcall
        by_cases hle : n ≤ L
        · have hf := famE_of k h6 m (by omega) (by omega)
          have e := byNum_in m hm1 (by omega)
          rw [hf] at e
          have HE := Lib.hid e
          clear hL hf e hn hc0 hc1 hc2
          go_wp2_with fail
          refine hcall.mono ?_
          rintro e w1 ⟨rfl, rfl⟩
          go_wp2
          go_ret
          rw [HE.out]
          exact ⟨rfl, HB.out⟩
        · have e2 : IntKind.i64.wrap (n - (L : Int)) = n - (L : Int) := IntWalk.i64_in _ (by omega)
          have HN : Hid (n - (L : Int) = m - cumF (k + 1) ∧ 1 ≤ n - (L : Int) ∧ n - (L : Int) ≤ m) := Lib.hid (by omega)
          clear hL hn hc0 hc1 hc2
          go_wp2_with fail
          refine hcall.mono ?_
          rintro e w1 ⟨rfl, rfl⟩
          go_wp2
          go_roundw
          case rel => exact ⟨k + 1, n - (L : Int), by omega, by simp, rfl, HN.out.1, HN.out.2.1, HN.out.2.2, HB.out⟩
          case measure => simp [intOf]; omega
      · have l1 : ¬ ((k : Int) + 1 ≤ 6) := by omega
        have hk6 : k = 6 := by omega
        subst hk6
        have HE := Lib.hid (byNum_out m (.inr (by simp only [cumF] at hn; omega)))
        clear hn
        go_wp2
        go_ret
        rw [HE.out]
        exact ⟨rfl, hB⟩
end Go.Proofs.Ytmlkmgeddkpgiaa
