/- Walks of root: greatest, Floor, Ceil. -/
import Derived.Test.YtiminclbkmkgnaaW4
import Derived.Test.YtiminclbkmkgnaaM5
namespace Go.Proofs.Ytiminclbkmkgnaa
open Go.RowKit
set_option linter.unusedVariables false

/-- The function value k over one captured variable answers P, in every world that grows from w. -/
def Fits (k b : Nat) (P : Int → Bool) (n : Nat) (w : World) : Prop :=
  ∀ x w1, 0 ≤ x → x < 2 ^ n → Below w.heap.size w w1 →
    Calls Try.prog k #[.int .u64 x, .pointer (some ⟨b, 0, none⟩)] w1 fun e w2 => e = .returned (.bool (P x)) ∧ Below w1.heap.size w1 w2

/-- A call of function k enters its body. -/
def Enters (k : Nat) : Prop := ∀ (args : Array Value) (w : World), (callFunc k args).run Try.prog w = .ok (.enter k args) w
theorem enters_of {k : Nat} {fn : Func} (hf : Try.prog.funcs[k]? = some fn) (hname : (fn.name == "runtime.NumGoroutine") = false) (hb : fn.body.isSome = true) : Enters k := by
  intro args w
  have h1 : fn.name ≠ "runtime.NumGoroutine" := by simpa using hname
  obtain ⟨c, hc⟩ := Option.isSome_iff_exists.mp hb
  simp [callFunc, hf, h1, hc]

/-- What stands at the loop's head, with j bits to go. -/
def GRel (P : Int → Bool) (n j : Nat) (x : Int) : Prop :=
  0 ≤ x ∧ x % 2 ^ j = 0 ∧ x + 2 ^ j ≤ 2 ^ n ∧ P x = true ∧ (x + 2 ^ j < 2 ^ n → P (x + 2 ^ j) = false)

def GRes (P : Int → Bool) (n : Nat) (w : World) (e : Ending) (w' : World) : Prop :=
  ∃ x, GRel P n 0 x ∧ e = .returned (.int .u64 x) ∧ Below w.heap.size w w'

theorem pow_le64 (n : Nat) (hn : n < 64) : (2 : Int) ^ n < 18446744073709551616 := by
  have h : (2 : Nat) ^ n < 2 ^ 64 := Nat.pow_lt_pow_of_lt (by decide) hn
  have e : ((2 ^ n : Nat) : Int) = (2 : Int) ^ n := by simp
  have : (2 : Nat) ^ 64 = 18446744073709551616 := by decide
  omega

/-- A bit laid below the ones that stand. -/
theorem or_bit (x : Int) (n j : Nat) (hn : n < 64) (h0 : 0 ≤ x) (hd : x % 2 ^ (j + 1) = 0) (hx : x + 2 ^ (j + 1) ≤ 2 ^ n) :
    bits .or .u64 x (IntKind.u64.wrap (2 ^ j)) = x + 2 ^ j := by
  have hp := pow_le64 n hn
  have hj : (0 : Int) < 2 ^ j := Int.pow_pos (by decide)
  have e2 : (2 : Int) ^ (j + 1) = 2 * 2 ^ j := by rw [Int.pow_succ]; omega
  have ew : IntKind.u64.wrap (2 ^ j) = 2 ^ j := wrapu_in _ (by omega) (by omega)
  rw [ew]
  obtain ⟨a, rfl⟩ := Int.eq_ofNat_of_zero_le h0
  have ej : ((2 ^ j : Nat) : Int) = (2 : Int) ^ j := by simp
  have ej1 : ((2 ^ (j + 1) : Nat) : Int) = (2 : Int) ^ (j + 1) := by simp
  rw [← ej]
  have h := bits_or_u64_nat a (2 ^ j) (by omega) (by omega)
  have hd' : a % 2 ^ (j + 1) = 0 := by rw [← ej1] at hd; omega
  have e : a ||| 2 ^ j = a + 2 ^ j := by
    have hq : a = 2 ^ (j + 1) * (a / 2 ^ (j + 1)) := by have := Nat.div_add_mod a (2 ^ (j + 1)); omega
    rw [hq, ← Nat.two_pow_add_eq_or_of_lt (Nat.pow_lt_pow_of_lt (by decide) (by omega)) (a / 2 ^ (j + 1))]
  rw [e] at h
  rw [h]; simp

theorem grel_yes {P : Int → Bool} {n j : Nat} {x : Int} (h : GRel P n (j + 1) x) (hp : P (x + 2 ^ j) = true) : GRel P n j (x + 2 ^ j) := by
  obtain ⟨h0, hd, hx, hP, hN⟩ := h
  have hj : (0 : Int) < 2 ^ j := Int.pow_pos (by decide)
  have e2 : (2 : Int) ^ (j + 1) = 2 * 2 ^ j := by rw [Int.pow_succ]; omega
  have e3 : x + 2 ^ j + 2 ^ j = x + 2 ^ (j + 1) := by omega
  refine ⟨by omega, ?_, by omega, hp, by rw [e3]; exact hN⟩
  have hdv : (2 : Int) ^ j ∣ x := by
    have := Int.dvd_of_emod_eq_zero hd
    rw [e2] at this
    exact Int.dvd_trans (Int.dvd_mul_left _ _) this
  exact Int.emod_eq_zero_of_dvd (Int.dvd_add hdv (Int.dvd_refl _))
theorem grel_no {P : Int → Bool} {n j : Nat} {x : Int} (h : GRel P n (j + 1) x) (hp : P (x + 2 ^ j) = false) : GRel P n j x := by
  obtain ⟨h0, hd, hx, hP, hN⟩ := h
  have hj : (0 : Int) < 2 ^ j := Int.pow_pos (by decide)
  have e2 : (2 : Int) ^ (j + 1) = 2 * 2 ^ j := by rw [Int.pow_succ]; omega
  refine ⟨h0, ?_, by omega, hP, fun _ => hp⟩
  have := Int.dvd_of_emod_eq_zero hd
  rw [e2] at this
  exact Int.emod_eq_zero_of_dvd (Int.dvd_trans (Int.dvd_mul_left _ _) this)

end Go.Proofs.Ytiminclbkmkgnaa
