/- ScopeHides: the walk, all cases. -/
import Derived.Test.YtlkbnldpecolbaaPF
import Derived.Test.YtlkbnldpecolbaaPH
import Derived.Test.YtlkbnldpecolbaaPI
import Derived.Test.YtlkbnldpecolbaaPG
import Derived.Test.YtlkbnldpecolbaaPJ
import Derived.Test.YtlkbnldpecolbaaPK
namespace Go.Proofs.Ytlkbnldpecolbaa
open Go.RowKit
set_option linter.unusedVariables false
set_option linter.unusedSimpArgs false
theorem hides_own (k : ByteArray) (b c : Int) (hb0 : 0 ≤ b) (hb1 : b ≤ 255) (hc0 : 0 ≤ c) (hc1 : c ≤ 255) (w : World) : Calls Try.prog 3 #[.string k, .int .u8 b, .int .u8 c, .bool false] w fun e w' => e = .returned (.bool true) ∧ Below w.heap.size w w' := by
  obtain ⟨r, hr⟩ : ∃ r : Nat, b.tmod 10 = r := ⟨(b.tmod 10).toNat, by rw [Int.tmod_eq_emod_of_nonneg hb0]; omega⟩
  obtain ⟨p, hp⟩ : ∃ p : Nat, c.tmod 2 = p := ⟨(c.tmod 2).toNat, by rw [Int.tmod_eq_emod_of_nonneg hc0]; omega⟩
  by_cases hrp : r % 2 = p
  · exact hides_own_yes k b c hb0 hb1 hc0 hc1 r p hr hp hrp w
  · by_cases h0 : r = 0
    · exact hides_own_zero k b c hb0 hb1 hc0 hc1 r p hr hp ⟨h0, hrp⟩ w
    · exact hides_own_some k b c hb0 hb1 hc0 hc1 r p hr hp (r - 1) ⟨by omega, hrp⟩ w
theorem hides_add (k : ByteArray) (b c : Int) (hb0 : 0 ≤ b) (hb1 : b ≤ 255) (hc0 : 0 ≤ c) (hc1 : c ≤ 255) (w : World) : Calls Try.prog 3 #[.string k, .int .u8 b, .int .u8 c, .bool true] w fun e w' => e = .returned (.bool true) ∧ Below w.heap.size w w' := by
  obtain ⟨r, hr⟩ : ∃ r : Nat, b.tmod 10 = r := ⟨(b.tmod 10).toNat, by rw [Int.tmod_eq_emod_of_nonneg hb0]; omega⟩
  obtain ⟨p, hp⟩ : ∃ p : Nat, c.tmod 2 = p := ⟨(c.tmod 2).toNat, by rw [Int.tmod_eq_emod_of_nonneg hc0]; omega⟩
  by_cases hrp : r % 2 = p
  · exact hides_add_yes k b c hb0 hb1 hc0 hc1 r p hr hp hrp w
  · by_cases h0 : r = 0
    · exact hides_add_zero k b c hb0 hb1 hc0 hc1 r p hr hp ⟨h0, hrp⟩ w
    · exact hides_add_some k b c hb0 hb1 hc0 hc1 r p hr hp (r - 1) ⟨by omega, hrp⟩ w
end Go.Proofs.Ytlkbnldpecolbaa
