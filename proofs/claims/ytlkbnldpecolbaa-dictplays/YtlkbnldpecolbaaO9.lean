/- Objects as arguments: opened ahead of a walk, shut behind it. -/
import Derived.Test.YtlkbnldpecolbaaY02
import Derived.WideShapes
import Derived.ChangeSame
namespace Go.Proofs.Ytlkbnldpecolbaa
open Go.RowKit Go.ChangeShapes Go.WideShapes
set_option linter.unusedVariables false
set_option maxRecDepth 100000

/-- An object that came in. -/
theorem open_ob {H : Type} {enc : TypeId × Value → H} {w : World} {base : Nat} {spare : Nat → Bool} {held : Bool} {r : Reach} {b0 : Nat} {v : Value} {d : DataW H} {p : List MemPlace}
    (hv : Value.okWide Try.prog w r b0 30 v) (h : DataW.Trod enc Try.prog w base spare held 30 v d p) :
    ∃ (k : Int) (x : Bool) (n a l : Int) (s : ByteArray), v = .agg #[.int .i64 k, .bool x, .int .i64 n, .int .i64 a, .int .i64 l, .string s] ∧ d = .agg [.lit (.int .i64 k), .lit (.bool x), .lit (.int .i64 n), .lit (.int .i64 a), .lit (.int .i64 l), .lit (.string s.data.toList)] ∧ p = [] ∧
      (Lit.int .i64 k).wf = true ∧ (Lit.int .i64 n).wf = true ∧ (Lit.int .i64 a).wf = true ∧ (Lit.int .i64 l).wf = true ∧ s.size ≤ maxLen := by
  have hC : Try.prog.cellsOf 30 = 6 := by kernel_rfl
  have z3 : Try.prog.cellsOf 3 = 1 := by kernel_rfl
  have z4 : Try.prog.cellsOf 4 = 1 := by kernel_rfl
  have z9 : Try.prog.cellsOf 9 = 1 := by kernel_rfl
  obtain ⟨cs, rfl, hsz⟩ := okWide_struct Try.underlying30 hv
  rw [hC] at hsz
  obtain ⟨fuel, hf⟩ := h
  obtain ⟨xs, m, _, hx, _, hlen, hg⟩ := DataW.trod_struct Try.underlying30 hf
  obtain ⟨c0, c1, c2, c3, c4, c5, rfl⟩ : ∃ c0 c1 c2 c3 c4 c5, cs = #[c0, c1, c2, c3, c4, c5] := by
    obtain ⟨li⟩ := cs
    match li, hsz with
    | [c0, c1, c2, c3, c4, c5], _ => exact ⟨c0, c1, c2, c3, c4, c5, rfl⟩
  obtain ⟨y0, y1, y2, y3, y4, y5, rfl⟩ : ∃ y0 y1 y2 y3 y4 y5, xs = [y0, y1, y2, y3, y4, y5] := by
    match xs, hlen with
    | [y0, y1, y2, y3, y4, y5], _ => exact ⟨y0, y1, y2, y3, y4, y5, rfl⟩
  have g0 := hg 0 _ rfl
  have g1 := hg 1 _ rfl
  have g2 := hg 2 _ rfl
  have g3 := hg 3 _ rfl
  have g4 := hg 4 _ rfl
  have g5 := hg 5 _ rfl
  simp [Value.cells, z3, z4, z9] at g0 g1 g2 g3 g4 g5
  obtain ⟨k, e0, f0, w0⟩ := DataW.trod_int Try.underlying3 g0
  obtain ⟨x, e1, f1⟩ := DataW.trod_bool Try.underlying4 g1
  obtain ⟨n, e2, f2, w2⟩ := DataW.trod_int Try.underlying3 g2
  obtain ⟨a, e3, f3, w3⟩ := DataW.trod_int Try.underlying3 g3
  obtain ⟨l, e4, f4, w4⟩ := DataW.trod_int Try.underlying3 g4
  obtain ⟨s, e5, f5, w5⟩ := DataW.trod_string Try.underlying9 g5
  simp only [List.cons.injEq, and_true] at e0 e1 e2 e3 e4 e5
  subst e0 e1 e2 e3 e4 e5 f0 f1 f2 f3 f4 f5
  simp only [Prod.mk.injEq] at hx
  exact ⟨k, x, n, a, l, s, rfl, by simpa using hx.1, by simpa using hx.2, w0, w2, w3, w4, w5⟩

/-- .. and is read again behind the call. -/
theorem shut_ob {H : Type} {enc : TypeId × Value → H} {w : World} {base : Nat} {spare : Nat → Bool} {held : Bool} {k n a l : Int} {x : Bool} {s : ByteArray}
    (w0 : (Lit.int .i64 k).wf = true) (w2 : (Lit.int .i64 n).wf = true) (w3 : (Lit.int .i64 a).wf = true) (w4 : (Lit.int .i64 l).wf = true) (w5 : s.size ≤ maxLen) :
    DataW.Trod enc Try.prog w base spare held 30 (.agg #[.int .i64 k, .bool x, .int .i64 n, .int .i64 a, .int .i64 l, .string s]) (.agg [.lit (.int .i64 k), .lit (.bool x), .lit (.int .i64 n), .lit (.int .i64 a), .lit (.int .i64 l), .lit (.string s.data.toList)]) [] := by
  have hC : Try.prog.cellsOf 30 = 6 := by kernel_rfl
  have z3 : Try.prog.cellsOf 3 = 1 := by kernel_rfl
  have z4 : Try.prog.cellsOf 4 = 1 := by kernel_rfl
  have z9 : Try.prog.cellsOf 9 = 1 := by kernel_rfl
  have u3 := Try.underlying3
  have u4 := Try.underlying4
  have u9 := Try.underlying9
  have ts := trod_struct_mk (enc := enc) (P := Try.prog) (w := w) (base := base) (spare := spare) (held := held) (n := 1) (cs := [.int .i64 k, .bool x, .int .i64 n, .int .i64 a, .int .i64 l, .string s])
    (xs := [(.lit (.int .i64 k), []), (.lit (.bool x), []), (.lit (.int .i64 n), []), (.lit (.int .i64 a), []), (.lit (.int .i64 l), []), (.lit (.string s.data.toList), [])]) Try.underlying30 (by simp [hC])
    (by simp [DataW.trod, z3, z4, z9, u3, u4, u9, w0, w2, w3, w4, w5])
  exact ⟨_, by simpa [Value.cells] using ts⟩
end Go.Proofs.Ytlkbnldpecolbaa
