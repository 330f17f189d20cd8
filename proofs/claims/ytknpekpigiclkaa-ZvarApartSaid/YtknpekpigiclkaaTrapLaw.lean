/-
  CONTRACTS of what the statements of layer 2 call besides: Must at two types, besides. No condition.
-/
import Derived.Test.YtknpekpigiclkaaTrapWake
namespace Go.Proofs.Ytknpekpigiclkaa
open Go.ChangeShapes Go.WideShapes Go.ChangeAt Go.RowKit
set_option linter.unusedVariables false

theorem must_ok (x : Int) (w : World) : Calls Try.prog 103 #[.int .u64 x, .int .i64 0] w fun e w' => e = .returned (.int .u64 x) ∧ w = w' := by
  go_enter Try.func103, Try.ntmps103
  go_wp2_with fail
  refine (throw_ok _).mono ?_
  rintro e w' ⟨rfl, rfl⟩
  go_wp2
  go_ret
  exact ⟨rfl, rfl⟩
theorem must_some (x n : Int) (h : (n != 0) = true) (w : World) : Calls Try.prog 103 #[.int .u64 x, .int .i64 n] w fun e w' => e = .panicked [{ v := .iface 89 (.agg #[.int .i64 n]), recovered := false }] ∧ w = w' := by
  go_enter Try.func103, Try.ntmps103
  go_wp2_with fail
  refine (throw_some n h _).mono ?_
  rintro e w' ⟨rfl, rfl⟩
  go_wp2
  exact ⟨rfl, rfl, rfl⟩
end Go.Proofs.Ytknpekpigiclkaa
