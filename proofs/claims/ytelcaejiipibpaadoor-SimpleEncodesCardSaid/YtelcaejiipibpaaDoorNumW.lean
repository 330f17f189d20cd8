/-
  WHAT WRAPPING TO 64 BITS WITHOUT A SIGN IS. No condition.
-/
import Derived.WalkKit
namespace Go.Proofs.YtelcaejiipibpaaDoor
theorem u64w (n : Int) : IntKind.u64.wrap n = n % 18446744073709551616 := by simp [IntKind.wrap, IntKind.bits, IntKind.signed]
end Go.Proofs.YtelcaejiipibpaaDoor
