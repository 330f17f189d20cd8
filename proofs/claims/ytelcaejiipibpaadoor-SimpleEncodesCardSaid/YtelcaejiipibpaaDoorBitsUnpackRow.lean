/-
  WHAT make([]uint64, n) makes, as a row. No condition.
-/
import Derived.Test.YtelcaejiipibpaaDoorRows
import Derived.Test.YtelcaejiipibpaaDoorWords
namespace Go.Proofs.YtelcaejiipibpaaDoor
open Go.RowKit
theorem rowV_zero (n : Nat) : (madeCells #[Value.int .u64 0] (n * 1)).toList = rowV (fun _ => .int .u64 0) n := by
  rw [Nat.mul_one, toList_madeCells_one]
  apply List.ext_getElem?
  intro j
  by_cases hj : j < n
  · rw [rowV_get _ hj]; simp [hj]
  · rw [rowV_ge _ (by omega)]; simp; omega
end Go.Proofs.YtelcaejiipibpaaDoor
