/-
  CONTRACTS OF Plain's Takes, Size, Name, Encode and of plain.Wrong of Plain, in any world. Conditions: at most 1100 numbers, which lie in memory as told.
-/
import Derived.Test.YtelcaejiipibpaaDoorPlainA
namespace Go.Proofs.YtelcaejiipibpaaDoor
open Go.RowKit
set_option linter.unusedVariables false
/-- What is wrong with a block of so many numbers, that is taken. -/
def wrg (n : Nat) : Int := if blk n then 0 else 7
theorem bytes8_row (u : Nat) : rowV (fun i => Value.int .u8 ((bytesOf 8 u).getD i 0)) 8 = cellsOf (bytesOf 8 u) := by
  have := bytesOf_length 8 u
  apply List.ext_getElem?
  intro i
  by_cases hi : i < 8
  · rw [rowV_get _ hi]; simp [cellsOf, (by omega : i < (bytesOf 8 u).length)]
  · rw [rowV_ge _ (by omega), List.getElem?_eq_none (by simp [cellsOf]; omega)]
end Go.Proofs.YtelcaejiipibpaaDoor
