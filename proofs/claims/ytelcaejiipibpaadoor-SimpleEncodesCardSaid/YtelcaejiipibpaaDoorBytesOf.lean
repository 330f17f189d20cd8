/-
  THE BYTES OF A NUMBER, the lowest first. No condition.
-/
import Derived.Test.YtelcaejiipibpaaDoorWordsB
import Derived.Test.YtelcaejiipibpaaDoorBitsNum
namespace Go.Proofs.YtelcaejiipibpaaDoor
open Go.RowKit
/-- The bytes of a number, so many. -/
def bytesOf (n N : Nat) : List Int := (List.range n).map fun k => ((N / 256 ^ k % 256 : Nat) : Int)
theorem bytesOf_length (n N : Nat) : (bytesOf n N).length = n := by simp [bytesOf]
theorem bytesOf_get (n N i : Nat) (h : i < n) : (bytesOf n N)[i]? = some ((N / 256 ^ i % 256 : Nat) : Int) := by simp [bytesOf, h]
theorem bytesOf_succ (n N : Nat) : bytesOf (n + 1) N = bytesOf n N ++ [((N / 256 ^ n % 256 : Nat) : Int)] := by
  simp [bytesOf, List.range_succ]
end Go.Proofs.YtelcaejiipibpaaDoor
