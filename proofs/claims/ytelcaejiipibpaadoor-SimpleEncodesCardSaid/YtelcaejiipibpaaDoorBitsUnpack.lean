/-
  CONTRACTS OF bits.Unpack, in any world, of any bytes: the error that it tells, or the numbers, a row of its own; nothing that lay is turned. Conditions: at most 10000 bytes, which lie in memory as told.
-/
import Derived.Test.YtelcaejiipibpaaDoorBitsGet
import Derived.Test.YtelcaejiipibpaaDoorBitsPack
import Derived.Test.YtelcaejiipibpaaDoorBitsUnpackRow
namespace Go.Proofs.YtelcaejiipibpaaDoor
open Go.RowKit
/-- The numbers of one width of M. -/
def unN (k M i : Nat) : Nat := M / 2 ^ (i * k) % 2 ^ k
/-- How Unpack ends, of as many bytes as are needed that come to M. -/
def UnpackEnd (k n M : Nat) (w : World) (e : Ending) (w' : World) : Prop :=
  if M < 2 ^ (n * k) then ∃ v, e = .returned (.tuple #[v, .int .i64 0]) ∧ w'.ownsRow w.heap.size 48 1 v n (rowV (fun i => .int .u64 (unN k M i : Nat)) n) ∧ Below w.heap.size w w'
  else e = .returned (.tuple #[.slice none 0 0, .int .i64 3]) ∧ Below w.heap.size w w'
end Go.Proofs.YtelcaejiipibpaaDoor
