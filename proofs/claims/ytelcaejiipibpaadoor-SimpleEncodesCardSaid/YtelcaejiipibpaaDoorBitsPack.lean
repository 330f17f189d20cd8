/-
  CONTRACTS OF bits.Pack, in any world, of any numbers: the error that it tells, or the packed bytes, a row of its own; nothing that lay is turned. Conditions: the numbers lie in memory as told.
-/
import Derived.Test.YtelcaejiipibpaaDoorBitsPut
import Derived.Test.YtelcaejiipibpaaDoorBitsNew
namespace Go.Proofs.YtelcaejiipibpaaDoor
open Go.RowKit
set_option linter.unusedVariables false
/-- Numbers of one width, one behind the other, the first one lowest. -/
def packN (k : Nat) (l : Nat → Nat) : Nat → Nat
  | 0 => 0
  | n + 1 => packN k l n + l n * 2 ^ (n * k)
theorem packN_lt (k : Nat) (l : Nat → Nat) : ∀ n, (∀ i, i < n → l i < 2 ^ k) → packN k l n < 2 ^ (n * k)
  | 0, _ => by simp [packN]
  | n + 1, h => by
    have h1 := packN_lt k l n (fun i hi => h i (by omega))
    have h2 := h n (by omega)
    have : (l n + 1) * 2 ^ (n * k) ≤ 2 ^ k * 2 ^ (n * k) := Nat.mul_le_mul_right _ h2
    rw [Nat.add_mul, Nat.one_mul] at this
    rw [Nat.succ_mul, Nat.pow_add, Nat.mul_comm (2 ^ (n * k))]
    simp only [packN]
    omega
/-- What a row of numbers is in memory. -/
def U64s (w : World) (a : Option Addr) (len : Nat) (l : Nat → Nat) : Prop := RowOf w a len (fun i => .int .u64 (l i : Nat)) ∧ ∀ i, i < len → l i < 18446744073709551616
/-- How Pack ends: f is the first number that does not fit, or len. -/
def PackEnd (k : Nat) (l : Nat → Nat) (len f : Nat) (w : World) (e : Ending) (w' : World) : Prop :=
  if f < len then e = .returned (.tuple #[.slice none 0 0, .int .i64 4]) ∧ Below w.heap.size w w'
  else ∃ v, e = .returned (.tuple #[v, .int .i64 0]) ∧ w'.ownsRow w.heap.size 5 1 v (need len k) (cellsOf (bytesOf (need len k) (packN k l len))) ∧ Below w.heap.size w w'
end Go.Proofs.YtelcaejiipibpaaDoor
