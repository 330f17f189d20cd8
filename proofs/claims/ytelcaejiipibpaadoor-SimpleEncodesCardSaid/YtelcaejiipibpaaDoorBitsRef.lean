/-
  CONTRACTS OF the document's own answers on bits: Has, Number, Fits, Bits, Bytes, Same. Conditions: those that each names.
-/
import Derived.Test.YtelcaejiipibpaaDoorBitsUnpack
namespace Go.Proofs.YtelcaejiipibpaaDoor
open Go.RowKit
set_option linter.unusedVariables false
/-- A bit of a number. -/
def bitB (N i : Nat) : Bool := decide (N / 2 ^ i % 2 = 1)
theorem bitB_val (N i : Nat) : N / 2 ^ i % 2 = if bitB N i then 1 else 0 := by
  unfold bitB
  by_cases h : N / 2 ^ i % 2 = 1
  · simp [h]
  · have : N / 2 ^ i % 2 = 0 := by omega
    simp [this]
theorem take_up (M f j k : Nat) (hj : j + 1 ≤ k) : M / 2 ^ (f + j) % 2 ^ (k - j) = 2 * (M / 2 ^ (f + (j + 1)) % 2 ^ (k - (j + 1))) + M / 2 ^ (f + j) % 2 := by
  have e1 : M / 2 ^ (f + (j + 1)) = M / 2 ^ (f + j) / 2 := by
    rw [← Nat.add_assoc, Nat.pow_succ, Nat.div_div_eq_div_mul]
  rw [e1]
  generalize M / 2 ^ (f + j) = X
  have e2 : 2 ^ (k - j) = 2 * 2 ^ (k - (j + 1)) := by rw [← Nat.pow_succ']; congr 1; omega
  rw [e2, Nat.mod_mul]
  omega
end Go.Proofs.YtelcaejiipibpaaDoor
