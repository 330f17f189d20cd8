/-
  CONTRACT OF the document's own Get of short bytes (corduroyref04.Get): it tells what varint.Get tells, for any row of bytes. Conditions: the bytes lie in memory as told.
-/
import Derived.Test.YtelcaejiipibpaaDoorRows
import Derived.Test.YtelcaejiipibpaaDoorVarGetArith
import Derived.Test.YtelcaejiipibpaaDoorVarGet
import Derived.WalkKit
import Derived.WalkLawsBesides
import Derived.WalkSpells
import Derived.ProofKit
import Derived.LoopTactic
import Derived.Lib.Hide
namespace Go.Proofs.YtelcaejiipibpaaDoor
open Go.RowKit
set_option linter.unusedVariables false
/-- A step of reading from the last digit on. -/
theorem horner (z : Nat → Int) (f j : Nat) (V : Int) (hj : j + 1 ≤ f + 1) (hf : f ≤ 9) (h9 : f = 9 → z 9 ≤ 1 ∧ 0 ≤ z 9) (hV0 : 0 ≤ V) (h : V * 128 ^ (j + 1) + vals z (j + 1) = vals z (f + 1)) :
    0 ≤ 128 * V + z j % 128 ∧ 128 * V + z j % 128 ≤ 18446744073709551615 ∧ (128 * V + z j % 128) * 128 ^ j + vals z j = vals z (f + 1) := by
  have e : (128 * V + z j % 128) * 128 ^ j + vals z j = vals z (f + 1) := by
    rw [← h]; simp only [vals, Int.pow_succ]; grind
  obtain ⟨n, hn, hlt⟩ := vals_bd z j
  have hb : vals z (f + 1) ≤ 18446744073709551615 := by
    by_cases c : f = 9
    · subst c
      obtain ⟨m, hm, hml⟩ := vals_bd z 9
      have := h9 rfl
      have p : (128 : Nat) ^ 9 = 9223372036854775808 := by decide
      have p2 : (128 : Int) ^ 9 = 9223372036854775808 := by decide
      simp only [vals] at hm ⊢
      omega
    · obtain ⟨m, hm, hml⟩ := vals_bd z (f + 1)
      have h3 : (128 : Nat) ^ (f + 1) ≤ 128 ^ 9 := Nat.pow_le_pow_right (by decide) (by omega)
      have p : (128 : Nat) ^ 9 = 9223372036854775808 := by decide
      omega
  have hnn : 0 ≤ 128 * V + z j % 128 := by omega
  refine ⟨hnn, ?_, e⟩
  have hp : (1 : Int) ≤ 128 ^ j := by
    have : (0 : Int) < 128 ^ j := Int.pow_pos (by decide)
    omega
  have hm := Int.mul_le_mul_of_nonneg_left hp hnn
  omega
end Go.Proofs.YtelcaejiipibpaaDoor
