/-
  CONTRACTS OF Zvar's Decode, in any world. Conditions: at most 20000 bytes, which lie in memory as told.
-/
import Derived.Test.YthonjffojaljdaaRead
import Derived.Test.YthonjffojaljdaaHybM11
import Derived.Test.YthonjffojaljdaaVarZig
import Derived.Test.YthonjffojaljdaaPlainD
namespace Go.Proofs.Ythonjffojaljdaa
open Go.ChangeShapes Go.WideShapes Go.ChangeAt Go.RowKit
set_option linter.unusedVariables false
/-- What comes of so many numbers: the error, the place, the numbers. -/
def zrun (z : Nat → Int) (nb : Nat) : Nat → Int × Nat × List Int
  | 0 => (0, 0, [])
  | k + 1 => if (zrun z nb k).1 = 0 then (if (nx z (zrun z nb k).2.1 nb).2.2 = 0 then (0, (zrun z nb k).2.1 + (seen z (zrun z nb k).2.1 nb + 1), (zrun z nb k).2.2 ++ [zag (nx z (zrun z nb k).2.1 nb).1])
      else ((nx z (zrun z nb k).2.1 nb).2.2, (zrun z nb k).2.1, (zrun z nb k).2.2)) else zrun z nb k
theorem zrun_stop {z : Nat → Int} {nb k : Nat} (h : (zrun z nb k).1 ≠ 0) : ∀ j, zrun z nb (k + j) = zrun z nb k
  | 0 => rfl
  | j + 1 => by
    have ih := zrun_stop h j
    show zrun z nb (k + j + 1) = _
    rw [zrun, ih, if_neg h]
theorem zrun_step {z : Nat → Int} {nb k : Nat} (h : (zrun z nb k).1 = 0) (g : (nx z (zrun z nb k).2.1 nb).2.2 = 0) :
    zrun z nb (k + 1) = (0, (zrun z nb k).2.1 + (seen z (zrun z nb k).2.1 nb + 1), (zrun z nb k).2.2 ++ [zag (nx z (zrun z nb k).2.1 nb).1]) := by rw [zrun, if_pos h, if_pos g]
theorem zrun_fail {z : Nat → Int} {nb k : Nat} (h : (zrun z nb k).1 = 0) (g : ¬ (nx z (zrun z nb k).2.1 nb).2.2 = 0) (j : Nat) :
    (zrun z nb (k + 1 + j)).1 = (nx z (zrun z nb k).2.1 nb).2.2 := by
  have e : zrun z nb (k + 1) = ((nx z (zrun z nb k).2.1 nb).2.2, (zrun z nb k).2.1, (zrun z nb k).2.2) := by rw [zrun, if_pos h, if_neg g]
  rw [zrun_stop (k := k + 1) (by rw [e]; exact g) j, e]
theorem zrun_length {z : Nat → Int} {nb : Nat} : ∀ k, (zrun z nb k).1 = 0 → (zrun z nb k).2.2.length = k
  | 0, _ => rfl
  | k + 1, h => by
    by_cases h0 : (zrun z nb k).1 = 0
    · have ih := zrun_length k h0
      by_cases g : (nx z (zrun z nb k).2.1 nb).2.2 = 0
      · rw [zrun_step h0 g]; simp [ih]
      · rw [zrun, if_pos h0, if_neg g] at h; exact absurd h g
    · rw [zrun, if_neg h0] at h; exact absurd h h0
theorem zrun_le {z : Nat → Int} {nb : Nat} : ∀ k, (zrun z nb k).2.2.length ≤ k
  | 0 => Nat.le_refl _
  | k + 1 => by
    have ih := zrun_le (z := z) (nb := nb) k
    rw [zrun]
    split
    · split
      · simp; omega
      · exact Nat.le_succ_of_le ih
    · exact Nat.le_succ_of_le ih
theorem nx_bd {z : Nat → Int} {n : Nat} (hz : ∀ i, i < n → 0 ≤ z i ∧ z i ≤ 255) (at_ : Nat) : 0 ≤ (nx z at_ n).1 ∧ (nx z at_ n).1 ≤ 18446744073709551615 := by
  obtain ⟨h1, h2, h3⟩ := seen_last z at_ n
  have hb := zt_bytes hz at_
  unfold nx got
  generalize zt z at_ n = y at *
  generalize seen z at_ n = f at *
  split
  · simp
  · rename_i g0
    split
    · simp
    · rename_i g1
      split
      · simp
      · show 0 ≤ vals y (f + 1) ∧ vals y (f + 1) ≤ 18446744073709551615
        obtain ⟨N, e, hN⟩ := vals_bd y (f + 1)
        by_cases hf : f = 9
        · subst hf
          obtain ⟨M, e9, hM⟩ := vals_bd y 9
          have e10 : vals y 10 = vals y 9 + y 9 % 128 * 128 ^ 9 := rfl
          have p9 : (128 : Nat) ^ 9 = 9223372036854775808 := by decide
          have q9 : (128 : Int) ^ 9 = 9223372036854775808 := by decide
          have := hb 9
          rw [p9] at hM
          rw [q9] at e10
          have : y 9 ≤ 1 := by omega
          have hy : y 9 % 128 = y 9 := by omega
          rw [hy] at e10
          show 0 ≤ vals y 10 ∧ vals y 10 ≤ _
          omega
        · have hp : (128 : Nat) ^ (f + 1) ≤ 128 ^ 9 := Nat.pow_le_pow_right (by decide) (by omega)
          have p9 : (128 : Nat) ^ 9 = 9223372036854775808 := by decide
          omega
end Go.Proofs.Ythonjffojaljdaa
