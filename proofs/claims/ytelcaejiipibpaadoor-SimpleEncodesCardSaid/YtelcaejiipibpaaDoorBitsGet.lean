/-
  CONTRACT OF (*bits.Reader).Get, in any world where the reader lies: the error that it tells, or the number of the next bits; only the reader turns. Conditions: at most 10000 bytes.
-/
import Derived.Test.YtelcaejiipibpaaDoorBitsNew
import Derived.WalkKit
import Derived.WalkLawsBesides
import Derived.WalkSpells
import Derived.ProofKit
import Derived.LoopTactic
import Derived.Deep.QuietTactic
import Derived.BigQuiet
import Derived.IntWalk
import Derived.Outline
import Derived.Lib.Hide
namespace Go.Proofs.YtelcaejiipibpaaDoor
open Go.RowKit
set_option linter.unusedVariables false
theorem ret_pair {k : IntKind} {a b : Int} {x : Value} (h : a = b) : Ending.returned (.tuple #[.int k a, x]) = .returned (.tuple #[.int k b, x]) := by rw [h]
theorem get_or (z : Nat → Int) (n a0 d m : Nat) (hz : ∀ i, i < n → 0 ≤ z i ∧ z i ≤ 255) (hm : a0 + d = m) (hq : m / 8 < n) (hd : d < 64) :
    Go.bits .or .u64 (((num z n / 2 ^ a0 : Nat) : Int) % 2 ^ d) (IntKind.u64.wrap (IntKind.u64.wrap (z (m / 8) / 2 ^ (m % 8)) * 2 ^ d)) = ((num z n / 2 ^ a0 % 2 ^ (min 64 (d + (8 - m % 8))) : Nat) : Int) := by
  obtain ⟨x, hx⟩ : ∃ x : Nat, z (m / 8) = x := ⟨(z (m / 8)).toNat, by have := hz _ hq; omega⟩
  have hxb : x = num z n / 256 ^ (m / 8) % 256 := by rw [num_byte z n hz _ hq, hx]; simp
  have hy : x / 2 ^ (m % 8) = num z n / 2 ^ m % 2 ^ (8 - m % 8) := by rw [hxb]; exact get_byte _ _
  have e0 : ((num z n / 2 ^ a0 : Nat) : Int) % 2 ^ d = ((num z n / 2 ^ a0 % 2 ^ d : Nat) : Int) := by simp
  have e1 : IntKind.u64.wrap (z (m / 8) / 2 ^ (m % 8)) = z (m / 8) / 2 ^ (m % 8) := by
    have h1 := hz _ hq
    have h2 : z (m / 8) / 2 ^ (m % 8) = ((x / 2 ^ (m % 8) : Nat) : Int) := by rw [hx]; simp
    have h3 : x / 2 ^ (m % 8) ≤ x := Nat.div_le_self _ _
    rw [u64w, h2]; omega
  have e2 : IntKind.u64.wrap (z (m / 8) / 2 ^ (m % 8) * 2 ^ d) = ((x / 2 ^ (m % 8) % 2 ^ (64 - d) * 2 ^ d : Nat) : Int) := by
    rw [u64w, hx]
    have : (x : Int) / 2 ^ (m % 8) * 2 ^ d = ((x / 2 ^ (m % 8) * 2 ^ d : Nat) : Int) := by simp
    rw [this]
    have h64 : (18446744073709551616 : Nat) = 2 ^ (64 - d) * 2 ^ d := by rw [← Nat.pow_add, Nat.sub_add_cancel (by omega)]
    rw [show (18446744073709551616 : Int) = ((18446744073709551616 : Nat) : Int) from rfl, ← Int.natCast_emod, h64, Nat.mul_mod_mul_right]
  have hacc : num z n / 2 ^ a0 % 2 ^ d < 2 ^ d := Nat.mod_lt _ (Nat.pow_pos (by decide))
  have h2d : (2 : Nat) ^ d < 18446744073709551616 := by
    have : (2 : Nat) ^ d < 2 ^ 64 := Nat.pow_lt_pow_right (by decide) hd
    exact this
  have hY : x / 2 ^ (m % 8) % 2 ^ (64 - d) * 2 ^ d < 18446744073709551616 := by
    have h1 : x / 2 ^ (m % 8) % 2 ^ (64 - d) < 2 ^ (64 - d) := Nat.mod_lt _ (Nat.pow_pos (by decide))
    have h64 : (18446744073709551616 : Nat) = 2 ^ (64 - d) * 2 ^ d := by rw [← Nat.pow_add, Nat.sub_add_cancel (by omega)]
    rw [h64]
    exact Nat.mul_lt_mul_of_pos_right h1 (Nat.pow_pos (by decide))
  rw [e0, e1, e2, u64_or_nat _ _ (by omega) hY, or_add _ _ _ hacc, hy, ← hm]
  have hmm : num z n / 2 ^ (a0 + d) % 2 ^ (8 - (a0 + d) % 8) % 2 ^ (64 - d) = num z n / 2 ^ (a0 + d) % 2 ^ (min (8 - (a0 + d) % 8) (64 - d)) := by
    generalize num z n / 2 ^ (a0 + d) = Y
    generalize 8 - (a0 + d) % 8 = p
    generalize 64 - d = q
    by_cases h : p ≤ q
    · rw [Nat.min_eq_left h]
      have : Y % 2 ^ p < 2 ^ q := Nat.lt_of_lt_of_le (Nat.mod_lt _ (Nat.pow_pos (by decide))) (Nat.pow_le_pow_right (by decide) h)
      exact Nat.mod_eq_of_lt this
    · rw [Nat.min_eq_right (by omega)]
      exact Nat.mod_mod_of_dvd _ (Nat.pow_dvd_pow 2 (by omega))
  rw [hmm, get_step]
  congr 3
  omega
theorem get_and (X E k : Nat) (hk : k ≤ E) (hE : E ≤ 64) : Go.bits .and .u64 ((X : Int) % 2 ^ E) ((2 ^ k - 1 : Nat) : Int) = ((X % 2 ^ k : Nat) : Int) := by
  have e0 : (X : Int) % 2 ^ E = ((X % 2 ^ E : Nat) : Int) := by simp
  have h1 : X % 2 ^ E < 2 ^ E := Nat.mod_lt _ (Nat.pow_pos (by decide))
  have h2 := pow_le64 hE
  have h3 := pow_le64 (Nat.le_trans hk hE)
  have h4 : 0 < 2 ^ k := Nat.pow_pos (by decide)
  rw [e0, u64_and_nat _ _ (by omega) (by omega), and_low, Nat.mod_mod_of_dvd _ (Nat.pow_dvd_pow 2 hk)]
end Go.Proofs.YtelcaejiipibpaaDoor
