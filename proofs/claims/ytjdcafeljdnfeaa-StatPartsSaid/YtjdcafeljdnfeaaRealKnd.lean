/-
  FACTS ON RANKS AND KINDS: ranks and kinds told by sign and rung. No condition.
-/
import Derived.Test.YtjdcafeljdnfeaaRealBase
import Derived.Test.YtjdcafeljdnfeaaFloatOrd
namespace Go.Proofs.Ytjdcafeljdnfeaa
open Go.ChangeShapes Go.WideShapes Go.ChangeAt Go.RowKit

theorem rnk_rnk (v : Int) (h1 : -9223372036854775808 ≤ v) (h2 : v < 9223372036854775808) : rnk (rnk v) = v ∧ -9223372036854775808 ≤ rnk v ∧ rnk v < 9223372036854775808 := by
  unfold rnk; split <;> (try split) <;> omega
theorem rnk_rung (b : Nat) (hb : b < 18446744073709551616) : rnk (sgn b) = if minus b then -1 - (rung b : Int) else rung b := by
  unfold rnk sgn minus rung
  by_cases h : b < 9223372036854775808
  · have : (b / 9223372036854775808 % 2 == 1) = false := by simp; omega
    rw [this, if_pos h]; simp; omega
  · have : (b / 9223372036854775808 % 2 == 1) = true := by simp; omega
    rw [this, if_neg h]; simp; rw [if_pos (by omega)]; omega
theorem sgn_neg (b : Nat) (hb : b < 18446744073709551616) : sgn b < 0 ↔ minus b = true := by
  unfold sgn minus; simp; split <;> omega
theorem knd_nan (b : Nat) (hb : b < 18446744073709551616) : knd (sgn b) = 8 ↔ isNan b := by
  have e1 : sgn b / 4503599627370496 % 2048 = ((rung b / 4503599627370496 : Nat) : Int) := by unfold sgn rung; split <;> omega
  have e2 : sgn b % 4503599627370496 = ((rung b % 4503599627370496 : Nat) : Int) := by unfold sgn rung; split <;> omega
  have hr : rung b < 9223372036854775808 := Nat.mod_lt _ (by decide)
  unfold knd isNan
  rw [e1, e2]
  unfold sd
  generalize rung b = r at *
  generalize sgn b = v at *
  split <;> split <;> (try split) <;> (try split) <;> omega
theorem knd_zero (b : Nat) (hb : b < 18446744073709551616) (h : rung b = 0) : knd (sgn b) = if minus b then 3 else 4 := by
  have e1 : sgn b / 4503599627370496 % 2048 = ((rung b / 4503599627370496 : Nat) : Int) := by unfold sgn rung; split <;> omega
  have e2 : sgn b % 4503599627370496 = ((rung b % 4503599627370496 : Nat) : Int) := by unfold sgn rung; split <;> omega
  have hm := sgn_neg b hb
  unfold knd
  rw [e1, e2, h]
  simp only [Nat.zero_div, Nat.zero_mod, Int.natCast_zero, if_true]
  rw [if_neg (by decide)]
  unfold sd
  by_cases c : minus b = true
  · rw [if_pos (hm.2 c), if_pos c]
  · rw [if_neg (fun x => c (hm.1 x)), if_neg c]
theorem knd_minus (b : Nat) (hb : b < 18446744073709551616) (h : rung b ≠ 0) : knd (sgn b) ≠ 3 := by
  have e1 : sgn b / 4503599627370496 % 2048 = ((rung b / 4503599627370496 : Nat) : Int) := by unfold sgn rung; split <;> omega
  have e2 : sgn b % 4503599627370496 = ((rung b % 4503599627370496 : Nat) : Int) := by unfold sgn rung; split <;> omega
  unfold knd
  rw [e1, e2]
  unfold sd
  generalize rung b = r at *
  generalize sgn b = v at *
  split <;> split <;> (try split) <;> (try split) <;> omega
theorem rung_inj (a b : Nat) (ha : a < 18446744073709551616) (hb : b < 18446744073709551616) (h1 : minus a = minus b) (h2 : rung a = rung b) : a = b := by
  unfold minus rung at *
  have : (a / 9223372036854775808 % 2 = 1) ↔ (b / 9223372036854775808 % 2 = 1) := by
    rw [← beq_iff_eq, h1, beq_iff_eq]
  omega
end Go.Proofs.Ytjdcafeljdnfeaa
