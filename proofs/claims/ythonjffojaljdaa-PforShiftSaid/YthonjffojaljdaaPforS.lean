/-
  PFOR, arithmetic: the offsets, the width of the form and how many bytes it has; a block that is moved. No condition.
-/
import Derived.Test.YthonjffojaljdaaPforN
import Derived.Test.YthonjffojaljdaaWidD
import Derived.Test.YthonjffojaljdaaVarPut
import Derived.Lib.BitFns
import Derived.Lib.ItoaNum
namespace Go.Proofs.Ythonjffojaljdaa
open Go.RowKit
set_option linter.unusedVariables false
theorem bl_pow (v : Nat) (h : v < 18446744073709551616) : v < 2 ^ bl v := by
  by_cases h0 : v = 0
  · subst h0; exact Nat.pow_pos (by decide)
  · exact (Lib.bitLenAux_bounds 64 v (by simpa using h) h0).2.2
theorem most_pow (l : Nat → Nat) : ∀ n, (∀ i, i < n → l i < 18446744073709551616) → ∀ i, i < n → l i < 2 ^ most l n
  | 0, _, i, hi => absurd hi (Nat.not_lt_zero _)
  | k + 1, h, i, hi => by
    have e : most l (k + 1) = max (most l k) (bl (l k)) := rfl
    rw [e]
    rcases Nat.lt_or_ge i k with h' | h'
    · exact Nat.lt_of_lt_of_le (most_pow l k (fun i hi => h i (by omega)) i h') (Nat.pow_le_pow_right (by decide) (Nat.le_max_left _ _))
    · obtain rfl : i = k := by omega
      exact Nat.lt_of_lt_of_le (bl_pow _ (h i hi)) (Nat.pow_le_pow_right (by decide) (Nat.le_max_right _ _))
theorem most_congr (l m : Nat → Nat) : ∀ n, (∀ i, i < n → l i = m i) → most l n = most m n
  | 0, _ => rfl
  | k + 1, h => by
    show max (most l k) (bl (l k)) = max (most m k) (bl (m k))
    rw [most_congr l m k (fun i hi => h i (by omega)), h k (by omega)]
/-- A number's short bytes. -/
def dg (v : Nat) : List Int := digs 9 (v % 18446744073709551616)
/-- How many short bytes a number has. -/
def dn (v : Nat) : Nat := (dg v).length
theorem dn_le (v : Nat) : dn v ≤ 10 := digs_len 9 _
theorem dg_eq (v : Nat) (h : v < 18446744073709551616) : dg v = digs 9 v := by unfold dg; rw [Nat.mod_eq_of_lt h]
/-- A block's offsets. -/
def fo (x : Nat → Int) (n i : Nat) : Nat := (offs (x i) (lmin x n)).toNat
theorem fo_lt (x : Nat → Int) (n i : Nat) : fo x n i < 18446744073709551616 := by unfold fo offs; rw [u64w]; omega
theorem fo_int (x : Nat → Int) (n i : Nat) : offs (x i) (lmin x n) = (fo x n i : Int) := by
  have : 0 ≤ offs (x i) (lmin x n) := by unfold offs; rw [u64w]; omega
  unfold fo; omega
/-- The width of the form. -/
def fq (x : Nat → Int) (n : Nat) : Nat := (nBest (pS dn (fo x n) n) (most (fo x n) n + 1)).1
/-- How many bytes the form has. -/
def fl (x : Nat → Int) (n : Nat) : Nat := pS dn (fo x n) n (fq x n)
theorem fq_le (x : Nat → Int) (n : Nat) : fq x n ≤ most (fo x n) n := by
  have := (nBest_spec (pS dn (fo x n) n) (most (fo x n) n + 1)).2.1
  unfold fq; omega
theorem fl_two (x : Nat → Int) (n : Nat) : (nBest (pS dn (fo x n) n) (most (fo x n) n + 1)).2 = fl x n := (nBest_spec _ _).1
theorem dn_zero : dn 0 = 1 := by decide
theorem fl_le (x : Nat → Int) (n : Nat) : 10 ≤ fl x n ∧ fl x n ≤ 10 + 8 * n := by
  constructor
  · have h1 : 1 ≤ dn (exS (fo x n) (fq x n) n).1.length := by
      show 1 ≤ (digs 9 _).length
      unfold digs; split <;> simp
    unfold fl pS; omega
  · have h3 := (nBest_spec (pS dn (fo x n) n) (most (fo x n) n + 1)).2.2.1 (most (fo x n) n) (by omega)
    rw [fl_two, pS_none dn _ _ _ (most_pow _ n (fun i _ => fo_lt x n i)), dn_zero] at h3
    have h4 := most_le (fo x n) n
    have h5 : n * most (fo x n) n ≤ n * 64 := Nat.mul_le_mul_left _ h4
    unfold need at h3; omega
theorem fo_congr (x y : Nat → Int) (n : Nat) (h : ∀ i, i < n → fo x n i = fo y n i) : fl x n = fl y n := by
  have h1 : pS dn (fo x n) n = pS dn (fo y n) n := funext fun q => by unfold pS; rw [exS_congr _ _ q n h]
  unfold fl fq
  rw [h1, most_congr _ _ n h]
theorem lmin_in (x : Nat → Int) (n : Nat) (h0 : 0 < n) : ∀ k, k ≤ n → ∃ i, i < n ∧ lmin x k = x i
  | 0, _ => ⟨0, h0, rfl⟩
  | k + 1, hk => by
    unfold lmin
    split
    · exact ⟨k, by omega, rfl⟩
    · exact lmin_in x n h0 k (by omega)
theorem lmin_by (x y : Nat → Int) (b : Int) (n : Nat) (h0 : 0 < n) (h : ∀ i, i < n → y i = x i + b) : ∀ k, k ≤ n → lmin y k = lmin x k + b
  | 0, _ => h 0 h0
  | k + 1, hk => by
    unfold lmin
    rw [lmin_by x y b n h0 h k (by omega), h k (by omega)]
    by_cases hc : x k < lmin x k
    · rw [if_pos hc, if_pos (by omega)]
    · rw [if_neg hc, if_neg (by omega)]
theorem fo_by (x y : Nat → Int) (b : Int) (n : Nat) (h0 : 0 < n) (h : ∀ i, i < n → y i = x i + b) : ∀ i, i < n → fo x n i = fo y n i := fun i hi => by
  unfold fo offs
  rw [lmin_by x y b n h0 h n (Nat.le_refl _), h i hi, show x i + b - (lmin x n + b) = x i - lmin x n by omega]
theorem lmin_bd (x : Nat → Int) (n : Nat) (h0 : 0 < n) (hx : ∀ i, i < n → -9223372036854775808 ≤ x i ∧ x i ≤ 9223372036854775807) : -9223372036854775808 ≤ lmin x n ∧ lmin x n ≤ 9223372036854775807 := by
  obtain ⟨i, hi, he⟩ := lmin_in x n h0 n (Nat.le_refl _)
  rw [he]; exact hx i hi
end Go.Proofs.Ythonjffojaljdaa
