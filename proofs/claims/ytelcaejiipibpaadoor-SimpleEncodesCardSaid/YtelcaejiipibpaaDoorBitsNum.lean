/-
  PLAIN ARITHMETIC OF BITS IN BYTES, no Go text in sight: the number that bytes come to, what putting a number behind so many bits makes of each byte, what getting it reads. No condition but the ranges that each lemma names.
-/
import Derived.Test.YtelcaejiipibpaaDoorNumW
import Derived.WalkKit
import Derived.Laws.BitsAllLaws
namespace Go.Proofs.YtelcaejiipibpaaDoor
open Go.RowKit
/-- The number that bytes come to, the lowest first. -/
def num (z : Nat → Int) : Nat → Nat
  | 0 => 0
  | n + 1 => num z n + (z n).toNat * 256 ^ n
theorem num_lt (z : Nat → Int) : ∀ n, (∀ i, i < n → 0 ≤ z i ∧ z i ≤ 255) → num z n < 256 ^ n
  | 0, _ => by simp [num]
  | n + 1, h => by
    have := num_lt z n (fun i hi => h i (by omega))
    have h2 := h n (by omega)
    simp only [num, Nat.pow_succ]
    have : (z n).toNat * 256 ^ n ≤ 255 * 256 ^ n := Nat.mul_le_mul_right _ (by omega)
    omega
theorem num_byte (z : Nat → Int) : ∀ n, (∀ i, i < n → 0 ≤ z i ∧ z i ≤ 255) → ∀ i, i < n → num z n / 256 ^ i % 256 = (z i).toNat
  | 0, _, i, hi => by omega
  | n + 1, h, i, hi => by
    have hlt := num_lt z n (fun i hi => h i (by omega))
    have h2 := h n (by omega)
    simp only [num]
    by_cases e : i = n
    · subst e
      rw [Nat.add_mul_div_right _ _ (Nat.pow_pos (by decide)), Nat.div_eq_of_lt hlt]
      omega
    · have hi' : i < n := by omega
      rw [← num_byte z n (fun i hi => h i (by omega)) i hi']
      obtain ⟨d, rfl⟩ : ∃ d, n = i + 1 + d := ⟨n - i - 1, by omega⟩
      have : (z (i + 1 + d)).toNat * 256 ^ (i + 1 + d) = (256 * ((z (i + 1 + d)).toNat * 256 ^ d)) * 256 ^ i := by
        rw [Nat.pow_add, Nat.pow_succ]; ac_rfl
      rw [this, Nat.add_mul_div_right _ _ (Nat.pow_pos (by decide))]
      omega
theorem num_of (N : Nat) (z : Nat → Int) : ∀ n, (∀ i, i < n → z i = ((N / 256 ^ i % 256 : Nat) : Int)) → num z n = N % 256 ^ n
  | 0, _ => by simp [num, Nat.mod_one]
  | n + 1, h => by
    simp only [num]
    rw [num_of N z n (fun i hi => h i (by omega)), h n (by omega), Int.toNat_natCast, Nat.pow_succ, Nat.mod_mul]
    rw [Nat.mul_comm]
theorem num_congr {z z' : Nat → Int} : ∀ n, (∀ i, i < n → z i = z' i) → num z n = num z' n
  | 0, _ => rfl
  | n + 1, h => by simp only [num]; rw [num_congr n (fun i hi => h i (by omega)), h n (by omega)]
theorem pow8 (c : Nat) : 2 ^ c = 256 ^ (c / 8) * 2 ^ (c % 8) := by
  have : (256 : Nat) = 2 ^ 8 := rfl
  rw [this, ← Nat.pow_mul, ← Nat.pow_add]
  congr 1; omega
theorem or_add (a b r : Nat) (h : a < 2 ^ r) : a ||| (b * 2 ^ r) = a + b * 2 ^ r := by
  have := Nat.two_pow_add_eq_or_of_lt h b
  rw [Nat.mul_comm] at this
  rw [Nat.or_comm, ← this]; omega
theorem low (u r : Nat) (hr : r ≤ 8) : u * 2 ^ r % 256 = (u % 2 ^ (8 - r)) * 2 ^ r := by
  have : 256 = 2 ^ (8 - r) * 2 ^ r := by rw [← Nat.pow_add, Nat.sub_add_cancel hr]
  rw [this, Nat.mul_mod_mul_right]
theorem put_step (N c u k : Nat) (hN : N < 2 ^ c) :
    (N + (u % 2 ^ (8 - c % 8)) * 2 ^ c) / 256 ^ k % 256 = if k = c / 8 then (N / 256 ^ (c / 8) % 256) ||| (u * 2 ^ (c % 8) % 256) else N / 256 ^ k % 256 := by
  have hp := pow8 c
  have hr : c % 8 < 8 := Nat.mod_lt _ (by decide)
  generalize c / 8 = q at *
  generalize c % 8 = r at *
  rw [low u r (by omega)]
  generalize hX : u % 2 ^ (8 - r) = X
  have hXl : X < 2 ^ (8 - r) := by rw [← hX]; exact Nat.mod_lt _ (Nat.pow_pos (by decide))
  have h256 : 2 ^ (8 - r) * 2 ^ r = 256 := by rw [← Nat.pow_add, Nat.sub_add_cancel (by omega)]
  have hXr : X * 2 ^ r + 2 ^ r ≤ 256 := by
    have : (X + 1) * 2 ^ r ≤ 2 ^ (8 - r) * 2 ^ r := Nat.mul_le_mul_right _ hXl
    rw [Nat.add_mul] at this; omega
  have e : N + X * 2 ^ c = N + X * 2 ^ r * 256 ^ q := by rw [hp]; ac_rfl
  rw [e]
  have hNq : N / 256 ^ q < 2 ^ r := by
    rw [Nat.div_lt_iff_lt_mul (Nat.pow_pos (by decide)), Nat.mul_comm]; rw [← hp]; exact hN
  by_cases hk : k = q
  · subst hk
    rw [if_pos rfl, Nat.add_mul_div_right _ _ (Nat.pow_pos (by decide)), Nat.mod_eq_of_lt (a := N / 256 ^ k) (by omega), or_add _ _ _ hNq, Nat.mod_eq_of_lt (by omega)]
  · rw [if_neg hk]
    by_cases hlt : k < q
    · obtain ⟨d, rfl⟩ : ∃ d, q = k + 1 + d := ⟨q - k - 1, by omega⟩
      have : X * 2 ^ r * 256 ^ (k + 1 + d) = (256 * (X * 2 ^ r * 256 ^ d)) * 256 ^ k := by
        rw [Nat.pow_add, Nat.pow_succ]; ac_rfl
      rw [this, Nat.add_mul_div_right _ _ (Nat.pow_pos (by decide))]
      omega
    · obtain ⟨d, rfl⟩ : ∃ d, k = q + 1 + d := ⟨k - q - 1, by omega⟩
      have hle : (256 : Nat) ^ (q + 1) ≤ 256 ^ (q + 1 + d) := Nat.pow_le_pow_right (by decide) (by omega)
      have hNl : N < 2 ^ r * 256 ^ q := by rw [Nat.mul_comm]; rw [← hp]; exact hN
      have h1 : N + X * 2 ^ r * 256 ^ q < 256 ^ (q + 1) := by
        rw [Nat.pow_succ]
        have : (X * 2 ^ r + 2 ^ r) * 256 ^ q ≤ 256 * 256 ^ q := Nat.mul_le_mul_right _ hXr
        rw [Nat.add_mul] at this
        omega
      have h2 : N ≤ N + X * 2 ^ r * 256 ^ q := Nat.le_add_right _ _
      rw [Nat.div_eq_of_lt (by omega), Nat.div_eq_of_lt (by omega)]
/-- The bits of a byte from a bit on. -/
theorem get_byte (M a : Nat) : M / 256 ^ (a / 8) % 256 / 2 ^ (a % 8) = M / 2 ^ a % 2 ^ (8 - a % 8) := by
  have hr : a % 8 < 8 := Nat.mod_lt _ (by decide)
  have hp := pow8 a
  generalize a / 8 = q at *
  generalize a % 8 = r at *
  rw [hp, ← Nat.div_div_eq_div_mul]
  generalize M / 256 ^ q = m
  have h256 : (256 : Nat) = 2 ^ r * 2 ^ (8 - r) := by rw [← Nat.pow_add, Nat.add_sub_cancel' (by omega)]
  rw [h256, Nat.mod_mul_right_div_self]
theorem get_step (M a0 d s : Nat) : M / 2 ^ a0 % 2 ^ d + (M / 2 ^ (a0 + d) % 2 ^ s) * 2 ^ d = M / 2 ^ a0 % 2 ^ (d + s) := by
  rw [Nat.pow_add, ← Nat.div_div_eq_div_mul, Nat.pow_add, Nat.mod_mul, Nat.mul_comm (2 ^ d)]

theorem pow_le64 {k : Nat} (hk : k ≤ 64) : 2 ^ k ≤ 18446744073709551616 := by
  have : (2 : Nat) ^ k ≤ 2 ^ 64 := Nat.pow_le_pow_right (by decide) hk
  exact this
theorem u64_low (k : Nat) (hk : k ≤ 64) : IntKind.u64.wrap (IntKind.u64.wrap (2 ^ k) - 1) = ((2 ^ k - 1 : Nat) : Int) := by
  have h1 : 0 < 2 ^ k := Nat.pow_pos (by decide)
  have h2 := pow_le64 hk
  have e : ((2 : Int) ^ k) = ((2 ^ k : Nat) : Int) := by simp
  rw [u64w, u64w, e]
  generalize 2 ^ k = p at *
  omega
theorem and_low (v k : Nat) : v &&& (2 ^ k - 1) = v % 2 ^ k := Nat.and_two_pow_sub_one_eq_mod v k
theorem andnot_low (v k : Nat) (hk : k ≤ 64) (hv : v < 18446744073709551616) : Go.bits .andNot .u64 (v : Int) ((2 ^ k - 1 : Nat) : Int) = ((v - v % 2 ^ k : Nat) : Int) := by
  have h1 : 0 < 2 ^ k := Nat.pow_pos (by decide)
  have h2 := pow_le64 hk
  rw [u64_andNot_nat v (2 ^ k - 1) hv (by omega)]
  congr 1
  have e : 18446744073709551615 - (2 ^ k - 1) = 2 ^ 64 - 2 ^ k := by
    have : (2 : Nat) ^ 64 = 18446744073709551616 := by decide
    omega
  rw [e]
  apply Nat.eq_of_testBit_eq
  intro i
  have hs : v - v % 2 ^ k = 2 ^ k * (v / 2 ^ k) := by
    have := Nat.div_add_mod v (2 ^ k)
    omega
  rw [hs, Nat.testBit_and, Nat.testBit_two_pow_mul, Nat.testBit_div_two_pow]
  have hm : 2 ^ 64 - 2 ^ k = 2 ^ k * (2 ^ (64 - k) - 1) := by
    rw [Nat.mul_sub, Nat.mul_one, ← Nat.pow_add]
    congr 2
    omega
  rw [hm, Nat.testBit_two_pow_mul, Nat.testBit_two_pow_sub_one]
  by_cases hik : k ≤ i
  · have : i - k + k = i := by omega
    simp only [hik, decide_true, Bool.true_and, this]
    by_cases hi : i < 64
    · have : i - k < 64 - k := by omega
      simp [this]
    · have : v.testBit i = false := Nat.testBit_lt_two_pow (Nat.lt_of_lt_of_le hv (by
        have : (2 : Nat) ^ 64 ≤ 2 ^ i := Nat.pow_le_pow_right (by decide) (by omega)
        exact this))
      simp [this]
  · simp [hik]
end Go.Proofs.YtelcaejiipibpaaDoor
