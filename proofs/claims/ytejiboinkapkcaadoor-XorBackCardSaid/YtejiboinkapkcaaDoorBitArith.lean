/-
  PLAIN ARITHMETIC, no Go text in sight: what a wrap, a mask and a turned bit of a 64-bit number come to. No condition but the ranges that each lemma names.
-/
import Derived.WalkKit
import Derived.Laws.BitsAllLaws
namespace Go.Proofs.YtejiboinkapkcaaDoor
theorem wrap_i64 (n : Int) : IntKind.i64.wrap n = if n % 18446744073709551616 ≥ 9223372036854775808 then n % 18446744073709551616 - 18446744073709551616 else n % 18446744073709551616 := by
  simp [IntKind.wrap, IntKind.bits, IntKind.signed]
theorem ofInt64_toNat (v : Int) : (BitVec.ofInt 64 v).toNat = (v % 18446744073709551616).toNat := by
  simp [BitVec.toNat_ofInt]
theorem and_mask (v : Int) (k p : Nat) (hk : k ≤ 62) (hpk : p = 2 ^ k) : Go.bits .and .i64 v ((p - 1 : Nat) : Int) = v % (p : Nat) := by
  have e : Go.bits .and .i64 v ((p - 1 : Nat) : Int) = IntKind.i64.wrap ((BitVec.ofInt 64 v &&& BitVec.ofInt 64 ((p - 1 : Nat) : Int)).toNat : Int) := rfl
  have hp : (2 : Nat) ^ k ≤ 2 ^ 62 := Nat.pow_le_pow_right (by decide) hk
  have hp0 : 0 < 2 ^ k := Nat.two_pow_pos k
  have hd : (2 ^ k) ∣ (18446744073709551616 : Nat) := by
    have : (18446744073709551616 : Nat) = 2 ^ 64 := by decide
    rw [this]; exact Nat.pow_dvd_pow 2 (by omega)
  have e3 : ∀ x : Nat, x &&& (2 ^ k - 1) = x % 2 ^ k := fun x => Nat.and_two_pow_sub_one_eq_mod x k
  rw [← hpk] at hp hp0 hd e3
  have h62 : (2 : Nat) ^ 62 = 4611686018427387904 := by decide
  rw [h62] at hp
  rw [e, BitVec.toNat_and, ofInt64_toNat, ofInt64_toNat]
  clear e hpk h62
  have e2 : (((p - 1 : Nat) : Int) % 18446744073709551616).toNat = p - 1 := by omega
  rw [e2, e3, wrap_i64]
  have h3 : (((v % 18446744073709551616).toNat % p : Nat) : Int) = v % (p : Nat) := by
    rw [Int.natCast_emod, Int.toNat_of_nonneg (by omega)]
    exact Int.emod_emod_of_dvd v (Int.natCast_dvd_natCast.2 hd)
  have hlt : v % (p : Int) < (p : Int) := Int.emod_lt_of_pos _ (by omega)
  have hge : 0 ≤ v % (p : Int) := Int.emod_nonneg _ (by omega)
  rw [h3]
  omega
theorem and_2047 (v : Int) : Go.bits .and .i64 v 2047 = v % 2048 := and_mask v 11 2048 (by decide) (by decide)
theorem and_frac (v : Int) : Go.bits .and .i64 v 4503599627370495 = v % 4503599627370496 := and_mask v 52 4503599627370496 (by decide) (by decide)

theorem xor_ones (k x : Nat) (hx : x < 2 ^ k) : x ^^^ (2 ^ k - 1) = 2 ^ k - 1 - x := by
  have h := BitVec.toNat_not (x := BitVec.ofNat k x)
  rw [← BitVec.xor_allOnes, BitVec.toNat_xor] at h
  simpa [BitVec.toNat_ofNat, Nat.mod_eq_of_lt hx] using h
theorem xor_low (u : Nat) (h1 : 9223372036854775808 ≤ u) (h2 : u < 18446744073709551616) : u ^^^ 9223372036854775807 = 27670116110564327423 - u := by
  have hm := Nat.xor_mod_two_pow (a := u) (b := 9223372036854775807) (n := 63)
  have hd := Nat.xor_div_two_pow (a := u) (b := 9223372036854775807) (n := 63)
  have e : (2 : Nat) ^ 63 = 9223372036854775808 := by decide
  have ho := xor_ones 63 (u % 2 ^ 63) (Nat.mod_lt _ (Nat.two_pow_pos _))
  rw [e] at hm hd ho
  simp only [Nat.reduceMod, Nat.reduceDiv, Nat.xor_zero, Nat.reduceSub] at hm hd ho
  rw [ho] at hm
  omega
theorem xor_top (u : Nat) (h2 : u < 18446744073709551616) : u ^^^ 9223372036854775808 = if u < 9223372036854775808 then u + 9223372036854775808 else u - 9223372036854775808 := by
  have hm := Nat.xor_mod_two_pow (a := u) (b := 9223372036854775808) (n := 63)
  have hd := Nat.xor_div_two_pow (a := u) (b := 9223372036854775808) (n := 63)
  have e : (2 : Nat) ^ 63 = 9223372036854775808 := by decide
  rw [e] at hm hd
  simp only [Nat.reduceMod, Nat.reduceDiv, Nat.xor_zero] at hm hd
  split
  · have : u / 9223372036854775808 = 0 := by omega
    rw [this] at hd
    simp at hd
    omega
  · have : u / 9223372036854775808 = 1 := by omega
    rw [this] at hd
    simp at hd
    omega
theorem xor_neg (v : Int) (h : v < 0) (h2 : -9223372036854775808 ≤ v) : Go.bits .xor .i64 v 9223372036854775807 = -9223372036854775809 - v := by
  have e : Go.bits .xor .i64 v 9223372036854775807 = IntKind.i64.wrap ((BitVec.ofInt 64 v ^^^ BitVec.ofInt 64 9223372036854775807).toNat : Int) := rfl
  have e2 : ((9223372036854775807 : Int) % 18446744073709551616).toNat = 9223372036854775807 := by decide
  rw [e, BitVec.toNat_xor, ofInt64_toNat, ofInt64_toNat, e2, xor_low _ (by omega) (by omega), wrap_i64]
  omega
theorem xor_sign (n : Int) (h0 : 0 ≤ n) (h1 : n < 18446744073709551616) : Go.bits .xor .u64 n 9223372036854775808 = if n < 9223372036854775808 then n + 9223372036854775808 else n - 9223372036854775808 := by
  rw [u64_xor _ _ h0 h1 (by decide) (by decide)]
  have e2 : (9223372036854775808 : Int).toNat = 9223372036854775808 := by decide
  rw [e2, xor_top _ (by omega)]
  split <;> omega
end Go.Proofs.YtejiboinkapkcaaDoor
