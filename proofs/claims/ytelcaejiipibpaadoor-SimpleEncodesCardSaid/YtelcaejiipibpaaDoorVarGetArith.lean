/-
  PLAIN ARITHMETIC OF READING SHORT BYTES, no Go text in sight: the number of digits of seven bits, and a step of reading. No condition but the ranges that each lemma names.
-/
import Derived.WalkKit
import Derived.Laws.BitsAllLaws
namespace Go.Proofs.YtelcaejiipibpaaDoor
open Go.RowKit
/-- The number of the first k digits. -/
def vals (z : Nat → Int) : Nat → Int
  | 0 => 0
  | k + 1 => vals z k + z k % 128 * 128 ^ k
theorem and127 (d : Int) (h0 : 0 ≤ d) (h1 : d ≤ 255) : Go.bits .and .u8 d 127 = d % 128 := by
  rw [u8_and _ _ h0 (by omega) (by decide) (by decide)]
  have e : (127 : Int).toNat = 2 ^ 7 - 1 := by decide
  rw [e, Nat.and_two_pow_sub_one_eq_mod]
  omega
theorem vals_bd (z : Nat → Int) : ∀ k, ∃ n : Nat, vals z k = (n : Int) ∧ n < 128 ^ k
  | 0 => ⟨0, rfl, by decide⟩
  | k + 1 => by
    obtain ⟨n, hn, hlt⟩ := vals_bd z k
    refine ⟨n + (z k % 128).toNat * 128 ^ k, ?_, ?_⟩
    · have : ((z k % 128).toNat : Int) = z k % 128 := by omega
      simp only [vals, hn, Int.natCast_add, Int.natCast_mul, this, Int.natCast_pow]
      rfl
    · have h : (z k % 128).toNat ≤ 127 := by omega
      have := Nat.mul_le_mul_right (128 ^ k) h
      rw [Nat.pow_succ]; omega
theorem or_step (z : Nat → Int) (k : Nat) (h0 : 0 ≤ z k) (h1 : z k ≤ 255) (hk : k ≤ 9) (h9 : k = 9 → z k ≤ 1) :
    Go.bits .or .u64 (vals z k) (IntKind.u64.wrap (IntKind.u64.wrap (Go.bits .and .u8 (z k) 127) * 2 ^ (7 * k))) = vals z (k + 1) := by
  obtain ⟨n, hn, hlt⟩ := vals_bd z k
  have ew : ∀ n, IntKind.u64.wrap n = n % 18446744073709551616 := fun n => by simp [IntKind.wrap, IntKind.bits, IntKind.signed]
  obtain ⟨d, hd⟩ : ∃ d : Nat, z k % 128 = (d : Int) := ⟨(z k % 128).toNat, by omega⟩
  have hd1 : d ≤ 127 := by omega
  have p : (128 : Nat) ^ k = 2 ^ (7 * k) := by rw [Nat.pow_mul]
  have hb : d * 2 ^ (7 * k) < 18446744073709551616 := by
    by_cases c : k = 9
    · have : d ≤ 1 := by have := h9 c; omega
      have h2 := Nat.mul_le_mul_right (2 ^ (7 * k)) this
      subst c
      have : (2 : Nat) ^ (7 * 9) = 9223372036854775808 := by decide
      omega
    · have h2 := Nat.mul_le_mul_right (2 ^ (7 * k)) hd1
      have h3 : (2 : Nat) ^ (7 * k) ≤ 2 ^ 56 := Nat.pow_le_pow_right (by decide) (by omega)
      have : (2 : Nat) ^ 56 = 72057594037927936 := by decide
      omega
  have hn2 : n < 18446744073709551616 := by
    have h3 : (2 : Nat) ^ (7 * k) ≤ 2 ^ 63 := Nat.pow_le_pow_right (by decide) (by omega)
    have : (2 : Nat) ^ 63 = 9223372036854775808 := by decide
    rw [p] at hlt; omega
  rw [and127 _ h0 h1, hd, ew, ew]
  have e1 : (d : Int) % 18446744073709551616 = d := by omega
  have e2 : (d : Int) * 2 ^ (7 * k) = ((d * 2 ^ (7 * k) : Nat) : Int) := by simp
  rw [e1, e2]
  have e3 : ((d * 2 ^ (7 * k) : Nat) : Int) % 18446744073709551616 = ((d * 2 ^ (7 * k) : Nat) : Int) := by omega
  rw [e3, hn, u64_or_nat _ _ hn2 hb]
  have hor : n ||| d * 2 ^ (7 * k) = n + d * 2 ^ (7 * k) := by
    have := Nat.shiftLeft_add_eq_or_of_lt (i := 7 * k) (b := n) (by rw [← p]; exact hlt) d
    rw [Nat.shiftLeft_eq] at this
    rw [Nat.or_comm, ← this, Nat.add_comm]
  rw [hor]
  simp only [vals, hn, hd, Int.natCast_add, Int.natCast_mul]
  have e4 : ((2 ^ (7 * k) : Nat) : Int) = (128 : Int) ^ k := by rw [← p]; simp
  rw [e4]
end Go.Proofs.YtelcaejiipibpaaDoor
