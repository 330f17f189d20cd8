/-
  WHAT A WRITER OF BITS IS, in memory, and what one step of Put makes of it. Conditions: those that each lemma names.
-/
import Derived.Test.YtelcaejiipibpaaDoorBytesOf
import Derived.Test.YtelcaejiipibpaaDoorWordsB
import Derived.Test.YtelcaejiipibpaaDoorBitsNum
namespace Go.Proofs.YtelcaejiipibpaaDoor
open Go.RowKit
set_option linter.unusedVariables false
theorem bytes_grow (m M : Nat) (h : m % 8 = 0) (hM : M < 2 ^ m) : cellsOf (bytesOf ((m + 7) / 8) M) ++ [.int .u8 0] = cellsOf (bytesOf (m / 8 + 1) M) := by
  have e : (m + 7) / 8 = m / 8 := by omega
  have hp : 2 ^ m = 256 ^ (m / 8) := by rw [pow8 m, h]; simp
  rw [hp] at hM
  rw [e, bytesOf_succ, Nat.div_eq_of_lt hM]
  simp [cellsOf]
theorem put_byte (M u d m q : Nat) (hu : u < 18446744073709551616) (hq : m / 8 = q) (hM : M < 2 ^ m) :
    Go.bits .or .u8 ((M : Int) / 256 ^ q % 256) (IntKind.u64.wrap ((u : Int) / 2 ^ d * 2 ^ (m % 8)) % 256) = (((M + (u / 2 ^ d % 2 ^ (8 - m % 8)) * 2 ^ m) / 256 ^ q % 256 : Nat) : Int) := by
  have e1 : (M : Int) / 256 ^ q % 256 = ((M / 256 ^ q % 256 : Nat) : Int) := by simp
  have e2 : IntKind.u64.wrap ((u : Int) / 2 ^ d * 2 ^ (m % 8)) % 256 = ((u / 2 ^ d * 2 ^ (m % 8) % 256 : Nat) : Int) := by
    rw [u64w]
    have : (u : Int) / 2 ^ d * 2 ^ (m % 8) = ((u / 2 ^ d * 2 ^ (m % 8) : Nat) : Int) := by simp
    rw [this]
    omega
  rw [e1, e2, u8_or_nat _ _ (by omega) (by omega), put_step M m (u / 2 ^ d) q hM, if_pos hq.symm, hq]
theorem put_more (N c u d s m M k : Nat) (hM : N + u % 2 ^ d * 2 ^ c = M) (hm : c + d = m) (hN : M < 2 ^ m) (hf : u < 2 ^ k) (hd : d < k) (h1 : s ≤ 8 - m % 8) (h2 : s ≤ k - d) (h3 : s = 8 - m % 8 ∨ s = k - d) :
    N + u % 2 ^ (d + s) * 2 ^ c = M + (u / 2 ^ d % 2 ^ (8 - m % 8)) * 2 ^ m ∧ M + (u / 2 ^ d % 2 ^ (8 - m % 8)) * 2 ^ m < 2 ^ (m + s) := by
  have e : u / 2 ^ d % 2 ^ (8 - m % 8) = u / 2 ^ d % 2 ^ s := by
    rcases h3 with h | h
    · rw [h]
    · have hl : u / 2 ^ d < 2 ^ (k - d) := by
        rw [Nat.div_lt_iff_lt_mul (Nat.pow_pos (by decide)), ← Nat.pow_add]
        rwa [Nat.sub_add_cancel (by omega)]
      have hl2 : (2 : Nat) ^ (k - d) ≤ 2 ^ (8 - m % 8) := Nat.pow_le_pow_right (by decide) (by omega)
      rw [h, Nat.mod_eq_of_lt hl, Nat.mod_eq_of_lt (by omega)]
  rw [e, ← hM, ← hm]
  constructor
  · rw [Nat.pow_add 2 d s, Nat.mod_mul, Nat.pow_add, Nat.add_mul, Nat.add_assoc]
    congr 2
    ac_rfl
  · rw [hM, hm, Nat.pow_add]
    have hl : u / 2 ^ d % 2 ^ s < 2 ^ s := Nat.mod_lt _ (Nat.pow_pos (by decide))
    generalize u / 2 ^ d % 2 ^ s = X at *
    have : (X + 1) * 2 ^ m ≤ 2 ^ s * 2 ^ m := Nat.mul_le_mul_right _ hl
    rw [Nat.add_mul] at this
    rw [Nat.mul_comm (2 ^ m)]
    omega
theorem cells_set (q m M X : Nat) (hq : m / 8 = q) (hM : M < 2 ^ m) :
    (cellsOf (bytesOf (q + 1) M)).set q (.int .u8 (((M + (X % 2 ^ (8 - m % 8)) * 2 ^ m) / 256 ^ q % 256 : Nat) : Int)) = cellsOf (bytesOf (q + 1) (M + (X % 2 ^ (8 - m % 8)) * 2 ^ m)) := by
  apply List.ext_getElem?
  intro i
  by_cases hi : i < q + 1
  · by_cases e : i = q
    · subst e
      rw [List.getElem?_set_self (by simp [cellsOf, bytesOf])]
      simp [cellsOf, bytesOf]
    · rw [List.getElem?_set_ne (by omega)]
      simp only [cellsOf, List.getElem?_map, bytesOf_get _ _ _ hi]
      rw [put_step M m X i hM, if_neg (by omega)]
  · rw [List.getElem?_eq_none (by simp [cellsOf, bytesOf]; omega), List.getElem?_eq_none (by simp [cellsOf, bytesOf]; omega)]
theorem step_min (m k d : Nat) (h : d < k) : ∃ s : Nat, (if (k : Int) - d < 8 - (m : Int) % 8 then (k : Int) - d else 8 - (m : Int) % 8) = (s : Int) ∧ 0 < s ∧ s ≤ 8 - m % 8 ∧ s ≤ k - d ∧ (s = 8 - m % 8 ∨ s = k - d) := by
  by_cases c : k - d < 8 - m % 8
  · exact ⟨k - d, by rw [if_pos (by omega)]; omega, by omega, by omega, by omega, .inr rfl⟩
  · exact ⟨8 - m % 8, by rw [if_neg (by omega)]; omega, by omega, by omega, by omega, .inl rfl⟩
end Go.Proofs.YtelcaejiipibpaaDoor
