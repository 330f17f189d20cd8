/-
  XOR, THE BITS OF A NUMBER: where its first and its last one stands, and what stands between; no program's text, no condition.
-/
import Derived.Test.YtejiboinkapkcaaDoorXorN
import Derived.Test.YtejiboinkapkcaaDoorBitsRefB
namespace Go.Proofs.YtejiboinkapkcaaDoor
open Go.RowKit
set_option linter.unusedVariables false
theorem bit_high {M p i : Nat} (h : M < 2 ^ p) (hi : p ≤ i) : bitB M i = false := by
  unfold bitB
  have : M < 2 ^ i := Nat.lt_of_lt_of_le h (Nat.pow_le_pow_right (by decide) hi)
  rw [Nat.div_eq_of_lt this]; rfl
theorem bit_top {x : Nat} (h0 : x ≠ 0) (h : x < 18446744073709551616) : xlz x ≤ 63 ∧ bitB x (63 - xlz x) = true ∧ ∀ m, m < xlz x → bitB x (63 - m) = false := by
  obtain ⟨h1, h2, h3, h4⟩ := xbl h0 h
  unfold xlz
  generalize Lib.bitLen x = B at *
  refine ⟨by omega, ?_, fun m hm => ?_⟩
  · rw [show 63 - (64 - B) = B - 1 by omega]
    unfold bitB
    have e : 2 ^ B = 2 * 2 ^ (B - 1) := by rw [← Nat.pow_succ']; congr 1; omega
    have : x / 2 ^ (B - 1) = 1 := by
      apply Nat.div_eq_of_lt_le
      · omega
      · rw [Nat.add_mul, Nat.one_mul]; omega
    rw [this]; rfl
  · exact bit_high h1 (by omega)
theorem bit_end {x : Nat} (h0 : x ≠ 0) (h : x < 18446744073709551616) : bitB x (xend x) = true ∧ ∀ m, m < xend x → bitB x m = false := by
  obtain ⟨q, hq, _⟩ := xend_spec h0 h
  generalize xend x = E at *
  refine ⟨?_, fun m hm => ?_⟩
  · unfold bitB
    rw [hq, Nat.mul_div_cancel_left _ (Nat.pow_pos (by decide)), show (2 * q + 1) % 2 = 1 by omega]
    rfl
  · unfold bitB
    obtain ⟨d, rfl⟩ : ∃ d, E = m + (d + 1) := ⟨E - m - 1, by omega⟩
    rw [hq, Nat.pow_add, Nat.mul_assoc, Nat.mul_div_cancel_left _ (Nat.pow_pos (by decide)), Nat.pow_succ, Nat.mul_comm (2 ^ d) 2, Nat.mul_assoc, Nat.mul_mod_right]
    rfl
theorem bit_zero (m : Nat) : bitB 0 m = false := by unfold bitB; simp
theorem bit_shift (x E i : Nat) : bitB x (E + i) = bitB (x / 2 ^ E) i := by
  unfold bitB
  rw [Nat.pow_add, Nat.div_div_eq_div_mul]
theorem num_add {N c u k : Nat} (hN : N < 2 ^ c) (hu : u < 2 ^ k) : N + u * 2 ^ c < 2 ^ (c + k) := by
  have h1 : u * 2 ^ c + 2 ^ c ≤ 2 ^ k * 2 ^ c := by rw [← Nat.succ_mul]; exact Nat.mul_le_mul_right _ hu
  rw [Nat.pow_add, Nat.mul_comm (2 ^ c)]
  omega
theorem xstep_lt {s : XS} (hN : s.N < 2 ^ s.c) (hok : s.ok) {x : Nat} (hx : x < 18446744073709551616) : (xstep s x).N < 2 ^ (xstep s x).c := by
  unfold xstep
  split
  · exact num_add hN (by decide)
  · rename_i h0
    have ht := xtop_le x
    split
    · rename_i h1
      have hw := xwin h0 hx (Nat.le_trans h1.1 ht.2) h1.2
      exact num_add (num_add (num_add hN (by decide)) (by decide)) hw.2.1
    · have hw := xwin h0 hx ht.2 (Nat.le_refl _)
      exact num_add (num_add (num_add (num_add (num_add hN (by decide)) (by decide)) (by omega)) (by omega)) hw.2.1
theorem xrun_lt (v : Nat → Nat) (n : Nat) (hv : ∀ i, i ≤ n → v i < 18446744073709551616) : ∀ k, k ≤ n → (xrun v k).N < 2 ^ (xrun v k).c
  | 0, _ => hv 0 (Nat.zero_le _)
  | k + 1, hk => by
    rw [xrun]
    exact xstep_lt (xrun_lt v n hv k (by omega)) (xrun_ok v n hv k (by omega)).1 (xor_lt (hv (k + 1) hk) (hv k (by omega)))
end Go.Proofs.YtejiboinkapkcaaDoor
