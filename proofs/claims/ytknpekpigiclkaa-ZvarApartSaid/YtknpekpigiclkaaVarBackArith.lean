/-
  ARITHMETIC of short bytes: what is told of a row is put again as it stood; what the short bytes of a number tell.
-/
import Derived.Test.YtknpekpigiclkaaVarPutRow
namespace Go.Proofs.Ytknpekpigiclkaa
open Go.RowKit Go.Shelf
set_option linter.unusedVariables false
theorem vals_congr (z y : Nat → Int) : ∀ n, (∀ i, i < n → z i = y i) → vals z n = vals y n
  | 0, _ => rfl
  | n + 1, h => by
    simp only [vals]
    rw [vals_congr z y n (fun i hi => h i (by omega)), h n (by omega)]
theorem vals_shift (z : Nat → Int) : ∀ n, vals z (n + 1) = z 0 % 128 + 128 * vals (fun i => z (i + 1)) n
  | 0 => by simp [vals]
  | n + 1 => by
    rw [vals, vals_shift z n]
    simp only [vals, Int.pow_succ]
    grind
theorem vals_pos (z : Nat → Int) (f : Nat) (h1 : 0 ≤ z f) (h2 : z f < 128) (h0 : z f ≠ 0) : 1 ≤ vals z (f + 1) := by
  obtain ⟨n, hn, hlt⟩ := vals_bd z f
  simp only [vals]
  have hp : (1 : Int) ≤ 128 ^ f := by
    have : (0 : Int) < 128 ^ f := Int.pow_pos (by decide)
    omega
  have e : z f % 128 = z f := by omega
  rw [e]
  have hm := Int.mul_le_mul (show (1 : Int) ≤ z f by omega) hp (by omega) (by omega)
  omega
/-- Short bytes that are told are put again as they stood. -/
theorem digs_vals : ∀ (f k : Nat) (z : Nat → Int), f ≤ k → (∀ i, i < f → 128 ≤ z i ∧ z i ≤ 255) → 0 ≤ z f → z f < 128 → (0 < f → z f ≠ 0) →
    digs k (vals z (f + 1)).toNat = rowOf z (f + 1)
  | 0, k, z, hk, hi, h0, h1, hn => by
    have e : vals z 1 = z 0 := by simp [vals]; omega
    have hd : (z 0).toNat ≤ 127 := by omega
    rw [e]
    have er : rowOf z 1 = [z 0] := by simp [rowOf]
    rw [er]
    cases k with
    | zero => simp [digs]; omega
    | succ k => simp [digs, hd]; omega
  | f + 1, 0, z, hk, hi, h0, h1, hn => absurd hk (by omega)
  | f + 1, k + 1, z, hk, hi, h0, h1, hn => by
    have ih := digs_vals f k (fun i => z (i + 1)) (by omega) (fun i hi' => hi (i + 1) (by omega)) h0 h1 (fun _ => hn (by omega))
    have hv := vals_pos (fun i => z (i + 1)) f h0 h1 (hn (by omega))
    have hs := vals_shift z (f + 1)
    have hz0 := hi 0 (by omega)
    generalize vals (fun i => z (i + 1)) (f + 1) = V at *
    rw [hs]
    have hc : ¬ (z 0 % 128 + 128 * V).toNat ≤ 127 := by omega
    have hq : (z 0 % 128 + 128 * V).toNat / 128 = V.toNat := by omega
    have hr : (((z 0 % 128 + 128 * V).toNat % 128 + 128 : Nat) : Int) = z 0 := by omega
    unfold digs
    rw [if_neg hc, hq, ih, hr]
    unfold rowOf
    rw [List.range_succ_eq_map (n := f + 1), List.map_cons, List.map_map]
    rfl
/-- What the short bytes of a number are. -/
theorem digs_told : ∀ (k v : Nat), v < 128 ^ (k + 1) → ∃ m, (digs k v).length = m + 1 ∧ m ≤ k ∧ (∀ i, i < m → 128 ≤ (digs k v).getD i 0 ∧ (digs k v).getD i 0 ≤ 255) ∧ 0 ≤ (digs k v).getD m 0 ∧ (digs k v).getD m 0 < 128 ∧
      (0 < m → (digs k v).getD m 0 ≠ 0) ∧ vals (fun i => (digs k v).getD i 0) (m + 1) = v
  | 0, v, h => ⟨0, by simp [digs], Nat.le_refl _, fun i hi => by omega, by simp [digs], by simp [digs]; omega, fun h => by omega, by simp [digs, vals]; omega⟩
  | k + 1, v, h => by
    by_cases c : v ≤ 127
    · have hd : digs (k + 1) v = [(v : Int)] := by simp [digs, c]
      rw [hd]
      exact ⟨0, rfl, by omega, fun i hi => by omega, by simp, by simp; omega, fun h => by omega, by simp [vals]; omega⟩
    · have hd : digs (k + 1) v = ((v % 128 + 128 : Nat) : Int) :: digs k (v / 128) := by simp [digs, c]
      obtain ⟨m, h1, h2, h3, h4, h5, h6, h7⟩ := digs_told k (v / 128) (by rw [Nat.pow_succ] at h; omega)
      rw [hd]
      refine ⟨m + 1, by simp [h1], by omega, fun i hi => ?_, by simpa using h4, by simpa using h5, fun _ => ?_, ?_⟩
      · cases i with
        | zero => simp; omega
        | succ i => simpa using h3 i (by omega)
      · rw [List.getD_cons_succ]
        by_cases hm : 0 < m
        · exact h6 hm
        · obtain rfl : m = 0 := by omega
          have h8 : vals (fun i => (digs k (v / 128)).getD i 0) (0 + 1) = ((digs k (v / 128)).getD 0 0) % 128 := by simp [vals]
          rw [h8] at h7
          intro h0
          rw [h0] at h7
          omega
      · rw [vals_shift]
        simp only [List.getD_cons_zero, List.getD_cons_succ]
        rw [h7]; omega
end Go.Proofs.Ytknpekpigiclkaa
