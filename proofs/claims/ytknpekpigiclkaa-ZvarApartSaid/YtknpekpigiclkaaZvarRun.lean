/-
  WHAT IS ENCODED IS DECODED AS IT WAS: the forms of layer 8, as numbers. No condition but that the numbers have 64 bits.
-/
import Derived.Test.YtknpekpigiclkaaZvarE
import Derived.Test.YtknpekpigiclkaaZvarA
import Derived.Test.YtknpekpigiclkaaVarBackArith
namespace Go.Proofs.Ytknpekpigiclkaa
open Go.RowKit
set_option linter.unusedVariables false
theorem zb_at (x : Nat → Int) : ∀ n k j, k < n → j < (digs 9 (zg (x k)).toNat).length → (zb x n).getD (zl x k + j) 0 = (digs 9 (zg (x k)).toNat).getD j 0
  | 0, k, j, hk, _ => by omega
  | n + 1, k, j, hk, hj => by
    rw [zb, List.getD_eq_getElem?_getD]
    have hl : (zb x n).length = zl x n := rfl
    by_cases h : k < n
    · have hm : zl x k + j < zl x n := by
        have mono : ∀ m, k + 1 ≤ m → zl x (k + 1) ≤ zl x m := fun m hm => by
          induction m with
          | zero => omega
          | succ m ih =>
            by_cases e : k + 1 = m + 1
            · rw [e]; exact Nat.le_refl _
            · have := ih (by omega); rw [zl_succ x m]; omega
        have := mono n h
        rw [zl_succ] at this
        omega
      rw [List.getElem?_append_left (by omega), ← List.getD_eq_getElem?_getD]
      exact zb_at x n k j h hj
    · obtain rfl : k = n := by omega
      rw [List.getElem?_append_right (by omega), hl, Nat.add_sub_cancel_left, ← List.getD_eq_getElem?_getD]
theorem zl_mono (x : Nat → Int) (k : Nat) : ∀ n, k ≤ n → zl x k ≤ zl x n
  | 0, h => by obtain rfl : k = 0 := by omega
               exact Nat.le_refl _
  | n + 1, h => by
    by_cases e : k = n + 1
    · subst e; exact Nat.le_refl _
    · have := zl_mono x k n (by omega); rw [zl_succ]; omega
theorem pow128 : (128 : Nat) ^ 10 = 1180591620717411303424 := by decide
/-- One number more is told as it was. -/
theorem nx_digs (z : Nat → Int) (p nb u : Nat) (hu : u < 18446744073709551616) (hnb : p + (digs 9 u).length ≤ nb) (hz : ∀ j, j < (digs 9 u).length → z (p + j) = (digs 9 u).getD j 0) :
    nx z p nb = ((u : Int), (((digs 9 u).length : Nat) : Int), (0 : Int)) ∧ seen z p nb + 1 = (digs 9 u).length := by
  obtain ⟨m, hl, hm, hb, h0, h1, hne, hv⟩ := digs_told 9 u (by rw [pow128]; omega)
  rw [hl] at hnb hz ⊢
  have hL : IsLast (fun i => z (p + i)) (min (nb - p) 10) m := ⟨by omega, fun i hi => by
    show ¬ z (p + i) < 128
    rw [hz i (by omega)]; have := (hb i hi).1; omega, fun _ => by show z (p + m) < 128; rw [hz m (by omega)]; exact h1⟩
  have hs : seen z p nb = m := (last_eq hL).symm
  have ht : ∀ i, i < m + 1 → zt z p nb i = (digs 9 u).getD i 0 := fun i hi => by
    unfold zt
    rw [if_pos (by omega), hz i hi]
  have hvv : vals (zt z p nb) (m + 1) = u := by
    rw [vals_congr (zt z p nb) (fun i => (digs 9 u).getD i 0) (m + 1) ht]; exact hv
  refine ⟨?_, by rw [hs]⟩
  unfold nx got
  rw [hs, if_neg (by omega), if_neg, if_neg, hvv]
  · rintro ⟨g1, g2⟩
    rw [ht m (by omega)] at g2
    exact hne g1 g2
  · rintro ⟨g1, g2⟩
    subst g1
    rw [ht 9 (by omega)] at g2
    obtain ⟨N, e, hN⟩ := vals_bd (fun i => (digs 9 u).getD i 0) 9
    have e10 : vals (fun i => (digs 9 u).getD i 0) 10 = vals (fun i => (digs 9 u).getD i 0) 9 + (digs 9 u).getD 9 0 % 128 * 128 ^ 9 := rfl
    have q9 : (128 : Int) ^ 9 = 9223372036854775808 := by decide
    rw [q9] at e10
    rw [show (9 : Nat) + 1 = 10 from rfl] at hv
    omega
theorem zrun_told (x : Nat → Int) (z : Nat → Int) (nb : Nat) : ∀ n, (∀ i, i < n → -9223372036854775808 ≤ x i ∧ x i ≤ 9223372036854775807) → zl x n ≤ nb → (∀ i, i < zl x n → z i = (zb x n).getD i 0) →
    zrun z nb n = (0, zl x n, (List.range n).map x)
  | 0, _, _, _ => rfl
  | n + 1, hx, hnb, hz => by
    have hs := zl_succ x n
    have ih := zrun_told x z nb n (fun i hi => hx i (by omega)) (by omega) (fun i hi => by
      rw [hz i (by omega), zb, List.getD_eq_getElem?_getD, List.getElem?_append_left hi, ← List.getD_eq_getElem?_getD])
    have hxn := hx n (by omega)
    have hzn := zg_nat hxn.1 hxn.2
    obtain ⟨u, hu⟩ : ∃ u : Nat, zg (x n) = u := ⟨(zg (x n)).toNat, by omega⟩
    have hd := nx_digs z (zl x n) nb u (by omega) (by rw [hu, Int.toNat_natCast] at hs; omega) (fun j hj => by
      have h1 := zb_at x (n + 1) n j (by omega) (by rw [hu, Int.toNat_natCast]; exact hj)
      rw [hu, Int.toNat_natCast] at h1 hs
      rw [hz _ (by omega), h1])
    rw [zrun_step (by rw [ih]) (by rw [ih]; show (nx z (zl x n) nb).2.2 = 0; rw [hd.1]), ih]
    simp only [hd.1, hd.2]
    rw [hu, Int.toNat_natCast] at hs
    rw [hs, ← hu, zag_zg, List.range_succ, List.map_append]
    rfl
/-- Cut by a byte it is refused. -/
theorem zrun_cut (x : Nat → Int) (z : Nat → Int) (n : Nat) (hx : ∀ i, i < n + 1 → -9223372036854775808 ≤ x i ∧ x i ≤ 9223372036854775807) (hz : ∀ i, i < zl x (n + 1) - 1 → z i = (zb x (n + 1)).getD i 0) :
    (zrun z (zl x (n + 1) - 1) (n + 1)).1 = 1 := by
  have hs := zl_succ x n
  have hd1 := digs_some 9 (zg (x n)).toNat
  have ih := zrun_told x z (zl x (n + 1) - 1) n (fun i hi => hx i (by omega)) (by omega) (fun i hi => by
    rw [hz i (by omega), zb, List.getD_eq_getElem?_getD, List.getElem?_append_left hi, ← List.getD_eq_getElem?_getD])
  have hxn := hx n (by omega)
  have hzn := zg_nat hxn.1 hxn.2
  obtain ⟨u, hu⟩ : ∃ u : Nat, zg (x n) = u := ⟨(zg (x n)).toNat, by omega⟩
  obtain ⟨m, hl, hm, hb, _⟩ := digs_told 9 u (by rw [pow128]; omega)
  have hat : ∀ j, j < m → z (zl x n + j) = (digs 9 u).getD j 0 := fun j hj => by
    have h1 := zb_at x (n + 1) n j (by omega) (by rw [hu, Int.toNat_natCast, hl]; omega)
    rw [hu, Int.toNat_natCast] at h1 hs
    rw [hz _ (by omega), h1]
  rw [hu, Int.toNat_natCast, hl] at hs
  have hsub : zl x (n + 1) - 1 - zl x n = m := by omega
  have hL : IsLast (fun i => z (zl x n + i)) (min (zl x (n + 1) - 1 - zl x n) 10) m := ⟨by omega, fun i hi => by
    show ¬ z (zl x n + i) < 128
    rw [hat i hi]; have := (hb i hi).1; omega, fun h => by omega⟩
  have hseen : seen z (zl x n) (zl x (n + 1) - 1) = m := (last_eq hL).symm
  have hnx : (nx z (zl x n) (zl x (n + 1) - 1)).2.2 = 1 := by
    unfold nx got
    rw [hseen, hsub, if_pos (by omega), if_pos (by omega)]
  rw [zrun, ih]
  simp only [hnx]
  rfl
end Go.Proofs.Ytknpekpigiclkaa
