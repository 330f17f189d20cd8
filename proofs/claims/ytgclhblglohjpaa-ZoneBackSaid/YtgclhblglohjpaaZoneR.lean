/-
  ZONES' BYTES THERE AND BACK: what is read off a zone's bytes, and the bytes of what is read. Conditions: as told.
-/
import Derived.Test.YtgclhblglohjpaaZoneQ
namespace Go.Proofs.Ytgclhblglohjpaa
open Go.RowKit
set_option linter.unusedVariables false
theorem sts_get (n : Nat) (C L H S : Nat → Int) : ∀ m k j, k < m → j < 26 → (sts n C L H S m)[4 + 26 * k + j]? = (zbs (C k) (L k) (H k) (S k) 3)[j]?
  | 0, k, j, hk, _ => by omega
  | m + 1, k, j, hk, hj => by
    rw [sts]
    by_cases h : k < m
    · rw [List.getElem?_append_left (by rw [sts_length]; omega)]
      exact sts_get n C L H S m k j h hj
    · obtain rfl : k = m := by omega
      rw [List.getElem?_append_right (by rw [sts_length]; omega), sts_length]
      congr 1
      omega
theorem sts_head (n : Nat) (C L H S : Nat → Int) : ∀ m j, j < 4 → (sts n C L H S m)[j]? = (bytesOf 4 n)[j]?
  | 0, j, hj => rfl
  | m + 1, j, hj => by
    rw [sts, List.getElem?_append_left (by rw [sts_length]; omega)]
    exact sts_head n C L H S m j hj
theorem zbs_c (c l h s : Int) (j : Nat) (hj : j < 2) : (zbs c l h s 3)[j]? = some ((c.toNat / 256 ^ j % 256 : Nat) : Int) := by
  show (((bytesOf 2 c.toNat ++ bytesOf 8 (u64n l)) ++ bytesOf 8 (u64n h)) ++ bytesOf 8 (u64n s))[j]? = _
  rw [List.append_assoc, List.append_assoc, List.getElem?_append_left (by rw [bytesOf_length]; exact hj), bytesOf_get _ _ _ hj]
theorem zbs_l (c l h s : Int) (j : Nat) (hj : j < 8) : (zbs c l h s 3)[2 + j]? = some ((u64n l / 256 ^ j % 256 : Nat) : Int) := by
  show (((bytesOf 2 c.toNat ++ bytesOf 8 (u64n l)) ++ bytesOf 8 (u64n h)) ++ bytesOf 8 (u64n s))[2 + j]? = _
  rw [List.append_assoc, List.append_assoc, List.getElem?_append_right (by rw [bytesOf_length]; omega), bytesOf_length, show 2 + j - 2 = j by omega, List.getElem?_append_left (by rw [bytesOf_length]; exact hj), bytesOf_get _ _ _ hj]
theorem zbs_h (c l h s : Int) (j : Nat) (hj : j < 8) : (zbs c l h s 3)[2 + 8 + j]? = some ((u64n h / 256 ^ j % 256 : Nat) : Int) := by
  show (((bytesOf 2 c.toNat ++ bytesOf 8 (u64n l)) ++ bytesOf 8 (u64n h)) ++ bytesOf 8 (u64n s))[2 + 8 + j]? = _
  rw [List.append_assoc, List.getElem?_append_right (by rw [List.length_append, bytesOf_length, bytesOf_length]; omega), List.length_append, bytesOf_length, bytesOf_length, show 2 + 8 + j - (2 + 8) = j by omega, List.getElem?_append_left (by rw [bytesOf_length]; exact hj), bytesOf_get _ _ _ hj]
theorem zbs_s (c l h s : Int) (j : Nat) (hj : j < 8) : (zbs c l h s 3)[2 + 8 + 8 + j]? = some ((u64n s / 256 ^ j % 256 : Nat) : Int) := by
  show (((bytesOf 2 c.toNat ++ bytesOf 8 (u64n l)) ++ bytesOf 8 (u64n h)) ++ bytesOf 8 (u64n s))[2 + 8 + 8 + j]? = _
  rw [List.getElem?_append_right (by rw [List.length_append, List.length_append, bytesOf_length, bytesOf_length, bytesOf_length]; omega), List.length_append, List.length_append, bytesOf_length, bytesOf_length, bytesOf_length, show 2 + 8 + 8 + j - (2 + 8 + 8) = j by omega, bytesOf_get _ _ _ hj]
theorem p256 : (256 : Nat) ^ 8 = 18446744073709551616 := by decide
theorem wrap_u64n {v : Int} (h1 : -9223372036854775808 ≤ v) (h2 : v ≤ 9223372036854775807) : wrap64 ((u64n v : Nat) : Int) = v := by
  rw [u64n_cast]; unfold wrap64; omega
theorem u64n_wrap {N : Nat} (h : N < 18446744073709551616) : u64n (wrap64 (N : Int)) = N := by
  unfold u64n wrap64; omega
section
variable {n : Nat} {C L H S : Nat → Int}
/-- What is read off the bytes of so many zones. -/
theorem read_n (hn : n ≤ 100) : zN (fun i => (sts n C L H S n).getD i 0) = n := by
  unfold zN
  rw [num_of n _ 4 (fun i hi => by
    show (sts n C L H S n).getD (0 + i) 0 = _
    rw [Nat.zero_add, List.getD_eq_getElem?_getD, sts_head _ _ _ _ _ _ _ hi, bytesOf_get _ _ _ hi]; rfl)]
  have : (256 : Nat) ^ 4 = 4294967296 := by decide
  omega
theorem read_c {k : Nat} (hk : k < n) (h : 1 ≤ C k ∧ C k ≤ 1024) : zC (fun i => (sts n C L H S n).getD i 0) k = C k := by
  unfold zC
  rw [num_of (C k).toNat _ 2 (fun i hi => by
    show (sts n C L H S n).getD (4 + 26 * k + i) 0 = _
    rw [List.getD_eq_getElem?_getD, sts_get _ _ _ _ _ _ _ _ hk (by omega), zbs_c _ _ _ _ _ hi]; rfl)]
  have : (256 : Nat) ^ 2 = 65536 := by decide
  omega
theorem read_l {k : Nat} (hk : k < n) (h1 : -9223372036854775808 ≤ L k) (h2 : L k ≤ 9223372036854775807) : zL (fun i => (sts n C L H S n).getD i 0) k = L k := by
  unfold zL
  rw [num_of (u64n (L k)) _ 8 (fun i hi => by
    show (sts n C L H S n).getD (4 + 26 * k + 2 + i) 0 = _
    rw [List.getD_eq_getElem?_getD, show 4 + 26 * k + 2 + i = 4 + 26 * k + (2 + i) by omega, sts_get _ _ _ _ _ _ _ _ hk (by omega), zbs_l _ _ _ _ _ hi]; rfl), p256, Nat.mod_eq_of_lt (u64n_lt _)]
  exact wrap_u64n h1 h2
theorem read_h {k : Nat} (hk : k < n) (h1 : -9223372036854775808 ≤ H k) (h2 : H k ≤ 9223372036854775807) : zH (fun i => (sts n C L H S n).getD i 0) k = H k := by
  unfold zH
  rw [num_of (u64n (H k)) _ 8 (fun i hi => by
    show (sts n C L H S n).getD (4 + 26 * k + 2 + 8 + i) 0 = _
    rw [List.getD_eq_getElem?_getD, show 4 + 26 * k + 2 + 8 + i = 4 + 26 * k + (2 + 8 + i) by omega, sts_get _ _ _ _ _ _ _ _ hk (by omega), zbs_h _ _ _ _ _ hi]; rfl), p256, Nat.mod_eq_of_lt (u64n_lt _)]
  exact wrap_u64n h1 h2
theorem read_s {k : Nat} (hk : k < n) (h1 : -9223372036854775808 ≤ S k) (h2 : S k ≤ 9223372036854775807) : zS (fun i => (sts n C L H S n).getD i 0) k = S k := by
  unfold zS
  rw [num_of (u64n (S k)) _ 8 (fun i hi => by
    show (sts n C L H S n).getD (4 + 26 * k + 2 + 8 + 8 + i) 0 = _
    rw [List.getD_eq_getElem?_getD, show 4 + 26 * k + 2 + 8 + 8 + i = 4 + 26 * k + (2 + 8 + 8 + i) by omega, sts_get _ _ _ _ _ _ _ _ hk (by omega), zbs_s _ _ _ _ _ hi]; rfl), p256, Nat.mod_eq_of_lt (u64n_lt _)]
  exact wrap_u64n h1 h2
end
theorem sts_bytes (n : Nat) (C L H S : Nat → Int) : ∀ m, ∀ x ∈ sts n C L H S m, 0 ≤ x ∧ x ≤ 255 := by
  have bo : ∀ k N, ∀ x ∈ bytesOf k N, 0 ≤ x ∧ x ≤ 255 := fun k N x hx => by
    unfold bytesOf at hx
    obtain ⟨i, _, rfl⟩ := List.mem_map.mp hx
    omega
  intro m
  induction m with
  | zero => exact bo _ _
  | succ m ih =>
    intro x hx
    rw [sts] at hx
    rcases List.mem_append.mp hx with h | h
    · exact ih x h
    · simp only [zbs, List.mem_append] at h
      rcases h with ((h | h) | h) | h <;> exact bo _ _ x h
theorem zrt_c {c l h s : Int} (hz : zrt c l h s = true) : 1 ≤ c ∧ c ≤ 1024 := by
  unfold zrt at hz
  simp only [Bool.and_eq_true, decide_eq_true_eq] at hz
  omega
/-- The bytes of what was read. -/
theorem bytes_back3 (n : Nat) (z : Nat → Int) (hz : ∀ i, i < n → 0 ≤ z i ∧ z i ≤ 255) : bytesOf n (num z n) = (List.range n).map z := by
  unfold bytesOf
  apply List.map_congr_left
  intro i hi
  have hi := List.mem_range.1 hi
  rw [num_byte z n hz i hi]
  have := hz i hi
  omega
theorem range_app (a b : Nat) (z : Nat → Int) : (List.range (a + b)).map z = (List.range a).map z ++ (List.range b).map (fun i => z (a + i)) := by
  rw [List.range_add, List.map_append, List.map_map]
  rfl
theorem zbs3 (c l h s : Int) : zbs c l h s 3 = (((bytesOf 2 c.toNat ++ bytesOf 8 (u64n l)) ++ bytesOf 8 (u64n h)) ++ bytesOf 8 (u64n s)) := by
  rw [zbs, zbs, zbs, zbs]
  rfl
theorem sts_back (z : Nat → Int) (nb : Nat) (hz : ∀ i, i < nb → 0 ≤ z i ∧ z i ≤ 255) : ∀ k, 4 + 26 * k ≤ nb → sts (zN z) (zC z) (zL z) (zH z) (zS z) k = (List.range (4 + 26 * k)).map z
  | 0, h => by
    rw [sts]
    unfold zN
    rw [bytes_back3 4 _ (fun i hi => hz _ (by omega))]
    apply List.map_congr_left
    intro i _
    simp
  | k + 1, h => by
    rw [sts, sts_back z nb hz k (by omega), show 4 + 26 * (k + 1) = 4 + 26 * k + (2 + 8 + 8 + 8) by omega, range_app (4 + 26 * k) (2 + 8 + 8 + 8), range_app (2 + 8 + 8) 8, range_app (2 + 8) 8, range_app 2 8]
    rw [zbs3]
    have b8 : ∀ q, q + 8 ≤ nb → num (fun i => z (q + i)) 8 < 18446744073709551616 := fun q hq => by
      have := num_lt (fun i => z (q + i)) 8 (fun i hi => hz _ (by omega))
      rwa [p256] at this
    have e0 : (zC z k).toNat = num (fun i => z (4 + 26 * k + i)) 2 := by unfold zC; simp
    have e1 : u64n (zL z k) = num (fun i => z (4 + 26 * k + 2 + i)) 8 := u64n_wrap (b8 _ (by omega))
    have e2 : u64n (zH z k) = num (fun i => z (4 + 26 * k + 2 + 8 + i)) 8 := u64n_wrap (b8 _ (by omega))
    have e3 : u64n (zS z k) = num (fun i => z (4 + 26 * k + 2 + 8 + 8 + i)) 8 := u64n_wrap (b8 _ (by omega))
    rw [e0, e1, e2, e3, bytes_back3 2 _ (fun i hi => hz _ (by omega)), bytes_back3 8 (fun i => z (4 + 26 * k + 2 + i)) (fun i hi => hz _ (by omega)), bytes_back3 8 (fun i => z (4 + 26 * k + 2 + 8 + i)) (fun i hi => hz _ (by omega)), bytes_back3 8 (fun i => z (4 + 26 * k + 2 + 8 + 8 + i)) (fun i hi => hz _ (by omega))]
    simp only [← Nat.add_assoc]
end Go.Proofs.Ytgclhblglohjpaa
