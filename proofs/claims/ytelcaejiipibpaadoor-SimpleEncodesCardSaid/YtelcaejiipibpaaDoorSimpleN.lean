/-
  THE FORM OF LAYER 9, in numbers: selectors, which of them is chosen, words, and where each begins. No condition but the ranges that each lemma names.
-/
import Derived.Test.YtelcaejiipibpaaDoorBitsNum
namespace Go.Proofs.YtelcaejiipibpaaDoor
open Go.RowKit
set_option linter.unusedVariables false
def sMany (s : Nat) : Nat := [240, 120, 60, 30, 20, 15, 12, 10, 8, 7, 6, 5, 4, 3, 2, 1].getD s 0
def sBits (s : Nat) : Nat := [0, 0, 1, 2, 3, 4, 5, 6, 7, 8, 10, 12, 15, 20, 30, 60].getD s 0
theorem s_table : ∀ s, s < 16 → 1 ≤ sMany s ∧ sMany s ≤ 240 ∧ sMany s * sBits s ≤ 60 ∧ sBits s ≤ 60 ∧ (sBits s = 0 → 60 ≤ sMany s) := by decide
/-- Does a number fit so many bits? None of them: it is 1. -/
def sHolds (k z : Nat) : Bool := if k = 0 then decide (z = 1) else decide (z < 2 ^ k)
/-- Do the first numbers fit a selector? -/
def sFits (z : Nat → Nat) (n s : Nat) : Bool := decide (sMany s ≤ n) && (List.range (sMany s)).all fun i => sHolds (sBits s) (z i)
theorem sFits_iff (z : Nat → Nat) (n s : Nat) : sFits z n s = true ↔ sMany s ≤ n ∧ ∀ i, i < sMany s → sHolds (sBits s) (z i) = true := by
  simp [sFits, List.all_eq_true]
theorem sFits_last (z : Nat → Nat) (n : Nat) (hn : 1 ≤ n) (hz : z 0 < 2 ^ 60) : sFits z n 15 = true := by
  rw [sFits_iff]
  refine ⟨hn, fun i hi => ?_⟩
  have hi' : i < 1 := hi
  obtain rfl : i = 0 := by omega
  show (if (60 : Nat) = 0 then decide (z 0 = 1) else decide (z 0 < 2 ^ 60)) = true
  rw [if_neg (by decide)]
  exact decide_eq_true hz
/-- The first selector, from one on, that fits. -/
def sFrom (z : Nat → Nat) (n : Nat) : Nat → Nat → Nat
  | 0, s => s
  | f + 1, s => if sFits z n s = true then s else sFrom z n f (s + 1)
theorem sFrom_spec (z : Nat → Nat) (n : Nat) : ∀ f s, s + f = 15 → sFits z n 15 = true → sFits z n (sFrom z n f s) = true ∧ sFrom z n f s ≤ 15 ∧ s ≤ sFrom z n f s ∧ ∀ t, s ≤ t → t < sFrom z n f s → sFits z n t = false
  | 0, s, h, hl => by
    obtain rfl : s = 15 := by omega
    exact ⟨hl, Nat.le_refl _, Nat.le_refl _, fun t h1 h2 => by simp only [sFrom] at h2; omega⟩
  | f + 1, s, h, hl => by
    unfold sFrom
    by_cases hs : sFits z n s = true
    · rw [if_pos hs]
      exact ⟨hs, by omega, Nat.le_refl _, fun t h1 h2 => by omega⟩
    · rw [if_neg hs]
      obtain ⟨h1, h2, h3, h4⟩ := sFrom_spec z n f (s + 1) (by omega) hl
      refine ⟨h1, h2, by omega, fun t h5 h6 => ?_⟩
      by_cases e : t = s
      · subst e; simpa using hs
      · exact h4 t (by omega) h6
/-- The selector that is chosen. -/
def sSel (z : Nat → Nat) (n : Nat) : Nat := sFrom z n 15 0
theorem sSel_spec (z : Nat → Nat) (n : Nat) (hn : 1 ≤ n) (hz : z 0 < 2 ^ 60) : sFits z n (sSel z n) = true ∧ sSel z n ≤ 15 ∧ ∀ t, t < sSel z n → sFits z n t = false := by
  obtain ⟨h1, h2, _, h4⟩ := sFrom_spec z n 15 0 rfl (sFits_last z n hn hz)
  exact ⟨h1, h2, fun t h => h4 t (Nat.zero_le _) h⟩
/-- Where the k-th word's numbers begin. -/
def sAt (z : Nat → Nat) (n : Nat) : Nat → Nat
  | 0 => 0
  | k + 1 => if sAt z n k < n then sAt z n k + sMany (sSel (fun i => z (sAt z n k + i)) (n - sAt z n k)) else sAt z n k
/-- The k-th word's selector. -/
def sOf (z : Nat → Nat) (n k : Nat) : Nat := sSel (fun i => z (sAt z n k + i)) (n - sAt z n k)
theorem sAt_succ {z : Nat → Nat} {n k : Nat} (h : sAt z n k < n) : sAt z n (k + 1) = sAt z n k + sMany (sOf z n k) := by rw [sAt, if_pos h]; rfl
theorem sOf_spec {z : Nat → Nat} {n k : Nat} (hz : ∀ i, i < n → z i < 2 ^ 60) (h : sAt z n k < n) :
    sOf z n k ≤ 15 ∧ sAt z n k + sMany (sOf z n k) ≤ n ∧ 1 ≤ sMany (sOf z n k) ∧ (∀ i, i < sMany (sOf z n k) → sHolds (sBits (sOf z n k)) (z (sAt z n k + i)) = true) ∧ ∀ t, t < sOf z n k → sFits (fun i => z (sAt z n k + i)) (n - sAt z n k) t = false := by
  obtain ⟨h1, h2, h3⟩ := sSel_spec (fun i => z (sAt z n k + i)) (n - sAt z n k) (by omega) (hz _ (by omega))
  rw [sFits_iff] at h1
  have := (s_table (sOf z n k) (by unfold sOf; omega)).1
  refine ⟨h2, ?_, this, h1.2, h3⟩
  have := h1.1
  show sAt z n k + sMany (sSel _ _) ≤ n
  omega
theorem sAt_le {z : Nat → Nat} {n : Nat} (hz : ∀ i, i < n → z i < 2 ^ 60) : ∀ k, sAt z n k ≤ n
  | 0 => Nat.zero_le _
  | k + 1 => by
    by_cases h : sAt z n k < n
    · rw [sAt_succ h]; exact (sOf_spec hz h).2.1
    · rw [sAt, if_neg h]; exact sAt_le hz k
theorem sAt_min {z : Nat → Nat} {n : Nat} (hz : ∀ i, i < n → z i < 2 ^ 60) : ∀ k, k ≤ sAt z n k ∨ sAt z n k = n
  | 0 => .inl (Nat.le_refl _)
  | k + 1 => by
    by_cases h : sAt z n k < n
    · have h1 := (sOf_spec hz h).2.2.1
      rw [sAt_succ h]
      rcases sAt_min hz k with h2 | h2
      · exact .inl (by omega)
      · omega
    · right
      rw [sAt, if_neg h]
      have := sAt_le hz k
      omega
/-- How many words there are. -/
theorem s_words {z : Nat → Nat} {n : Nat} (hz : ∀ i, i < n → z i < 2 ^ 60) : ∃ P, P ≤ n ∧ sAt z n P = n ∧ ∀ k, k < P → sAt z n k < n := by
  have key : ∀ m, (∃ P, P ≤ m ∧ sAt z n P = n ∧ ∀ k, k < P → sAt z n k < n) ∨ ∀ k, k ≤ m → sAt z n k < n := fun m => by
    induction m with
    | zero =>
      by_cases h : sAt z n 0 < n
      · exact .inr fun k hk => by obtain rfl : k = 0 := by omega
                                  exact h
      · exact .inl ⟨0, Nat.le_refl _, by have := sAt_le hz 0; omega, fun k hk => by omega⟩
    | succ m ih =>
      rcases ih with ⟨P, h1, h2, h3⟩ | ih
      · exact .inl ⟨P, by omega, h2, h3⟩
      · by_cases h : sAt z n (m + 1) < n
        · exact .inr fun k hk => by
            by_cases e : k = m + 1
            · subst e; exact h
            · exact ih k (by omega)
        · exact .inl ⟨m + 1, Nat.le_refl _, by have := sAt_le hz (m + 1); omega, fun k hk => ih k (by omega)⟩
  rcases key n with h | h
  · exact h
  · have h1 := h n (Nat.le_refl _)
    rcases sAt_min hz n with h2 | h2 <;> omega
/-- Numbers of one width, one behind the other, the first one lowest. -/
def sPack (k : Nat) (z : Nat → Nat) : Nat → Nat
  | 0 => 0
  | n + 1 => sPack k z n + z n * 2 ^ (n * k)
theorem sPack_lt (k : Nat) (z : Nat → Nat) : ∀ n, (∀ i, i < n → z i < 2 ^ k) → sPack k z n < 2 ^ (n * k)
  | 0, _ => by simp [sPack]
  | n + 1, h => by
    have h1 := sPack_lt k z n (fun i hi => h i (by omega))
    have h2 := h n (by omega)
    have : (z n + 1) * 2 ^ (n * k) ≤ 2 ^ k * 2 ^ (n * k) := Nat.mul_le_mul_right _ h2
    rw [Nat.add_mul, Nat.one_mul] at this
    rw [Nat.succ_mul, Nat.pow_add, Nat.mul_comm (2 ^ (n * k))]
    simp only [sPack]
    omega
theorem sPack_get (k : Nat) (z : Nat → Nat) : ∀ n, (∀ i, i < n → z i < 2 ^ k) → ∀ i, i < n → sPack k z n / 2 ^ (i * k) % 2 ^ k = z i
  | 0, _, i, hi => by omega
  | n + 1, h, i, hi => by
    have h1 := sPack_lt k z n (fun i hi => h i (by omega))
    by_cases e : i = n
    · subst e
      have hn := h i (by omega)
      show (sPack k z i + z i * 2 ^ (i * k)) / 2 ^ (i * k) % 2 ^ k = z i
      rw [Nat.add_mul_div_right _ _ (Nat.two_pow_pos _), Nat.div_eq_of_lt h1, Nat.zero_add, Nat.mod_eq_of_lt hn]
    · have ih := sPack_get k z n (fun i hi => h i (by omega)) i (by omega)
      have e2 : 2 ^ (n * k) = 2 ^ (i * k) * (2 ^ k * 2 ^ ((n - i - 1) * k)) := by
        rw [← Nat.pow_add, ← Nat.pow_add]
        congr 1
        have : n = i + (1 + (n - i - 1)) := by omega
        rw [show n * k = (i + (1 + (n - i - 1))) * k by rw [← this], Nat.add_mul, Nat.add_mul, Nat.one_mul]
      show (sPack k z n + z n * 2 ^ (n * k)) / 2 ^ (i * k) % 2 ^ k = z i
      rw [e2, show z n * (2 ^ (i * k) * (2 ^ k * 2 ^ ((n - i - 1) * k))) = (z n * 2 ^ ((n - i - 1) * k) * 2 ^ k) * 2 ^ (i * k) by
        rw [Nat.mul_comm (2 ^ (i * k)), ← Nat.mul_assoc, Nat.mul_comm (2 ^ k), ← Nat.mul_assoc]]
      rw [Nat.add_mul_div_right _ _ (Nat.two_pow_pos _), Nat.add_mul_mod_self_right, ih]
/-- A word's numbers: none of them where they have no bits. -/
def sNums (z : Nat → Nat) (s : Nat) : Nat := if sBits s = 0 then 0 else sPack (sBits s) z (sMany s)
theorem sNums_lt (z : Nat → Nat) (s : Nat) (hs : s < 16) (h : ∀ i, i < sMany s → sHolds (sBits s) (z i) = true) : sNums z s < 2 ^ (sMany s * sBits s) ∧ sNums z s < 2 ^ 60 := by
  have ht := s_table s hs
  have key : sNums z s < 2 ^ (sMany s * sBits s) := by
    unfold sNums
    split
    · exact Nat.two_pow_pos _
    · rename_i h0
      refine sPack_lt _ _ _ fun i hi => ?_
      have := h i hi
      unfold sHolds at this
      rw [if_neg h0] at this
      exact of_decide_eq_true this
  exact ⟨key, Nat.lt_of_lt_of_le key (Nat.pow_le_pow_right (by decide) ht.2.2.1)⟩
/-- The k-th word. -/
def sWord (z : Nat → Nat) (n k : Nat) : Nat := sNums (fun i => z (sAt z n k + i)) (sOf z n k) + sOf z n k * 2 ^ 60
theorem sWord_parts {z : Nat → Nat} {n k : Nat} (hz : ∀ i, i < n → z i < 2 ^ 60) (h : sAt z n k < n) :
    sWord z n k < 2 ^ 64 ∧ sWord z n k / 2 ^ 60 = sOf z n k ∧ sWord z n k % 2 ^ 60 = sNums (fun i => z (sAt z n k + i)) (sOf z n k) := by
  obtain ⟨h1, _, _, h4, _⟩ := sOf_spec hz h
  have hl := (sNums_lt (fun i => z (sAt z n k + i)) (sOf z n k) (by omega) h4).2
  unfold sWord
  generalize sNums (fun i => z (sAt z n k + i)) (sOf z n k) = N at *
  generalize sOf z n k = s at *
  have e60 : (2 : Nat) ^ 60 = 1152921504606846976 := by decide
  have e64 : (2 : Nat) ^ 64 = 18446744073709551616 := by decide
  rw [e60] at *
  rw [e64]
  omega
/-- The i-th number of a word. -/
def sUn (w i : Nat) : Nat := if sBits (w / 2 ^ 60) = 0 then 1 else w / 2 ^ (i * sBits (w / 2 ^ 60)) % 2 ^ sBits (w / 2 ^ 60)
def sUns (w : Nat) : List Nat := (List.range (sMany (w / 2 ^ 60))).map (sUn w)
theorem sUns_length (w : Nat) : (sUns w).length = sMany (w / 2 ^ 60) := by rw [sUns, List.length_map, List.length_range]
/-- What is wrong with the k-th word of bytes, so many numbers having come. -/
def sBad (z : Nat → Int) (nb n k len : Nat) : Int :=
  if nb < 8 * k + 8 then 1
  else if n < len + sMany (num (fun j => z (8 * k + j)) 8 / 2 ^ 60) then 7
  else if num (fun j => z (8 * k + j)) 8 % 2 ^ 60 / 2 ^ (sMany (num (fun j => z (8 * k + j)) 8 / 2 ^ 60) * sBits (num (fun j => z (8 * k + j)) 8 / 2 ^ 60)) ≠ 0 then 3 else 0
/-- What has come of the first k words: what is wrong, how many of them there were, the zigzags. -/
def sRun (z : Nat → Int) (nb n : Nat) : Nat → Int × Nat × List Nat
  | 0 => (0, 0, [])
  | k + 1 => if (sRun z nb n k).1 ≠ 0 ∨ n ≤ (sRun z nb n k).2.2.length then sRun z nb n k
    else if sBad z nb n (sRun z nb n k).2.1 (sRun z nb n k).2.2.length ≠ 0 then (sBad z nb n (sRun z nb n k).2.1 (sRun z nb n k).2.2.length, (sRun z nb n k).2.1, (sRun z nb n k).2.2)
    else (0, (sRun z nb n k).2.1 + 1, (sRun z nb n k).2.2 ++ sUns (num (fun j => z (8 * (sRun z nb n k).2.1 + j)) 8))
theorem sRun_stop {z : Nat → Int} {nb n k : Nat} (h : (sRun z nb n k).1 ≠ 0 ∨ n ≤ (sRun z nb n k).2.2.length) : ∀ j, sRun z nb n (k + j) = sRun z nb n k
  | 0 => rfl
  | j + 1 => by
    have ih := sRun_stop h j
    show sRun z nb n (k + j + 1) = _
    rw [sRun, ih, if_pos h]
theorem sRun_le {z : Nat → Int} {nb n : Nat} : ∀ k, (sRun z nb n k).2.2.length ≤ n ∧ (sRun z nb n k).2.1 ≤ k
  | 0 => ⟨Nat.zero_le _, Nat.le_refl _⟩
  | k + 1 => by
    obtain ⟨h1, h2⟩ := @sRun_le z nb n k
    unfold sRun
    split
    · exact ⟨h1, by omega⟩
    · split
      · exact ⟨h1, by show (sRun z nb n k).2.1 ≤ k + 1; omega⟩
      · rename_i g1 g2
        refine ⟨?_, by show (sRun z nb n k).2.1 + 1 ≤ k + 1; omega⟩
        show ((sRun z nb n k).2.2 ++ sUns _).length ≤ n
        rw [List.length_append, sUns_length]
        simp only [ne_eq, Decidable.not_not] at g2
        unfold sBad at g2
        split at g2
        · exact absurd g2 (by decide)
        · split at g2
          · exact absurd g2 (by decide)
          · omega
/-- A word of its own numbers is told as it was. -/
theorem sUn_word {z : Nat → Nat} {n k : Nat} (hz : ∀ i, i < n → z i < 2 ^ 60) (h : sAt z n k < n) (i : Nat) (hi : i < sMany (sOf z n k)) : sUn (sWord z n k) i = z (sAt z n k + i) := by
  obtain ⟨h1, h2, h3⟩ := sWord_parts hz h
  obtain ⟨g1, _, _, g4, _⟩ := sOf_spec hz h
  have hh := g4 i hi
  have ht := s_table (sOf z n k) (by omega)
  unfold sUn
  rw [h2]
  unfold sHolds at hh
  by_cases h0 : sBits (sOf z n k) = 0
  · rw [if_pos h0] at hh ⊢
    exact (of_decide_eq_true hh).symm
  · rw [if_neg h0] at hh ⊢
    have hp : ∀ i, i < sMany (sOf z n k) → z (sAt z n k + i) < 2 ^ sBits (sOf z n k) := fun i hi => by
      have := g4 i hi
      unfold sHolds at this
      rw [if_neg h0] at this
      exact of_decide_eq_true this
    have hg := sPack_get (sBits (sOf z n k)) (fun i => z (sAt z n k + i)) (sMany (sOf z n k)) hp i hi
    have hN : sNums (fun i => z (sAt z n k + i)) (sOf z n k) = sPack (sBits (sOf z n k)) (fun i => z (sAt z n k + i)) (sMany (sOf z n k)) := by unfold sNums; rw [if_neg h0]
    have hle : i * sBits (sOf z n k) + sBits (sOf z n k) ≤ 60 := by
      have : (i + 1) * sBits (sOf z n k) ≤ sMany (sOf z n k) * sBits (sOf z n k) := Nat.mul_le_mul_right _ hi
      rw [Nat.add_mul, Nat.one_mul] at this
      omega
    rw [← hg, ← hN]
    unfold sWord
    generalize sNums (fun i => z (sAt z n k + i)) (sOf z n k) = N
    generalize hkk : sBits (sOf z n k) = kk at *
    generalize sOf z n k = s at *
    obtain ⟨d, hd⟩ : ∃ d, 60 = i * kk + (kk + d) := ⟨60 - (i * kk + kk), by omega⟩
    rw [hd, Nat.pow_add, Nat.pow_add, show s * (2 ^ (i * kk) * (2 ^ kk * 2 ^ d)) = (s * 2 ^ d * 2 ^ kk) * 2 ^ (i * kk) by
      rw [Nat.mul_comm (2 ^ (i * kk)), ← Nat.mul_assoc, Nat.mul_comm (2 ^ kk), ← Nat.mul_assoc], Nat.add_mul_div_right _ _ (Nat.two_pow_pos _), Nat.add_mul_mod_self_right]
theorem sBad_told {zs : Nat → Nat} {n k : Nat} (hz : ∀ i, i < n → zs i < 2 ^ 60) (h : sAt zs n k < n) (z : Nat → Int) (nb : Nat) (hnb : 8 * k + 8 ≤ nb) (hw : num (fun j => z (8 * k + j)) 8 = sWord zs n k) : sBad z nb n k (sAt zs n k) = 0 := by
  obtain ⟨h1, h2, h3⟩ := sWord_parts hz h
  obtain ⟨g1, g2, _, g4, _⟩ := sOf_spec hz h
  have hl := (sNums_lt (fun i => zs (sAt zs n k + i)) (sOf zs n k) (by omega) g4).1
  unfold sBad
  rw [if_neg (by omega), hw, h2, h3, if_neg (by omega), Nat.div_eq_of_lt hl, if_neg (by simp)]
/-- What is encoded is told as it was. -/
theorem sRun_told {zs : Nat → Nat} {n P : Nat} (hz : ∀ i, i < n → zs i < 2 ^ 60) (hlt : ∀ k, k < P → sAt zs n k < n) (z : Nat → Int) (nb : Nat) (hnb : 8 * P ≤ nb) (hw : ∀ k, k < P → num (fun j => z (8 * k + j)) 8 = sWord zs n k) :
    ∀ k, k ≤ P → sRun z nb n k = (0, k, (List.range (sAt zs n k)).map zs)
  | 0, _ => rfl
  | k + 1, hk => by
    have ih := sRun_told hz hlt z nb hnb hw k (by omega)
    have h := hlt k (by omega)
    have hb := sBad_told hz h z nb (by omega) (hw k (by omega))
    obtain ⟨_, h2, _⟩ := sWord_parts hz h
    have hlen : ((List.range (sAt zs n k)).map zs).length = sAt zs n k := by rw [List.length_map, List.length_range]
    rw [sRun, ih]
    simp only [hlen]
    rw [if_neg (by omega), hb, if_neg (by simp), hw k (by omega), sAt_succ h, List.range_add, List.map_append, List.map_map]
    congr 2
    unfold sUns
    rw [h2]
    congr 1
    exact List.map_congr_left fun i hi => by
      rw [List.mem_range] at hi
      exact sUn_word hz h i hi
/-- One number more: each word begins where it did, or all have been taken. -/
theorem sAt_more {z : Nat → Nat} {n : Nat} (hz : ∀ i, i < n + 1 → z i < 2 ^ 60) : ∀ k, (∀ j, j < k → sAt z n j < n) → sAt z (n + 1) k = sAt z n k ∨ sAt z (n + 1) k = n + 1
  | 0, _ => .inl rfl
  | k + 1, hlt => by
    have h := hlt k (by omega)
    rcases sAt_more hz k (fun j hj => hlt j (by omega)) with e | e
    · have h' : sAt z (n + 1) k < n + 1 := by omega
      rw [sAt_succ h, sAt_succ h', e]
      obtain ⟨g1, g2, g3, g4, g5⟩ := sOf_spec (fun i hi => hz i (by omega)) h
      obtain ⟨f1, f2, f3, f4, f5⟩ := sOf_spec hz h'
      rw [e] at f2 f4 f5
      rcases Nat.lt_trichotomy (sOf z (n + 1) k) (sOf z n k) with hs | hs | hs
      · right
        have hn := g5 _ hs
        by_cases hm : sMany (sOf z (n + 1) k) ≤ n - sAt z n k
        · have := (sFits_iff (fun i => z (sAt z n k + i)) (n - sAt z n k) (sOf z (n + 1) k)).2 ⟨hm, f4⟩
          rw [hn] at this
          exact absurd this (by decide)
        · omega
      · left; rw [hs]
      · exfalso
        have hn := f5 _ hs
        have := (sFits_iff (fun i => z (sAt z n k + i)) (n + 1 - sAt z n k) (sOf z n k)).2 ⟨by omega, g4⟩
        rw [hn] at this
        exact absurd this (by decide)
    · right
      have := @sAt_le z (n + 1) hz (k + 1)
      rw [sAt, if_neg (by omega)] at this ⊢
      exact e
/-- One number more: at most one word more. -/
theorem s_more {z : Nat → Nat} {n P Q : Nat} (hz : ∀ i, i < n + 1 → z i < 2 ^ 60) (hP : sAt z n P = n) (hlt : ∀ k, k < P → sAt z n k < n) (hQ : ∀ k, k < Q → sAt z (n + 1) k < n + 1) : Q ≤ P + 1 := by
  by_cases hq : Q ≤ P + 1
  · exact hq
  · exfalso
    have h1 := hQ (P + 1) (by omega)
    have h0 := hQ P (by omega)
    rcases sAt_more hz P hlt with e | e
    · have hn : sAt z (n + 1) P = n := e.trans hP
      rw [sAt_succ h0, hn] at h1
      have := (sOf_spec hz h0).2.2.1
      omega
    · omega
end Go.Proofs.YtelcaejiipibpaaDoor
