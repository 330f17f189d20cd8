/-
  HYBRID, arithmetic: how many numbers from a place on are one and the same, the runs of a block, and its form. No condition.
-/
import Derived.Test.YthonjffojaljdaaWidD
import Derived.Test.YthonjffojaljdaaHybM9
import Derived.Test.YthonjffojaljdaaVarPut
import Derived.Test.YthonjffojaljdaaHybM1
import Derived.Lib.BitFns
import Derived.Lib.ItoaNum
namespace Go.Proofs.Ythonjffojaljdaa
set_option linter.unusedVariables false
/-- The first place from j on whose number is another one than v; at most k numbers are looked at. -/
def alF (z : Nat → Nat) (v : Nat) : Nat → Nat → Nat
  | j, 0 => j
  | j, k + 1 => if z j = v then alF z v (j + 1) k else j
theorem alF_spec (z : Nat → Nat) (v : Nat) : ∀ k j, j ≤ alF z v j k ∧ alF z v j k ≤ j + k ∧ (∀ i, j ≤ i → i < alF z v j k → z i = v) ∧ (alF z v j k < j + k → z (alF z v j k) ≠ v)
  | 0, j => ⟨Nat.le_refl _, Nat.le_refl _, fun i h1 h2 => absurd (show i < j from h2) (by omega), fun h => absurd (show j < j from h) (by omega)⟩
  | k + 1, j => by
    unfold alF
    by_cases h : z j = v
    · rw [if_pos h]
      obtain ⟨h1, h2, h3, h4⟩ := alF_spec z v k (j + 1)
      refine ⟨by omega, by omega, fun i a b => ?_, fun a => h4 (by omega)⟩
      by_cases e : i = j
      · subst e; exact h
      · exact h3 i (by omega) b
    · rw [if_neg h]
      exact ⟨Nat.le_refl _, by omega, fun i a b => by omega, fun _ => h⟩
/-- How many of m numbers, from the first one on, are one and the same. -/
def al (z : Nat → Nat) (m : Nat) : Nat := alF z (z 0) 0 m
theorem al_spec (z : Nat → Nat) (m : Nat) : al z m ≤ m ∧ (∀ i, i < al z m → z i = z 0) ∧ (al z m < m → z (al z m) ≠ z 0) := by
  obtain ⟨h1, h2, h3, h4⟩ := alF_spec z (z 0) m 0
  exact ⟨by unfold al; omega, fun i hi => h3 i (Nat.zero_le _) hi, fun h => h4 (by unfold al at h; omega)⟩
theorem al_pos (z : Nat → Nat) (m : Nat) (h : 0 < m) : 1 ≤ al z m := by
  obtain ⟨h1, h2, h3⟩ := al_spec z m
  rcases Nat.eq_zero_or_pos (al z m) with h0 | h0
  · rw [h0] at h3; exact absurd rfl (h3 h)
  · exact h0
theorem al_is (z : Nat → Nat) (m f : Nat) (h1 : f ≤ m) (h2 : ∀ i, i < f → z i = z 0) (h3 : f < m → z f ≠ z 0) : al z m = f := by
  obtain ⟨a1, a2, a3⟩ := al_spec z m
  rcases Nat.lt_trichotomy (al z m) f with h | h | h
  · exact absurd (h2 _ h) (a3 (by omega))
  · exact h
  · exact absurd (a2 f h) (h3 (by omega))
theorem al_congr (z y : Nat → Nat) (m : Nat) (h : ∀ i, i < m → z i = y i) : al z m = al y m := by
  obtain ⟨a1, a2, a3⟩ := al_spec y m
  rcases Nat.eq_zero_or_pos m with h0 | h0
  · subst h0; exact al_is z 0 _ a1 (fun i hi => by omega) (fun h => by omega)
  · refine al_is z m _ a1 (fun i hi => ?_) (fun hl => ?_)
    · rw [h i (by omega), h 0 h0]; exact a2 i hi
    · rw [h _ hl, h 0 h0]; exact a3 hl
/-- How many of m numbers a run of packed ones takes, from t on: as long as less than 8 alike come. -/
def pkF (z : Nat → Nat) (m : Nat) : Nat → Nat → Nat
  | t, 0 => t
  | t, k + 1 => if t < m ∧ al (fun i => z (t + i)) (m - t) < 8 then pkF z m (min (t + 8) m) k else t
theorem pkF_le (z : Nat → Nat) (m : Nat) : ∀ k t, t ≤ m → t ≤ pkF z m t k ∧ pkF z m t k ≤ m
  | 0, t, h => ⟨Nat.le_refl _, h⟩
  | k + 1, t, h => by
    unfold pkF
    split
    · have := pkF_le z m k (min (t + 8) m) (by omega)
      omega
    · exact ⟨Nat.le_refl _, h⟩
/-- The first run of m numbers: of one number? how many? -/
def fst1 (z : Nat → Nat) (m : Nat) : Bool × Nat := if 8 ≤ al z m then (true, al z m) else (false, pkF z m (min 8 m) m)
theorem fst1_le (z : Nat → Nat) (m : Nat) (h : 0 < m) : 1 ≤ (fst1 z m).2 ∧ (fst1 z m).2 ≤ m := by
  have h1 := (al_spec z m).1
  have h2 := pkF_le z m m (min 8 m) (by omega)
  unfold fst1
  split
  · exact ⟨by show 1 ≤ al z m; omega, h1⟩
  · exact ⟨by show 1 ≤ pkF z m _ m; omega, h2.2⟩
/-- The runs of n numbers from place p on: of one number? from where? how many? -/
def runsF (z : Nat → Nat) (n : Nat) : Nat → Nat → List (Bool × Nat × Nat)
  | p, 0 => []
  | p, k + 1 => if p < n then ((fst1 (fun i => z (p + i)) (n - p)).1, p, (fst1 (fun i => z (p + i)) (n - p)).2) :: runsF z n (p + (fst1 (fun i => z (p + i)) (n - p)).2) k else []
theorem runsF_end (z : Nat → Nat) (n : Nat) : ∀ k p, n ≤ p → runsF z n p k = []
  | 0, p, _ => rfl
  | k + 1, p, h => by unfold runsF; rw [if_neg (by omega)]
theorem runsF_more (z : Nat → Nat) (n : Nat) : ∀ k k' p, n ≤ p + k → n ≤ p + k' → runsF z n p k = runsF z n p k'
  | 0, k', p, h, _ => by rw [runsF_end z n k' p (by omega)]; rfl
  | k + 1, 0, p, _, h => by rw [runsF_end z n (k + 1) p (by omega)]; rfl
  | k + 1, k' + 1, p, h, h' => by
    unfold runsF
    by_cases hp : p < n
    · rw [if_pos hp, if_pos hp]
      have := (fst1_le (fun i => z (p + i)) (n - p) (by omega)).1
      rw [runsF_more z n k k' _ (by omega) (by omega)]
    · rw [if_neg hp, if_neg hp]
theorem runsF_len (z : Nat → Nat) (n : Nat) : ∀ k p, (runsF z n p k).length ≤ n - p
  | 0, p => Nat.zero_le _
  | k + 1, p => by
    unfold runsF
    by_cases hp : p < n
    · rw [if_pos hp]
      have h1 := (fst1_le (fun i => z (p + i)) (n - p) (by omega)).1
      have := runsF_len z n k (p + (fst1 (fun i => z (p + i)) (n - p)).2)
      simp only [List.length_cons]; omega
    · rw [if_neg hp]; exact Nat.zero_le _
/-- The runs of n numbers. -/
def runsN (z : Nat → Nat) (n : Nat) : List (Bool × Nat × Nat) := runsF z n 0 n
theorem runs_bd (z : Nat → Nat) (n : Nat) : ∀ k p y, y ∈ runsF z n p k → p ≤ y.2.1 ∧ 1 ≤ y.2.2 ∧ y.2.1 + y.2.2 ≤ n
  | 0, p, y, h => by cases h
  | k + 1, p, y, h => by
    unfold runsF at h
    by_cases hp : p < n
    · rw [if_pos hp] at h
      have h1 := fst1_le (fun i => z (p + i)) (n - p) (by omega)
      rcases List.mem_cons.1 h with e | e
      · subst e; exact ⟨Nat.le_refl _, h1.1, by have := h1.2; show p + (fst1 (fun i => z (p + i)) (n - p)).2 ≤ n; omega⟩
      · have := runs_bd z n k _ y e
        exact ⟨by omega, this.2⟩
    · rw [if_neg hp] at h; cases h
/-- A run of the block: whatever is none is taken for the first one. -/
def clr (z : Nat → Nat) (n : Nat) (x : Bool × Nat × Nat) : Bool × Nat × Nat := if x ∈ runsN z n then x else (runsN z n).headD (false, 0, 0)
theorem clr_eq (z : Nat → Nat) (n : Nat) (x : Bool × Nat × Nat) (h : x ∈ runsN z n) : clr z n x = x := if_pos h
theorem clr_mem (z : Nat → Nat) (n : Nat) (x : Bool × Nat × Nat) (hn : 0 < n) : clr z n x ∈ runsN z n := by
  unfold clr
  by_cases h : x ∈ runsN z n
  · rw [if_pos h]; exact h
  · rw [if_neg h]
    obtain ⟨k, rfl⟩ : ∃ k, n = k + 1 := ⟨n - 1, by omega⟩
    have e : runsN z (k + 1) = ((fst1 (fun i => z (0 + i)) (k + 1 - 0)).1, 0, (fst1 (fun i => z (0 + i)) (k + 1 - 0)).2) :: runsF z (k + 1) (0 + (fst1 (fun i => z (0 + i)) (k + 1 - 0)).2) k := by
      unfold runsN
      rw [runsF, if_pos (by omega)]
    rw [e]
    exact List.mem_cons_self
theorem clr_bd (z : Nat → Nat) (n : Nat) (x : Bool × Nat × Nat) (hn : 0 < n) : 1 ≤ (clr z n x).2.2 ∧ (clr z n x).2.1 + (clr z n x).2.2 ≤ n := (runs_bd z n n 0 _ (clr_mem z n x hn)).2
/-- So many groups of 8. -/
def grp (n : Nat) : Nat := (n + 7) / 8
/-- What stands ahead of a run. -/
def hd1 (r : Bool × Nat × Nat) : Nat := if r.1 then 2 * r.2.2 else 2 * grp r.2.2 + 1
/-- A run's numbers, and zeros behind them. -/
def full (z : Nat → Nat) (r : Bool × Nat × Nat) (i : Nat) : Nat := if i < r.2.2 then z (r.2.1 + i) else 0
/-- How many bytes a run has behind its head. -/
def bs1 (w : Nat) (r : Bool × Nat × Nat) : Nat := if r.1 then need 1 w else need (8 * grp r.2.2) w
/-- A run's bytes behind its head. -/
def bd1 (z : Nat → Nat) (w : Nat) (r : Bool × Nat × Nat) : List Int := if r.1 then bytesOf (need 1 w) (z r.2.1) else bytesOf (need (8 * grp r.2.2) w) (packN w (full z r) (8 * grp r.2.2))
theorem bd1_length (z : Nat → Nat) (w : Nat) (r : Bool × Nat × Nat) : (bd1 z w r).length = bs1 w r := by
  unfold bd1 bs1; split <;> exact bytesOf_length _ _
theorem hbl_pow (v : Nat) (h : v < 18446744073709551616) : v < 2 ^ bl v := by
  by_cases h0 : v = 0
  · subst h0; exact Nat.pow_pos (by decide)
  · exact (Lib.bitLenAux_bounds 64 v (by simpa using h) h0).2.2
theorem hmost_pow (l : Nat → Nat) : ∀ n, (∀ i, i < n → l i < 18446744073709551616) → ∀ i, i < n → l i < 2 ^ most l n
  | 0, _, i, hi => absurd hi (Nat.not_lt_zero _)
  | k + 1, h, i, hi => by
    have e : most l (k + 1) = max (most l k) (bl (l k)) := rfl
    rw [e]
    rcases Nat.lt_or_ge i k with h' | h'
    · exact Nat.lt_of_lt_of_le (hmost_pow l k (fun i hi => h i (by omega)) i h') (Nat.pow_le_pow_right (by decide) (Nat.le_max_left _ _))
    · obtain rfl : i = k := by omega
      exact Nat.lt_of_lt_of_le (hbl_pow _ (h i hi)) (Nat.pow_le_pow_right (by decide) (Nat.le_max_right _ _))
/-- What runs take, behind the width. -/
def hW (z : Nat → Nat) (n w : Nat) : List (Bool × Nat × Nat) → Nat
  | [] => 0
  | x :: l => (digs 9 (hd1 (clr z n x))).length + bs1 w (clr z n x) + hW z n w l
theorem hW_more (z : Nat → Nat) (n w : Nat) (x : Bool × Nat × Nat) : ∀ l, hW z n w (l ++ [x]) = hW z n w l + ((digs 9 (hd1 (clr z n x))).length + bs1 w (clr z n x))
  | [] => by simp [hW]
  | y :: l => by simp only [List.cons_append, hW, hW_more z n w x l]; omega
theorem bs1_le (w : Nat) (r : Bool × Nat × Nat) (hw : w ≤ 64) (hr : r.2.2 ≤ 1024) : bs1 w r ≤ 8192 := by
  have h1 : grp r.2.2 ≤ 128 := by unfold grp; omega
  have h2 : 8 * grp r.2.2 * w ≤ 1024 * 64 := Nat.mul_le_mul (by omega) hw
  unfold bs1 need
  split
  · omega
  · omega
theorem hW_le (z : Nat → Nat) (n w : Nat) (hn : 0 < n) (hn2 : n ≤ 1024) (hw : w ≤ 64) : ∀ l, hW z n w l ≤ 8202 * l.length
  | [] => Nat.le_refl _
  | y :: l => by
    have := hW_le z n w hn hn2 hw l
    have h1 := digs_len 9 (hd1 (clr z n y))
    have h2 := bs1_le w (clr z n y) hw (by have := clr_bd z n y hn; omega)
    simp only [hW, List.length_cons]; omega
/-- The bytes of runs. -/
def hB (z : Nat → Nat) (n w : Nat) : List (Bool × Nat × Nat) → List Int
  | [] => []
  | x :: l => digs 9 (hd1 (clr z n x)) ++ bd1 z w (clr z n x) ++ hB z n w l
theorem hB_more (z : Nat → Nat) (n w : Nat) (x : Bool × Nat × Nat) : ∀ l, hB z n w (l ++ [x]) = hB z n w l ++ digs 9 (hd1 (clr z n x)) ++ bd1 z w (clr z n x)
  | [] => by simp [hB]
  | y :: l => by simp [hB, hB_more z n w x l]
theorem hB_length (z : Nat → Nat) (n w : Nat) : ∀ l, (hB z n w l).length = hW z n w l
  | [] => rfl
  | y :: l => by simp only [hB, hW, List.length_append, hB_length z n w l, bd1_length]
theorem hd1_le (r : Bool × Nat × Nat) (hr : r.2.2 ≤ 1024) : hd1 r ≤ 2048 := by
  have h1 : grp r.2.2 ≤ 128 := by unfold grp; omega
  unfold hd1; split <;> omega
end Go.Proofs.Ythonjffojaljdaa
