/-
  PFOR, arithmetic: what the forms by all widths take, and which width is the best. No condition.
-/
import Derived.Test.YthonjffojaljdaaPforA
import Derived.Test.YthonjffojaljdaaBitsSmall
namespace Go.Proofs.Ythonjffojaljdaa
set_option linter.unusedVariables false
/-- What the exceptions' numbers take. -/
def exW (sz : Nat → Nat) : List (Nat × Nat) → Nat
  | [] => 0
  | x :: l => sz x.1 + sz x.2 + exW sz l
theorem exW_more (sz : Nat → Nat) (x : Nat × Nat) : ∀ l, exW sz (l ++ [x]) = exW sz l + (sz x.1 + sz x.2)
  | [] => by simp [exW]
  | y :: l => by simp only [List.cons_append, exW, exW_more sz x l]; omega
theorem exW_le (sz : Nat → Nat) (h : ∀ v, sz v ≤ 10) : ∀ l, exW sz l ≤ 20 * l.length
  | [] => Nat.le_refl _
  | y :: l => by have := exW_le sz h l; have := h y.1; have := h y.2; simp only [exW, List.length_cons]; omega
theorem exS_none (v : Nat → Nat) (q : Nat) : ∀ m, (∀ i, i < m → v i < 2 ^ q) → exS v q m = ([], m)
  | 0, _ => rfl
  | k + 1, h => by
    have ih := exS_none v q k (fun i hi => h i (by omega))
    unfold exS
    rw [if_pos (Nat.div_eq_of_lt (h k (by omega))), ih]
/-- The best width of those below k, and its size. -/
def nBest (f : Nat → Nat) : Nat → Nat × Nat
  | 0 => (0, f 0)
  | k + 1 => if f k < (nBest f k).2 then (k, f k) else nBest f k
theorem nBest_spec (f : Nat → Nat) : ∀ k, (nBest f k).2 = f (nBest f k).1 ∧ ((nBest f k).1 < k ∨ (nBest f k).1 = 0) ∧ (∀ j, j < k → (nBest f k).2 ≤ f j) ∧ (∀ j, j < (nBest f k).1 → (nBest f k).2 < f j)
  | 0 => ⟨rfl, .inr rfl, fun j hj => absurd hj (Nat.not_lt_zero _), fun j hj => absurd hj (Nat.not_lt_zero _)⟩
  | k + 1 => by
    obtain ⟨h1, h2, h3, h4⟩ := nBest_spec f k
    unfold nBest
    by_cases h : f k < (nBest f k).2
    · rw [if_pos h]
      refine ⟨rfl, .inl (Nat.lt_succ_self _), fun j hj => ?_, fun j hj => ?_⟩
      · rcases Nat.lt_or_ge j k with h' | h'
        · exact Nat.le_of_lt (Nat.lt_of_lt_of_le h (h3 j h'))
        · obtain rfl : j = k := by omega
          exact Nat.le_refl _
      · exact Nat.lt_of_lt_of_le h (h3 j hj)
    · rw [if_neg h]
      refine ⟨h1, by omega, fun j hj => ?_, h4⟩
      rcases Nat.lt_or_ge j k with h' | h'
      · exact h3 j h'
      · obtain rfl : j = k := by omega
        omega
/-- The best width of the last so many of all 65: the document's way. -/
def rBest (f : Nat → Nat) : Nat → Nat
  | 0 => 64
  | k + 1 => if f (63 - k) ≤ f (rBest f k) then 63 - k else rBest f k
theorem rBest_spec (f : Nat → Nat) : ∀ k, k ≤ 64 → 64 - k ≤ rBest f k ∧ rBest f k ≤ 64 ∧ (∀ j, 64 - k ≤ j → j ≤ 64 → f (rBest f k) ≤ f j) ∧ (∀ j, 64 - k ≤ j → j < rBest f k → f (rBest f k) < f j)
  | 0, _ => ⟨Nat.le_refl _, Nat.le_refl _, fun j h1 h2 => Nat.le_of_eq (congrArg f (show (64 : Nat) = j by omega)), fun j h1 h2 => absurd (show j < 64 from h2) (by omega)⟩
  | k + 1, hk => by
    obtain ⟨h1, h2, h3, h4⟩ := rBest_spec f k (by omega)
    unfold rBest
    by_cases h : f (63 - k) ≤ f (rBest f k)
    · rw [if_pos h]
      refine ⟨by omega, by omega, fun j a b => ?_, fun j a b => by omega⟩
      rcases Nat.lt_or_ge j (64 - k) with h' | h'
      · obtain rfl : j = 63 - k := by omega
        exact Nat.le_refl _
      · exact Nat.le_trans h (h3 j h' b)
    · rw [if_neg h]
      refine ⟨by omega, h2, fun j a b => ?_, fun j a b => ?_⟩
      · rcases Nat.lt_or_ge j (64 - k) with h' | h'
        · obtain rfl : j = 63 - k := by omega
          omega
        · exact h3 j h' b
      · rcases Nat.lt_or_ge j (64 - k) with h' | h'
        · obtain rfl : j = 63 - k := by omega
          omega
        · exact h4 j h' b
theorem best_same (f : Nat → Nat) (M : Nat) (hM : M ≤ 64) (mono : ∀ j, M ≤ j → j ≤ 64 → f M ≤ f j) : (nBest f (M + 1)).1 = rBest f 64 := by
  obtain ⟨a1, a2, a3, a4⟩ := nBest_spec f (M + 1)
  obtain ⟨b1, b2, b3, b4⟩ := rBest_spec f 64 (Nat.le_refl _)
  have c1 : ∀ j, j ≤ 64 → (nBest f (M + 1)).2 ≤ f j := fun j hj => by
    rcases Nat.lt_or_ge j (M + 1) with h | h
    · exact a3 j h
    · exact Nat.le_trans (a3 M (by omega)) (mono j (by omega) hj)
  generalize (nBest f (M + 1)) = B at *
  generalize rBest f 64 = R at *
  have c2 := c1 R b2
  have c3 := b3 B.1 (by omega) (by omega)
  rcases Nat.lt_trichotomy B.1 R with h | h | h
  · have := b4 B.1 (by omega) h; omega
  · exact h
  · have := a4 R h; omega
/-- How many bytes the form by a width has. -/
def pS (sz : Nat → Nat) (v : Nat → Nat) (m q : Nat) : Nat := 9 + need m q + exW sz (exS v q m).1 + sz (exS v q m).1.length
theorem pS_none (sz : Nat → Nat) (v : Nat → Nat) (m q : Nat) (h : ∀ i, i < m → v i < 2 ^ q) : pS sz v m q = 9 + need m q + sz 0 := by
  unfold pS; rw [exS_none v q m h]; rfl
theorem pS_mono (sz : Nat → Nat) (v : Nat → Nat) (m M : Nat) (h : ∀ i, i < m → v i < 2 ^ M) (j : Nat) (hj : M ≤ j) : pS sz v m M ≤ pS sz v m j := by
  rw [pS_none sz v m M h, pS_none sz v m j (fun i hi => Nat.lt_of_lt_of_le (h i hi) (Nat.pow_le_pow_right (by decide) hj))]
  have h1 : m * M ≤ m * j := Nat.mul_le_mul_left m hj
  unfold need
  omega
theorem exS_congr (v u : Nat → Nat) (q : Nat) : ∀ m, (∀ i, i < m → v i = u i) → exS v q m = exS u q m
  | 0, _ => rfl
  | k + 1, h => by
    unfold exS
    rw [exS_congr v u q k (fun i hi => h i (by omega)), h k (by omega)]
theorem nBest_congr (f g : Nat → Nat) (h : ∀ j, f j = g j) (k : Nat) : nBest f k = nBest g k := by
  rw [show f = g from funext h]
end Go.Proofs.Ythonjffojaljdaa
