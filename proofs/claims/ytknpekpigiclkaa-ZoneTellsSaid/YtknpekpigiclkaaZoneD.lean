/-
  WHAT THE STATEMENT ZoneTells SAYS OF ZONES, in numbers: of none, of some, of both of two; the contracts for any number of numbers. Conditions: at most 600 numbers, which lie in memory as told.
-/
import Derived.Test.YtknpekpigiclkaaZoneC
namespace Go.Proofs.Ytknpekpigiclkaa
open Go.RowKit
set_option linter.unusedVariables false
/-- One row behind the other. -/
def zapp (n : Nat) (x y : Nat → Int) : Nat → Int := fun i => if i < n then x i else y (i - n)
theorem zapp_left (n : Nat) (x y : Nat → Int) {i : Nat} (h : i < n) : zapp n x y i = x i := by unfold zapp; rw [if_pos h]
theorem zapp_right (n : Nat) (x y : Nat → Int) (i : Nat) : zapp n x y (n + i) = y i := by unfold zapp; rw [if_neg (by omega)]; congr 1; omega
theorem zmin_left (n : Nat) (x y : Nat → Int) (h0 : 0 < n) : ∀ k, k ≤ n → zmin (zapp n x y) k = zmin x k
  | 0, _ => zapp_left n x y h0
  | k + 1, h => by
    have ih := zmin_left n x y h0 k (by omega)
    simp only [zmin, ih, zapp_left n x y (show k < n by omega)]
theorem zmax_left (n : Nat) (x y : Nat → Int) (h0 : 0 < n) : ∀ k, k ≤ n → zmax (zapp n x y) k = zmax x k
  | 0, _ => zapp_left n x y h0
  | k + 1, h => by
    have ih := zmax_left n x y h0 k (by omega)
    simp only [zmax, ih, zapp_left n x y (show k < n by omega)]
theorem ztot_left (n : Nat) (x y : Nat → Int) : ∀ k, k ≤ n → ztot (zapp n x y) k = ztot x k
  | 0, _ => rfl
  | k + 1, h => by
    have ih := ztot_left n x y k (by omega)
    simp only [ztot, ih, zapp_left n x y (show k < n by omega)]
theorem zmin_app (n : Nat) (x y : Nat → Int) (h0 : 0 < n) : ∀ m, zmin (zapp n x y) (n + (m + 1)) = if zmin y (m + 1) < zmin x n then zmin y (m + 1) else zmin x n
  | 0 => by
    show (if zapp n x y (n + 0) < zmin (zapp n x y) (n + 0) then zapp n x y (n + 0) else zmin (zapp n x y) (n + 0)) = _
    rw [zapp_right, Nat.add_zero, zmin_left n x y h0 n (Nat.le_refl _)]
    simp [zmin]
  | m + 1 => by
    have ih := zmin_app n x y h0 m
    show (if zapp n x y (n + (m + 1)) < zmin (zapp n x y) (n + (m + 1)) then zapp n x y (n + (m + 1)) else zmin (zapp n x y) (n + (m + 1))) = if (if y (m + 1) < zmin y (m + 1) then y (m + 1) else zmin y (m + 1)) < zmin x n then (if y (m + 1) < zmin y (m + 1) then y (m + 1) else zmin y (m + 1)) else zmin x n
    rw [zapp_right, ih]
    generalize zmin y (m + 1) = B
    generalize y (m + 1) = v
    generalize zmin x n = C
    by_cases h1 : v < B <;> by_cases h2 : B < C <;> by_cases h3 : v < C <;> simp only [h1, h2, h3, if_true, if_false] <;> (try split) <;> omega
theorem zmax_app (n : Nat) (x y : Nat → Int) (h0 : 0 < n) : ∀ m, zmax (zapp n x y) (n + (m + 1)) = if zmax x n < zmax y (m + 1) then zmax y (m + 1) else zmax x n
  | 0 => by
    show (if zmax (zapp n x y) (n + 0) < zapp n x y (n + 0) then zapp n x y (n + 0) else zmax (zapp n x y) (n + 0)) = _
    rw [zapp_right, Nat.add_zero, zmax_left n x y h0 n (Nat.le_refl _)]
    simp [zmax]
  | m + 1 => by
    have ih := zmax_app n x y h0 m
    show (if zmax (zapp n x y) (n + (m + 1)) < zapp n x y (n + (m + 1)) then zapp n x y (n + (m + 1)) else zmax (zapp n x y) (n + (m + 1))) = if zmax x n < (if zmax y (m + 1) < y (m + 1) then y (m + 1) else zmax y (m + 1)) then (if zmax y (m + 1) < y (m + 1) then y (m + 1) else zmax y (m + 1)) else zmax x n
    rw [zapp_right, ih]
    generalize zmax y (m + 1) = B
    generalize y (m + 1) = v
    generalize zmax x n = C
    by_cases h1 : B < v <;> by_cases h2 : C < B <;> by_cases h3 : C < v <;> simp only [h1, h2, h3, if_true, if_false] <;> (try split) <;> omega
theorem ztot_app (n : Nat) (x y : Nat → Int) : ∀ m, ztot (zapp n x y) (n + m) = ztot x n + ztot y m
  | 0 => by
    rw [Nat.add_zero, ztot_left n x y n (Nat.le_refl _)]; simp [ztot]
  | m + 1 => by
    show ztot (zapp n x y) (n + m) + zapp n x y (n + m) = ztot x n + (ztot y m + y m)
    rw [zapp_right, ztot_app n x y m]; omega
theorem zwrap_both (a b : Int) : wrap64 (wrap64 a + wrap64 b) = wrap64 (a + b) := by unfold wrap64; omega
/-- The zone of both is what joining says. -/
theorem zOf_app (n m : Nat) (x y : Nat → Int) (h0 : 0 < n) (h1 : 0 < m) (hn : n ≤ 300) (hm : m ≤ 300) :
    zV (wrap64 ((n : Int) + (m : Int))) (if zmin y m < zmin x n then zmin y m else zmin x n) (if zmax x n < zmax y m then zmax y m else zmax x n) (wrap64 (wrap64 (ztot x n) + wrap64 (ztot y m))) = zOf (zapp n x y) (n + m) := by
  obtain ⟨k, rfl⟩ : ∃ k, m = k + 1 := ⟨m - 1, by omega⟩
  unfold zOf
  rw [zwrap_both, zmin_app n x y h0, zmax_app n x y h0, ztot_app, zwrap_in _ (by omega)]
  congr 1
/-- The zone of any numbers: a zero one of none. -/
def zAny (x : Nat → Int) (n : Nat) : Array Value := if n = 0 then zV 0 0 0 0 else zOf x n
theorem zAny_form (x : Nat → Int) (n : Nat) : ∃ c l h s, zAny x n = #[.int .i64 c, .int .i64 l, .int .i64 h, .int .i64 s] := by
  unfold zAny
  split
  · exact ⟨0, 0, 0, 0, rfl⟩
  · exact ⟨_, _, _, _, rfl⟩
theorem zof_any (a : Option Addr) (n cap : Nat) (x : Nat → Int) (hn : n ≤ 600) (hcap : n ≤ cap) (hcm : cap ≤ maxLen) (hx : ∀ i, i < n → -9223372036854775808 ≤ x i ∧ x i ≤ 9223372036854775807) (w : World) (h : RowOf w a n (fun i => .int .i64 (x i))) :
    Calls Try.prog 51 #[.slice a n cap] w fun e w' => e = .returned (.tuple #[.agg (zAny x n), .bool (decide (0 < n))]) ∧ Below w.heap.size w w' := by
  unfold zAny
  rcases Nat.eq_zero_or_pos n with h0 | h0
  · subst h0; exact zof_none a cap w
  · rw [if_neg (by omega), decide_eq_true h0]
    exact zof_some a n cap x h0 hn hcap hcm hx w h
theorem rof_any (a : Option Addr) (n cap : Nat) (x : Nat → Int) (hn : n ≤ 600) (w : World) (h : RowOf w a n (fun i => .int .i64 (x i))) :
    Calls Try.prog 53 #[.slice a n cap] w fun e w' => e = .returned (.agg (zAny x n)) ∧ Below w.heap.size w w' := by
  unfold zAny
  rcases Nat.eq_zero_or_pos n with h0 | h0
  · subst h0; exact rof_none a cap w
  · rw [if_neg (by omega)]
    exact rof_some a n cap x h0 hn w h
end Go.Proofs.Ytknpekpigiclkaa
