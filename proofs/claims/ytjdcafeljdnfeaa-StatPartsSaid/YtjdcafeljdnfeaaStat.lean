/-
  WHAT IS TOLD OF REALS, no Go text in sight: by their bits, one by one; of both of two; in whatever order. No condition but the ranges that each lemma names.
-/
import Derived.Test.YtjdcafeljdnfeaaRealRef
namespace Go.Proofs.Ytjdcafeljdnfeaa
open Go.RowKit
/-- What is told: how many, how many of each kind, how many whole, whether any number, the least and the greatest by their bits. -/
structure St where
  cnt : Int
  k : Nat → Int
  whole : Int
  any : Bool
  mn : Nat
  mx : Nat
/-- A real's rank, by its bits. -/
def rk (b : Nat) : Int := rnk (sgn b)
/-- A real's kind, by its bits. -/
def kd (b : Nat) : Nat := (knd (sgn b)).toNat
def wid (s : St) (lo hi : Nat) : St := { s with any := true, mn := if (!s.any || decide (rk lo < rk s.mn)) = true then lo else s.mn, mx := if (!s.any || decide (rk s.mx < rk hi)) = true then hi else s.mx }
def bump (s : St) (b : Nat) : St := { s with cnt := s.cnt + 1, k := fun i => if i = kd b then s.k i + 1 else s.k i, whole := if wb b = true then s.whole + 1 else s.whole }
/-- One more. -/
def stp (s : St) (b : Nat) : St := if kd b = 8 then bump s b else wid (bump s b) b b
def st0 : St := ⟨0, fun _ => 0, 0, false, 0, 0⟩
/-- What is told of the first n. -/
def fold (l : Nat → Nat) : Nat → St
  | 0 => st0
  | n + 1 => stp (fold l n) (l n)
theorem knd_bd (v : Int) : 0 ≤ knd v ∧ knd v ≤ 8 := by
  unfold knd sd; split <;> split <;> (try split) <;> (try split) <;> omega
theorem kd_int (b : Nat) : ((kd b : Nat) : Int) = knd (sgn b) := by
  have := (knd_bd (sgn b)).1
  unfold kd; omega
theorem kd_le (b : Nat) : kd b ≤ 8 := by
  have := (knd_bd (sgn b)).2
  unfold kd; omega
theorem fold_congr {l r : Nat → Nat} (n : Nat) (h : ∀ i, i < n → l i = r i) : fold l n = fold r n := by
  induction n with
  | zero => rfl
  | succ n ih => simp only [fold]; rw [ih (fun i hi => h i (by omega)), h n (by omega)]
/-- The cells of what is told. -/
def stV (s : St) : Array Value := #[.int .i64 s.cnt, .int .i64 (s.k 0), .int .i64 (s.k 1), .int .i64 (s.k 2), .int .i64 (s.k 3), .int .i64 (s.k 4), .int .i64 (s.k 5), .int .i64 (s.k 6), .int .i64 (s.k 7), .int .i64 (s.k 8), .int .i64 s.whole, .bool s.any, .float .f64 s.mn, .float .f64 s.mx]
/-- The cells of what the document tells. -/
def stR (s : St) : Array Value := #[.int .i64 s.cnt, .int .i64 (s.k 0), .int .i64 (s.k 1), .int .i64 (s.k 2), .int .i64 (s.k 3), .int .i64 (s.k 4), .int .i64 (s.k 5), .int .i64 (s.k 6), .int .i64 (s.k 7), .int .i64 (s.k 8), .int .i64 s.whole, .bool s.any, .int .u64 (s.mn : Nat), .int .u64 (s.mx : Nat)]
def setK (s : St) (j : Nat) (v : Int) : St := { s with k := fun i => if i = j then v else s.k i }
theorem stV_cnt (s : St) (v : Int) : (stV s).setIfInBounds 0 (.int .i64 v) = stV { s with cnt := v } := rfl
theorem stV_whole (s : St) (v : Int) : (stV s).setIfInBounds 10 (.int .i64 v) = stV { s with whole := v } := rfl
theorem stV_any (s : St) (v : Bool) : (stV s).setIfInBounds 11 (.bool v) = stV { s with any := v } := rfl
theorem stV_mn (s : St) (v : Nat) : (stV s).setIfInBounds 12 (.float .f64 v) = stV { s with mn := v } := rfl
theorem stV_mx (s : St) (v : Nat) : (stV s).setIfInBounds 13 (.float .f64 v) = stV { s with mx := v } := rfl
theorem stV_k (s : St) (j : Nat) (hj : j < 9) (v : Int) : (stV s).setIfInBounds (1 + j) (.int .i64 v) = stV (setK s j v) := by
  match j, hj with
  | 0, _ => rfl
  | 1, _ => rfl
  | 2, _ => rfl
  | 3, _ => rfl
  | 4, _ => rfl
  | 5, _ => rfl
  | 6, _ => rfl
  | 7, _ => rfl
  | 8, _ => rfl
theorem stV_at (s : St) (j : Nat) (hj : j < 9) : (stV s)[1 + j]? = some (.int .i64 (s.k j)) := by
  match j, hj with
  | 0, _ => rfl
  | 1, _ => rfl
  | 2, _ => rfl
  | 3, _ => rfl
  | 4, _ => rfl
  | 5, _ => rfl
  | 6, _ => rfl
  | 7, _ => rfl
  | 8, _ => rfl
theorem stR_cnt (s : St) (v : Int) : (stR s).setIfInBounds 0 (.int .i64 v) = stR { s with cnt := v } := rfl
theorem stR_whole (s : St) (v : Int) : (stR s).setIfInBounds 10 (.int .i64 v) = stR { s with whole := v } := rfl
theorem stR_any (s : St) (v : Bool) : (stR s).setIfInBounds 11 (.bool v) = stR { s with any := v } := rfl
theorem stR_mn (s : St) (v : Nat) : (stR s).setIfInBounds 12 (.int .u64 v) = stR { s with mn := v } := rfl
theorem stR_mx (s : St) (v : Nat) : (stR s).setIfInBounds 13 (.int .u64 v) = stR { s with mx := v } := rfl
theorem stR_k (s : St) (j : Nat) (hj : j < 9) (v : Int) : (stR s).setIfInBounds (1 + j) (.int .i64 v) = stR (setK s j v) := by
  match j, hj with
  | 0, _ => rfl
  | 1, _ => rfl
  | 2, _ => rfl
  | 3, _ => rfl
  | 4, _ => rfl
  | 5, _ => rfl
  | 6, _ => rfl
  | 7, _ => rfl
  | 8, _ => rfl
theorem stR_at (s : St) (j : Nat) (hj : j < 9) : (stR s)[1 + j]? = some (.int .i64 (s.k j)) := by
  match j, hj with
  | 0, _ => rfl
  | 1, _ => rfl
  | 2, _ => rfl
  | 3, _ => rfl
  | 4, _ => rfl
  | 5, _ => rfl
  | 6, _ => rfl
  | 7, _ => rfl
  | 8, _ => rfl
theorem stV_size (s : St) : (stV s).size = 14 := rfl
theorem stR_size (s : St) : (stR s).size = 14 := rfl
theorem stV_one (s : St) : (stV s).all (·.oneCell') = true := by simp [stV, Value.oneCell']
theorem stR_one (s : St) : (stR s).all (·.oneCell') = true := by simp [stR, Value.oneCell']
/-- Numbers that are told are small. -/
def Small (n : Int) (s : St) : Prop := (0 ≤ s.cnt ∧ s.cnt ≤ n) ∧ (∀ i, 0 ≤ s.k i ∧ s.k i ≤ n) ∧ (0 ≤ s.whole ∧ s.whole ≤ n) ∧ s.mn < 18446744073709551616 ∧ s.mx < 18446744073709551616
theorem small_wid {n : Int} {s : St} (h : Small n s) (lo hi : Nat) (h1 : lo < 18446744073709551616) (h2 : hi < 18446744073709551616) : Small n (wid s lo hi) := by
  obtain ⟨a, b, c, d, e⟩ := h
  refine ⟨a, b, c, ?_, ?_⟩
  · show (if _ then lo else s.mn) < _
    split <;> assumption
  · show (if _ then hi else s.mx) < _
    split <;> assumption
theorem small_bump {n : Int} {s : St} (h : Small n s) (b : Nat) : Small (n + 1) (bump s b) := by
  obtain ⟨a, c, d, e, f⟩ := h
  refine ⟨⟨?_, ?_⟩, fun i => ?_, ?_, e, f⟩
  · show 0 ≤ s.cnt + 1; omega
  · show s.cnt + 1 ≤ n + 1; omega
  · show 0 ≤ (if i = kd b then s.k i + 1 else s.k i) ∧ (if i = kd b then s.k i + 1 else s.k i) ≤ n + 1
    have := c i
    split <;> omega
  · show 0 ≤ (if wb b = true then s.whole + 1 else s.whole) ∧ (if wb b = true then s.whole + 1 else s.whole) ≤ n + 1
    split <;> omega
theorem small_stp {n : Int} {s : St} (h : Small n s) (b : Nat) (hb : b < 18446744073709551616) : Small (n + 1) (stp s b) := by
  unfold stp
  split
  · exact small_bump h b
  · exact small_wid (small_bump h b) b b hb hb
theorem small_fold (l : Nat → Nat) (n : Nat) (hl : ∀ i, i < n → l i < 18446744073709551616) : Small n (fold l n) := by
  induction n with
  | zero => exact ⟨⟨Int.le_refl _, Int.le_refl _⟩, fun i => ⟨Int.le_refl _, Int.le_refl _⟩, ⟨Int.le_refl _, Int.le_refl _⟩, (by decide : 0 < 18446744073709551616), (by decide : 0 < 18446744073709551616)⟩
  | succ n ih =>
    have := small_stp (ih (fun i hi => hl i (by omega))) (l n) (hl n (by omega))
    rw [show ((n + 1 : Nat) : Int) = (n : Int) + 1 from by simp]
    exact this
end Go.Proofs.Ytjdcafeljdnfeaa
