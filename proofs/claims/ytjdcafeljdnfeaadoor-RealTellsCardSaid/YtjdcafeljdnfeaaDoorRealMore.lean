/-
  MORE CONTRACTS OF PACKAGE real AND FACTS ON RANKS AND KINDS: Same, FromBits, FromRank and math.Inf, for every real, in any world; ranks and kinds told by sign and rung. No condition.
-/
import Derived.Test.YtjdcafeljdnfeaaDoorRealBase
import Derived.Test.YtjdcafeljdnfeaaDoorFloatOrd
namespace Go.Proofs.YtjdcafeljdnfeaaDoor
open Go.ChangeShapes Go.WideShapes Go.ChangeAt Go.RowKit

theorem same_any (a b : Nat) (ha : a < 18446744073709551616) (hb : b < 18446744073709551616) (w : World) :
    Calls Tryd.prog 23 #[.float .f64 a, .float .f64 b] w fun e w' => e = .returned (.bool (decide (a = b))) ∧ w = w' := by
  have h : (sgn a == sgn b) = decide (a = b) := by
    rw [Bool.eq_iff_iff]; simp; unfold sgn; split <;> split <;> omega
  go_enter Tryd.func23, Tryd.ntmps23
  go_wp2_with fail
  refine (bits_any a ha _).mono ?_
  rintro e w' ⟨rfl, rfl⟩
  go_wp2_with fail
  refine (bits_any b hb _).mono ?_
  rintro e w' ⟨rfl, rfl⟩
  go_wp2
  go_ret
  exact ⟨rfl, rfl⟩
theorem from_bits (v : Int) (w : World) :
    Calls Tryd.prog 17 #[.int .i64 v] w fun e w' => e = .returned (.float .f64 (v % 18446744073709551616).toNat) ∧ w = w' := by
  have hf := call_frombits
  have hw : IntKind.u64.wrap v = v % 18446744073709551616 := by simp [IntKind.wrap, IntKind.bits, IntKind.signed]
  generalize v % 18446744073709551616 = u at hw
  go_enter Tryd.func17, Tryd.ntmps17
  go_wp2
  go_ret
  exact ⟨rfl, rfl⟩
theorem rnk_rnk (v : Int) (h1 : -9223372036854775808 ≤ v) (h2 : v < 9223372036854775808) : rnk (rnk v) = v ∧ -9223372036854775808 ≤ rnk v ∧ rnk v < 9223372036854775808 := by
  unfold rnk; split <;> (try split) <;> omega
theorem from_rank (v : Int) (h1 : -9223372036854775808 ≤ v) (w : World) :
    Calls Tryd.prog 18 #[.int .i64 v] w fun e w' => e = .returned (.float .f64 (rnk v % 18446744073709551616).toNat) ∧ w = w' := by
  go_enter Tryd.func18, Tryd.ntmps18
  go_wp2_with fail
  refine (turned_any v h1 _).mono ?_
  rintro e w' ⟨rfl, rfl⟩
  go_wp2_with fail
  refine (from_bits _ _).mono ?_
  rintro e w' ⟨rfl, rfl⟩
  go_wp2
  go_ret
  exact ⟨rfl, rfl⟩
theorem from_rank_back (b : Nat) (hb : b < 18446744073709551616) (w : World) :
    Calls Tryd.prog 18 #[.int .i64 (rnk (sgn b))] w fun e w' => e = .returned (.float .f64 b) ∧ w = w' := by
  have hs := sgn_bd b hb
  have hr := rnk_rnk _ hs.1 hs.2
  refine (from_rank _ hr.2.1 w).mono fun e w' h => ⟨h.1.trans ?_, h.2⟩
  rw [hr.1]
  have : (sgn b % 18446744073709551616).toNat = b := by unfold sgn; split <;> omega
  rw [this]
theorem rnk_rung (b : Nat) (hb : b < 18446744073709551616) : rnk (sgn b) = if minus b then -1 - (rung b : Int) else rung b := by
  unfold rnk sgn minus rung
  by_cases h : b < 9223372036854775808
  · have : (b / 9223372036854775808 % 2 == 1) = false := by simp; omega
    rw [this, if_pos h]; simp; omega
  · have : (b / 9223372036854775808 % 2 == 1) = true := by simp; omega
    rw [this, if_neg h]; simp; rw [if_pos (by omega)]; omega
theorem sgn_neg (b : Nat) (hb : b < 18446744073709551616) : sgn b < 0 ↔ minus b = true := by
  unfold sgn minus; simp; split <;> omega
theorem knd_nan (b : Nat) (hb : b < 18446744073709551616) : knd (sgn b) = 8 ↔ isNan b := by
  have e1 : sgn b / 4503599627370496 % 2048 = ((rung b / 4503599627370496 : Nat) : Int) := by unfold sgn rung; split <;> omega
  have e2 : sgn b % 4503599627370496 = ((rung b % 4503599627370496 : Nat) : Int) := by unfold sgn rung; split <;> omega
  have hr : rung b < 9223372036854775808 := Nat.mod_lt _ (by decide)
  unfold knd isNan
  rw [e1, e2]
  unfold sd
  generalize rung b = r at *
  generalize sgn b = v at *
  split <;> split <;> (try split) <;> (try split) <;> omega
theorem knd_zero (b : Nat) (hb : b < 18446744073709551616) (h : rung b = 0) : knd (sgn b) = if minus b then 3 else 4 := by
  have e1 : sgn b / 4503599627370496 % 2048 = ((rung b / 4503599627370496 : Nat) : Int) := by unfold sgn rung; split <;> omega
  have e2 : sgn b % 4503599627370496 = ((rung b % 4503599627370496 : Nat) : Int) := by unfold sgn rung; split <;> omega
  have hm := sgn_neg b hb
  unfold knd
  rw [e1, e2, h]
  simp only [Nat.zero_div, Nat.zero_mod, Int.natCast_zero, if_true]
  rw [if_neg (by decide)]
  unfold sd
  by_cases c : minus b = true
  · rw [if_pos (hm.2 c), if_pos c]
  · rw [if_neg (fun x => c (hm.1 x)), if_neg c]
theorem knd_minus (b : Nat) (hb : b < 18446744073709551616) (h : rung b ≠ 0) : knd (sgn b) ≠ 3 := by
  have e1 : sgn b / 4503599627370496 % 2048 = ((rung b / 4503599627370496 : Nat) : Int) := by unfold sgn rung; split <;> omega
  have e2 : sgn b % 4503599627370496 = ((rung b % 4503599627370496 : Nat) : Int) := by unfold sgn rung; split <;> omega
  unfold knd
  rw [e1, e2]
  unfold sd
  generalize rung b = r at *
  generalize sgn b = v at *
  split <;> split <;> (try split) <;> (try split) <;> omega
theorem rung_inj (a b : Nat) (ha : a < 18446744073709551616) (hb : b < 18446744073709551616) (h1 : minus a = minus b) (h2 : rung a = rung b) : a = b := by
  unfold minus rung at *
  have : (a / 9223372036854775808 % 2 = 1) ↔ (b / 9223372036854775808 % 2 = 1) := by
    rw [← beq_iff_eq, h1, beq_iff_eq]
  omega
end Go.Proofs.YtjdcafeljdnfeaaDoor
