/-
  CONTRACTS OF PACKAGE real: what Bits, Rank, Less, Kind and the law's own 'awake' answer, for every real, in any world; 'awake' under the condition that the table of names holds its word for a tiny one.
-/
import Derived.Test.YtjdcafeljdnfeaaRows
import Derived.Test.YtjdcafeljdnfeaaBitArith
import Derived.WalkKit
import Derived.WalkLawsBesides
import Derived.WalkSpells
import Derived.ProofKit
import Derived.OpenShut
import Derived.Laws.Externs
import Derived.Lib.Hide
namespace Go.Proofs.Ytjdcafeljdnfeaa
open Go.ChangeShapes Go.WideShapes Go.ChangeAt Go.RowKit

theorem call_bits (b : Nat) (w : World) : (callFunc 94 #[.float .f64 b]).run Try.prog w = .ok (.value (.int .u64 b)) w := by
  rw [run_callFunc_extern (e := Extern.MathFloatBits.float64bits) Try.func94 (by kernel_rfl) (by kernel_rfl) (by kernel_rfl) (by kernel_rfl)]
  rfl
theorem call_frombits (n : Int) (w : World) : (callFunc 51 #[.int .u64 n]).run Try.prog w = .ok (.value (.float .f64 n.toNat)) w := by
  rw [run_callFunc_extern (e := Extern.MathFloatBits.float64frombits) Try.func51 (by kernel_rfl) (by kernel_rfl) (by kernel_rfl) (by kernel_rfl)]
  rfl

/-- The bits of a real as a number with a sign. -/
def sgn (b : Nat) : Int := if b < 9223372036854775808 then b else (b : Int) - 18446744073709551616
/-- A rank of bits with a sign. -/
def rnk (v : Int) : Int := if v < 0 then -9223372036854775809 - v else v
/-- One of two, by the sign. -/
def sd (v a b : Int) : Int := if v < 0 then a else b
/-- The kind of bits with a sign. -/
def knd (v : Int) : Int := if v / 4503599627370496 % 2048 = 2047 then (if v % 4503599627370496 = 0 then sd v 0 7 else 8) else if v / 4503599627370496 % 2048 = 0 then (if v % 4503599627370496 = 0 then sd v 3 4 else sd v 2 5) else sd v 1 6
/-- Is a rank below another one? -/
def lss (a b : Int) : Bool := decide (rnk a < rnk b)
theorem sgn_bd (b : Nat) (hb : b < 18446744073709551616) : -9223372036854775808 ≤ sgn b ∧ sgn b < 9223372036854775808 := by
  unfold sgn; split <;> omega

theorem bits_any (b : Nat) (hb : b < 18446744073709551616) (w : World) :
    Calls Try.prog 106 #[.float .f64 b] w fun e w' => e = .returned (.int .i64 (sgn b)) ∧ w = w' := by
  have hc := call_bits
  have hs : IntKind.i64.wrap b = sgn b := by unfold sgn; rw [wrap_i64]; split <;> split <;> omega
  go_enter Try.func106, Try.ntmps106
  go_wp2
  go_ret
  exact ⟨rfl, rfl⟩
theorem turned_any (v : Int) (h2 : -9223372036854775808 ≤ v) (w : World) :
    Calls Try.prog 110 #[.int .i64 v] w fun e w' => e = .returned (.int .i64 (rnk v)) ∧ w = w' := by
  by_cases h : v < 0
  · have hx : Go.bits .xor .i64 v 9223372036854775807 = rnk v := by rw [xor_neg v h h2]; unfold rnk; rw [if_pos h]
    go_enter Try.func110, Try.ntmps110
    go_wp2
    go_ret
    exact ⟨rfl, rfl⟩
  · have hx : rnk v = v := by unfold rnk; rw [if_neg h]
    go_enter Try.func110, Try.ntmps110
    go_wp2
    go_ret
    exact ⟨rfl, rfl⟩
theorem rank_any (b : Nat) (hb : b < 18446744073709551616) (w : World) :
    Calls Try.prog 108 #[.float .f64 b] w fun e w' => e = .returned (.int .i64 (rnk (sgn b))) ∧ w = w' := by
  go_enter Try.func108, Try.ntmps108
  go_wp2_with fail
  refine (bits_any b hb _).mono ?_
  rintro e w' ⟨rfl, rfl⟩
  go_wp2_with fail
  refine (turned_any _ (sgn_bd b hb).1 _).mono ?_
  rintro e w' ⟨rfl, rfl⟩
  go_wp2
  go_ret
  exact ⟨rfl, rfl⟩
theorem less_any (a b : Nat) (ha : a < 18446744073709551616) (hb : b < 18446744073709551616) (w : World) :
    Calls Try.prog 96 #[.float .f64 a, .float .f64 b] w fun e w' => e = .returned (.bool (lss (sgn a) (sgn b))) ∧ w = w' := by
  go_enter Try.func96, Try.ntmps96
  go_wp2_with fail
  refine (rank_any a ha _).mono ?_
  rintro e w' ⟨rfl, rfl⟩
  go_wp2_with fail
  refine (rank_any b hb _).mono ?_
  rintro e w' ⟨rfl, rfl⟩
  go_wp2
  go_ret
  exact ⟨rfl, rfl⟩
theorem sided_any (v a b : Int) (w : World) :
    Calls Try.prog 107 #[.int .i64 v, .int .i64 a, .int .i64 b] w fun e w' => e = .returned (.int .i64 (sd v a b)) ∧ w = w' := by
  by_cases h : v < 0
  · have hx : sd v a b = a := by unfold sd; rw [if_pos h]
    rw [hx]
    clear hx
    go_enter Try.func107, Try.ntmps107
    go_wp2
    go_ret
    exact ⟨rfl, rfl⟩
  · have hx : sd v a b = b := by unfold sd; rw [if_neg h]
    rw [hx]
    clear hx
    go_enter Try.func107, Try.ntmps107
    go_wp2
    go_ret
    exact ⟨rfl, rfl⟩
theorem kind_any (b : Nat) (hb : b < 18446744073709551616) (w : World) :
    Calls Try.prog 95 #[.float .f64 b] w fun e w' => e = .returned (.int .i64 (knd (sgn b))) ∧ w = w' := by
  have hB := bits_any b hb
  generalize sgn b = v at *
  have h1 := and_2047 (v / 4503599627370496)
  have h2 := and_frac v
  have hk : knd v = if v / 4503599627370496 % 2048 = 2047 then (if v % 4503599627370496 = 0 then sd v 0 7 else 8) else if v / 4503599627370496 % 2048 = 0 then (if v % 4503599627370496 = 0 then sd v 3 4 else sd v 2 5) else sd v 1 6 := rfl
  generalize v / 4503599627370496 % 2048 = x at h1 hk
  generalize v % 4503599627370496 = y at h2 hk
  rw [hk]
  clear hk
  have HB := Lib.hid hB
  clear hB
  have h2047 : (2047 : Int) ≠ 0 := by decide
  by_cases c1 : x = 2047
  · subst c1
    by_cases c2 : y = 0
    · subst c2
      go_enter Try.func95, Try.ntmps95
      go_wp2_with (first | (go_at_call 106; refine (HB.out _).mono ?_; rintro e w' ⟨rfl, rfl⟩) | (go_at_call 107; refine (sided_any _ _ _ _).mono ?_; rintro e w' ⟨rfl, rfl⟩))
      go_ret
      exact ⟨rfl, rfl⟩
    · have c3 : (y == 0) = false := by simpa using c2
      have c4 : (y != 0) = true := by simpa using c2
      go_enter Try.func95, Try.ntmps95
      go_wp2_with (first | (go_at_call 106; refine (HB.out _).mono ?_; rintro e w' ⟨rfl, rfl⟩) | (go_at_call 107; refine (sided_any _ _ _ _).mono ?_; rintro e w' ⟨rfl, rfl⟩))
      go_ret
      exact ⟨by simp, rfl⟩
  · have d1 : (x == 2047) = false := by simpa using c1
    by_cases c5 : x = 0
    · subst c5
      by_cases c2 : y = 0
      · subst c2
        go_enter Try.func95, Try.ntmps95
        go_wp2_with (first | (go_at_call 106; refine (HB.out _).mono ?_; rintro e w' ⟨rfl, rfl⟩) | (go_at_call 107; refine (sided_any _ _ _ _).mono ?_; rintro e w' ⟨rfl, rfl⟩))
        go_ret
        exact ⟨rfl, rfl⟩
      · have c3 : (y == 0) = false := by simpa using c2
        have c4 : (y != 0) = true := by simpa using c2
        go_enter Try.func95, Try.ntmps95
        go_wp2_with (first | (go_at_call 106; refine (HB.out _).mono ?_; rintro e w' ⟨rfl, rfl⟩) | (go_at_call 107; refine (sided_any _ _ _ _).mono ?_; rintro e w' ⟨rfl, rfl⟩))
        go_ret
        exact ⟨by simp, rfl⟩
    · have c6 : (x == 0) = false := by simpa using c5
      go_enter Try.func95, Try.ntmps95
      go_wp2_with (first | (go_at_call 106; refine (HB.out _).mono ?_; rintro e w' ⟨rfl, rfl⟩) | (go_at_call 107; refine (sided_any _ _ _ _).mono ?_; rintro e w' ⟨rfl, rfl⟩))
      go_ret
      exact ⟨by simp, rfl⟩
theorem copysign_zero (w : World) :
    Calls Try.prog 97 #[.float .f64 0, .float .f64 13830554455654793216] w fun e w' => e = .returned (.float .f64 9223372036854775808) ∧ w = w' := by
  have hc := call_bits
  have hf := call_frombits
  have e1 : Go.bits .andNot .u64 0 9223372036854775808 = 0 := by decide +kernel
  have e2 : Go.bits .and .u64 13830554455654793216 9223372036854775808 = 9223372036854775808 := by decide +kernel
  have e3 : Go.bits .or .u64 0 9223372036854775808 = 9223372036854775808 := by decide +kernel
  go_enter Try.func97, Try.ntmps97
  go_wp2
  go_ret
  exact ⟨rfl, rfl⟩
end Go.Proofs.Ytjdcafeljdnfeaa
