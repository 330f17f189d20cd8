/-
  CONTRACTS OF PACKAGE real: what Bits, Rank, Less, Kind and the law's own 'awake' answer, for every real, in any world; 'awake' under the condition that the table of names holds its word for a tiny one.
-/
import Derived.Test.YtejiboinkapkcaaDoorRows
import Derived.Test.YtejiboinkapkcaaDoorBitArith
import Derived.WalkKit
import Derived.WalkLawsBesides
import Derived.WalkSpells
import Derived.ProofKit
import Derived.OpenShut
import Derived.Laws.Externs
import Derived.Lib.Hide
namespace Go.Proofs.YtejiboinkapkcaaDoor
open Go.ChangeShapes Go.WideShapes Go.ChangeAt Go.RowKit

theorem call_bits (b : Nat) (w : World) : (callFunc 38 #[.float .f64 b]).run Tryd.prog w = .ok (.value (.int .u64 b)) w := by
  rw [run_callFunc_extern (e := Extern.MathFloatBits.float64bits) Tryd.func38 (by kernel_rfl) (by kernel_rfl) (by kernel_rfl) (by kernel_rfl)]
  rfl
theorem call_frombits (n : Int) (w : World) : (callFunc 18 #[.int .u64 n]).run Tryd.prog w = .ok (.value (.float .f64 n.toNat)) w := by
  rw [run_callFunc_extern (e := Extern.MathFloatBits.float64frombits) Tryd.func18 (by kernel_rfl) (by kernel_rfl) (by kernel_rfl) (by kernel_rfl)]
  rfl

/-- The bits of a real as a number with a sign. -/
def sgn (b : Nat) : Int := if b < 9223372036854775808 then b else (b : Int) - 18446744073709551616
/-- A rank of bits with a sign. -/
def rnk (v : Int) : Int := if v < 0 then -9223372036854775809 - v else v
/-- One of two, by the sign. -/
def sd (v a b : Int) : Int := if v < 0 then a else b
/-- The kind of bits with a sign. -/
def knd (v : Int) : Int := if v / 4503599627370496 % 2048 = 2047 then (if v % 4503599627370496 = 0 then sd v 0 7 else 8) else if v / 4503599627370496 % 2048 = 0 then (if v % 4503599627370496 = 0 then sd v 3 4 else sd v 2 5) else sd v 1 6
/-- Is a rank below another one? -/
def lss (a b : Int) : Bool := decide (rnk a < rnk b)
theorem sgn_bd (b : Nat) (hb : b < 18446744073709551616) : -9223372036854775808 ≤ sgn b ∧ sgn b < 9223372036854775808 := by
  unfold sgn; split <;> omega

theorem bits_any (b : Nat) (hb : b < 18446744073709551616) (w : World) :
    Calls Tryd.prog 21 #[.float .f64 b] w fun e w' => e = .returned (.int .i64 (sgn b)) ∧ w = w' := by
  have hc := call_bits
  have hs : IntKind.i64.wrap b = sgn b := by unfold sgn; rw [wrap_i64]; split <;> split <;> omega
  go_enter Tryd.func21, Tryd.ntmps21
  go_wp2
  go_ret
  exact ⟨rfl, rfl⟩
end Go.Proofs.YtejiboinkapkcaaDoor
