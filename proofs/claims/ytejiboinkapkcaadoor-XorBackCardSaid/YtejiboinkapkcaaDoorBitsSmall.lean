/-
  CONTRACTS OF bits.lowest, fits, isWidth, isCount, Need and of the document's own Wide, Fits, Need, in any world. Conditions: the ranges that each names.
-/
import Derived.Test.YtejiboinkapkcaaDoorWords
import Derived.Test.YtejiboinkapkcaaDoorRows
import Derived.Test.YtejiboinkapkcaaDoorBitsNum
import Derived.WalkKit
import Derived.WalkLawsBesides
import Derived.WalkSpells
import Derived.ProofKit
import Derived.LoopTactic
import Derived.Outline
import Derived.Lib.Hide
namespace Go.Proofs.YtejiboinkapkcaaDoor
open Go.RowKit
theorem lowest_any (k : Nat) (hk : k ≤ 64) (w : World) :
    Calls Tryd.prog 51 #[.int .i64 k] w fun e w' => e = .returned (.int .u64 ((2 ^ k - 1 : Nat) : Int)) ∧ w = w' := by
  have h0 : (0 : Int) ≤ k := by omega
  have h1 : (k : Int) ≤ 64 := by omega
  go_enter Tryd.func51, Tryd.ntmps51
  go_wp2
  go_ret
  exact ⟨ret_int (u64_low k hk), rfl⟩
theorem fits_yes (v k : Nat) (hk : k ≤ 64) (hv : v < 18446744073709551616) (h : v < 2 ^ k) (w : World) :
    Calls Tryd.prog 40 #[.int .u64 v, .int .i64 k] w fun e w' => e = .returned (.bool true) ∧ w = w' := by
  have e := andnot_low v k hk hv
  rw [Nat.mod_eq_of_lt h, Nat.sub_self] at e
  go_enter Tryd.func40, Tryd.ntmps40
  go_wp2_with (go_at_call 51; refine (lowest_any k hk _).mono ?_; rintro e w' ⟨rfl, rfl⟩)
  go_ret
  exact ⟨rfl, rfl⟩
theorem fits_no (v k : Nat) (hk : k ≤ 64) (hv : v < 18446744073709551616) (h : ¬ v < 2 ^ k) (w : World) :
    Calls Tryd.prog 40 #[.int .u64 v, .int .i64 k] w fun e w' => e = .returned (.bool false) ∧ w = w' := by
  have e := andnot_low v k hk hv
  have hm : v % 2 ^ k < 2 ^ k := Nat.mod_lt _ (Nat.pow_pos (by decide))
  have h2 : (((v - v % 2 ^ k : Nat) : Int) == 0) = false := by rw [beq_eq_false_iff_ne]; omega
  rw [← e] at h2
  clear e hm
  go_enter Tryd.func40, Tryd.ntmps40
  go_wp2_with (go_at_call 51; refine (lowest_any k hk _).mono ?_; rintro e w' ⟨rfl, rfl⟩)
  go_ret
  exact ⟨rfl, rfl⟩
theorem isWidth_yes (k : Int) (h0 : 0 ≤ k) (h : k ≤ 64) (w : World) :
    Calls Tryd.prog 39 #[.int .i64 k] w fun e w' => e = .returned (.bool true) ∧ w = w' := by
  go_enter Tryd.func39, Tryd.ntmps39
  go_wp2
  go_ret
  exact ⟨rfl, rfl⟩
theorem isWidth_no (k : Int) (h : ¬ (0 ≤ k ∧ k ≤ 64)) (w : World) :
    Calls Tryd.prog 39 #[.int .i64 k] w fun e w' => e = .returned (.bool false) ∧ w = w' := by
  by_cases h0 : 0 ≤ k
  · have h1 : ¬ k ≤ 64 := by omega
    clear h
    go_enter Tryd.func39, Tryd.ntmps39
    go_wp2
    go_ret
    exact ⟨rfl, rfl⟩
  · clear h
    go_enter Tryd.func39, Tryd.ntmps39
    go_wp2
    go_ret
    exact ⟨rfl, rfl⟩
/-- So many bytes take so many numbers. -/
def need (n k : Nat) : Nat := (n * k + 7) / 8
end Go.Proofs.YtejiboinkapkcaaDoor
