/-
  CONTRACTS OF bits.lowest, fits, isWidth, isCount, Need and of the document's own Wide, Fits, Need, in any world. Conditions: the ranges that each names.
-/
import Derived.Test.YthonjffojaljdaaWords
import Derived.Test.YthonjffojaljdaaRows
import Derived.Test.YthonjffojaljdaaHybM1
import Derived.WalkKit
import Derived.WalkLawsBesides
import Derived.WalkSpells
import Derived.ProofKit
import Derived.LoopTactic
import Derived.Outline
import Derived.Lib.Hide
namespace Go.Proofs.Ythonjffojaljdaa
open Go.RowKit
theorem lowest_any (k : Nat) (hk : k ≤ 64) (w : World) :
    Calls Try.prog 146 #[.int .i64 k] w fun e w' => e = .returned (.int .u64 ((2 ^ k - 1 : Nat) : Int)) ∧ w = w' := by
  have h0 : (0 : Int) ≤ k := by omega
  have h1 : (k : Int) ≤ 64 := by omega
  go_enter Try.func146, Try.ntmps146
  go_wp2
  go_ret
  exact ⟨ret_int (u64_low k hk), rfl⟩
theorem fits_yes (v k : Nat) (hk : k ≤ 64) (hv : v < 18446744073709551616) (h : v < 2 ^ k) (w : World) :
    Calls Try.prog 145 #[.int .u64 v, .int .i64 k] w fun e w' => e = .returned (.bool true) ∧ w = w' := by
  have e := andnot_low v k hk hv
  rw [Nat.mod_eq_of_lt h, Nat.sub_self] at e
  go_enter Try.func145, Try.ntmps145
  go_wp2_with (go_at_call 146; refine (lowest_any k hk _).mono ?_; rintro e w' ⟨rfl, rfl⟩)
  go_ret
  exact ⟨rfl, rfl⟩
theorem fits_no (v k : Nat) (hk : k ≤ 64) (hv : v < 18446744073709551616) (h : ¬ v < 2 ^ k) (w : World) :
    Calls Try.prog 145 #[.int .u64 v, .int .i64 k] w fun e w' => e = .returned (.bool false) ∧ w = w' := by
  have e := andnot_low v k hk hv
  have hm : v % 2 ^ k < 2 ^ k := Nat.mod_lt _ (Nat.pow_pos (by decide))
  have h2 : (((v - v % 2 ^ k : Nat) : Int) == 0) = false := by rw [beq_eq_false_iff_ne]; omega
  rw [← e] at h2
  clear e hm
  go_enter Try.func145, Try.ntmps145
  go_wp2_with (go_at_call 146; refine (lowest_any k hk _).mono ?_; rintro e w' ⟨rfl, rfl⟩)
  go_ret
  exact ⟨rfl, rfl⟩
theorem isWidth_yes (k : Int) (h0 : 0 ≤ k) (h : k ≤ 64) (w : World) :
    Calls Try.prog 107 #[.int .i64 k] w fun e w' => e = .returned (.bool true) ∧ w = w' := by
  go_enter Try.func107, Try.ntmps107
  go_wp2
  go_ret
  exact ⟨rfl, rfl⟩
theorem isWidth_no (k : Int) (h : ¬ (0 ≤ k ∧ k ≤ 64)) (w : World) :
    Calls Try.prog 107 #[.int .i64 k] w fun e w' => e = .returned (.bool false) ∧ w = w' := by
  by_cases h0 : 0 ≤ k
  · have h1 : ¬ k ≤ 64 := by omega
    clear h
    go_enter Try.func107, Try.ntmps107
    go_wp2
    go_ret
    exact ⟨rfl, rfl⟩
  · clear h
    go_enter Try.func107, Try.ntmps107
    go_wp2
    go_ret
    exact ⟨rfl, rfl⟩
theorem isCount_yes (k : Int) (h0 : 0 ≤ k) (h : k ≤ 1024) (w : World) :
    Calls Try.prog 106 #[.int .i64 k] w fun e w' => e = .returned (.bool true) ∧ w = w' := by
  go_enter Try.func106, Try.ntmps106
  go_wp2
  go_ret
  exact ⟨rfl, rfl⟩
theorem isCount_no (k : Int) (h : ¬ (0 ≤ k ∧ k ≤ 1024)) (w : World) :
    Calls Try.prog 106 #[.int .i64 k] w fun e w' => e = .returned (.bool false) ∧ w = w' := by
  by_cases h0 : 0 ≤ k
  · have h1 : ¬ k ≤ 1024 := by omega
    clear h
    go_enter Try.func106, Try.ntmps106
    go_wp2
    go_ret
    exact ⟨rfl, rfl⟩
  · clear h
    go_enter Try.func106, Try.ntmps106
    go_wp2
    go_ret
    exact ⟨rfl, rfl⟩
theorem rWide_yes (k : Int) (h0 : 0 ≤ k) (h : k ≤ 64) (w : World) :
    Calls Try.prog 75 #[.int .i64 k] w fun e w' => e = .returned (.bool true) ∧ w = w' := by
  go_enter Try.func75, Try.ntmps75
  go_wp2
  go_ret
  exact ⟨rfl, rfl⟩
theorem rWide_no (k : Int) (h : ¬ (0 ≤ k ∧ k ≤ 64)) (w : World) :
    Calls Try.prog 75 #[.int .i64 k] w fun e w' => e = .returned (.bool false) ∧ w = w' := by
  by_cases h0 : 0 ≤ k
  · have h1 : ¬ k ≤ 64 := by omega
    clear h
    go_enter Try.func75, Try.ntmps75
    go_wp2
    go_ret
    exact ⟨rfl, rfl⟩
  · clear h
    go_enter Try.func75, Try.ntmps75
    go_wp2
    go_ret
    exact ⟨rfl, rfl⟩
/-- So many bytes take so many numbers. -/
def need (n k : Nat) : Nat := (n * k + 7) / 8
theorem need_yes (n k : Nat) (hn : n ≤ 1024) (hk : k ≤ 64) (w : World) :
    Calls Try.prog 65 #[.int .i64 n, .int .i64 k] w fun e w' => e = .returned (.int .i64 (need n k : Nat)) ∧ w = w' := by
  have hb : n * k ≤ 65536 := Nat.mul_le_mul hn hk
  have hbi : (n : Int) * k ≤ 65536 := by rw [← Int.natCast_mul]; omega
  have hb0 : 0 ≤ (n : Int) * k := by rw [← Int.natCast_mul]; omega
  have he : ((n : Int) * k + 7) / 8 = (need n k : Nat) := by unfold need; rw [← Int.natCast_mul]; omega
  have HE := Lib.hid he
  clear he hb
  go_enter Try.func65, Try.ntmps65
  go_wp2_with (first | (go_at_call 106; refine (isCount_yes _ (by omega) (by omega) _).mono ?_; rintro e w' ⟨rfl, rfl⟩) | (go_at_call 107; refine (isWidth_yes _ (by omega) (by omega) _).mono ?_; rintro e w' ⟨rfl, rfl⟩))
  go_ret
  exact ⟨ret_int HE.out, rfl⟩
theorem need_no (n k : Int) (h : ¬ (0 ≤ n ∧ n ≤ 1024) ∨ ¬ (0 ≤ k ∧ k ≤ 64)) (w : World) :
    Calls Try.prog 65 #[.int .i64 n, .int .i64 k] w fun e w' => e = .returned (.int .i64 0) ∧ w = w' := by
  by_cases hn : 0 ≤ n ∧ n ≤ 1024
  · have hk : ¬ (0 ≤ k ∧ k ≤ 64) := by rcases h with h | h; · exact absurd hn h
                                       · exact h
    have HN := Lib.hid hn
    have HK := Lib.hid hk
    clear hn hk h
    go_enter Try.func65, Try.ntmps65
    go_wp2_with (first | (go_at_call 106; refine (isCount_yes _ HN.out.1 HN.out.2 _).mono ?_; rintro e w' ⟨rfl, rfl⟩) | (go_at_call 107; refine (isWidth_no _ HK.out _).mono ?_; rintro e w' ⟨rfl, rfl⟩))
    go_ret
    exact ⟨rfl, rfl⟩
  · have HN := Lib.hid hn
    clear hn h
    go_enter Try.func65, Try.ntmps65
    go_wp2_with (first | (go_at_call 106; refine (isCount_no _ HN.out _).mono ?_; rintro e w' ⟨rfl, rfl⟩))
    go_ret
    exact ⟨rfl, rfl⟩
end Go.Proofs.Ythonjffojaljdaa
