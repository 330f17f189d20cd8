/-
  CONTRACT OF the document's own Number of bytes (corduroyref03.Number), in any world. Conditions: at most 8 bytes, which lie in memory as told.
-/
import Derived.Test.YthonjffojaljdaaWords
import Derived.Test.YthonjffojaljdaaHybM1
import Derived.WalkKit
import Derived.WalkLawsBesides
import Derived.WalkSpells
import Derived.ProofKit
import Derived.LoopTactic
import Derived.IntWalk
import Derived.Deep.DeepMust
import Derived.Outline
import Derived.Lib.Hide
namespace Go.Proofs.Ythonjffojaljdaa
open Go.RowKit
set_option linter.unusedVariables false
/-- A number from its highest byte down. -/
theorem num_up (z : Nat → Int) : ∀ k, num z (k + 1) = (z 0).toNat + 256 * num (fun j => z (j + 1)) k
  | 0 => by simp [num]
  | k + 1 => by
    have h := num_up z k
    show num z (k + 1) + (z (k + 1)).toNat * 256 ^ (k + 1) = _
    rw [h]
    show _ = (z 0).toNat + 256 * (num (fun j => z (j + 1)) k + (z (k + 1)).toNat * 256 ^ k)
    rw [Nat.pow_succ]
    generalize 256 ^ k = P
    generalize (z (k + 1)).toNat = q
    generalize num (fun j => z (j + 1)) k = N
    have e : q * (P * 256) = 256 * (q * P) := by rw [← Nat.mul_assoc, Nat.mul_comm]
    omega
set_option maxRecDepth 100000 in
set_option maxHeartbeats 1000000 in
theorem rnumber3_any (a : Option Addr) (k cap : Nat) (z : Nat → Int) (hk : k ≤ 8) (hz : ∀ i, i < k → 0 ≤ z i ∧ z i ≤ 255) (w : World) (h : RowOf w a k (fun i => .int .u8 (z i))) :
    Calls Try.prog 46 #[.slice a k cap] w fun e w' => e = .returned (.int .u64 (num z k : Nat)) ∧ w = w' := by
  have H := Lib.hid h
  have HZ := Lib.hid hz
  clear h hz
  go_enter Try.func46, Try.ntmps46
  go_wp2
  go_loop [3, 4] (fun v i => ∃ m : Nat, m ≤ k ∧ i = .int .i64 ((k : Int) - 1 - m) ∧ v = .int .u64 (num (fun j => z (k - m + j)) m : Nat)) (fun _ i => (intOf i + 1).toNat)
  case atStart => exact ⟨0, by omega, by go_num, rfl⟩
  case round =>
    obtain ⟨m, hm, rfl, rfl⟩ := hrel
    by_cases hml : m < k
    · obtain ⟨j, hj⟩ : ∃ j, k - (m + 1) = j := ⟨_, rfl⟩
      obtain ⟨I, hI⟩ : ∃ I : Int, (k : Int) - 1 - m = I := ⟨_, rfl⟩
      rw [hI]
      obtain rfl : I = (j : Int) := by omega
      clear hI
      have j0 : (0 : Int) ≤ j := by omega
      have j1 : (j : Int) < k := by omega
      obtain ⟨b, off, rfl, _, hcell⟩ := H.out.at_ (show j < k by omega)
      have c0 := hcell j (by omega)
      have zb := HZ.out j (by omega)
      clear hcell
      have hup := num_up (fun t => z (j + t)) m
      have hlt := num_lt (fun t => z (j + t)) (m + 1) (fun i hi => HZ.out _ (by omega))
      rw [show (fun t => (fun t => z (j + t)) (t + 1)) = (fun t => z (k - m + t)) from by funext t; show z (j + (t + 1)) = z (k - m + t); congr 1; omega] at hup
      simp only [Nat.add_zero] at hup
      have hp : (256 : Nat) ^ (m + 1) ≤ 256 ^ 8 := Nat.pow_le_pow_right (by decide) (by omega)
      have h8 : (256 : Nat) ^ 8 = 18446744073709551616 := by decide
      rw [h8] at hp
      generalize (256 : Nat) ^ (m + 1) = P at *
      obtain ⟨y, hy⟩ : ∃ y : Nat, z j = y := ⟨(z j).toNat, by omega⟩
      rw [hy] at c0 zb hup
      rw [Int.toNat_natCast] at hup
      generalize num (fun t => z (k - m + t)) m = N at *
      obtain ⟨M, hM⟩ : ∃ M, num (fun t => z (j + t)) (m + 1) = M := ⟨_, rfl⟩
      rw [hM] at hup hlt
      have HM := Lib.hid hM
      have HJ := Lib.hid hj
      have HW := Lib.hid (show IntKind.u64.wrap (256 * (N : Int) + (y : Int)) = (M : Int) from by rw [u64w]; omega)
      clear hup hlt hp h8 hM hj hy zb
      go_wp2
      go_round
      case rel => exact ⟨m + 1, by omega, by have := HJ.out; go_num, by rw [HJ.out, HM.out, ← HW.out]; simp only [u64w]; congr 1; omega⟩
      case measure => simp [intOf]
    · obtain rfl : m = k := by omega
      go_wp2
      go_ret
      exact ⟨by simp, rfl⟩
end Go.Proofs.Ythonjffojaljdaa
