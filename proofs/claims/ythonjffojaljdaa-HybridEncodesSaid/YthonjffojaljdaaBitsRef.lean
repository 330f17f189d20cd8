/-
  CONTRACTS OF the document's own answers on bits: Has, Number, Fits, Bits, Bytes, Same. Conditions: those that each names.
-/
import Derived.Test.YthonjffojaljdaaBitsUnpack
namespace Go.Proofs.Ythonjffojaljdaa
open Go.RowKit
set_option linter.unusedVariables false
/-- A bit of a number. -/
def bitB (N i : Nat) : Bool := decide (N / 2 ^ i % 2 = 1)
theorem has_any (b off n cap : Nat) (z : Nat → Int) (hz : ∀ i, i < n → 0 ≤ z i ∧ z i ≤ 255) (hn : n ≤ 10000) (j : Nat) (hj : j < 8 * n) (w : World) (h : RowOf w (some ⟨b, off, none⟩) n (fun i => .int .u8 (z i))) (x : Bool) (hx : bitB (num z n) j = x) :
    Calls Try.prog 91 #[.slice (some ⟨b, off, none⟩) n cap, .int .i64 j] w fun e w' => e = .returned (.bool x) ∧ w = w' := by
  have hjn : j / 8 < n := by omega
  obtain ⟨b', off', ha, hb, hc⟩ := h.at_ hjn
  injection ha with ha
  injection ha with hb1 hb2
  subst hb1 hb2
  have c0 : w.cell? ⟨b, off + j / 8, none⟩ = some (.int .u8 (z (j / 8))) := hc _ hjn
  have zb := hz _ hjn
  have he : z (j / 8) / 2 ^ (j % 8) % 2 = ((num z n / 2 ^ j % 2 : Nat) : Int) := by
    obtain ⟨y, hy⟩ : ∃ y : Nat, z (j / 8) = y := ⟨(z (j / 8)).toNat, by omega⟩
    have h1 : y = num z n / 256 ^ (j / 8) % 256 := by rw [num_byte z n hz _ hjn, hy]; simp
    have h2 := get_byte (num z n) j
    rw [← h1] at h2
    have h3 : num z n / 2 ^ j % 2 = y / 2 ^ (j % 8) % 2 := by
      rw [h2, Nat.mod_mod_of_dvd]
      exact ⟨2 ^ (8 - j % 8 - 1), by rw [← Nat.pow_succ']; congr 1; omega⟩
    rw [h3, hy]; simp
  have q1 : (j : Int) / 8 < n := by omega
  have q0 : (0 : Int) ≤ (j : Int) / 8 := by omega
  have ht : (z (j / 8) / 2 ^ (j % 8) % 2 == 1) = x := by
    rw [he, ← hx]; unfold bitB
    by_cases h1 : num z n / 2 ^ j % 2 = 1
    · rw [h1]; rfl
    · have h2 : num z n / 2 ^ j % 2 = 0 := by omega
      rw [h2]; rfl
  have zq : 0 ≤ z (j / 8) / 2 ^ (j % 8) := Int.ediv_nonneg zb.1 (Int.pow_nonneg (by decide))
  clear hc h hz hx he
  go_enter Try.func91, Try.ntmps91
  go_wp2
  go_ret
  exact ⟨rfl, rfl⟩
theorem bitB_val (N i : Nat) : N / 2 ^ i % 2 = if bitB N i then 1 else 0 := by
  unfold bitB
  by_cases h : N / 2 ^ i % 2 = 1
  · simp [h]
  · have : N / 2 ^ i % 2 = 0 := by omega
    simp [this]
theorem take_up (M f j k : Nat) (hj : j + 1 ≤ k) : M / 2 ^ (f + j) % 2 ^ (k - j) = 2 * (M / 2 ^ (f + (j + 1)) % 2 ^ (k - (j + 1))) + M / 2 ^ (f + j) % 2 := by
  have e1 : M / 2 ^ (f + (j + 1)) = M / 2 ^ (f + j) / 2 := by
    rw [← Nat.add_assoc, Nat.pow_succ, Nat.div_div_eq_div_mul]
  rw [e1]
  generalize M / 2 ^ (f + j) = X
  have e2 : 2 ^ (k - j) = 2 * 2 ^ (k - (j + 1)) := by rw [← Nat.pow_succ']; congr 1; omega
  rw [e2, Nat.mod_mul]
  omega
set_option maxHeartbeats 1000000 in
theorem number_any (a : Option Addr) (n cap : Nat) (z : Nat → Int) (hz : ∀ i, i < n → 0 ≤ z i ∧ z i ≤ 255) (hn : n ≤ 10000) (f k : Nat) (hk : k ≤ 64) (hf : f + k ≤ 8 * n) (w : World) (h : RowOf w a n (fun i => .int .u8 (z i))) :
    Calls Try.prog 49 #[.slice a n cap, .int .i64 f, .int .i64 k] w fun e w' => e = .returned (.int .u64 ((num z n / 2 ^ f % 2 ^ k : Nat) : Int)) ∧ w = w' := by
  have H := Lib.hid h
  have HZ := Lib.hid hz
  clear h hz
  have hf0 : (0 : Int) ≤ f := by omega
  have hf1 : (f : Int) ≤ 80000 := by omega
  have hk1 : (k : Int) ≤ 64 := by omega
  obtain ⟨M, hM⟩ : ∃ M, num z n = M := ⟨_, rfl⟩
  have HM := Lib.hid hM
  go_enter Try.func49, Try.ntmps49
  go_wp2
  go_loop [7, 8] (fun v i => ∃ j : Nat, j ≤ k ∧ i = .int .i64 ((j : Int) - 1) ∧ v = .int .u64 ((M / 2 ^ (f + j) % 2 ^ (k - j) : Nat) : Int)) (fun _ i => (intOf i + 1).toNat)
  case atStart => exact ⟨k, by omega, by go_num, by simp [Nat.mod_one]⟩
  case round =>
    obtain ⟨j, hj, rfl, rfl⟩ := hrel
    cases j with
    | zero =>
      go_wp2
      go_ret
      exact ⟨rfl, rfl⟩
    | succ j =>
      have hjn : f + j < 8 * n := by omega
      obtain ⟨b, off, rfl, _, _⟩ := H.out.at_ (i := 0) (by omega)
      obtain ⟨x, hx⟩ : ∃ x, bitB (num z n) (f + j) = x := ⟨_, rfl⟩
      have HA := Lib.hid (has_any b off n cap z HZ.out hn (f + j) hjn w H.out x hx)
      rw [Int.natCast_add] at HA
      have e1 : ((j + 1 : Nat) : Int) - 1 = j := by omega
      rw [e1]
      have hT := take_up M f j k hj
      rw [bitB_val, ← HM.out, hx, HM.out] at hT
      have hb : M / 2 ^ (f + (j + 1)) % 2 ^ (k - (j + 1)) < 2 ^ (k - (j + 1)) := Nat.mod_lt _ (Nat.pow_pos (by decide))
      have hp : 2 ^ (k - (j + 1)) ≤ 2 ^ 63 := Nat.pow_le_pow_right (by decide) (by omega)
      have hV2 : 2 * (M / 2 ^ (f + (j + 1)) % 2 ^ (k - (j + 1))) + 1 < 18446744073709551616 := by
        have : (2 : Nat) ^ 63 = 9223372036854775808 := by decide
        omega
      clear hb hp
      generalize M / 2 ^ (f + (j + 1)) % 2 ^ (k - (j + 1)) = V at *
      have gv : 2 * (V : Int) + 1 ≤ 18446744073709551615 := by omega
      have g0 : 0 ≤ (V : Int) := by omega
      have hj1 : (j : Int) ≤ 64 := by omega
      have HT := Lib.hid hT
      clear hT hV2 hx e1
      cases x
      all_goals
        go_wp2_with (go_at_call 91; refine HA.out.mono ?_; rintro e w' ⟨rfl, rfl⟩)
        go_round
        case rel => exact ⟨j, by omega, by go_num, congrArg (Value.int .u64) (by rw [HT.out]; simp)⟩
        case measure => simp [intOf]
end Go.Proofs.Ythonjffojaljdaa
