/-
  CONTRACT OF (*bits.Reader).Get, in any world where the reader lies: the error that it tells, or the number of the next bits; only the reader turns. Conditions: at most 10000 bytes.
-/
import Derived.Test.YthonjffojaljdaaBitsNew
import Derived.WalkKit
import Derived.WalkLawsBesides
import Derived.WalkSpells
import Derived.ProofKit
import Derived.LoopTactic
import Derived.Deep.QuietTactic
import Derived.BigQuiet
import Derived.IntWalk
import Derived.Outline
import Derived.Lib.Hide
namespace Go.Proofs.Ythonjffojaljdaa
open Go.RowKit
set_option linter.unusedVariables false
theorem ret_pair {k : IntKind} {a b : Int} {x : Value} (h : a = b) : Ending.returned (.tuple #[.int k a, x]) = .returned (.tuple #[.int k b, x]) := by rw [h]
theorem ReaderAt.drewN {w : World} {br n : Nat} {z : Nat → Int} {at_ : Nat} (h : ReaderAt w br n z at_) (k : Nat) : ReaderAt (w.drewN k) br n z at_ := h
theorem ReaderAt.below {w w' : World} {B br n : Nat} {z : Nat → Int} {at_ : Nat} (h : ReaderAt w br n z at_) (k : Below B w w') (hB : br < B) : ReaderAt w' br n z at_ := by
  obtain ⟨a, cap, hl, hr, hc⟩ := h
  exact ⟨a, cap, hl.below k hB, hr.turned (S := fun i => B ≤ i) (Turned.of_below k (fun i _ hi => by omega)) (fun p hp hs => by have := hc p hp; omega), hc⟩
theorem ReaderAt.lt {w : World} {br n : Nat} {z : Nat → Int} {at_ : Nat} (h : ReaderAt w br n z at_) : br < w.heap.size := by
  obtain ⟨a, cap, hl, _⟩ := h
  exact hl.lt
theorem get_or (z : Nat → Int) (n a0 d m : Nat) (hz : ∀ i, i < n → 0 ≤ z i ∧ z i ≤ 255) (hm : a0 + d = m) (hq : m / 8 < n) (hd : d < 64) :
    Go.bits .or .u64 (((num z n / 2 ^ a0 : Nat) : Int) % 2 ^ d) (IntKind.u64.wrap (IntKind.u64.wrap (z (m / 8) / 2 ^ (m % 8)) * 2 ^ d)) = ((num z n / 2 ^ a0 % 2 ^ (min 64 (d + (8 - m % 8))) : Nat) : Int) := by
  obtain ⟨x, hx⟩ : ∃ x : Nat, z (m / 8) = x := ⟨(z (m / 8)).toNat, by have := hz _ hq; omega⟩
  have hxb : x = num z n / 256 ^ (m / 8) % 256 := by rw [num_byte z n hz _ hq, hx]; simp
  have hy : x / 2 ^ (m % 8) = num z n / 2 ^ m % 2 ^ (8 - m % 8) := by rw [hxb]; exact get_byte _ _
  have e0 : ((num z n / 2 ^ a0 : Nat) : Int) % 2 ^ d = ((num z n / 2 ^ a0 % 2 ^ d : Nat) : Int) := by simp
  have e1 : IntKind.u64.wrap (z (m / 8) / 2 ^ (m % 8)) = z (m / 8) / 2 ^ (m % 8) := by
    have h1 := hz _ hq
    have h2 : z (m / 8) / 2 ^ (m % 8) = ((x / 2 ^ (m % 8) : Nat) : Int) := by rw [hx]; simp
    have h3 : x / 2 ^ (m % 8) ≤ x := Nat.div_le_self _ _
    rw [u64w, h2]; omega
  have e2 : IntKind.u64.wrap (z (m / 8) / 2 ^ (m % 8) * 2 ^ d) = ((x / 2 ^ (m % 8) % 2 ^ (64 - d) * 2 ^ d : Nat) : Int) := by
    rw [u64w, hx]
    have : (x : Int) / 2 ^ (m % 8) * 2 ^ d = ((x / 2 ^ (m % 8) * 2 ^ d : Nat) : Int) := by simp
    rw [this]
    have h64 : (18446744073709551616 : Nat) = 2 ^ (64 - d) * 2 ^ d := by rw [← Nat.pow_add, Nat.sub_add_cancel (by omega)]
    rw [show (18446744073709551616 : Int) = ((18446744073709551616 : Nat) : Int) from rfl, ← Int.natCast_emod, h64, Nat.mul_mod_mul_right]
  have hacc : num z n / 2 ^ a0 % 2 ^ d < 2 ^ d := Nat.mod_lt _ (Nat.pow_pos (by decide))
  have h2d : (2 : Nat) ^ d < 18446744073709551616 := by
    have : (2 : Nat) ^ d < 2 ^ 64 := Nat.pow_lt_pow_right (by decide) hd
    exact this
  have hY : x / 2 ^ (m % 8) % 2 ^ (64 - d) * 2 ^ d < 18446744073709551616 := by
    have h1 : x / 2 ^ (m % 8) % 2 ^ (64 - d) < 2 ^ (64 - d) := Nat.mod_lt _ (Nat.pow_pos (by decide))
    have h64 : (18446744073709551616 : Nat) = 2 ^ (64 - d) * 2 ^ d := by rw [← Nat.pow_add, Nat.sub_add_cancel (by omega)]
    rw [h64]
    exact Nat.mul_lt_mul_of_pos_right h1 (Nat.pow_pos (by decide))
  rw [e0, e1, e2, u64_or_nat _ _ (by omega) hY, or_add _ _ _ hacc, hy, ← hm]
  have hmm : num z n / 2 ^ (a0 + d) % 2 ^ (8 - (a0 + d) % 8) % 2 ^ (64 - d) = num z n / 2 ^ (a0 + d) % 2 ^ (min (8 - (a0 + d) % 8) (64 - d)) := by
    generalize num z n / 2 ^ (a0 + d) = Y
    generalize 8 - (a0 + d) % 8 = p
    generalize 64 - d = q
    by_cases h : p ≤ q
    · rw [Nat.min_eq_left h]
      have : Y % 2 ^ p < 2 ^ q := Nat.lt_of_lt_of_le (Nat.mod_lt _ (Nat.pow_pos (by decide))) (Nat.pow_le_pow_right (by decide) h)
      exact Nat.mod_eq_of_lt this
    · rw [Nat.min_eq_right (by omega)]
      exact Nat.mod_mod_of_dvd _ (Nat.pow_dvd_pow 2 (by omega))
  rw [hmm, get_step]
  congr 3
  omega
theorem get_and (X E k : Nat) (hk : k ≤ E) (hE : E ≤ 64) : Go.bits .and .u64 ((X : Int) % 2 ^ E) ((2 ^ k - 1 : Nat) : Int) = ((X % 2 ^ k : Nat) : Int) := by
  have e0 : (X : Int) % 2 ^ E = ((X % 2 ^ E : Nat) : Int) := by simp
  have h1 : X % 2 ^ E < 2 ^ E := Nat.mod_lt _ (Nat.pow_pos (by decide))
  have h2 := pow_le64 hE
  have h3 := pow_le64 (Nat.le_trans hk hE)
  have h4 : 0 < 2 ^ k := Nat.pow_pos (by decide)
  rw [e0, u64_and_nat _ _ (by omega) (by omega), and_low, Nat.mod_mod_of_dvd _ (Nat.pow_dvd_pow 2 hk)]
theorem get_width (br : Nat) (k : Int) (h : ¬ (0 ≤ k ∧ k ≤ 64)) (w : World) :
    Calls Try.prog 141 #[.pointer (some ⟨br, 0, none⟩), .int .i64 k] w fun e w' => e = .returned (.tuple #[.int .u64 0, .int .i64 6]) ∧ w = w' := by
  have WN := Lib.hid (fun W => isWidth_no k h W)
  clear h
  go_enter Try.func141, Try.ntmps141
  go_wp2_with (go_at_call 107; refine (WN.out _).mono ?_; rintro e w' ⟨rfl, rfl⟩)
  go_ret2
  exact ⟨rfl, rfl⟩
theorem get_short (br n : Nat) (z : Nat → Int) (at_ k : Nat) (hn : n ≤ 10000) (hat : at_ ≤ 8 * n) (hk : k ≤ 64) (hs : 8 * n - at_ < k) (w : World) (h : ReaderAt w br n z at_) :
    Calls Try.prog 141 #[.pointer (some ⟨br, 0, none⟩), .int .i64 k] w fun e w' => e = .returned (.tuple #[.int .u64 0, .int .i64 1]) ∧ ∃ j, w' = w.drewN j := by
  have WY := Lib.hid (fun W => isWidth_yes (k : Int) (by omega) (by omega) W)
  have LE := Lib.hid (left_any br n z at_ (by omega) hat w h)
  have hlt : ((8 * n - at_ : Nat) : Int) < k := by omega
  clear h hs
  generalize 8 * n - at_ = L at *
  go_enter Try.func141, Try.ntmps141
  go_wp2_with (first | (go_at_call 107; refine (WY.out _).mono ?_; rintro e w' ⟨rfl, rfl⟩) | (go_at_call 142; refine LE.out.mono ?_; rintro e w' ⟨rfl, j, rfl⟩))
  go_ret2
  exact ⟨rfl, _, rfl⟩
set_option maxRecDepth 100000 in
set_option maxHeartbeats 1000000 in
theorem get_ok (br n : Nat) (z : Nat → Int) (at_ k : Nat) (hz : ∀ i, i < n → 0 ≤ z i ∧ z i ≤ 255) (hn : n ≤ 10000) (hk : k ≤ 64) (hat : at_ + k ≤ 8 * n) (w : World) (h : ReaderAt w br n z at_) :
    Calls Try.prog 141 #[.pointer (some ⟨br, 0, none⟩), .int .i64 k] w fun e w' => e = .returned (.tuple #[.int .u64 ((num z n / 2 ^ at_ % 2 ^ k : Nat) : Int), .int .i64 0]) ∧
      ReaderAt w' br n z (at_ + k) ∧ Turned (· = br) w w' := by
  have WY := Lib.hid (fun W => isWidth_yes (k : Int) (by omega) (by omega) W)
  have LE := Lib.hid (left_any br n z at_ (by omega) (by omega) w h)
  have LO := Lib.hid (fun W => lowest_any k hk W)
  have hlt : ¬ ((8 * n - at_ : Nat) : Int) < k := by omega
  have hk' : (k : Int) ≤ 64 := by omega
  have H := Lib.hid h
  have HZ := Lib.hid hz
  clear h hz
  obtain ⟨L, hL⟩ : ∃ L, 8 * n - at_ = L := ⟨_, rfl⟩
  rw [hL] at LE hlt
  clear hL
  go_enter Try.func141, Try.ntmps141
  go_wp2_with (first | (go_at_call 107; refine (WY.out _).mono ?_; rintro e w' ⟨rfl, rfl⟩) | (go_at_call 142; refine LE.out.mono ?_; rintro e w' ⟨rfl, j, rfl⟩))
  go_loopw [6, 7] (fun x i wr => ∃ d E : Nat, d ≤ k ∧ i = .int .i64 d ∧ x = .int .u64 ((num z n / 2 ^ at_ % 2 ^ E : Nat) : Int) ∧ d ≤ E ∧ E ≤ 64 ∧ (d < k → E = d) ∧ ReaderAt wr br n z (at_ + d) ∧ Turned (· = br) w wr)
    (fun _ i wr => k - (intOf i).toNat)
  case atStart => exact ⟨0, 0, by omega, rfl, by simp [Nat.mod_one], by omega, by omega, fun _ => rfl, H.out.drewN _, (Turned.refl _ _).drewN _⟩
  case round =>
    obtain ⟨d, E, hd, rfl, rfl, hE1, hE2, hE3, hr, ht⟩ := hrel
    have HT := Lib.hid ht
    clear ht
    by_cases hdk : d < k
    · obtain rfl : E = d := hE3 hdk
      clear hE3 hE1
      obtain ⟨m, hm⟩ : ∃ m, at_ + E = m := ⟨_, rfl⟩
      rw [hm] at hr
      have hmn : m / 8 < n := by omega
      have HG := Lib.hid (get_or z n at_ E m HZ.out hm hmn (by omega))
      have zb := HZ.out (m / 8) hmn
      have HM := Lib.hid hm
      have hm3 : m ≤ 80000 := by omega
      clear hm
      obtain ⟨a, cap, hl, hrow, hcl⟩ := hr
      obtain ⟨b, off, rfl, hb, hc⟩ := hrow.at_ hmn
      have c0 := hl.cell 0
      have c1 : wr.cell? ⟨br, 1, none⟩ = some (.int .i64 m) := hl.cell 1
      have c2 : wr.cell? ⟨b, off + m / 8, none⟩ = some (.int .u8 (z (m / 8))) := hc _ hmn
      have f0 := hl.frozen 0
      have f1 := hl.frozen 1
      have HL := Lib.hid hl
      have HR := Lib.hid hrow
      have HC := Lib.hid hcl
      clear hl hrow hcl hc
      have q1 : (m : Int) / 8 < n := by omega
      have q0 : (0 : Int) ≤ (m : Int) / 8 := by omega
      generalize num z n / 2 ^ at_ = X at *
      go_wp2
      go_quiet (fail)
      go_wp2
      obtain ⟨s, hs, hs0, hs1, hs2, hs3⟩ := step_min m k E hdk
      simp only [hs]
      have HS := HM.out
      refine ⟨⟨E + s, min 64 (E + (8 - m % 8)), ?_, ?_, ?_, ?_, ?_, ?_, ?_, ?_⟩, ?_⟩
      · omega
      · go_num
      · rw [HG.out]
      · omega
      · omega
      · intro h; omega
      · have hl2 := ((HL.out.drewN nq).set_ 1 (.int .i64 ((m : Int) + s))).drew
        refine ⟨some ⟨b, off, none⟩, cap, ?_, ?_, HC.out⟩
        · rw [show at_ + (E + s) = m + s from by omega]; exact hl2
        · exact (HR.out.drewN nq).turned (S := (· = br)) ((Turned.refl (· = br) _).setCell (p := ⟨br, 1, none⟩) (.inl rfl) _) (fun p hp e => by have := HC.out p hp; omega)
      · exact (HT.out.drewN nq).setCell (p := ⟨br, 1, none⟩) (.inl rfl) _
      · simp [intOf]; omega
    · obtain rfl : d = k := by omega
      have HR := Lib.hid hr
      have hA := get_and (num z n / 2 ^ at_) E d hE1 hE2
      rw [show ((num z n / 2 ^ at_ : Nat) : Int) = (num z n : Int) / 2 ^ at_ from by simp] at hA
      have HA := Lib.hid hA
      clear hA
      clear hr
      go_wp2_with (go_at_call 146; refine (LO.out _).mono ?_; rintro e w' ⟨rfl, rfl⟩)
      go_ret2
      exact ⟨ret_pair HA.out, HR.out, HT.out⟩
end Go.Proofs.Ythonjffojaljdaa
