/-
  CONTRACT OF the document's own Get of short bytes (corduroyref04.Get): it tells what varint.Get tells, for any row of bytes. Conditions: the bytes lie in memory as told.
-/
import Derived.Test.YthonjffojaljdaaRows
import Derived.Test.YthonjffojaljdaaHybM1
import Derived.Test.YthonjffojaljdaaVarGet
import Derived.WalkKit
import Derived.WalkLawsBesides
import Derived.WalkSpells
import Derived.ProofKit
import Derived.LoopTactic
import Derived.Lib.Hide
namespace Go.Proofs.Ythonjffojaljdaa
open Go.RowKit
set_option linter.unusedVariables false
/-- A step of reading from the last digit on. -/
theorem horner (z : Nat → Int) (f j : Nat) (V : Int) (hj : j + 1 ≤ f + 1) (hf : f ≤ 9) (h9 : f = 9 → z 9 ≤ 1 ∧ 0 ≤ z 9) (hV0 : 0 ≤ V) (h : V * 128 ^ (j + 1) + vals z (j + 1) = vals z (f + 1)) :
    0 ≤ 128 * V + z j % 128 ∧ 128 * V + z j % 128 ≤ 18446744073709551615 ∧ (128 * V + z j % 128) * 128 ^ j + vals z j = vals z (f + 1) := by
  have e : (128 * V + z j % 128) * 128 ^ j + vals z j = vals z (f + 1) := by
    rw [← h]; simp only [vals, Int.pow_succ]; grind
  obtain ⟨n, hn, hlt⟩ := vals_bd z j
  have hb : vals z (f + 1) ≤ 18446744073709551615 := by
    by_cases c : f = 9
    · subst c
      obtain ⟨m, hm, hml⟩ := vals_bd z 9
      have := h9 rfl
      have p : (128 : Nat) ^ 9 = 9223372036854775808 := by decide
      have p2 : (128 : Int) ^ 9 = 9223372036854775808 := by decide
      simp only [vals] at hm ⊢
      omega
    · obtain ⟨m, hm, hml⟩ := vals_bd z (f + 1)
      have h3 : (128 : Nat) ^ (f + 1) ≤ 128 ^ 9 := Nat.pow_le_pow_right (by decide) (by omega)
      have p : (128 : Nat) ^ 9 = 9223372036854775808 := by decide
      omega
  have hnn : 0 ≤ 128 * V + z j % 128 := by omega
  refine ⟨hnn, ?_, e⟩
  have hp : (1 : Int) ≤ 128 ^ j := by
    have : (0 : Int) < 128 ^ j := Int.pow_pos (by decide)
    omega
  have hm := Int.mul_le_mul_of_nonneg_left hp hnn
  omega
theorem rget_A (b off len cap f : Nat) (z : Nat → Int) (hB : ∀ i, 0 ≤ z i ∧ z i ≤ 255) (hfl : f < len) (hf9 : f < 9) (h0 : 0 < f) (hne : z f ≠ 0) (hd : z f < 128) (hlc : len ≤ cap) (hcm : cap ≤ 9223372036854775807) (hlast : ∀ i, i < f → ¬ z i < 128) (w : World) (hz : BytesAt w b off len z) :
    Calls Try.prog 45 #[.slice (some ⟨b, off, none⟩) len cap] w fun e w' => e = .returned (.tuple #[.int .u64 (vals z (f + 1)), .int .i64 (f + 1 : Nat), .int .i64 0]) ∧ w = w' := by
  have hcf : w.cell? ⟨b, off + f, none⟩ = some (.int .u8 (z f)) := hz f (by omega)
  have c0 : (0 : Int) < f := by omega
  have c9 : ((f : Int) == 9) = false := by simp; omega
  have c10 : ((f : Int) == 10) = false := by simp; omega
  have cl : ((f : Int) == (len : Int)) = false := by simp; omega
  have cz : ¬ (127 : Int) < z f := by omega
  have c1 : (z f == 0) = false := by simpa using hne
  have HZ := Lib.hid hz
  have HB := Lib.hid hB
  have HL := Lib.hid hlast
  clear hz hB hlast
  go_enter Try.func45, Try.ntmps45
  go_wp2
  go_loop [5] (fun i => ∃ k : Nat, k ≤ f ∧ i = .int .i64 k) (fun i => f + 1 - (intOf i).toNat)
  case atStart => exact ⟨0, by omega, rfl⟩
  case round =>
    obtain ⟨k, hk, rfl⟩ := hrel
    by_cases hkf : k < f
    · have hck : w.cell? ⟨b, off + k, none⟩ = some (.int .u8 (z k)) := HZ.out k (by omega)
      have hk1 : (k : Int) < len := by omega
      have hk2 : (k : Int) < 10 := by omega
      have hk3 : (127 : Int) < z k := by have := HL.out k hkf; omega
      go_wp2
      go_round
      case rel => exact ⟨k + 1, by omega, by go_num⟩
      case measure => simp [intOf]; omega
    · obtain rfl : f = k := by omega
      go_wp2
      go_loop [6, 7] (fun v i => ∃ (j : Nat) (V : Int), j ≤ f + 1 ∧ i = .int .i64 ((j : Int) - 1) ∧ v = .int .u64 V ∧ 0 ≤ V ∧ V * 128 ^ j + vals z j = vals z (f + 1)) (fun _ i => (intOf i + 1).toNat)
      case atStart => exact ⟨f + 1, 0, by omega, by go_num, rfl, by omega, by simp⟩
      case round =>
        obtain ⟨j, V, hj, rfl, rfl, hV0, hV⟩ := hrel
        cases j with
        | zero =>
          go_wp2
          go_ret3
          refine ⟨?_, rfl⟩
          have : V = vals z (f + 1) := by simpa [vals] using hV
          rw [this]; rfl
        | succ j =>
          have hck : w.cell? ⟨b, off + j, none⟩ = some (.int .u8 (z j)) := HZ.out j (by omega)
          obtain ⟨g1, g2, g3⟩ := horner z f j V hj (by omega) (fun h => by omega) hV0 hV
          have G3 := Lib.hid g3
          have gb := HB.out j
          have e1 : ((j + 1 : Nat) : Int) - 1 = j := by omega
          rw [e1]
          clear hV g3 e1
          have gv : 128 * V ≤ 18446744073709551615 := by omega
          go_wp2
          refine ⟨⟨j, 128 * V + z j % 128, by omega, by go_num, rfl, g1, G3.out⟩, by simp [intOf] <;> omega⟩
theorem rget_B (b off len cap : Nat) (z : Nat → Int) (hB : ∀ i, 0 ≤ z i ∧ z i ≤ 255) (hfl : 0 < len) (hd : z 0 < 128) (hlc : len ≤ cap) (hcm : cap ≤ 9223372036854775807) (hlast : ∀ i, i < 0 → ¬ z i < 128) (w : World) (hz : BytesAt w b off len z) :
    Calls Try.prog 45 #[.slice (some ⟨b, off, none⟩) len cap] w fun e w' => e = .returned (.tuple #[.int .u64 (vals z (0 + 1)), .int .i64 (0 + 1 : Nat), .int .i64 0]) ∧ w = w' := by
  have hcf : w.cell? ⟨b, off, none⟩ = some (.int .u8 (z 0)) := by simpa using hz 0 (by omega)
  have cl : ((0 : Int) == (len : Int)) = false := by simp; omega
  have cz : ¬ (127 : Int) < z 0 := by omega
  have HZ := Lib.hid hz
  have HB := Lib.hid hB
  have HL := Lib.hid hlast
  clear hz hB hlast
  go_enter Try.func45, Try.ntmps45
  go_wp2
  go_loop [5] (fun i => ∃ k : Nat, k ≤ 0 ∧ i = .int .i64 k) (fun i => 0 + 1 - (intOf i).toNat)
  case atStart => exact ⟨0, by omega, rfl⟩
  case round =>
    obtain ⟨k, hk, rfl⟩ := hrel
    by_cases hkf : k < 0
    · have hck : w.cell? ⟨b, off + k, none⟩ = some (.int .u8 (z k)) := HZ.out k (by omega)
      have hk1 : (k : Int) < len := by omega
      have hk2 : (k : Int) < 10 := by omega
      have hk3 : (127 : Int) < z k := by have := HL.out k hkf; omega
      go_wp2
      go_round
      case rel => exact ⟨k + 1, by omega, by go_num⟩
      case measure => simp [intOf]; omega
    · obtain rfl : k = 0 := by omega
      go_wp2
      go_loop [6, 7] (fun v i => ∃ (j : Nat) (V : Int), j ≤ 0 + 1 ∧ i = .int .i64 ((j : Int) - 1) ∧ v = .int .u64 V ∧ 0 ≤ V ∧ V * 128 ^ j + vals z j = vals z (0 + 1)) (fun _ i => (intOf i + 1).toNat)
      case atStart => exact ⟨0 + 1, 0, by omega, by go_num, rfl, by omega, by simp⟩
      case round =>
        obtain ⟨j, V, hj, rfl, rfl, hV0, hV⟩ := hrel
        cases j with
        | zero =>
          go_wp2
          go_ret3
          refine ⟨?_, rfl⟩
          have : V = vals z (0 + 1) := by simpa [vals] using hV
          rw [this]; rfl
        | succ j =>
          have hck : w.cell? ⟨b, off + j, none⟩ = some (.int .u8 (z j)) := HZ.out j (by omega)
          obtain ⟨g1, g2, g3⟩ := horner z 0 j V hj (by omega) (fun h => by omega) hV0 hV
          have G3 := Lib.hid g3
          have gb := HB.out j
          have e1 : ((j + 1 : Nat) : Int) - 1 = j := by omega
          rw [e1]
          clear hV g3 e1
          have gv : 128 * V ≤ 18446744073709551615 := by omega
          go_wp2
          refine ⟨⟨j, 128 * V + z j % 128, by omega, by go_num, rfl, g1, G3.out⟩, by simp [intOf] <;> omega⟩
theorem rget_C (b off len cap f : Nat) (z : Nat → Int) (hB : ∀ i, 0 ≤ z i ∧ z i ≤ 255) (hfl : f < len) (hf9 : f < 9) (h0 : 0 < f) (hne : z f = 0) (hlc : len ≤ cap) (hcm : cap ≤ 9223372036854775807) (hlast : ∀ i, i < f → ¬ z i < 128) (w : World) (hz : BytesAt w b off len z) :
    Calls Try.prog 45 #[.slice (some ⟨b, off, none⟩) len cap] w fun e w' => e = .returned (.tuple #[.int .u64 0, .int .i64 0, .int .i64 9]) ∧ w = w' := by
  have hcf : w.cell? ⟨b, off + f, none⟩ = some (.int .u8 (z f)) := hz f (by omega)
  have c0 : (0 : Int) < f := by omega
  have c9 : ((f : Int) == 9) = false := by simp; omega
  have c10 : ((f : Int) == 10) = false := by simp; omega
  have cl : ((f : Int) == (len : Int)) = false := by simp; omega
  have cz : ¬ (127 : Int) < z f := by omega
  have c1 : (z f == 0) = true := by simpa using hne
  clear hne
  have HZ := Lib.hid hz
  have HB := Lib.hid hB
  have HL := Lib.hid hlast
  clear hz hB hlast
  go_enter Try.func45, Try.ntmps45
  go_wp2
  go_loop [5] (fun i => ∃ k : Nat, k ≤ f ∧ i = .int .i64 k) (fun i => f + 1 - (intOf i).toNat)
  case atStart => exact ⟨0, by omega, rfl⟩
  case round =>
    obtain ⟨k, hk, rfl⟩ := hrel
    by_cases hkf : k < f
    · have hck : w.cell? ⟨b, off + k, none⟩ = some (.int .u8 (z k)) := HZ.out k (by omega)
      have hk1 : (k : Int) < len := by omega
      have hk2 : (k : Int) < 10 := by omega
      have hk3 : (127 : Int) < z k := by have := HL.out k hkf; omega
      go_wp2
      go_round
      case rel => exact ⟨k + 1, by omega, by go_num⟩
      case measure => simp [intOf]; omega
    · obtain rfl : f = k := by omega
      go_wp2
      go_ret3
      exact ⟨rfl, rfl⟩
theorem rget_D (b off len cap : Nat) (z : Nat → Int) (hB : ∀ i, 0 ≤ z i ∧ z i ≤ 255) (hfl : 9 < len) (h9 : 1 < z 9) (hd : z 9 < 128) (hlc : len ≤ cap) (hcm : cap ≤ 9223372036854775807) (hlast : ∀ i, i < 9 → ¬ z i < 128) (w : World) (hz : BytesAt w b off len z) :
    Calls Try.prog 45 #[.slice (some ⟨b, off, none⟩) len cap] w fun e w' => e = .returned (.tuple #[.int .u64 0, .int .i64 0, .int .i64 9]) ∧ w = w' := by
  have hcf : w.cell? ⟨b, off + 9, none⟩ = some (.int .u8 (z 9)) := hz 9 (by omega)
  have c9 : (9 : Int) < len := by omega
  have cl : ((9 : Int) == (len : Int)) = false := by simp; omega
  have cz : ¬ (127 : Int) < z 9 := by omega
  have HZ := Lib.hid hz
  have HB := Lib.hid hB
  have HL := Lib.hid hlast
  clear hz hB hlast
  go_enter Try.func45, Try.ntmps45
  go_wp2
  go_loop [5] (fun i => ∃ k : Nat, k ≤ 9 ∧ i = .int .i64 k) (fun i => 9 + 1 - (intOf i).toNat)
  case atStart => exact ⟨0, by omega, rfl⟩
  case round =>
    obtain ⟨k, hk, rfl⟩ := hrel
    by_cases hkf : k < 9
    · have hck : w.cell? ⟨b, off + k, none⟩ = some (.int .u8 (z k)) := HZ.out k (by omega)
      have hk1 : (k : Int) < len := by omega
      have hk2 : (k : Int) < 10 := by omega
      have hk3 : (127 : Int) < z k := by have := HL.out k hkf; omega
      go_wp2
      go_round
      case rel => exact ⟨k + 1, by omega, by go_num⟩
      case measure => simp [intOf]; omega
    · obtain rfl : k = 9 := by omega
      go_wp2
      go_ret3
      exact ⟨rfl, rfl⟩
theorem rget_E (b off len cap : Nat) (z : Nat → Int) (hB : ∀ i, 0 ≤ z i ∧ z i ≤ 255) (hfl : 9 < len) (h9 : z 9 ≤ 1) (hne : z 9 ≠ 0) (hlc : len ≤ cap) (hcm : cap ≤ 9223372036854775807) (hlast : ∀ i, i < 9 → ¬ z i < 128) (w : World) (hz : BytesAt w b off len z) :
    Calls Try.prog 45 #[.slice (some ⟨b, off, none⟩) len cap] w fun e w' => e = .returned (.tuple #[.int .u64 (vals z (9 + 1)), .int .i64 (9 + 1 : Nat), .int .i64 0]) ∧ w = w' := by
  have hcf : w.cell? ⟨b, off + 9, none⟩ = some (.int .u8 (z 9)) := hz 9 (by omega)
  have c9 : (9 : Int) < len := by omega
  have cl : ((9 : Int) == (len : Int)) = false := by simp; omega
  have cz : ¬ (127 : Int) < z 9 := by omega
  have c1 : (z 9 == 0) = false := by simpa using hne
  have HZ := Lib.hid hz
  have HB := Lib.hid hB
  have HL := Lib.hid hlast
  clear hz hB hlast
  go_enter Try.func45, Try.ntmps45
  go_wp2
  go_loop [5] (fun i => ∃ k : Nat, k ≤ 9 ∧ i = .int .i64 k) (fun i => 9 + 1 - (intOf i).toNat)
  case atStart => exact ⟨0, by omega, rfl⟩
  case round =>
    obtain ⟨k, hk, rfl⟩ := hrel
    by_cases hkf : k < 9
    · have hck : w.cell? ⟨b, off + k, none⟩ = some (.int .u8 (z k)) := HZ.out k (by omega)
      have hk1 : (k : Int) < len := by omega
      have hk2 : (k : Int) < 10 := by omega
      have hk3 : (127 : Int) < z k := by have := HL.out k hkf; omega
      go_wp2
      go_round
      case rel => exact ⟨k + 1, by omega, by go_num⟩
      case measure => simp [intOf]; omega
    · obtain rfl : k = 9 := by omega
      go_wp2
      go_loop [6, 7] (fun v i => ∃ (j : Nat) (V : Int), j ≤ 9 + 1 ∧ i = .int .i64 ((j : Int) - 1) ∧ v = .int .u64 V ∧ 0 ≤ V ∧ V * 128 ^ j + vals z j = vals z (9 + 1)) (fun _ i => (intOf i + 1).toNat)
      case atStart => exact ⟨9 + 1, 0, by omega, by go_num, rfl, by omega, by simp⟩
      case round =>
        obtain ⟨j, V, hj, rfl, rfl, hV0, hV⟩ := hrel
        cases j with
        | zero =>
          go_wp2
          go_ret3
          refine ⟨?_, rfl⟩
          have : V = vals z (9 + 1) := by simpa [vals] using hV
          rw [this]; rfl
        | succ j =>
          have hck : w.cell? ⟨b, off + j, none⟩ = some (.int .u8 (z j)) := HZ.out j (by omega)
          obtain ⟨g1, g2, g3⟩ := horner z 9 j V hj (by omega) (fun h => ⟨by omega, (HB.out 9).1⟩) hV0 hV
          have G3 := Lib.hid g3
          have gb := HB.out j
          have e1 : ((j + 1 : Nat) : Int) - 1 = j := by omega
          rw [e1]
          clear hV g3 e1
          have gv : 128 * V ≤ 18446744073709551615 := by omega
          go_wp2
          refine ⟨⟨j, 128 * V + z j % 128, by omega, by go_num, rfl, g1, G3.out⟩, by simp [intOf] <;> omega⟩
theorem rget_F (b off len cap : Nat) (z : Nat → Int) (hB : ∀ i, 0 ≤ z i ∧ z i ≤ 255) (hfl : 9 < len) (h9 : z 9 = 0) (hlc : len ≤ cap) (hcm : cap ≤ 9223372036854775807) (hlast : ∀ i, i < 9 → ¬ z i < 128) (w : World) (hz : BytesAt w b off len z) :
    Calls Try.prog 45 #[.slice (some ⟨b, off, none⟩) len cap] w fun e w' => e = .returned (.tuple #[.int .u64 0, .int .i64 0, .int .i64 9]) ∧ w = w' := by
  have hcf : w.cell? ⟨b, off + 9, none⟩ = some (.int .u8 (z 9)) := hz 9 (by omega)
  have c9 : (9 : Int) < len := by omega
  have cl : ((9 : Int) == (len : Int)) = false := by simp; omega
  have cz : ¬ (127 : Int) < z 9 := by omega
  have cy : ¬ (1 : Int) < z 9 := by omega
  have c1 : (z 9 == 0) = true := by simpa using h9
  clear h9
  have HZ := Lib.hid hz
  have HB := Lib.hid hB
  have HL := Lib.hid hlast
  clear hz hB hlast
  go_enter Try.func45, Try.ntmps45
  go_wp2
  go_loop [5] (fun i => ∃ k : Nat, k ≤ 9 ∧ i = .int .i64 k) (fun i => 9 + 1 - (intOf i).toNat)
  case atStart => exact ⟨0, by omega, rfl⟩
  case round =>
    obtain ⟨k, hk, rfl⟩ := hrel
    by_cases hkf : k < 9
    · have hck : w.cell? ⟨b, off + k, none⟩ = some (.int .u8 (z k)) := HZ.out k (by omega)
      have hk1 : (k : Int) < len := by omega
      have hk2 : (k : Int) < 10 := by omega
      have hk3 : (127 : Int) < z k := by have := HL.out k hkf; omega
      go_wp2
      go_round
      case rel => exact ⟨k + 1, by omega, by go_num⟩
      case measure => simp [intOf]; omega
    · obtain rfl : k = 9 := by omega
      go_wp2
      go_ret3
      exact ⟨rfl, rfl⟩
theorem rget_G (b off len cap : Nat) (z : Nat → Int) (hB : ∀ i, 0 ≤ z i ∧ z i ≤ 255) (hfl : 10 ≤ len) (hlc : len ≤ cap) (hcm : cap ≤ 9223372036854775807) (hlast : ∀ i, i < 10 → ¬ z i < 128) (w : World) (hz : BytesAt w b off len z) :
    Calls Try.prog 45 #[.slice (some ⟨b, off, none⟩) len cap] w fun e w' => e = .returned (.tuple #[.int .u64 0, .int .i64 0, .int .i64 9]) ∧ w = w' := by
  have HZ := Lib.hid hz
  have HB := Lib.hid hB
  have HL := Lib.hid hlast
  clear hz hB hlast
  go_enter Try.func45, Try.ntmps45
  go_wp2
  go_loop [5] (fun i => ∃ k : Nat, k ≤ 10 ∧ i = .int .i64 k) (fun i => 10 + 1 - (intOf i).toNat)
  case atStart => exact ⟨0, by omega, rfl⟩
  case round =>
    obtain ⟨k, hk, rfl⟩ := hrel
    by_cases hkf : k < 10
    · have hck : w.cell? ⟨b, off + k, none⟩ = some (.int .u8 (z k)) := HZ.out k (by omega)
      have hk1 : (k : Int) < len := by omega
      have hk2 : (k : Int) < 10 := by omega
      have hk3 : (127 : Int) < z k := by have := HL.out k hkf; omega
      go_wp2
      go_round
      case rel => exact ⟨k + 1, by omega, by go_num⟩
      case measure => simp [intOf]; omega
    · obtain rfl : k = 10 := by omega
      rcases Nat.lt_or_ge 10 len with hq | hq
      · have hq' : (10 : Int) < len := by omega
        go_wp2
        go_ret3
        exact ⟨rfl, rfl⟩
      · obtain rfl : len = 10 := by omega
        go_wp2
        go_ret3
        exact ⟨rfl, rfl⟩
theorem rget_H (a : Option Addr) (b off len cap : Nat) (z : Nat → Int) (hB : ∀ i, 0 ≤ z i ∧ z i ≤ 255) (hl : len < 10) (hlc : len ≤ cap) (hcm : cap ≤ 9223372036854775807) (hlast : ∀ i, i < len → ¬ z i < 128) (w : World) (ha : len = 0 ∨ a = some ⟨b, off, none⟩) (hz : BytesAt w b off len z) :
    Calls Try.prog 45 #[.slice a len cap] w fun e w' => e = .returned (.tuple #[.int .u64 0, .int .i64 0, .int .i64 1]) ∧ w = w' := by
  have c10 : ((len : Int) == 10) = false := by simp; omega
  have HZ := Lib.hid hz
  have HB := Lib.hid hB
  have HL := Lib.hid hlast
  have HA := Lib.hid ha
  clear ha
  clear hz hB hlast
  go_enter Try.func45, Try.ntmps45
  go_wp2
  go_loop [5] (fun i => ∃ k : Nat, k ≤ len ∧ i = .int .i64 k) (fun i => len + 1 - (intOf i).toNat)
  case atStart => exact ⟨0, by omega, rfl⟩
  case round =>
    obtain ⟨k, hk, rfl⟩ := hrel
    by_cases hkf : k < len
    · obtain rfl : a = some ⟨b, off, none⟩ := HA.out.resolve_left (by omega)
      have hck : w.cell? ⟨b, off + k, none⟩ = some (.int .u8 (z k)) := HZ.out k (by omega)
      have hk1 : (k : Int) < len := by omega
      have hk2 : (k : Int) < 10 := by omega
      have hk3 : (127 : Int) < z k := by have := HL.out k hkf; omega
      go_wp2
      go_round
      case rel => exact ⟨k + 1, by omega, by go_num⟩
      case measure => simp [intOf]; omega
    · obtain rfl : len = k := by omega
      go_wp2
      all_goals go_ret3
      all_goals exact ⟨rfl, rfl⟩
theorem rget_any (a : Option Addr) (b off len cap f : Nat) (z : Nat → Int) (hB : ∀ i, 0 ≤ z i ∧ z i ≤ 255) (hlc : len ≤ cap) (hcm : cap ≤ 9223372036854775807) (hf : IsLast z (min len 10) f) (w : World) (ha : len = 0 ∨ a = some ⟨b, off, none⟩) (hz : BytesAt w b off len z) :
    Calls Try.prog 45 #[.slice a len cap] w fun e w' => e = .returned (.tuple #[.int .u64 (got z len f).1, .int .i64 (got z len f).2.1, .int .i64 (got z len f).2.2]) ∧ w = w' := by
  have hfm := hf.1
  by_cases c : f = min len 10
  · by_cases hl : len < 10
    · obtain rfl : f = len := by omega
      have e : got z f f = (0, 0, 1) := by unfold got; rw [if_pos c, if_pos hl]
      rw [e]
      exact rget_H a b off f cap z hB hl hlc hcm hf.2.1 w ha hz
    · obtain rfl : f = 10 := by omega
      obtain rfl : a = some ⟨b, off, none⟩ := ha.resolve_left (by omega)
      have e : got z len 10 = (0, 0, 9) := by unfold got; rw [if_pos c, if_neg hl]
      rw [e]
      exact rget_G b off len cap z hB (by omega) hlc hcm hf.2.1 w hz
  · have hfl : f < len := by omega
    have hd := hf.2.2 (by omega)
    obtain rfl : a = some ⟨b, off, none⟩ := ha.resolve_left (by omega)
    by_cases c9 : f = 9
    · subst c9
      by_cases d : 1 < z 9
      · have e : got z len 9 = (0, 0, 9) := by unfold got; rw [if_neg c, if_pos ⟨rfl, d⟩]
        rw [e]
        exact rget_D b off len cap z hB hfl d hd hlc hcm hf.2.1 w hz
      · by_cases cz : z 9 = 0
        · have e : got z len 9 = (0, 0, 9) := by unfold got; rw [if_neg c, if_neg (fun h => d h.2), if_pos ⟨by omega, cz⟩]
          rw [e]
          exact rget_F b off len cap z hB hfl cz hlc hcm hf.2.1 w hz
        · have e : got z len 9 = (vals z (9 + 1), ((9 + 1 : Nat) : Int), 0) := by unfold got; rw [if_neg c, if_neg (fun h => d h.2), if_neg (fun h => cz h.2)]
          rw [e]
          exact rget_E b off len cap z hB hfl (by omega) cz hlc hcm hf.2.1 w hz
    · by_cases c0 : f = 0
      · subst c0
        have e : got z len 0 = (vals z (0 + 1), ((0 + 1 : Nat) : Int), 0) := by unfold got; rw [if_neg c, if_neg (by omega), if_neg (by omega)]
        rw [e]
        exact rget_B b off len cap z hB hfl hd hlc hcm hf.2.1 w hz
      · by_cases cz : z f = 0
        · have e : got z len f = (0, 0, 9) := by unfold got; rw [if_neg c, if_neg (by omega), if_pos ⟨by omega, cz⟩]
          rw [e]
          exact rget_C b off len cap f z hB hfl (by omega) (by omega) cz hlc hcm hf.2.1 w hz
        · have e : got z len f = (vals z (f + 1), ((f + 1 : Nat) : Int), 0) := by unfold got; rw [if_neg c, if_neg (by omega), if_neg (fun h => cz h.2)]
          rw [e]
          exact rget_A b off len cap f z hB hfl (by omega) (by omega) cz hd hlc hcm hf.2.1 w hz
end Go.Proofs.Ythonjffojaljdaa
