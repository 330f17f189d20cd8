/-
  CONTRACTS OF cursor.next and U8, U16, U32, U64, Bytes, Peek, in any world where the cursor lies. Conditions: at most 20000 bytes.
-/
import Derived.Test.YtelcaejiipibpaaDoorCur
namespace Go.Proofs.YtelcaejiipibpaaDoor
open Go.RowKit
set_option linter.unusedVariables false
theorem nor8 (N x k : Nat) (hN : N < 256 ^ k) (hx : x < 256) (hk : k < 1) : Go.bits .or .u8 (N : Int) ((x : Int) * 2 ^ (8 * k) % 256) = ((N + x * 256 ^ k : Nat) : Int) := by
  have hp : (2 : Nat) ^ (8 * k) = 256 ^ k := by rw [Nat.pow_mul]
  have hpi : (2 : Int) ^ (8 * k) = ((256 ^ k : Nat) : Int) := by rw [← hp]; simp
  have h1 : x * 256 ^ k < 256 := by
    have h2 : x * 256 ^ k < 256 * 256 ^ k := Nat.mul_lt_mul_of_pos_right hx (Nat.pow_pos (by decide))
    have h3 : 256 * 256 ^ k ≤ 256 ^ 1 := by rw [← Nat.pow_succ']; exact Nat.pow_le_pow_right (by decide) hk
    have h4 : (256 : Nat) ^ 1 = 256 := by decide
    omega
  have h5 : N < 256 := by
    have h3 : 256 ^ k ≤ 256 ^ 1 := Nat.pow_le_pow_right (by decide) (by omega)
    have h4 : (256 : Nat) ^ 1 = 256 := by decide
    omega
  have e2 : (x : Int) * 2 ^ (8 * k) % 256 = ((x * 256 ^ k : Nat) : Int) := by
    rw [hpi, ← Int.natCast_mul]; omega
  rw [e2, u8_or_nat _ _ h5 h1]
  congr 1
  rw [← hp] at hN ⊢
  exact or_add N x (8 * k) hN
theorem nor16 (N x k : Nat) (hN : N < 256 ^ k) (hx : x < 256) (hk : k < 2) : Go.bits .or .u16 (N : Int) (IntKind.u16.wrap ((x : Int) * 2 ^ (8 * k))) = ((N + x * 256 ^ k : Nat) : Int) := by
  have hp : (2 : Nat) ^ (8 * k) = 256 ^ k := by rw [Nat.pow_mul]
  have hpi : (2 : Int) ^ (8 * k) = ((256 ^ k : Nat) : Int) := by rw [← hp]; simp
  have h1 : x * 256 ^ k < 65536 := by
    have h2 : x * 256 ^ k < 256 * 256 ^ k := Nat.mul_lt_mul_of_pos_right hx (Nat.pow_pos (by decide))
    have h3 : 256 * 256 ^ k ≤ 256 ^ 2 := by rw [← Nat.pow_succ']; exact Nat.pow_le_pow_right (by decide) hk
    have h4 : (256 : Nat) ^ 2 = 65536 := by decide
    omega
  have h5 : N < 65536 := by
    have h3 : 256 ^ k ≤ 256 ^ 2 := Nat.pow_le_pow_right (by decide) (by omega)
    have h4 : (256 : Nat) ^ 2 = 65536 := by decide
    omega
  have e2 : IntKind.u16.wrap ((x : Int) * 2 ^ (8 * k)) = ((x * 256 ^ k : Nat) : Int) := by
    rw [IntKind.wrap_u16, hpi, ← Int.natCast_mul]; omega
  rw [e2, u16_or_nat _ _ h5 h1]
  congr 1
  rw [← hp] at hN ⊢
  exact or_add N x (8 * k) hN
theorem nor32 (N x k : Nat) (hN : N < 256 ^ k) (hx : x < 256) (hk : k < 4) : Go.bits .or .u32 (N : Int) ((x : Int) * 2 ^ (8 * k) % 4294967296) = ((N + x * 256 ^ k : Nat) : Int) := by
  have hp : (2 : Nat) ^ (8 * k) = 256 ^ k := by rw [Nat.pow_mul]
  have hpi : (2 : Int) ^ (8 * k) = ((256 ^ k : Nat) : Int) := by rw [← hp]; simp
  have h1 : x * 256 ^ k < 4294967296 := by
    have h2 : x * 256 ^ k < 256 * 256 ^ k := Nat.mul_lt_mul_of_pos_right hx (Nat.pow_pos (by decide))
    have h3 : 256 * 256 ^ k ≤ 256 ^ 4 := by rw [← Nat.pow_succ']; exact Nat.pow_le_pow_right (by decide) hk
    have h4 : (256 : Nat) ^ 4 = 4294967296 := by decide
    omega
  have h5 : N < 4294967296 := by
    have h3 : 256 ^ k ≤ 256 ^ 4 := Nat.pow_le_pow_right (by decide) (by omega)
    have h4 : (256 : Nat) ^ 4 = 4294967296 := by decide
    omega
  have e2 : (x : Int) * 2 ^ (8 * k) % 4294967296 = ((x * 256 ^ k : Nat) : Int) := by
    rw [hpi, ← Int.natCast_mul]; omega
  rw [e2, u32_or_nat _ _ h5 h1]
  congr 1
  rw [← hp] at hN ⊢
  exact or_add N x (8 * k) hN
theorem nor64 (N x k : Nat) (hN : N < 256 ^ k) (hx : x < 256) (hk : k < 8) : Go.bits .or .u64 (N : Int) (IntKind.u64.wrap ((x : Int) * 2 ^ (8 * k))) = ((N + x * 256 ^ k : Nat) : Int) := by
  have hp : (2 : Nat) ^ (8 * k) = 256 ^ k := by rw [Nat.pow_mul]
  have hpi : (2 : Int) ^ (8 * k) = ((256 ^ k : Nat) : Int) := by rw [← hp]; simp
  have h1 : x * 256 ^ k < 18446744073709551616 := by
    have h2 : x * 256 ^ k < 256 * 256 ^ k := Nat.mul_lt_mul_of_pos_right hx (Nat.pow_pos (by decide))
    have h3 : 256 * 256 ^ k ≤ 256 ^ 8 := by rw [← Nat.pow_succ']; exact Nat.pow_le_pow_right (by decide) hk
    have h4 : (256 : Nat) ^ 8 = 18446744073709551616 := by decide
    omega
  have h5 : N < 18446744073709551616 := by
    have h3 : 256 ^ k ≤ 256 ^ 8 := Nat.pow_le_pow_right (by decide) (by omega)
    have h4 : (256 : Nat) ^ 8 = 18446744073709551616 := by decide
    omega
  have e2 : IntKind.u64.wrap ((x : Int) * 2 ^ (8 * k)) = ((x * 256 ^ k : Nat) : Int) := by
    rw [u64w, hpi, ← Int.natCast_mul]; omega
  rw [e2, u64_or_nat _ _ h5 h1]
  congr 1
  rw [← hp] at hN ⊢
  exact or_add N x (8 * k) hN
set_option maxRecDepth 100000 in
set_option maxHeartbeats 1000000 in
theorem next64 (bc n : Nat) (z : Nat → Int) (at_ : Nat) (hz : ∀ i, i < n → 0 ≤ z i ∧ z i ≤ 255) (hn : n ≤ 100000) (hm : at_ + 8 ≤ n) (w : World) (h : CursorAt w bc n z at_) :
    Calls Tryd.prog 48 #[.pointer (some ⟨bc, 0, none⟩), .int .i64 8] w fun e w' => e = .returned (.int .u64 (num (fun i => z (at_ + i)) 8 : Nat)) ∧ CursorAt w' bc n z (at_ + 8) ∧ Turned (· = bc) w w' := by
  have TK := ctake_ok bc n z at_ 8 hn hm w h
  rw [show ((8 : Nat) : Int) = 8 from rfl] at TK
  have TK := Lib.hid TK
  have HZ := Lib.hid (fun i (hi : i < 8) => hz (at_ + i) (by omega))
  clear h hz
  go_enter Tryd.func48, Tryd.ntmps48
  go_wp2_with (go_at_call 59; refine TK.out.mono ?_; rintro e w1 ⟨a1, c1, rfl, hr, hc, ht, _⟩; have HR := Lib.hid hr; have HC := Lib.hid hc; have HT := Lib.hid ht; clear hr hc ht)
  go_loop [5, 12] (fun v i => ∃ k : Nat, k ≤ 8 ∧ i = .int .i64 k ∧ v = .int .u64 (num (fun i => z (at_ + i)) k : Nat)) (fun _ i => 8 - (intOf i).toNat)
  case atStart => exact ⟨0, by omega, rfl, rfl⟩
  case round =>
    obtain ⟨k, hk, rfl, rfl⟩ := hrel
    by_cases hk2 : k < 8
    · have k1 : (k : Int) < 8 := by omega
      have k0 : (0 : Int) ≤ k := by omega
      obtain ⟨b, off, rfl, _, hcell⟩ := HR.out.at_ hk2
      have c0 := hcell k hk2
      have zb := HZ.out k hk2
      clear hcell
      obtain ⟨x, hx⟩ : ∃ x : Nat, z (at_ + k) = x := ⟨(z (at_ + k)).toNat, by omega⟩
      rw [hx] at c0
      have hx2 : x < 256 := by omega
      have hx3 : (x : Int) ≤ 255 := by omega
      have hNl : num (fun i => z (at_ + i)) k < 256 ^ k := num_lt _ k (fun i hi => HZ.out i (by omega))
      have hS : num (fun i => z (at_ + i)) (k + 1) = num (fun i => z (at_ + i)) k + x * 256 ^ k := by simp only [num]; rw [hx]; simp
      have HS := Lib.hid hS
      clear zb hS
      obtain ⟨N, hN⟩ : ∃ N, num (fun i => z (at_ + i)) k = N := ⟨_, rfl⟩
      rw [hN] at hNl HS
      rw [hN]
      have HO := Lib.hid (nor64 N x k hNl hx2 hk2)
      clear hN hx hNl hx2
      go_wp2
      go_round
      case rel => exact ⟨k + 1, by omega, by go_num, by rw [HS.out, ← HO.out]⟩
      case measure => simp [intOf]; omega
    · obtain rfl : k = 8 := by omega
      go_wp2
      go_ret
      exact ⟨rfl, HC.out, HT.out⟩
theorem nextshort64 (bc n : Nat) (z : Nat → Int) (at_ : Nat) (hn : n ≤ 100000) (hat : at_ ≤ n) (hm : n < at_ + 8) (w : World) (h : CursorAt w bc n z at_) :
    Calls Tryd.prog 48 #[.pointer (some ⟨bc, 0, none⟩), .int .i64 8] w fun e w' => e = (.panicked [{ v := .iface 94 (.agg #[.int .i64 1]), recovered := false }]) ∧ ∃ k, w' = w.drewN k := by
  have TK := Lib.hid (ctake_short bc n z at_ 8 hn (by omega) w h)
  clear h
  go_enter Tryd.func48, Tryd.ntmps48
  go_wp2_with (go_at_call 59; refine TK.out.mono ?_; rintro e w1 ⟨rfl, j, rfl⟩)
  exact ⟨rfl, rfl, _, rfl⟩
theorem u64_ok (bc n : Nat) (z : Nat → Int) (at_ : Nat) (hz : ∀ i, i < n → 0 ≤ z i ∧ z i ≤ 255) (hn : n ≤ 100000) (hm : at_ + 8 ≤ n) (w : World) (h : CursorAt w bc n z at_) :
    Calls Tryd.prog 31 #[.pointer (some ⟨bc, 0, none⟩)] w fun e w' => e = .returned (.int .u64 (num (fun i => z (at_ + i)) 8 : Nat)) ∧ CursorAt w' bc n z (at_ + 8) ∧ Turned (· = bc) w w' := by
  have NX := Lib.hid (next64 bc n z at_ hz hn hm w h)
  clear h hz
  generalize num (fun i => z (at_ + i)) 8 = N at *
  go_enter Tryd.func31, Tryd.ntmps31
  go_wp2_with (go_at_call 48; refine NX.out.mono ?_; rintro e w1 ⟨rfl, hc, ht⟩; have HC := Lib.hid hc; have HT := Lib.hid ht; clear hc ht)
  go_ret
  exact ⟨rfl, HC.out, HT.out⟩
theorem u64_short (bc n : Nat) (z : Nat → Int) (at_ : Nat) (hn : n ≤ 100000) (hat : at_ ≤ n) (hm : n < at_ + 8) (w : World) (h : CursorAt w bc n z at_) :
    Calls Tryd.prog 31 #[.pointer (some ⟨bc, 0, none⟩)] w fun e w' => e = (.panicked [{ v := .iface 94 (.agg #[.int .i64 1]), recovered := false }]) ∧ ∃ k, w' = w.drewN k := by
  have NX := Lib.hid (nextshort64 bc n z at_ hn hat hm w h)
  clear h
  go_enter Tryd.func31, Tryd.ntmps31
  go_wp2_with (go_at_call 48; refine NX.out.mono ?_; rintro e w1 ⟨rfl, j, rfl⟩)
  exact ⟨rfl, rfl, _, rfl⟩
end Go.Proofs.YtelcaejiipibpaaDoor
