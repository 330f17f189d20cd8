/-
  CONTRACTS OF cursor.next and U8, U16, U32, U64, Bytes, Peek, in any world where the cursor lies. Conditions: at most 20000 bytes.
-/
import Derived.Test.YtgclhblglohjpaaCur
namespace Go.Proofs.Ytgclhblglohjpaa
open Go.RowKit
set_option linter.unusedVariables false
theorem nor8 (N x k : Nat) (hN : N < 256 ^ k) (hx : x < 256) (hk : k < 1) : Go.bits .or .u8 (N : Int) ((x : Int) * 2 ^ (8 * k) % 256) = ((N + x * 256 ^ k : Nat) : Int) := by
  have hp : (2 : Nat) ^ (8 * k) = 256 ^ k := by rw [Nat.pow_mul]
  have hpi : (2 : Int) ^ (8 * k) = ((256 ^ k : Nat) : Int) := by rw [← hp]; simp
  have h1 : x * 256 ^ k < 256 := by
    have h2 : x * 256 ^ k < 256 * 256 ^ k := Nat.mul_lt_mul_of_pos_right hx (Nat.pow_pos (by decide))
    have h3 : 256 * 256 ^ k ≤ 256 ^ 1 := by rw [← Nat.pow_succ']; exact Nat.pow_le_pow_right (by decide) hk
    have h4 : (256 : Nat) ^ 1 = 256 := by decide
    omega
  have h5 : N < 256 := by
    have h3 : 256 ^ k ≤ 256 ^ 1 := Nat.pow_le_pow_right (by decide) (by omega)
    have h4 : (256 : Nat) ^ 1 = 256 := by decide
    omega
  have e2 : (x : Int) * 2 ^ (8 * k) % 256 = ((x * 256 ^ k : Nat) : Int) := by
    rw [hpi, ← Int.natCast_mul]; omega
  rw [e2, u8_or_nat _ _ h5 h1]
  congr 1
  rw [← hp] at hN ⊢
  exact or_add N x (8 * k) hN
set_option maxRecDepth 100000 in
set_option maxHeartbeats 1000000 in
theorem next8 (bc n : Nat) (z : Nat → Int) (at_ : Nat) (hz : ∀ i, i < n → 0 ≤ z i ∧ z i ≤ 255) (hn : n ≤ 100000) (hm : at_ + 1 ≤ n) (w : World) (h : CursorAt w bc n z at_) :
    Calls Try.prog 123 #[.pointer (some ⟨bc, 0, none⟩), .int .i64 1] w fun e w' => e = .returned (.int .u8 (num (fun i => z (at_ + i)) 1 : Nat)) ∧ CursorAt w' bc n z (at_ + 1) ∧ Turned (· = bc) w w' := by
  have TK := ctake_ok bc n z at_ 1 hn hm w h
  rw [show ((1 : Nat) : Int) = 1 from rfl] at TK
  have TK := Lib.hid TK
  have HZ := Lib.hid (fun i (hi : i < 1) => hz (at_ + i) (by omega))
  clear h hz
  go_enter Try.func123, Try.ntmps123
  go_wp2_with (go_at_call 124; refine TK.out.mono ?_; rintro e w1 ⟨a1, c1, rfl, hr, hc, ht, _⟩; have HR := Lib.hid hr; have HC := Lib.hid hc; have HT := Lib.hid ht; clear hr hc ht)
  go_loop [5, 12] (fun v i => ∃ k : Nat, k ≤ 1 ∧ i = .int .i64 k ∧ v = .int .u8 (num (fun i => z (at_ + i)) k : Nat)) (fun _ i => 1 - (intOf i).toNat)
  case atStart => exact ⟨0, by omega, rfl, rfl⟩
  case round =>
    obtain ⟨k, hk, rfl, rfl⟩ := hrel
    by_cases hk2 : k < 1
    · have k1 : (k : Int) < 1 := by omega
      have k0 : (0 : Int) ≤ k := by omega
      obtain ⟨b, off, rfl, _, hcell⟩ := HR.out.at_ hk2
      have c0 := hcell k hk2
      have zb := HZ.out k hk2
      clear hcell
      obtain ⟨x, hx⟩ : ∃ x : Nat, z (at_ + k) = x := ⟨(z (at_ + k)).toNat, by omega⟩
      rw [hx] at c0
      have hx2 : x < 256 := by omega
      have hx3 : (x : Int) ≤ 255 := by omega
      have hNl : num (fun i => z (at_ + i)) k < 256 ^ k := num_lt _ k (fun i hi => HZ.out i (by omega))
      have hS : num (fun i => z (at_ + i)) (k + 1) = num (fun i => z (at_ + i)) k + x * 256 ^ k := by simp only [num]; rw [hx]; simp
      have HS := Lib.hid hS
      clear zb hS
      obtain ⟨N, hN⟩ : ∃ N, num (fun i => z (at_ + i)) k = N := ⟨_, rfl⟩
      rw [hN] at hNl HS
      rw [hN]
      have HO := Lib.hid (nor8 N x k hNl hx2 hk2)
      clear hN hx hNl hx2
      go_wp2
      go_round
      case rel => exact ⟨k + 1, by omega, by go_num, by rw [HS.out, ← HO.out]⟩
      case measure => simp [intOf]; omega
    · obtain rfl : k = 1 := by omega
      go_wp2
      go_ret
      exact ⟨rfl, HC.out, HT.out⟩
theorem nextshort8 (bc n : Nat) (z : Nat → Int) (at_ : Nat) (hn : n ≤ 100000) (hat : at_ ≤ n) (hm : n < at_ + 1) (w : World) (h : CursorAt w bc n z at_) :
    Calls Try.prog 123 #[.pointer (some ⟨bc, 0, none⟩), .int .i64 1] w fun e w' => e = (.panicked [{ v := .iface 153 (.agg #[.int .i64 1]), recovered := false }]) ∧ ∃ k, w' = w.drewN k := by
  have TK := Lib.hid (ctake_short bc n z at_ 1 hn (by omega) w h)
  clear h
  go_enter Try.func123, Try.ntmps123
  go_wp2_with (go_at_call 124; refine TK.out.mono ?_; rintro e w1 ⟨rfl, j, rfl⟩)
  exact ⟨rfl, rfl, _, rfl⟩
theorem u8_ok (bc n : Nat) (z : Nat → Int) (at_ : Nat) (hz : ∀ i, i < n → 0 ≤ z i ∧ z i ≤ 255) (hn : n ≤ 100000) (hm : at_ + 1 ≤ n) (w : World) (h : CursorAt w bc n z at_) :
    Calls Try.prog 71 #[.pointer (some ⟨bc, 0, none⟩)] w fun e w' => e = .returned (.int .u8 (num (fun i => z (at_ + i)) 1 : Nat)) ∧ CursorAt w' bc n z (at_ + 1) ∧ Turned (· = bc) w w' := by
  have NX := Lib.hid (next8 bc n z at_ hz hn hm w h)
  clear h hz
  generalize num (fun i => z (at_ + i)) 1 = N at *
  go_enter Try.func71, Try.ntmps71
  go_wp2_with (go_at_call 123; refine NX.out.mono ?_; rintro e w1 ⟨rfl, hc, ht⟩; have HC := Lib.hid hc; have HT := Lib.hid ht; clear hc ht)
  go_ret
  exact ⟨rfl, HC.out, HT.out⟩
theorem u8_short (bc n : Nat) (z : Nat → Int) (at_ : Nat) (hn : n ≤ 100000) (hat : at_ ≤ n) (hm : n < at_ + 1) (w : World) (h : CursorAt w bc n z at_) :
    Calls Try.prog 71 #[.pointer (some ⟨bc, 0, none⟩)] w fun e w' => e = (.panicked [{ v := .iface 153 (.agg #[.int .i64 1]), recovered := false }]) ∧ ∃ k, w' = w.drewN k := by
  have NX := Lib.hid (nextshort8 bc n z at_ hn hat hm w h)
  clear h
  go_enter Try.func71, Try.ntmps71
  go_wp2_with (go_at_call 123; refine NX.out.mono ?_; rintro e w1 ⟨rfl, j, rfl⟩)
  exact ⟨rfl, rfl, _, rfl⟩
theorem nor16 (N x k : Nat) (hN : N < 256 ^ k) (hx : x < 256) (hk : k < 2) : Go.bits .or .u16 (N : Int) (IntKind.u16.wrap ((x : Int) * 2 ^ (8 * k))) = ((N + x * 256 ^ k : Nat) : Int) := by
  have hp : (2 : Nat) ^ (8 * k) = 256 ^ k := by rw [Nat.pow_mul]
  have hpi : (2 : Int) ^ (8 * k) = ((256 ^ k : Nat) : Int) := by rw [← hp]; simp
  have h1 : x * 256 ^ k < 65536 := by
    have h2 : x * 256 ^ k < 256 * 256 ^ k := Nat.mul_lt_mul_of_pos_right hx (Nat.pow_pos (by decide))
    have h3 : 256 * 256 ^ k ≤ 256 ^ 2 := by rw [← Nat.pow_succ']; exact Nat.pow_le_pow_right (by decide) hk
    have h4 : (256 : Nat) ^ 2 = 65536 := by decide
    omega
  have h5 : N < 65536 := by
    have h3 : 256 ^ k ≤ 256 ^ 2 := Nat.pow_le_pow_right (by decide) (by omega)
    have h4 : (256 : Nat) ^ 2 = 65536 := by decide
    omega
  have e2 : IntKind.u16.wrap ((x : Int) * 2 ^ (8 * k)) = ((x * 256 ^ k : Nat) : Int) := by
    rw [IntKind.wrap_u16, hpi, ← Int.natCast_mul]; omega
  rw [e2, u16_or_nat _ _ h5 h1]
  congr 1
  rw [← hp] at hN ⊢
  exact or_add N x (8 * k) hN
set_option maxRecDepth 100000 in
set_option maxHeartbeats 1000000 in
theorem next16 (bc n : Nat) (z : Nat → Int) (at_ : Nat) (hz : ∀ i, i < n → 0 ≤ z i ∧ z i ≤ 255) (hn : n ≤ 100000) (hm : at_ + 2 ≤ n) (w : World) (h : CursorAt w bc n z at_) :
    Calls Try.prog 119 #[.pointer (some ⟨bc, 0, none⟩), .int .i64 2] w fun e w' => e = .returned (.int .u16 (num (fun i => z (at_ + i)) 2 : Nat)) ∧ CursorAt w' bc n z (at_ + 2) ∧ Turned (· = bc) w w' := by
  have TK := ctake_ok bc n z at_ 2 hn hm w h
  rw [show ((2 : Nat) : Int) = 2 from rfl] at TK
  have TK := Lib.hid TK
  have HZ := Lib.hid (fun i (hi : i < 2) => hz (at_ + i) (by omega))
  clear h hz
  go_enter Try.func119, Try.ntmps119
  go_wp2_with (go_at_call 124; refine TK.out.mono ?_; rintro e w1 ⟨a1, c1, rfl, hr, hc, ht, _⟩; have HR := Lib.hid hr; have HC := Lib.hid hc; have HT := Lib.hid ht; clear hr hc ht)
  go_loop [5, 12] (fun v i => ∃ k : Nat, k ≤ 2 ∧ i = .int .i64 k ∧ v = .int .u16 (num (fun i => z (at_ + i)) k : Nat)) (fun _ i => 2 - (intOf i).toNat)
  case atStart => exact ⟨0, by omega, rfl, rfl⟩
  case round =>
    obtain ⟨k, hk, rfl, rfl⟩ := hrel
    by_cases hk2 : k < 2
    · have k1 : (k : Int) < 2 := by omega
      have k0 : (0 : Int) ≤ k := by omega
      obtain ⟨b, off, rfl, _, hcell⟩ := HR.out.at_ hk2
      have c0 := hcell k hk2
      have zb := HZ.out k hk2
      clear hcell
      obtain ⟨x, hx⟩ : ∃ x : Nat, z (at_ + k) = x := ⟨(z (at_ + k)).toNat, by omega⟩
      rw [hx] at c0
      have hx2 : x < 256 := by omega
      have hx3 : (x : Int) ≤ 255 := by omega
      have hNl : num (fun i => z (at_ + i)) k < 256 ^ k := num_lt _ k (fun i hi => HZ.out i (by omega))
      have hS : num (fun i => z (at_ + i)) (k + 1) = num (fun i => z (at_ + i)) k + x * 256 ^ k := by simp only [num]; rw [hx]; simp
      have HS := Lib.hid hS
      clear zb hS
      obtain ⟨N, hN⟩ : ∃ N, num (fun i => z (at_ + i)) k = N := ⟨_, rfl⟩
      rw [hN] at hNl HS
      rw [hN]
      have HO := Lib.hid (nor16 N x k hNl hx2 hk2)
      clear hN hx hNl hx2
      go_wp2
      go_round
      case rel => exact ⟨k + 1, by omega, by go_num, by rw [HS.out, ← HO.out]⟩
      case measure => simp [intOf]; omega
    · obtain rfl : k = 2 := by omega
      go_wp2
      go_ret
      exact ⟨rfl, HC.out, HT.out⟩
theorem nextshort16 (bc n : Nat) (z : Nat → Int) (at_ : Nat) (hn : n ≤ 100000) (hat : at_ ≤ n) (hm : n < at_ + 2) (w : World) (h : CursorAt w bc n z at_) :
    Calls Try.prog 119 #[.pointer (some ⟨bc, 0, none⟩), .int .i64 2] w fun e w' => e = (.panicked [{ v := .iface 153 (.agg #[.int .i64 1]), recovered := false }]) ∧ ∃ k, w' = w.drewN k := by
  have TK := Lib.hid (ctake_short bc n z at_ 2 hn (by omega) w h)
  clear h
  go_enter Try.func119, Try.ntmps119
  go_wp2_with (go_at_call 124; refine TK.out.mono ?_; rintro e w1 ⟨rfl, j, rfl⟩)
  exact ⟨rfl, rfl, _, rfl⟩
theorem u16_ok (bc n : Nat) (z : Nat → Int) (at_ : Nat) (hz : ∀ i, i < n → 0 ≤ z i ∧ z i ≤ 255) (hn : n ≤ 100000) (hm : at_ + 2 ≤ n) (w : World) (h : CursorAt w bc n z at_) :
    Calls Try.prog 62 #[.pointer (some ⟨bc, 0, none⟩)] w fun e w' => e = .returned (.int .u16 (num (fun i => z (at_ + i)) 2 : Nat)) ∧ CursorAt w' bc n z (at_ + 2) ∧ Turned (· = bc) w w' := by
  have NX := Lib.hid (next16 bc n z at_ hz hn hm w h)
  clear h hz
  generalize num (fun i => z (at_ + i)) 2 = N at *
  go_enter Try.func62, Try.ntmps62
  go_wp2_with (go_at_call 119; refine NX.out.mono ?_; rintro e w1 ⟨rfl, hc, ht⟩; have HC := Lib.hid hc; have HT := Lib.hid ht; clear hc ht)
  go_ret
  exact ⟨rfl, HC.out, HT.out⟩
theorem u16_short (bc n : Nat) (z : Nat → Int) (at_ : Nat) (hn : n ≤ 100000) (hat : at_ ≤ n) (hm : n < at_ + 2) (w : World) (h : CursorAt w bc n z at_) :
    Calls Try.prog 62 #[.pointer (some ⟨bc, 0, none⟩)] w fun e w' => e = (.panicked [{ v := .iface 153 (.agg #[.int .i64 1]), recovered := false }]) ∧ ∃ k, w' = w.drewN k := by
  have NX := Lib.hid (nextshort16 bc n z at_ hn hat hm w h)
  clear h
  go_enter Try.func62, Try.ntmps62
  go_wp2_with (go_at_call 119; refine NX.out.mono ?_; rintro e w1 ⟨rfl, j, rfl⟩)
  exact ⟨rfl, rfl, _, rfl⟩
theorem nor32 (N x k : Nat) (hN : N < 256 ^ k) (hx : x < 256) (hk : k < 4) : Go.bits .or .u32 (N : Int) ((x : Int) * 2 ^ (8 * k) % 4294967296) = ((N + x * 256 ^ k : Nat) : Int) := by
  have hp : (2 : Nat) ^ (8 * k) = 256 ^ k := by rw [Nat.pow_mul]
  have hpi : (2 : Int) ^ (8 * k) = ((256 ^ k : Nat) : Int) := by rw [← hp]; simp
  have h1 : x * 256 ^ k < 4294967296 := by
    have h2 : x * 256 ^ k < 256 * 256 ^ k := Nat.mul_lt_mul_of_pos_right hx (Nat.pow_pos (by decide))
    have h3 : 256 * 256 ^ k ≤ 256 ^ 4 := by rw [← Nat.pow_succ']; exact Nat.pow_le_pow_right (by decide) hk
    have h4 : (256 : Nat) ^ 4 = 4294967296 := by decide
    omega
  have h5 : N < 4294967296 := by
    have h3 : 256 ^ k ≤ 256 ^ 4 := Nat.pow_le_pow_right (by decide) (by omega)
    have h4 : (256 : Nat) ^ 4 = 4294967296 := by decide
    omega
  have e2 : (x : Int) * 2 ^ (8 * k) % 4294967296 = ((x * 256 ^ k : Nat) : Int) := by
    rw [hpi, ← Int.natCast_mul]; omega
  rw [e2, u32_or_nat _ _ h5 h1]
  congr 1
  rw [← hp] at hN ⊢
  exact or_add N x (8 * k) hN
set_option maxRecDepth 100000 in
set_option maxHeartbeats 1000000 in
theorem next32 (bc n : Nat) (z : Nat → Int) (at_ : Nat) (hz : ∀ i, i < n → 0 ≤ z i ∧ z i ≤ 255) (hn : n ≤ 100000) (hm : at_ + 4 ≤ n) (w : World) (h : CursorAt w bc n z at_) :
    Calls Try.prog 118 #[.pointer (some ⟨bc, 0, none⟩), .int .i64 4] w fun e w' => e = .returned (.int .u32 (num (fun i => z (at_ + i)) 4 : Nat)) ∧ CursorAt w' bc n z (at_ + 4) ∧ Turned (· = bc) w w' := by
  have TK := ctake_ok bc n z at_ 4 hn hm w h
  rw [show ((4 : Nat) : Int) = 4 from rfl] at TK
  have TK := Lib.hid TK
  have HZ := Lib.hid (fun i (hi : i < 4) => hz (at_ + i) (by omega))
  clear h hz
  go_enter Try.func118, Try.ntmps118
  go_wp2_with (go_at_call 124; refine TK.out.mono ?_; rintro e w1 ⟨a1, c1, rfl, hr, hc, ht, _⟩; have HR := Lib.hid hr; have HC := Lib.hid hc; have HT := Lib.hid ht; clear hr hc ht)
  go_loop [5, 12] (fun v i => ∃ k : Nat, k ≤ 4 ∧ i = .int .i64 k ∧ v = .int .u32 (num (fun i => z (at_ + i)) k : Nat)) (fun _ i => 4 - (intOf i).toNat)
  case atStart => exact ⟨0, by omega, rfl, rfl⟩
  case round =>
    obtain ⟨k, hk, rfl, rfl⟩ := hrel
    by_cases hk2 : k < 4
    · have k1 : (k : Int) < 4 := by omega
      have k0 : (0 : Int) ≤ k := by omega
      obtain ⟨b, off, rfl, _, hcell⟩ := HR.out.at_ hk2
      have c0 := hcell k hk2
      have zb := HZ.out k hk2
      clear hcell
      obtain ⟨x, hx⟩ : ∃ x : Nat, z (at_ + k) = x := ⟨(z (at_ + k)).toNat, by omega⟩
      rw [hx] at c0
      have hx2 : x < 256 := by omega
      have hx3 : (x : Int) ≤ 255 := by omega
      have hNl : num (fun i => z (at_ + i)) k < 256 ^ k := num_lt _ k (fun i hi => HZ.out i (by omega))
      have hS : num (fun i => z (at_ + i)) (k + 1) = num (fun i => z (at_ + i)) k + x * 256 ^ k := by simp only [num]; rw [hx]; simp
      have HS := Lib.hid hS
      clear zb hS
      obtain ⟨N, hN⟩ : ∃ N, num (fun i => z (at_ + i)) k = N := ⟨_, rfl⟩
      rw [hN] at hNl HS
      rw [hN]
      have HO := Lib.hid (nor32 N x k hNl hx2 hk2)
      clear hN hx hNl hx2
      go_wp2
      go_round
      case rel => exact ⟨k + 1, by omega, by go_num, by rw [HS.out, ← HO.out]⟩
      case measure => simp [intOf]; omega
    · obtain rfl : k = 4 := by omega
      go_wp2
      go_ret
      exact ⟨rfl, HC.out, HT.out⟩
theorem nextshort32 (bc n : Nat) (z : Nat → Int) (at_ : Nat) (hn : n ≤ 100000) (hat : at_ ≤ n) (hm : n < at_ + 4) (w : World) (h : CursorAt w bc n z at_) :
    Calls Try.prog 118 #[.pointer (some ⟨bc, 0, none⟩), .int .i64 4] w fun e w' => e = (.panicked [{ v := .iface 153 (.agg #[.int .i64 1]), recovered := false }]) ∧ ∃ k, w' = w.drewN k := by
  have TK := Lib.hid (ctake_short bc n z at_ 4 hn (by omega) w h)
  clear h
  go_enter Try.func118, Try.ntmps118
  go_wp2_with (go_at_call 124; refine TK.out.mono ?_; rintro e w1 ⟨rfl, j, rfl⟩)
  exact ⟨rfl, rfl, _, rfl⟩
theorem u32_ok (bc n : Nat) (z : Nat → Int) (at_ : Nat) (hz : ∀ i, i < n → 0 ≤ z i ∧ z i ≤ 255) (hn : n ≤ 100000) (hm : at_ + 4 ≤ n) (w : World) (h : CursorAt w bc n z at_) :
    Calls Try.prog 61 #[.pointer (some ⟨bc, 0, none⟩)] w fun e w' => e = .returned (.int .u32 (num (fun i => z (at_ + i)) 4 : Nat)) ∧ CursorAt w' bc n z (at_ + 4) ∧ Turned (· = bc) w w' := by
  have NX := Lib.hid (next32 bc n z at_ hz hn hm w h)
  clear h hz
  generalize num (fun i => z (at_ + i)) 4 = N at *
  go_enter Try.func61, Try.ntmps61
  go_wp2_with (go_at_call 118; refine NX.out.mono ?_; rintro e w1 ⟨rfl, hc, ht⟩; have HC := Lib.hid hc; have HT := Lib.hid ht; clear hc ht)
  go_ret
  exact ⟨rfl, HC.out, HT.out⟩
theorem u32_short (bc n : Nat) (z : Nat → Int) (at_ : Nat) (hn : n ≤ 100000) (hat : at_ ≤ n) (hm : n < at_ + 4) (w : World) (h : CursorAt w bc n z at_) :
    Calls Try.prog 61 #[.pointer (some ⟨bc, 0, none⟩)] w fun e w' => e = (.panicked [{ v := .iface 153 (.agg #[.int .i64 1]), recovered := false }]) ∧ ∃ k, w' = w.drewN k := by
  have NX := Lib.hid (nextshort32 bc n z at_ hn hat hm w h)
  clear h
  go_enter Try.func61, Try.ntmps61
  go_wp2_with (go_at_call 118; refine NX.out.mono ?_; rintro e w1 ⟨rfl, j, rfl⟩)
  exact ⟨rfl, rfl, _, rfl⟩
theorem nor64 (N x k : Nat) (hN : N < 256 ^ k) (hx : x < 256) (hk : k < 8) : Go.bits .or .u64 (N : Int) (IntKind.u64.wrap ((x : Int) * 2 ^ (8 * k))) = ((N + x * 256 ^ k : Nat) : Int) := by
  have hp : (2 : Nat) ^ (8 * k) = 256 ^ k := by rw [Nat.pow_mul]
  have hpi : (2 : Int) ^ (8 * k) = ((256 ^ k : Nat) : Int) := by rw [← hp]; simp
  have h1 : x * 256 ^ k < 18446744073709551616 := by
    have h2 : x * 256 ^ k < 256 * 256 ^ k := Nat.mul_lt_mul_of_pos_right hx (Nat.pow_pos (by decide))
    have h3 : 256 * 256 ^ k ≤ 256 ^ 8 := by rw [← Nat.pow_succ']; exact Nat.pow_le_pow_right (by decide) hk
    have h4 : (256 : Nat) ^ 8 = 18446744073709551616 := by decide
    omega
  have h5 : N < 18446744073709551616 := by
    have h3 : 256 ^ k ≤ 256 ^ 8 := Nat.pow_le_pow_right (by decide) (by omega)
    have h4 : (256 : Nat) ^ 8 = 18446744073709551616 := by decide
    omega
  have e2 : IntKind.u64.wrap ((x : Int) * 2 ^ (8 * k)) = ((x * 256 ^ k : Nat) : Int) := by
    rw [u64w, hpi, ← Int.natCast_mul]; omega
  rw [e2, u64_or_nat _ _ h5 h1]
  congr 1
  rw [← hp] at hN ⊢
  exact or_add N x (8 * k) hN
set_option maxRecDepth 100000 in
set_option maxHeartbeats 1000000 in
theorem next64 (bc n : Nat) (z : Nat → Int) (at_ : Nat) (hz : ∀ i, i < n → 0 ≤ z i ∧ z i ≤ 255) (hn : n ≤ 100000) (hm : at_ + 8 ≤ n) (w : World) (h : CursorAt w bc n z at_) :
    Calls Try.prog 120 #[.pointer (some ⟨bc, 0, none⟩), .int .i64 8] w fun e w' => e = .returned (.int .u64 (num (fun i => z (at_ + i)) 8 : Nat)) ∧ CursorAt w' bc n z (at_ + 8) ∧ Turned (· = bc) w w' := by
  have TK := ctake_ok bc n z at_ 8 hn hm w h
  rw [show ((8 : Nat) : Int) = 8 from rfl] at TK
  have TK := Lib.hid TK
  have HZ := Lib.hid (fun i (hi : i < 8) => hz (at_ + i) (by omega))
  clear h hz
  go_enter Try.func120, Try.ntmps120
  go_wp2_with (go_at_call 124; refine TK.out.mono ?_; rintro e w1 ⟨a1, c1, rfl, hr, hc, ht, _⟩; have HR := Lib.hid hr; have HC := Lib.hid hc; have HT := Lib.hid ht; clear hr hc ht)
  go_loop [5, 12] (fun v i => ∃ k : Nat, k ≤ 8 ∧ i = .int .i64 k ∧ v = .int .u64 (num (fun i => z (at_ + i)) k : Nat)) (fun _ i => 8 - (intOf i).toNat)
  case atStart => exact ⟨0, by omega, rfl, rfl⟩
  case round =>
    obtain ⟨k, hk, rfl, rfl⟩ := hrel
    by_cases hk2 : k < 8
    · have k1 : (k : Int) < 8 := by omega
      have k0 : (0 : Int) ≤ k := by omega
      obtain ⟨b, off, rfl, _, hcell⟩ := HR.out.at_ hk2
      have c0 := hcell k hk2
      have zb := HZ.out k hk2
      clear hcell
      obtain ⟨x, hx⟩ : ∃ x : Nat, z (at_ + k) = x := ⟨(z (at_ + k)).toNat, by omega⟩
      rw [hx] at c0
      have hx2 : x < 256 := by omega
      have hx3 : (x : Int) ≤ 255 := by omega
      have hNl : num (fun i => z (at_ + i)) k < 256 ^ k := num_lt _ k (fun i hi => HZ.out i (by omega))
      have hS : num (fun i => z (at_ + i)) (k + 1) = num (fun i => z (at_ + i)) k + x * 256 ^ k := by simp only [num]; rw [hx]; simp
      have HS := Lib.hid hS
      clear zb hS
      obtain ⟨N, hN⟩ : ∃ N, num (fun i => z (at_ + i)) k = N := ⟨_, rfl⟩
      rw [hN] at hNl HS
      rw [hN]
      have HO := Lib.hid (nor64 N x k hNl hx2 hk2)
      clear hN hx hNl hx2
      go_wp2
      go_round
      case rel => exact ⟨k + 1, by omega, by go_num, by rw [HS.out, ← HO.out]⟩
      case measure => simp [intOf]; omega
    · obtain rfl : k = 8 := by omega
      go_wp2
      go_ret
      exact ⟨rfl, HC.out, HT.out⟩
theorem nextshort64 (bc n : Nat) (z : Nat → Int) (at_ : Nat) (hn : n ≤ 100000) (hat : at_ ≤ n) (hm : n < at_ + 8) (w : World) (h : CursorAt w bc n z at_) :
    Calls Try.prog 120 #[.pointer (some ⟨bc, 0, none⟩), .int .i64 8] w fun e w' => e = (.panicked [{ v := .iface 153 (.agg #[.int .i64 1]), recovered := false }]) ∧ ∃ k, w' = w.drewN k := by
  have TK := Lib.hid (ctake_short bc n z at_ 8 hn (by omega) w h)
  clear h
  go_enter Try.func120, Try.ntmps120
  go_wp2_with (go_at_call 124; refine TK.out.mono ?_; rintro e w1 ⟨rfl, j, rfl⟩)
  exact ⟨rfl, rfl, _, rfl⟩
theorem u64_ok (bc n : Nat) (z : Nat → Int) (at_ : Nat) (hz : ∀ i, i < n → 0 ≤ z i ∧ z i ≤ 255) (hn : n ≤ 100000) (hm : at_ + 8 ≤ n) (w : World) (h : CursorAt w bc n z at_) :
    Calls Try.prog 63 #[.pointer (some ⟨bc, 0, none⟩)] w fun e w' => e = .returned (.int .u64 (num (fun i => z (at_ + i)) 8 : Nat)) ∧ CursorAt w' bc n z (at_ + 8) ∧ Turned (· = bc) w w' := by
  have NX := Lib.hid (next64 bc n z at_ hz hn hm w h)
  clear h hz
  generalize num (fun i => z (at_ + i)) 8 = N at *
  go_enter Try.func63, Try.ntmps63
  go_wp2_with (go_at_call 120; refine NX.out.mono ?_; rintro e w1 ⟨rfl, hc, ht⟩; have HC := Lib.hid hc; have HT := Lib.hid ht; clear hc ht)
  go_ret
  exact ⟨rfl, HC.out, HT.out⟩
theorem u64_short (bc n : Nat) (z : Nat → Int) (at_ : Nat) (hn : n ≤ 100000) (hat : at_ ≤ n) (hm : n < at_ + 8) (w : World) (h : CursorAt w bc n z at_) :
    Calls Try.prog 63 #[.pointer (some ⟨bc, 0, none⟩)] w fun e w' => e = (.panicked [{ v := .iface 153 (.agg #[.int .i64 1]), recovered := false }]) ∧ ∃ k, w' = w.drewN k := by
  have NX := Lib.hid (nextshort64 bc n z at_ hn hat hm w h)
  clear h
  go_enter Try.func63, Try.ntmps63
  go_wp2_with (go_at_call 120; refine NX.out.mono ?_; rintro e w1 ⟨rfl, j, rfl⟩)
  exact ⟨rfl, rfl, _, rfl⟩
set_option maxRecDepth 100000 in
theorem cbytes_ok (bc n : Nat) (z : Nat → Int) (at_ m : Nat) (hn : n ≤ 100000) (hm : at_ + m ≤ n) (w : World) (h : CursorAt w bc n z at_) :
    Calls Try.prog 72 #[.pointer (some ⟨bc, 0, none⟩), .int .i64 m] w fun e w' => ∃ v, e = .returned v ∧ w'.ownsRow w.heap.size 5 1 v m (rowV (fun i => .int .u8 (z (at_ + i))) m) ∧ CursorAt w' bc n z (at_ + m) ∧ Turned (· = bc) w w' := by
  have TK := Lib.hid (ctake_ok bc n z at_ m hn hm w h)
  have CO := Lib.hid (check_ok 4)
  have m0 : decide ((0 : Int) ≤ (m : Int)) = true := by simp
  have m1 : (0 : Int) ≤ m := by omega
  clear h
  go_enter Try.func72, Try.ntmps72
  go_wp2_with (first | (go_at_call 64; refine (CO.out _).mono ?_; rintro e w' ⟨rfl, rfl⟩) | (go_at_call 124; refine TK.out.mono ?_; rintro e w1 ⟨a1, c1, rfl, hr, hc, ht, _⟩; have CL := Lib.hid (clone_any a1 m c1 (fun i => z (at_ + i)) (by omega) w1 hr); have HC := Lib.hid hc; have HT := Lib.hid ht; clear hr hc ht) | (go_at_call 68; refine CL.out.mono ?_; rintro e w2 ⟨v, rfl, hx, hb⟩; have HX := Lib.hid hx; have HB := Lib.hid hb; clear hx hb))
  go_ret
  exact ⟨_, rfl, owns_base HX.out (fun j hj => by have := (HX.out.lt j hj).1; have := HT.out.size; omega), HC.out.below HB.out HC.out.lt, HT.out.trans (Turned.of_below HB.out (fun i hi _ => hi))⟩
theorem cbytes_neg (bc : Nat) (m : Int) (hm : m < 0) (w : World) :
    Calls Try.prog 72 #[.pointer (some ⟨bc, 0, none⟩), .int .i64 m] w fun e w' => e = (.panicked [{ v := .iface 153 (.agg #[.int .i64 4]), recovered := false }]) ∧ w = w' := by
  have CO := Lib.hid (check_some 4 (by decide))
  have m0 : decide ((0 : Int) ≤ m) = false := decide_eq_false (by omega)
  clear hm
  go_enter Try.func72, Try.ntmps72
  go_wp2_with (first | (go_at_call 64; refine (CO.out _).mono ?_; rintro e w' ⟨rfl, rfl⟩))
  exact ⟨rfl, rfl, rfl⟩
theorem cbytes_short (bc n : Nat) (z : Nat → Int) (at_ : Nat) (m : Int) (hm0 : 0 ≤ m) (hn : n ≤ 100000) (hm : ((n - at_ : Nat) : Int) < m) (w : World) (h : CursorAt w bc n z at_) :
    Calls Try.prog 72 #[.pointer (some ⟨bc, 0, none⟩), .int .i64 m] w fun e w' => e = (.panicked [{ v := .iface 153 (.agg #[.int .i64 1]), recovered := false }]) ∧ ∃ k, w' = w.drewN k := by
  have TK := Lib.hid (ctake_short bc n z at_ m hn hm w h)
  have CO := Lib.hid (check_ok 4)
  have m0 : decide ((0 : Int) ≤ m) = true := decide_eq_true hm0
  clear h hm
  go_enter Try.func72, Try.ntmps72
  go_wp2_with (first | (go_at_call 64; refine (CO.out _).mono ?_; rintro e w' ⟨rfl, rfl⟩) | (go_at_call 124; refine TK.out.mono ?_; rintro e w1 ⟨rfl, j, rfl⟩))
  exact ⟨rfl, rfl, _, rfl⟩
end Go.Proofs.Ytgclhblglohjpaa
