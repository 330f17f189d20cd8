/-
  CONTRACTS OF pfor.size and pfor.narrowest, in any world. Conditions: at most 1024 offsets, which lie in memory as told; a width of at most 64.
-/
import Derived.Test.YthonjffojaljdaaPforD
import Derived.Test.YthonjffojaljdaaPforS
import Derived.Test.YthonjffojaljdaaVarZig
namespace Go.Proofs.Ythonjffojaljdaa
open Go.RowKit
set_option linter.unusedVariables false
theorem dsize_any (u : Nat) (W : World) : Calls Try.prog 53 #[.int .u64 (u % 18446744073709551616 : Nat)] W fun e w' => e = .returned (.int .i64 (dn u : Nat)) ∧ W = w' := by
  have h := size_any ((u % 18446744073709551616 : Nat) : Int) (by omega) (by omega) W
  rw [Int.toNat_natCast] at h
  exact h
theorem need_le (m q : Nat) (hm : m ≤ 1024) (hq : q ≤ 64) : need m q ≤ 8192 := by
  have : m * q ≤ 1024 * 64 := Nat.mul_le_mul hm hq
  unfold need; omega
theorem psz_any (a : Option Addr) (m cap q : Nat) (v : Nat → Nat) (hm : m ≤ 1024) (hq : q ≤ 64) (hv : ∀ i, i < m → v i < 18446744073709551616) (w : World) (hrow : RowOf w a m (fun i => .int .u64 (v i : Nat))) :
    Calls Try.prog 72 #[.slice a m cap, .int .i64 q] w fun e W' => e = .returned (.int .i64 (pS dn v m q : Nat)) ∧ Below w.heap.size w W' :=
  fsize_any dn (need m q) dn_le (by have := need_le m q hm hq; omega) a m cap q v (by omega) hq hv w hrow dsize_any (fun W => (need_yes m q hm hq W).mono fun e w' h => h)
theorem pS_le (v : Nat → Nat) (m q : Nat) (hm : m ≤ 1024) (hq : q ≤ 64) : pS dn v m q ≤ 40000 := by
  have h1 := need_le m q hm hq
  have h2 := exW_le dn dn_le (exS v q m).1
  have h3 := exS_len v q m
  have h4 := dn_le (exS v q m).1.length
  unfold pS; omega
set_option maxRecDepth 100000 in
set_option maxHeartbeats 1000000 in
theorem narrow_of (a : Option Addr) (m cap : Nat) (f : Nat → Nat) (M : Nat) (hM : M ≤ 64) (hf : ∀ q, q ≤ 64 → f q ≤ 40000) (w : World)
    (SZ : ∀ (q : Nat), q ≤ 64 → ∀ W, Below w.heap.size w W → Calls Try.prog 72 #[.slice a m cap, .int .i64 q] W fun e W' => e = .returned (.int .i64 (f q : Nat)) ∧ Below W.heap.size W W')
    (MO : ∀ W, Below w.heap.size w W → Calls Try.prog 51 #[.slice a m cap] W fun e w' => e = .returned (.int .i64 (M : Nat)) ∧ W = w') :
    Calls Try.prog 73 #[.slice a m cap] w fun e W' => e = .returned (.int .i64 ((nBest f (M + 1)).1 : Nat)) ∧ Below w.heap.size w W' := by
  have S0 := SZ 0 (by decide) w (Below.refl _ _)
  rw [show ((0 : Nat) : Int) = 0 from rfl] at S0
  have S0 := Lib.hid S0
  have SZ := Lib.hid SZ
  have MO := Lib.hid MO
  have hf0 := hf 0 (by decide)
  have HF := Lib.hid hf
  clear hf
  go_enter Try.func73, Try.ntmps73
  go_wp2_with (first
    | (go_at_call 72; refine S0.out.mono ?_; rintro e w1 ⟨rfl, hb⟩; have HB1 := Lib.hid hb; clear hb)
    | (go_at_call 51; refine (MO.out _ HB1.out).mono ?_; rintro e w2 ⟨rfl, rfl⟩))
  clear S0 MO
  go_loopw [3, 4, 12] (fun b g i wr => ∃ k : Nat, k ≤ M + 1 ∧ i = .int .i64 k ∧ b = .int .i64 ((nBest f k).1 : Nat) ∧ g = .int .i64 ((nBest f k).2 : Nat) ∧ Below w.heap.size w wr) (fun _ _ i _ => M + 1 - (intOf i).toNat)
  case atStart => exact ⟨0, by omega, rfl, rfl, rfl, HB1.out⟩
  case round =>
    obtain ⟨k, hk, rfl, rfl, rfl, hb⟩ := hrel
    have HBK := Lib.hid hb
    clear hb
    by_cases hkn : k < M + 1
    · have k1 : (k : Int) < (M : Int) + 1 := by omega
      have SK := Lib.hid (SZ.out k (by omega))
      have hfk := HF.out k (by omega)
      have HN := Lib.hid (show nBest f (k + 1) = if f k < (nBest f k).2 then (k, f k) else nBest f k from rfl)
      generalize nBest f k = s at *
      generalize f k = y at *
      by_cases hc : y < s.2
      · have hc' : (y : Int) < (s.2 : Nat) := by omega
        have HNk := Lib.hid (show nBest f (k + 1) = (k, y) by rw [HN.out, if_pos hc])
        clear HN hc
        go_wp2_with (go_at_call 72; refine (SK.out _ HBK.out).mono ?_; rintro e w1 ⟨rfl, hb⟩; have HB3 := Lib.hid hb; clear hb)
        go_roundw
        case rel => exact ⟨k + 1, by omega, by go_num, by rw [HNk.out], by rw [HNk.out], HBK.out.trans (HB3.out.mono HBK.out.size)⟩
        case measure => simp [intOf]; omega
      · have hc' : ¬ (y : Int) < (s.2 : Nat) := by omega
        have HNk := Lib.hid (show nBest f (k + 1) = s by rw [HN.out, if_neg hc])
        clear HN hc
        go_wp2_with (go_at_call 72; refine (SK.out _ HBK.out).mono ?_; rintro e w1 ⟨rfl, hb⟩; have HB3 := Lib.hid hb; clear hb)
        go_roundw
        case rel => exact ⟨k + 1, by omega, by go_num, by rw [HNk.out], by rw [HNk.out], HBK.out.trans (HB3.out.mono HBK.out.size)⟩
        case measure => simp [intOf]; omega
    · obtain rfl : k = M + 1 := by omega
      have k1 : ¬ ((M + 1 : Nat) : Int) < (M : Int) + 1 := by omega
      go_wp2
      go_ret
      exact ⟨rfl, HBK.out⟩
theorem narrow_any (a : Option Addr) (m cap : Nat) (v : Nat → Nat) (hm : m ≤ 1024) (hv : ∀ i, i < m → v i < 18446744073709551616) (w : World) (hrow : RowOf w a m (fun i => .int .u64 (v i : Nat))) :
    Calls Try.prog 73 #[.slice a m cap] w fun e W' => e = .returned (.int .i64 ((nBest (pS dn v m) (most v m + 1)).1 : Nat)) ∧ Below w.heap.size w W' :=
  narrow_of a m cap (pS dn v m) (most v m) (most_le v m) (fun q hq => pS_le v m q hm hq) w (fun q hq W hb => psz_any a m cap q v hm hq hv W (hrow.below hb)) (fun W hb => most_any a m cap v hv (by omega) W (hrow.below hb))
end Go.Proofs.Ythonjffojaljdaa
