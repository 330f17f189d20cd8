/-
  CONTRACTS OF cursor.put (64 bits) behind any bytes, in any world: a row of its own; nothing that lay is turned. Conditions: at most 20000 bytes, which lie in memory as told.
-/
import Derived.Test.YtelcaejiipibpaaDoorWordsB
import Derived.Test.YtelcaejiipibpaaDoorBytesOf
import Derived.WalkKit
import Derived.WalkLawsBesides
import Derived.WalkSpells
import Derived.ProofKit
import Derived.LoopTactic
import Derived.IntWalk
import Derived.Deep.DeepMust
import Derived.Outline
import Derived.Lib.Hide
namespace Go.Proofs.YtelcaejiipibpaaDoor
open Go.RowKit
set_option linter.unusedVariables false
set_option maxRecDepth 100000 in
set_option maxHeartbeats 2000000 in
theorem put64 (a : Option Addr) (len cap : Nat) (z : Nat → Int) (n : Nat) (hn : n < 18446744073709551616) (hl : len ≤ 20000) (w : World) (h : RowOf w a len (fun i => .int .u8 (z i))) :
    Calls Tryd.prog 53 #[.slice a len cap, .int .u64 n, .int .i64 8] w fun e w' => ∃ v, e = .returned v ∧ w'.ownsRow w.heap.size 5 1 v (len + 8) (cellsOf ((List.range len).map z ++ bytesOf 8 n)) ∧ Below w.heap.size w w' := by
  obtain ⟨i0, hi, hz0, hz1, hz2⟩ := info_parts byteInfo
  have hls : (len : Int) + 8 = ((len + 8 : Nat) : Int) := by omega
  have HLS := Lib.hid hls
  have H := Lib.hid h
  have hli : (len : Int) ≤ 20000 := by omega
  clear h hls
  go_enter Tryd.func53, Tryd.ntmps53
  go_wp2_with (first | (at_make; go_must (refine wpList_make_own _ rfl _ _ 27 rfl w.heap.size 5 i0 (.int .u8 0) 1 Tryd.underlying27 hi hz0 hz1 _ _ _ (len + 8) rfl rfl HLS.out (by rw [hz2]; omega) (by unfold maxLen; omega) (Nat.le_refl _) ?_); intro w1 hown hg; have hB1 : Below w.heap.size w w1 := (Below.refl _ w).grown hg (Nat.le_refl _) (fun k hk => by cases hk); obtain ⟨v2, w2, hrun, ho2, hg2, _⟩ := run_append_row (P := Tryd.prog) w1 w.heap.size 27 27 5 i0 (.int .u8 0) 1 Tryd.underlying27 hi hz0 hz1 hz2 rfl _ 0 _ hown a len cap _ (H.out.below hB1) (fun i _ => rfl) (by unfold maxLen; omega) (by omega) hB1.size; rw [Nat.zero_add, List.nil_append, rowV_bytes] at ho2; have HR := Lib.hid hrun; have HO2 := Lib.hid ho2; have HB2 := Lib.hid (hB1.grown hg2 hB1.size (fun j hj => (hown.lt j hj).1)); clear hown hg hB1 hrun ho2 hg2) | (at_builtin; go_must (refine wpList_append_ran _ _ rfl _ _ 27 rfl _ _ _ rfl rfl HR.out ?_)))
  go_loopw [7, 18] (fun v i wr => ∃ k : Nat, k ≤ 8 ∧ i = .int .i64 k ∧ wr.ownsRow w.heap.size 5 1 v (len + k) (cellsOf ((List.range len).map z ++ bytesOf k n)) ∧ Below w.heap.size w wr) (fun _ i _ => 8 - (intOf i).toNat)
  case atStart => exact ⟨0, by omega, rfl, by simpa [bytesOf] using HO2.out, HB2.out⟩
  case round =>
    obtain ⟨k, hk, rfl, ho, hb⟩ := hrel
    have hsz := hb.size
    by_cases hkn : k < 8
    · have k1 : (k : Int) < 8 := by omega
      have k0 : (0 : Int) ≤ k := by omega
      have BS := Lib.hid (show cellsOf ((List.range len).map z ++ bytesOf (k + 1) n) = cellsOf ((List.range len).map z ++ bytesOf k n) ++ [.int .u8 ((n / 256 ^ k % 256 : Nat) : Int)] from by rw [bytesOf_succ, ← List.append_assoc]; simp [cellsOf])
      have hv : (n : Int) / 2 ^ (8 * k) % 256 = ((n / 256 ^ k % 256 : Nat) : Int) := by
        rw [show (2 : Int) ^ (8 * k) = ((256 ^ k : Nat) : Int) from by rw [Int.pow_mul]; simp]; omega
      obtain ⟨y, hy⟩ : ∃ y, (n : Int) / 2 ^ (8 * k) % 256 = y := ⟨_, rfl⟩
      rw [hy] at hv
      rw [← hv] at BS
      have HOW := Lib.hid ho
      have HBW := Lib.hid hb
      clear ho hb hv
      go_wp2_with (at_builtin; go_must (refine wpList_append_own_at _ rfl _ _ 27 rfl w.heap.size 5 i0 (.int .u8 0) 1 1 Tryd.underlying27 hi hz0 hz1 hz2 rfl (by decide) _ _ _ rfl (HOW.out.alloc _) ⟨wr.heap.size, 0, none⟩ 1 1 [.int .u8 y] rfl rfl (cell_one_new _ _ _) (by simp [Value.oneCell']) (by unfold maxLen; omega) (by omega) (by simp; omega) ?_); intro v3 w3 hown3 hgrow3 _ _; have HO3 := Lib.hid hown3; have HG3 := Lib.hid hgrow3; clear hown3 hgrow3)
      go_roundw
      case rel => exact ⟨k + 1, by omega, by go_num, by rw [BS.out]; exact HO3.out, (HBW.out.alloc hsz _).grown HG3.out (by simp; omega) (fun j hj => (HOW.out.lt j hj).1)⟩
      case measure => simp [intOf]; omega
    · obtain rfl : k = 8 := by omega
      have HOW := Lib.hid ho
      have HBW := Lib.hid hb
      clear ho hb
      go_wp2
      go_ret
      exact ⟨_, rfl, HOW.out, HBW.out⟩
theorem Put64_any (a : Option Addr) (len cap : Nat) (z : Nat → Int) (n : Nat) (hn : n < 18446744073709551616) (hl : len ≤ 20000) (w : World) (h : RowOf w a len (fun i => .int .u8 (z i))) :
    Calls Tryd.prog 37 #[.slice a len cap, .int .u64 n] w fun e w' => ∃ v, e = .returned v ∧ w'.ownsRow w.heap.size 5 1 v (len + 8) (cellsOf ((List.range len).map z ++ bytesOf 8 n)) ∧ Below w.heap.size w w' := by
  have PU := Lib.hid (put64 a len cap z n hn hl w h)
  clear h
  go_enter Tryd.func37, Tryd.ntmps37
  go_wp2_with (go_at_call 53; refine PU.out.mono ?_; rintro e w' ⟨v', rfl, hx, hb⟩; have HX := Lib.hid hx; have HB := Lib.hid hb; clear hx hb)
  go_ret
  exact ⟨_, rfl, HX.out, HB.out⟩
end Go.Proofs.YtelcaejiipibpaaDoor
