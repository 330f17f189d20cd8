/-
  TEXTS OF THIS PROOF, one behind the other: XRefPut XCurPut64 XPlainA XCurPut16.
-/
import Derived.Test.YthonjffojaljdaaWordsB
import Derived.Test.YthonjffojaljdaaHybM1
import Derived.WalkKit
import Derived.WalkLawsBesides
import Derived.WalkSpells
import Derived.ProofKit
import Derived.LoopTactic
import Derived.IntWalk
import Derived.Deep.DeepMust
import Derived.Outline
import Derived.Lib.Hide
/-
  CONTRACT OF the document's own Put of a number's bytes (corduroyref03.Put), in any world. Conditions: at most 8 bytes.
-/
namespace Go.Proofs.Ythonjffojaljdaa
open Go.RowKit
set_option linter.unusedVariables false
set_option maxRecDepth 100000 in
set_option maxHeartbeats 1000000 in
theorem rput3_any (v k : Nat) (hv : v < 18446744073709551616) (hk : k ≤ 8) (w : World) :
    Calls Try.prog 37 #[.int .u64 v, .int .i64 k] w fun e w' => ∃ x, e = .returned x ∧ w'.ownsRow w.heap.size 5 1 x k (cellsOf (bytesOf k v)) ∧ Below w.heap.size w w' := by
  obtain ⟨i0, hi, hz0, hz1, hz2⟩ := info_parts byteInfo
  have hk1 : (k : Int) ≤ 8 := by omega
  go_enter Try.func37, Try.ntmps37
  go_wp2
  go_loopw [0, 5, 6] (fun u x i wr => ∃ j : Nat, j ≤ k ∧ i = .int .i64 j ∧ u = .int .u64 ((v / 256 ^ j : Nat) : Int) ∧ wr.ownsRow w.heap.size 5 1 x j (cellsOf (bytesOf j v)) ∧ Below w.heap.size w wr) (fun _ _ i _ => k - (intOf i).toNat)
  case atStart => exact ⟨0, by omega, rfl, by simp, World.ownsRow_nil _ _ _ _, Below.refl _ _⟩
  case round =>
    obtain ⟨j, hj, rfl, rfl, ho, hb⟩ := hrel
    have HO := Lib.hid ho
    have HB := Lib.hid hb
    have hsz := hb.size
    clear ho hb
    by_cases hjk : j < k
    · have j1 : (j : Int) < k := by omega
      have e : v / 256 ^ j / 256 = v / 256 ^ (j + 1) := by rw [Nat.pow_succ, Nat.div_div_eq_div_mul]
      have E := Lib.hid e
      have hle : v / 256 ^ j ≤ v := Nat.div_le_self _ _
      have BS := Lib.hid (show cellsOf (bytesOf (j + 1) v) = cellsOf (bytesOf j v) ++ [.int .u8 (((v / 256 ^ j : Nat) : Int) % 256)] from by rw [bytesOf_succ]; simp [cellsOf])
      clear e
      generalize v / 256 ^ j = V at *
      go_wp2_with (at_builtin; go_must (refine wpList_append_own_at _ rfl _ _ 26 rfl w.heap.size 5 i0 (.int .u8 0) 1 1 Try.underlying26 hi hz0 hz1 hz2 rfl (by decide) _ _ _ rfl (HO.out.alloc _) ⟨wr.heap.size, 0, none⟩ 1 1 [.int .u8 ((V : Int) % 256)] rfl rfl (cell_one_new _ _ _) (by simp [Value.oneCell']) (by unfold maxLen; omega) (by omega) (by simp; omega) ?_); intro v2 w2 hown2 hgrow2 _ _; have HO2 := Lib.hid hown2; have HG2 := Lib.hid hgrow2; clear hown2 hgrow2)
      go_roundw
      case rel => exact ⟨j + 1, by omega, by go_num, congrArg (Value.int .u64) (by rw [← E.out]; simp), by rw [BS.out]; exact HO2.out, (HB.out.alloc hsz _).grown HG2.out (by simp; omega) (fun i hi => (HO.out.lt i hi).1)⟩
      case measure => simp [intOf]; omega
    · obtain rfl : j = k := by omega
      go_wp2
      go_ret
      exact ⟨_, rfl, HO.out, HB.out⟩
end Go.Proofs.Ythonjffojaljdaa


/-
  CONTRACTS OF cursor.put (64 bits) behind any bytes, in any world: a row of its own; nothing that lay is turned. Conditions: at most 20000 bytes, which lie in memory as told.
-/
namespace Go.Proofs.Ythonjffojaljdaa
open Go.RowKit
set_option linter.unusedVariables false
set_option maxRecDepth 100000 in
set_option maxHeartbeats 2000000 in
theorem put64 (a : Option Addr) (len cap : Nat) (z : Nat → Int) (n : Nat) (hn : n < 18446744073709551616) (hl : len ≤ 20000) (w : World) (h : RowOf w a len (fun i => .int .u8 (z i))) :
    Calls Try.prog 134 #[.slice a len cap, .int .u64 n, .int .i64 8] w fun e w' => ∃ v, e = .returned v ∧ w'.ownsRow w.heap.size 5 1 v (len + 8) (cellsOf ((List.range len).map z ++ bytesOf 8 n)) ∧ Below w.heap.size w w' := by
  obtain ⟨i0, hi, hz0, hz1, hz2⟩ := info_parts byteInfo
  have hls : (len : Int) + 8 = ((len + 8 : Nat) : Int) := by omega
  have HLS := Lib.hid hls
  have H := Lib.hid h
  have hli : (len : Int) ≤ 20000 := by omega
  clear h hls
  go_enter Try.func134, Try.ntmps134
  go_wp2_with (first | (at_make; go_must (refine wpList_make_own _ rfl _ _ 26 rfl w.heap.size 5 i0 (.int .u8 0) 1 Try.underlying26 hi hz0 hz1 _ _ _ (len + 8) rfl rfl HLS.out (by rw [hz2]; omega) (by unfold maxLen; omega) (Nat.le_refl _) ?_); intro w1 hown hg; have hB1 : Below w.heap.size w w1 := (Below.refl _ w).grown hg (Nat.le_refl _) (fun k hk => by cases hk); obtain ⟨v2, w2, hrun, ho2, hg2, _⟩ := run_append_row (P := Try.prog) w1 w.heap.size 26 26 5 i0 (.int .u8 0) 1 Try.underlying26 hi hz0 hz1 hz2 rfl _ 0 _ hown a len cap _ (H.out.below hB1) (fun i _ => rfl) (by unfold maxLen; omega) (by omega) hB1.size; rw [Nat.zero_add, List.nil_append, rowV_bytes] at ho2; have HR := Lib.hid hrun; have HO2 := Lib.hid ho2; have HB2 := Lib.hid (hB1.grown hg2 hB1.size (fun j hj => (hown.lt j hj).1)); clear hown hg hB1 hrun ho2 hg2) | (at_builtin; go_must (refine wpList_append_ran _ _ rfl _ _ 26 rfl _ _ _ rfl rfl HR.out ?_)))
  go_loopw [7, 18] (fun v i wr => ∃ k : Nat, k ≤ 8 ∧ i = .int .i64 k ∧ wr.ownsRow w.heap.size 5 1 v (len + k) (cellsOf ((List.range len).map z ++ bytesOf k n)) ∧ Below w.heap.size w wr) (fun _ i _ => 8 - (intOf i).toNat)
  case atStart => exact ⟨0, by omega, rfl, by simpa [bytesOf] using HO2.out, HB2.out⟩
  case round =>
    obtain ⟨k, hk, rfl, ho, hb⟩ := hrel
    have hsz := hb.size
    by_cases hkn : k < 8
    · have k1 : (k : Int) < 8 := by omega
      have k0 : (0 : Int) ≤ k := by omega
      have BS := Lib.hid (show cellsOf ((List.range len).map z ++ bytesOf (k + 1) n) = cellsOf ((List.range len).map z ++ bytesOf k n) ++ [.int .u8 ((n / 256 ^ k % 256 : Nat) : Int)] from by rw [bytesOf_succ, ← List.append_assoc]; simp [cellsOf])
      have hv : (n : Int) / 2 ^ (8 * k) % 256 = ((n / 256 ^ k % 256 : Nat) : Int) := by
        rw [show (2 : Int) ^ (8 * k) = ((256 ^ k : Nat) : Int) from by rw [Int.pow_mul]; simp]; omega
      obtain ⟨y, hy⟩ : ∃ y, (n : Int) / 2 ^ (8 * k) % 256 = y := ⟨_, rfl⟩
      rw [hy] at hv
      rw [← hv] at BS
      have HOW := Lib.hid ho
      have HBW := Lib.hid hb
      clear ho hb hv
      go_wp2_with (at_builtin; go_must (refine wpList_append_own_at _ rfl _ _ 26 rfl w.heap.size 5 i0 (.int .u8 0) 1 1 Try.underlying26 hi hz0 hz1 hz2 rfl (by decide) _ _ _ rfl (HOW.out.alloc _) ⟨wr.heap.size, 0, none⟩ 1 1 [.int .u8 y] rfl rfl (cell_one_new _ _ _) (by simp [Value.oneCell']) (by unfold maxLen; omega) (by omega) (by simp; omega) ?_); intro v3 w3 hown3 hgrow3 _ _; have HO3 := Lib.hid hown3; have HG3 := Lib.hid hgrow3; clear hown3 hgrow3)
      go_roundw
      case rel => exact ⟨k + 1, by omega, by go_num, by rw [BS.out]; exact HO3.out, (HBW.out.alloc hsz _).grown HG3.out (by simp; omega) (fun j hj => (HOW.out.lt j hj).1)⟩
      case measure => simp [intOf]; omega
    · obtain rfl : k = 8 := by omega
      have HOW := Lib.hid ho
      have HBW := Lib.hid hb
      clear ho hb
      go_wp2
      go_ret
      exact ⟨_, rfl, HOW.out, HBW.out⟩
theorem Put64_any (a : Option Addr) (len cap : Nat) (z : Nat → Int) (n : Nat) (hn : n < 18446744073709551616) (hl : len ≤ 20000) (w : World) (h : RowOf w a len (fun i => .int .u8 (z i))) :
    Calls Try.prog 110 #[.slice a len cap, .int .u64 n] w fun e w' => ∃ v, e = .returned v ∧ w'.ownsRow w.heap.size 5 1 v (len + 8) (cellsOf ((List.range len).map z ++ bytesOf 8 n)) ∧ Below w.heap.size w w' := by
  have PU := Lib.hid (put64 a len cap z n hn hl w h)
  clear h
  go_enter Try.func110, Try.ntmps110
  go_wp2_with (go_at_call 134; refine PU.out.mono ?_; rintro e w' ⟨v', rfl, hx, hb⟩; have HX := Lib.hid hx; have HB := Lib.hid hb; clear hx hb)
  go_ret
  exact ⟨_, rfl, HX.out, HB.out⟩
end Go.Proofs.Ythonjffojaljdaa


/-
  CONTRACTS OF plain.Block, of the document's own Block and Encode (corduroyref07), of Plain's Takes, Size, Name, Encode and of plain.Wrong of Plain, in any world. Conditions: at most 1100 numbers, which lie in memory as told.
-/
namespace Go.Proofs.Ythonjffojaljdaa
open Go.RowKit
set_option linter.unusedVariables false
/-- May a block have so many numbers? -/
def blk (n : Int) : Bool := decide (1 ≤ n ∧ n ≤ 1024)
theorem blk_in {n : Int} (h1 : 1 ≤ n) (h2 : n ≤ 1024) : blk n = true := decide_eq_true ⟨h1, h2⟩
theorem blk_out {n : Int} (h : ¬ (1 ≤ n ∧ n ≤ 1024)) : blk n = false := decide_eq_false h
theorem block_any (n : Int) (w : World) : Calls Try.prog 58 #[.int .i64 n] w fun e w' => e = .returned (.bool (blk n)) ∧ w = w' := by
  by_cases h1 : 1 ≤ n
  · by_cases h2 : n ≤ 1024
    · rw [blk_in h1 h2]
      go_enter Try.func58, Try.ntmps58
      go_wp2
      go_ret
      exact ⟨rfl, rfl⟩
    · rw [blk_out (fun h => h2 h.2)]
      go_enter Try.func58, Try.ntmps58
      go_wp2
      go_ret
      exact ⟨rfl, rfl⟩
  · rw [blk_out (fun h => h1 h.1)]
    go_enter Try.func58, Try.ntmps58
    go_wp2
    go_ret
    exact ⟨rfl, rfl⟩
theorem rblock_any (n : Int) (w : World) : Calls Try.prog 32 #[.int .i64 n] w fun e w' => e = .returned (.bool (blk n)) ∧ w = w' := by
  by_cases h1 : 1 ≤ n
  · by_cases h2 : n ≤ 1024
    · rw [blk_in h1 h2]
      go_enter Try.func32, Try.ntmps32
      go_wp2
      go_ret
      exact ⟨rfl, rfl⟩
    · rw [blk_out (fun h => h2 h.2)]
      go_enter Try.func32, Try.ntmps32
      go_wp2
      go_ret
      exact ⟨rfl, rfl⟩
  · rw [blk_out (fun h => h1 h.1)]
    go_enter Try.func32, Try.ntmps32
    go_wp2
    go_ret
    exact ⟨rfl, rfl⟩
/-- A number's 64 bits, as a number. -/
def un (v : Int) : Nat := (v % 18446744073709551616).toNat
theorem un_lt (v : Int) : un v < 18446744073709551616 := by unfold un; omega
theorem un_wrap (v : Int) : IntKind.u64.wrap v = (un v : Int) := by rw [u64w]; unfold un; omega
/-- The plain form of the first n numbers. -/
def pb (x : Nat → Int) : Nat → List Int
  | 0 => []
  | n + 1 => pb x n ++ bytesOf 8 (un (x n))
theorem pb_length (x : Nat → Int) : ∀ n, (pb x n).length = 8 * n
  | 0 => rfl
  | n + 1 => by simp only [pb, List.length_append, pb_length x n, bytesOf_length]; omega
theorem cellsOf_append (a b : List Int) : cellsOf (a ++ b) = cellsOf a ++ cellsOf b := by simp [cellsOf]
/-- A row of one's own, read as bytes. -/
theorem own_bytes {w : World} {base n : Nat} {v : Value} {xs : List Int} (h : w.ownsRow base 5 1 v n (cellsOf xs)) : ∃ a c, v = .slice a n c ∧ RowOf w a n (fun i => .int .u8 (xs.getD i 0)) ∧ n ≤ c ∧ c ≤ maxLen ∧ (∀ p, a = some p → ∃ g, p = ⟨g, 0, none⟩ ∧ base ≤ g ∧ g < w.heap.size) := by
  have hl : xs.length = n := by have := h.1; simpa [cellsOf] using this
  obtain ⟨a, c, rfl, hr, h1, h2, h3⟩ := own_reads h
  refine ⟨a, c, rfl, hr.congr fun i hi => by simp [cellsOf, (by omega : i < xs.length)], h2, ?_, fun p hp => ?_⟩
  · rcases h.2 with ⟨hv, h0⟩ | ⟨g, cp, cur, hv, _, hg, h1, h2, _⟩
    · injection hv with ha hn hc
      omega
    · injection hv with ha hn hc
      omega
  · obtain ⟨g, hg⟩ := h3 p hp
    exact ⟨g, hg, by have := (h1 p hp).1; rw [hg] at this; exact this, by have := (h1 p hp).2; rw [hg] at this; exact this⟩
end Go.Proofs.Ythonjffojaljdaa


/-
  CONTRACTS OF cursor.put (16 bits) behind any bytes, in any world: a row of its own; nothing that lay is turned. Conditions: at most 20000 bytes, which lie in memory as told.
-/
namespace Go.Proofs.Ythonjffojaljdaa
open Go.RowKit
set_option linter.unusedVariables false
end Go.Proofs.Ythonjffojaljdaa

