/-
  CONTRACT OF the document's own Put of a number's bytes (corduroyref03.Put), in any world. Conditions: at most 8 bytes.
-/
import Derived.Test.YthonjffojaljdaaWordsB
import Derived.Test.YthonjffojaljdaaBytesOf
import Derived.WalkKit
import Derived.WalkLawsBesides
import Derived.WalkSpells
import Derived.ProofKit
import Derived.LoopTactic
import Derived.IntWalk
import Derived.Deep.DeepMust
import Derived.Outline
import Derived.Lib.Hide
namespace Go.Proofs.Ythonjffojaljdaa
open Go.RowKit
set_option linter.unusedVariables false
set_option maxRecDepth 100000 in
set_option maxHeartbeats 1000000 in
theorem rput3_any (v k : Nat) (hv : v < 18446744073709551616) (hk : k ≤ 8) (w : World) :
    Calls Try.prog 37 #[.int .u64 v, .int .i64 k] w fun e w' => ∃ x, e = .returned x ∧ w'.ownsRow w.heap.size 5 1 x k (cellsOf (bytesOf k v)) ∧ Below w.heap.size w w' := by
  obtain ⟨i0, hi, hz0, hz1, hz2⟩ := info_parts byteInfo
  have hk1 : (k : Int) ≤ 8 := by omega
  go_enter Try.func37, Try.ntmps37
  go_wp2
  go_loopw [0, 5, 6] (fun u x i wr => ∃ j : Nat, j ≤ k ∧ i = .int .i64 j ∧ u = .int .u64 ((v / 256 ^ j : Nat) : Int) ∧ wr.ownsRow w.heap.size 5 1 x j (cellsOf (bytesOf j v)) ∧ Below w.heap.size w wr) (fun _ _ i _ => k - (intOf i).toNat)
  case atStart => exact ⟨0, by omega, rfl, by simp, World.ownsRow_nil _ _ _ _, Below.refl _ _⟩
  case round =>
    obtain ⟨j, hj, rfl, rfl, ho, hb⟩ := hrel
    have HO := Lib.hid ho
    have HB := Lib.hid hb
    have hsz := hb.size
    clear ho hb
    by_cases hjk : j < k
    · have j1 : (j : Int) < k := by omega
      have e : v / 256 ^ j / 256 = v / 256 ^ (j + 1) := by rw [Nat.pow_succ, Nat.div_div_eq_div_mul]
      have E := Lib.hid e
      have hle : v / 256 ^ j ≤ v := Nat.div_le_self _ _
      have BS := Lib.hid (show cellsOf (bytesOf (j + 1) v) = cellsOf (bytesOf j v) ++ [.int .u8 (((v / 256 ^ j : Nat) : Int) % 256)] from by rw [bytesOf_succ]; simp [cellsOf])
      clear e
      generalize v / 256 ^ j = V at *
      go_wp2_with (at_builtin; go_must (refine wpList_append_own_at _ rfl _ _ 26 rfl w.heap.size 5 i0 (.int .u8 0) 1 1 Try.underlying26 hi hz0 hz1 hz2 rfl (by decide) _ _ _ rfl (HO.out.alloc _) ⟨wr.heap.size, 0, none⟩ 1 1 [.int .u8 ((V : Int) % 256)] rfl rfl (cell_one_new _ _ _) (by simp [Value.oneCell']) (by unfold maxLen; omega) (by omega) (by simp; omega) ?_); intro v2 w2 hown2 hgrow2 _ _; have HO2 := Lib.hid hown2; have HG2 := Lib.hid hgrow2; clear hown2 hgrow2)
      go_roundw
      case rel => exact ⟨j + 1, by omega, by go_num, congrArg (Value.int .u64) (by rw [← E.out]; simp), by rw [BS.out]; exact HO2.out, (HB.out.alloc hsz _).grown HG2.out (by simp; omega) (fun i hi => (HO.out.lt i hi).1)⟩
      case measure => simp [intOf]; omega
    · obtain rfl : j = k := by omega
      go_wp2
      go_ret
      exact ⟨_, rfl, HO.out, HB.out⟩
end Go.Proofs.Ythonjffojaljdaa
