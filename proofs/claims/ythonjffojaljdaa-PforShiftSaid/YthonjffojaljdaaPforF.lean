/-
  CONTRACTS OF Pfor's Takes and Name, and of its Encode and plain.Wrong of blocks that aren't taken, in any world. No condition.
-/
import Derived.Test.YthonjffojaljdaaPlainB
namespace Go.Proofs.Ythonjffojaljdaa
open Go.RowKit
set_option linter.unusedVariables false
theorem ftakes_any (a : Option Addr) (n cap : Nat) (w : World) : Calls Try.prog 70 #[.agg #[], .slice a n cap] w fun e w' => e = .returned (.bool (blk n)) ∧ Below w.heap.size w w' := by
  have BK := Lib.hid (fun W => block_any n W)
  have HB := Lib.hid ((Below.refl w.heap.size w).alloc (Nat.le_refl _) (.cells #[] 51))
  generalize blk n = t at *
  go_enter Try.func70, Try.ntmps70
  go_wp2_with (go_at_call 58; refine (BK.out _).mono ?_; rintro e w1 ⟨rfl, rfl⟩)
  go_ret
  exact ⟨rfl, HB.out⟩
theorem fm_takes (k : Nat) (w : World) : (method (k + 1) 51 (.agg #[]) "Takes").run Try.prog w = .ok (70, .agg #[]) w := by kernel_rfl
theorem fm_size (k : Nat) (w : World) : (method (k + 1) 51 (.agg #[]) "Size").run Try.prog w = .ok (29, .agg #[]) w := by kernel_rfl
theorem fm_encode (k : Nat) (w : World) : (method (k + 1) 51 (.agg #[]) "Encode").run Try.prog w = .ok (74, .agg #[]) w := by kernel_rfl
theorem fm_decode (k : Nat) (w : World) : (method (k + 1) 51 (.agg #[]) "Decode").run Try.prog w = .ok (172, .agg #[]) w := by kernel_rfl
set_option maxRecDepth 100000 in
theorem fwrong_any (a : Option Addr) (n cap : Nat) (w : World) : Calls Try.prog 33 #[.iface 51 (.agg #[]), .slice a n cap] w fun e w' => e = .returned (.int .i64 (wrg n)) ∧ Below w.heap.size w w' := by
  have BK := Lib.hid (fun W => block_any n W)
  have TK := Lib.hid (fun W => ftakes_any a n cap W)
  have mt := fm_takes
  unfold wrg
  generalize blk n = t at *
  cases t
  · have hv : (if false = true then (0 : Int) else 7) = 7 := rfl
    rw [hv]
    go_enter Try.func33, Try.ntmps33
    go_wp2_with (go_at_call 58; refine (BK.out _).mono ?_; rintro e w1 ⟨rfl, rfl⟩)
    go_ret
    exact ⟨rfl, Below.refl _ _⟩
  · have hv : (if true = true then (0 : Int) else 7) = 0 := rfl
    rw [hv]
    go_enter Try.func33, Try.ntmps33
    go_wp2_with (first | (go_at_call 58; refine (BK.out _).mono ?_; rintro e w1 ⟨rfl, rfl⟩) | (go_at_call 70; refine (TK.out _).mono ?_; rintro e w1 ⟨rfl, hb⟩; have HB1 := Lib.hid hb; clear hb))
    go_ret
    exact ⟨rfl, HB1.out⟩
set_option maxRecDepth 100000 in
theorem fencode_out (a : Option Addr) (n cap : Nat) (hb : blk n = false) (w : World) :
    Calls Try.prog 74 #[.agg #[], .slice a n cap] w fun e w' => e = .returned (.tuple #[.slice none 0 0, .int .i64 7]) ∧ Below w.heap.size w w' := by
  have WR := fwrong_any a n cap
  rw [show wrg n = 7 by simp [wrg, hb]] at WR
  have WR := Lib.hid WR
  have HB := Lib.hid ((Below.refl w.heap.size w).alloc (Nat.le_refl _) (.cells #[] 51))
  clear hb
  go_enter Try.func74, Try.ntmps74
  go_wp2_with (go_at_call 33; refine (WR.out _).mono ?_; rintro e w1 ⟨rfl, hb⟩; have HB1 := Lib.hid hb; clear hb)
  go_ret2
  exact ⟨rfl, HB.out.trans (HB1.out.mono (by simp))⟩
end Go.Proofs.Ythonjffojaljdaa
