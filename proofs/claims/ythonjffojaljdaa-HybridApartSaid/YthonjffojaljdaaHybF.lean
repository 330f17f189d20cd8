/-
  CONTRACTS OF Hybrid's Takes and Name, and of its Encode and plain.Wrong of blocks that aren't taken, in any world. No condition.
-/
import Derived.Test.YthonjffojaljdaaPlainB
namespace Go.Proofs.Ythonjffojaljdaa
open Go.RowKit
set_option linter.unusedVariables false
theorem htakes_any (a : Option Addr) (n cap : Nat) (w : World) : Calls Try.prog 24 #[.agg #[], .slice a n cap] w fun e w' => e = .returned (.bool (blk n)) ∧ Below w.heap.size w w' := by
  have BK := Lib.hid (fun W => block_any n W)
  have HB := Lib.hid ((Below.refl w.heap.size w).alloc (Nat.le_refl _) (.cells #[] 25))
  generalize blk n = t at *
  go_enter Try.func24, Try.ntmps24
  go_wp2_with (go_at_call 58; refine (BK.out _).mono ?_; rintro e w1 ⟨rfl, rfl⟩)
  go_ret
  exact ⟨rfl, HB.out⟩
theorem hname_any (w : World) : Calls Try.prog 13 #[.agg #[]] w fun e w' => e = .returned (.string ⟨#[104, 121, 98, 114, 105, 100]⟩) ∧ Below w.heap.size w w' := by
  have HB := Lib.hid ((Below.refl w.heap.size w).alloc (Nat.le_refl _) (.cells #[] 25))
  go_enter Try.func13, Try.ntmps13
  go_wp2
  go_ret
  exact ⟨rfl, HB.out⟩
theorem hm_takes (k : Nat) (w : World) : (method (k + 1) 25 (.agg #[]) "Takes").run Try.prog w = .ok (24, .agg #[]) w := by kernel_rfl
theorem hm_size (k : Nat) (w : World) : (method (k + 1) 25 (.agg #[]) "Size").run Try.prog w = .ok (20, .agg #[]) w := by kernel_rfl
theorem hm_encode (k : Nat) (w : World) : (method (k + 1) 25 (.agg #[]) "Encode").run Try.prog w = .ok (23, .agg #[]) w := by kernel_rfl
theorem hm_decode (k : Nat) (w : World) : (method (k + 1) 25 (.agg #[]) "Decode").run Try.prog w = .ok (15, .agg #[]) w := by kernel_rfl
set_option maxRecDepth 100000 in
theorem hwrong_any (a : Option Addr) (n cap : Nat) (w : World) : Calls Try.prog 33 #[.iface 25 (.agg #[]), .slice a n cap] w fun e w' => e = .returned (.int .i64 (wrg n)) ∧ Below w.heap.size w w' := by
  have BK := Lib.hid (fun W => block_any n W)
  have TK := Lib.hid (fun W => htakes_any a n cap W)
  have mt := hm_takes
  unfold wrg
  generalize blk n = t at *
  cases t
  · have hv : (if false = true then (0 : Int) else 7) = 7 := rfl
    rw [hv]
    go_enter Try.func33, Try.ntmps33
    go_wp2_with (go_at_call 58; refine (BK.out _).mono ?_; rintro e w1 ⟨rfl, rfl⟩)
    go_ret
    exact ⟨rfl, Below.refl _ _⟩
  · have hv : (if true = true then (0 : Int) else 7) = 0 := rfl
    rw [hv]
    go_enter Try.func33, Try.ntmps33
    go_wp2_with (first | (go_at_call 58; refine (BK.out _).mono ?_; rintro e w1 ⟨rfl, rfl⟩) | (go_at_call 24; refine (TK.out _).mono ?_; rintro e w1 ⟨rfl, hb⟩; have HB1 := Lib.hid hb; clear hb))
    go_ret
    exact ⟨rfl, HB1.out⟩
set_option maxRecDepth 100000 in
theorem hencode_out (a : Option Addr) (n cap : Nat) (hb : blk n = false) (w : World) :
    Calls Try.prog 23 #[.agg #[], .slice a n cap] w fun e w' => e = .returned (.tuple #[.slice none 0 0, .int .i64 7]) ∧ Below w.heap.size w w' := by
  have WR := hwrong_any a n cap
  rw [show wrg n = 7 by simp [wrg, hb]] at WR
  have WR := Lib.hid WR
  have HB := Lib.hid ((Below.refl w.heap.size w).alloc (Nat.le_refl _) (.cells #[] 25))
  clear hb
  go_enter Try.func23, Try.ntmps23
  go_wp2_with (go_at_call 33; refine (WR.out _).mono ?_; rintro e w1 ⟨rfl, hb⟩; have HB1 := Lib.hid hb; clear hb)
  go_ret2
  exact ⟨rfl, HB.out.trans (HB1.out.mono (by simp))⟩
end Go.Proofs.Ythonjffojaljdaa
