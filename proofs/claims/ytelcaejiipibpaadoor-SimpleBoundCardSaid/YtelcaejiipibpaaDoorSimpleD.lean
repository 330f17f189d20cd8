/-
  CONTRACTS OF Simple's Name, and of its Size and Encode of blocks that aren't taken, and of plain.Wrong. Condition: the numbers lie in memory as told.
-/
import Derived.Test.YtelcaejiipibpaaDoorSimpleB
namespace Go.Proofs.YtelcaejiipibpaaDoor
open Go.RowKit
set_option linter.unusedVariables false
/-- The error of a block. -/
def sErr (x : Nat → Int) (n : Nat) : Int := if blk n then (if sOk x n then 0 else 10) else 7
theorem sname_any (w : World) : Calls Tryd.prog 11 #[.agg #[]] w fun e w' => e = .returned (.string ⟨#[115, 105, 109, 112, 108, 101]⟩) ∧ Below w.heap.size w w' := by
  have HB := Lib.hid ((Below.refl w.heap.size w).alloc (Nat.le_refl _) (.cells #[] 25))
  go_enter Tryd.func11, Tryd.ntmps11
  go_wp2
  go_ret
  exact ⟨rfl, HB.out⟩
theorem sm_takes (k : Nat) (w : World) : (method (k + 1) 25 (.agg #[]) "Takes").run Tryd.prog w = .ok (18, .agg #[]) w := by kernel_rfl
theorem sm_size (k : Nat) (w : World) : (method (k + 1) 25 (.agg #[]) "Size").run Tryd.prog w = .ok (19, .agg #[]) w := by kernel_rfl
theorem sm_encode (k : Nat) (w : World) : (method (k + 1) 25 (.agg #[]) "Encode").run Tryd.prog w = .ok (17, .agg #[]) w := by kernel_rfl
theorem sm_decode (k : Nat) (w : World) : (method (k + 1) 25 (.agg #[]) "Decode").run Tryd.prog w = .ok (13, .agg #[]) w := by kernel_rfl
set_option maxRecDepth 100000 in
theorem swrong_any (a : Option Addr) (n cap : Nat) (x : Nat → Int) (hx : ∀ i, i < n → -9223372036854775808 ≤ x i ∧ x i ≤ 9223372036854775807) (w : World) (h : RowOf w a n (fun i => .int .i64 (x i))) :
    Calls Tryd.prog 21 #[.iface 25 (.agg #[]), .slice a n cap] w fun e w' => e = .returned (.int .i64 (sErr x n)) ∧ Below w.heap.size w w' := by
  have BK := Lib.hid (fun W => block_any n W)
  have TK := Lib.hid (stakes_any a n cap x hx w h)
  have mt := sm_takes
  unfold sErr
  clear h hx
  generalize sOk x n = u at *
  generalize blk n = t at *
  cases t
  · have hv : (if false = true then (if u = true then (0 : Int) else 10) else 7) = 7 := rfl
    rw [hv]
    go_enter Tryd.func21, Tryd.ntmps21
    go_wp2_with (go_at_call 39; refine (BK.out _).mono ?_; rintro e w1 ⟨rfl, rfl⟩)
    go_ret
    exact ⟨rfl, Below.refl _ _⟩
  · cases u
    · have hv : (if true = true then (if false = true then (0 : Int) else 10) else 7) = 10 := rfl
      rw [hv]
      go_enter Tryd.func21, Tryd.ntmps21
      go_wp2_with (first | (go_at_call 39; refine (BK.out _).mono ?_; rintro e w1 ⟨rfl, rfl⟩) | (go_at_call 18; refine TK.out.mono ?_; rintro e w1 ⟨rfl, hb⟩; have HB1 := Lib.hid hb; clear hb))
      go_ret
      exact ⟨rfl, HB1.out⟩
    · have hv : (if true = true then (if true = true then (0 : Int) else 10) else 7) = 0 := rfl
      rw [hv]
      go_enter Tryd.func21, Tryd.ntmps21
      go_wp2_with (first | (go_at_call 39; refine (BK.out _).mono ?_; rintro e w1 ⟨rfl, rfl⟩) | (go_at_call 18; refine TK.out.mono ?_; rintro e w1 ⟨rfl, hb⟩; have HB1 := Lib.hid hb; clear hb))
      go_ret
      exact ⟨rfl, HB1.out⟩
set_option maxRecDepth 100000 in
theorem sencode_out (a : Option Addr) (n cap : Nat) (x : Nat → Int) (hx : ∀ i, i < n → -9223372036854775808 ≤ x i ∧ x i ≤ 9223372036854775807) (hb : (blk n && sOk x n) = false) (w : World) (h : RowOf w a n (fun i => .int .i64 (x i))) :
    Calls Tryd.prog 17 #[.agg #[], .slice a n cap] w fun e w' => e = .returned (.tuple #[.slice none 0 0, .int .i64 (sErr x n)]) ∧ Below w.heap.size w w' := by
  have WR := Lib.hid (fun (W : World) (hW : Below w.heap.size w W) => swrong_any a n cap x hx W (h.below hW))
  have HB := Lib.hid ((Below.refl w.heap.size w).alloc (Nat.le_refl _) (.cells #[] 25))
  have hE : (sErr x n == 0) = false := by
    unfold sErr
    generalize sOk x n = u at *
    generalize blk n = t at *
    cases t <;> cases u <;> simp at hb ⊢
  clear hb h hx
  generalize sErr x n = E at *
  go_enter Tryd.func17, Tryd.ntmps17
  go_wp2_with (go_at_call 21; refine (WR.out _ HB.out).mono ?_; rintro e w1 ⟨rfl, hb⟩; have HB1 := Lib.hid hb; clear hb)
  go_ret2
  exact ⟨rfl, HB.out.trans (HB1.out.mono (by simp))⟩
set_option maxRecDepth 100000 in
theorem ssize_out (a : Option Addr) (n cap : Nat) (x : Nat → Int) (hx : ∀ i, i < n → -9223372036854775808 ≤ x i ∧ x i ≤ 9223372036854775807) (hb : (blk n && sOk x n) = false) (w : World) (h : RowOf w a n (fun i => .int .i64 (x i))) :
    Calls Tryd.prog 19 #[.agg #[], .slice a n cap] w fun e w' => e = .returned (.int .i64 0) ∧ Below w.heap.size w w' := by
  have TK := Lib.hid (fun (W : World) (hW : Below w.heap.size w W) => stakes_any a n cap x hx W (h.below hW))
  have HB := Lib.hid ((Below.refl w.heap.size w).alloc (Nat.le_refl _) (.cells #[] 25))
  rw [hb] at TK
  clear hb h hx
  go_enter Tryd.func19, Tryd.ntmps19
  go_wp2_with (go_at_call 18; refine (TK.out _ HB.out).mono ?_; rintro e w1 ⟨rfl, hb⟩; have HB1 := Lib.hid hb; clear hb)
  go_ret
  exact ⟨rfl, HB.out.trans (HB1.out.mono (by simp))⟩
end Go.Proofs.YtelcaejiipibpaaDoor
