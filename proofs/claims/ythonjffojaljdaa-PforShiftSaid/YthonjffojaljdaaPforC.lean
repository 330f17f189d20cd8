/-
  CONTRACT OF pfor.fromLeast, in any world. Conditions: from 1 to 1000 numbers, which lie in memory as told.
-/
import Derived.Test.YthonjffojaljdaaWidB
namespace Go.Proofs.Ythonjffojaljdaa
open Go.RowKit
set_option linter.unusedVariables false
theorem fromLeast_any (a : Option Addr) (n cap : Nat) (x : Nat → Int) (h0 : 0 < n) (hn : n ≤ 1100) (w : World) (h : RowOf w a n (fun i => .int .i64 (x i))) :
    Calls Try.prog 71 #[.slice a n cap] w fun e w' => ∃ v, e = .returned (.tuple #[.int .i64 (lmin x n), v]) ∧ w'.ownsRow w.heap.size 40 1 v n (rowV (fun i => .int .u64 (offs (x i) (lmin x n))) n) ∧ Below w.heap.size w w' := by
  have LE := Lib.hid (least_some a n cap x h0 hn w h)
  have OF := Lib.hid (offsets_any a n cap x (lmin x n) hn w h)
  clear h
  generalize lmin x n = f at *
  go_enter Try.func71, Try.ntmps71
  go_wp2_with (first
    | (go_at_call 103; refine LE.out.mono ?_; rintro e w1 ⟨rfl, rfl⟩)
    | (go_at_call 104; refine OF.out.mono ?_; rintro e w2 ⟨v, rfl, ho, hb⟩; have HO := Lib.hid ho; have HB := Lib.hid hb; clear ho hb))
  go_ret2
  exact ⟨_, rfl, HO.out, HB.out⟩
end Go.Proofs.Ythonjffojaljdaa
