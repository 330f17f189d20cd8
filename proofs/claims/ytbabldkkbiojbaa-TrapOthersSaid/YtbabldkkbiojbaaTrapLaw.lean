/-
  CONTRACTS of what the statements of layer 2 call besides: Must at two types, and the law's own 'awake'. No condition.
-/
import Derived.Test.YtbabldkkbiojbaaTrap
namespace Go.Proofs.Ytbabldkkbiojbaa
open Go.ChangeShapes Go.WideShapes Go.ChangeAt Go.RowKit
set_option linter.unusedVariables false

theorem must_ok (x : Int) (w : World) : Calls Try.prog 42 #[.int .u64 x, .int .i64 0] w fun e w' => e = .returned (.int .u64 x) ∧ w = w' := by
  go_enter Try.func42, Try.ntmps42
  go_wp2_with fail
  refine (throw_ok _).mono ?_
  rintro e w' ⟨rfl, rfl⟩
  go_wp2
  go_ret
  exact ⟨rfl, rfl⟩
theorem must_some (x n : Int) (h : (n != 0) = true) (w : World) : Calls Try.prog 42 #[.int .u64 x, .int .i64 n] w fun e w' => e = .panicked [{ v := .iface 88 (.agg #[.int .i64 n]), recovered := false }] ∧ w = w' := by
  go_enter Try.func42, Try.ntmps42
  go_wp2_with fail
  refine (throw_some n h _).mono ?_
  rintro e w' ⟨rfl, rfl⟩
  go_wp2
  exact ⟨rfl, rfl, rfl⟩
theorem short_throws (w : World) : Calls Try.prog 59 #[] w fun e w' => e = .panicked [{ v := .iface 88 (.agg #[.int .i64 1]), recovered := false }] ∧ w = w' := by
  go_enter Try.func59, Try.ntmps59
  go_wp2_with fail
  refine (throw_some 1 (by decide) _).mono ?_
  rintro e w' ⟨rfl, rfl⟩
  go_wp2
  exact ⟨rfl, rfl, rfl⟩
theorem mustInt_ok (x : Int) (w : World) : Calls Try.prog 60 #[.int .i64 x, .int .i64 0] w fun e w' => e = .returned (.int .i64 x) ∧ w = w' := by
  go_enter Try.func60, Try.ntmps60
  go_wp2_with fail
  refine (throw_ok _).mono ?_
  rintro e w' ⟨rfl, rfl⟩
  go_wp2
  go_ret
  exact ⟨rfl, rfl⟩
theorem awake_any (w : World) : Calls Try.prog 39 #[] w fun e w' => e = .returned (.bool true) ∧ Below w.heap.size w w' := by
  go_enter Try.func39, Try.ntmps39
  go_wp2_with fail
  refine (try_any 59 #[] w (fun n w1 => n = 1 ∧ w1 = w.alloc (.cells #[.int .i64 0] 27)) (fun _ => by simp [go_sem]) ((short_throws _).mono ?_)).mono ?_
  · rintro e w1 ⟨rfl, rfl⟩
    exact ⟨alive_new w, .inr ⟨1, by decide, rfl, rfl, rfl⟩⟩
  rintro e w' ⟨n, w1, rfl, ⟨rfl, rfl⟩, ha⟩
  have hb : Below w.heap.size w w' := ((Below.refl _ w).alloc (Nat.le_refl _) _).trans (ha.below (Nat.le_refl _) (by simp))
  clear ha
  go_wp2_with fail
  refine (mustInt_ok _ _).mono ?_
  rintro e w' ⟨rfl, rfl⟩
  go_wp2
  go_ret
  exact ⟨rfl, hb⟩
end Go.Proofs.Ytbabldkkbiojbaa
