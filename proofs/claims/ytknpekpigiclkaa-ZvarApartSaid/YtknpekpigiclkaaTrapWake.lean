/-
  CONTRACTS of the law's own 'awake' of layer 2 and what it calls. No condition.
-/
import Derived.Test.YtknpekpigiclkaaTrap
namespace Go.Proofs.Ytknpekpigiclkaa
open Go.ChangeShapes Go.WideShapes Go.ChangeAt Go.RowKit
set_option linter.unusedVariables false

theorem short_throws (w : World) : Calls Try.prog 58 #[] w fun e w' => e = .panicked [{ v := .iface 89 (.agg #[.int .i64 1]), recovered := false }] ∧ w = w' := by
  go_enter Try.func58, Try.ntmps58
  go_wp2_with fail
  refine (throw_some 1 (by decide) _).mono ?_
  rintro e w' ⟨rfl, rfl⟩
  go_wp2
  exact ⟨rfl, rfl, rfl⟩
theorem mustInt_ok (x : Int) (w : World) : Calls Try.prog 59 #[.int .i64 x, .int .i64 0] w fun e w' => e = .returned (.int .i64 x) ∧ w = w' := by
  go_enter Try.func59, Try.ntmps59
  go_wp2_with fail
  refine (throw_ok _).mono ?_
  rintro e w' ⟨rfl, rfl⟩
  go_wp2
  go_ret
  exact ⟨rfl, rfl⟩
theorem awake2_any (w : World) : Calls Try.prog 19 #[] w fun e w' => e = .returned (.bool true) ∧ Below w.heap.size w w' := by
  go_enter Try.func19, Try.ntmps19
  go_wp2_with fail
  refine (try_any 58 #[] w (fun n w1 => n = 1 ∧ w1 = w.alloc (.cells #[.int .i64 0] 27)) (fun _ => by simp [go_sem]) ((short_throws _).mono ?_)).mono ?_
  · rintro e w1 ⟨rfl, rfl⟩
    exact ⟨alive_new w, .inr ⟨1, by decide, rfl, rfl, rfl⟩⟩
  rintro e w' ⟨n, w1, rfl, ⟨rfl, rfl⟩, ha⟩
  have hb : Below w.heap.size w w' := ((Below.refl _ w).alloc (Nat.le_refl _) _).trans (ha.below (Nat.le_refl _) (by simp))
  clear ha
  go_wp2_with fail
  refine (mustInt_ok _ _).mono ?_
  rintro e w' ⟨rfl, rfl⟩
  go_wp2
  go_ret
  exact ⟨rfl, hb⟩
end Go.Proofs.Ytknpekpigiclkaa
