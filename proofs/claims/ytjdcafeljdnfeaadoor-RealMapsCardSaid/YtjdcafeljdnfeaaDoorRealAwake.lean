/-
  CONTRACT OF corduroylaw20.awake, in any world: it returns true, under the condition that the table of names holds its word for a tiny one.
-/
import Derived.Test.YtjdcafeljdnfeaaDoorRealBase
namespace Go.Proofs.YtjdcafeljdnfeaaDoor
open Go.ChangeShapes Go.WideShapes Go.ChangeAt Go.RowKit

theorem name_five (w : World) (h5 : w.cell? ⟨1, 5, none⟩ = some (.string ⟨#[116, 105, 110, 121]⟩)) :
    Calls Tryd.prog 15 #[.int .i64 5] w fun e w' => e = .returned (.string ⟨#[116, 105, 110, 121]⟩) ∧ w = w' := by
  go_enter Tryd.func15, Tryd.ntmps15
  go_wp2
  go_ret
  exact ⟨rfl, rfl⟩
theorem rank_zero (w : World) : Calls Tryd.prog 11 #[.float .f64 0] w fun e w' => e = .returned (.int .i64 0) ∧ w = w' :=
  (rank_any 0 (by decide) w).mono fun _ _ h => ⟨h.1.trans (by rw [show rnk (sgn 0) = 0 from by decide]), h.2⟩
theorem rank_minus (w : World) : Calls Tryd.prog 11 #[.float .f64 9223372036854775808] w fun e w' => e = .returned (.int .i64 (-1)) ∧ w = w' :=
  (rank_any 9223372036854775808 (by decide) w).mono fun _ _ h => ⟨h.1.trans (by rw [show rnk (sgn 9223372036854775808) = -1 from by decide]), h.2⟩
theorem kind_tiny (w : World) : Calls Tryd.prog 13 #[.float .f64 1] w fun e w' => e = .returned (.int .i64 5) ∧ w = w' :=
  (kind_any 1 (by decide) w).mono fun _ _ h => ⟨h.1.trans (by rw [show knd (sgn 1) = 5 from by decide]), h.2⟩
theorem awake_any (w : World) (h5 : w.cell? ⟨1, 5, none⟩ = some (.string ⟨#[116, 105, 110, 121]⟩)) :
    Calls Tryd.prog 19 #[] w fun e w' => e = .returned (.bool true) ∧ w = w' := by
  go_enter Tryd.func19, Tryd.ntmps19
  go_wp2_with fail
  refine (rank_zero _).mono ?_
  rintro e w' ⟨rfl, rfl⟩
  go_wp2_with fail
  refine (copysign_zero _).mono ?_
  rintro e w' ⟨rfl, rfl⟩
  go_wp2_with fail
  refine (rank_minus _).mono ?_
  rintro e w' ⟨rfl, rfl⟩
  go_wp2_with fail
  refine (kind_tiny _).mono ?_
  rintro e w' ⟨rfl, rfl⟩
  go_wp2_with fail
  refine (name_five _ h5).mono ?_
  rintro e w' ⟨rfl, rfl⟩
  go_wp2
  go_ret
  exact ⟨rfl, rfl⟩
end Go.Proofs.YtjdcafeljdnfeaaDoor
