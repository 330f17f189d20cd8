/-
  CONTRACTS OF xor.none, window.width and xor.write, in any world; write's under the condition that the library's table for trailing noughts lies as its initialiser laid it.
-/
import Derived.Test.YtejiboinkapkcaaDoorXorN
import Derived.Test.YtejiboinkapkcaaDoorBitsPut
import Derived.Test.YtejiboinkapkcaaDoorNumW
import Derived.Test.YtejiboinkapkcaaDoorShelf
import Derived.Shelf.Spec.TrailingZeros
import Derived.BigRegion
import Derived.Deep.RegionHeld3
import Derived.Deep.DeepMust
import Derived.Outline
import Derived.Lib.Hide
namespace Go.Proofs.YtejiboinkapkcaaDoor
open Go.RowKit
set_option linter.unusedVariables false
set_option linter.unusedSimpArgs false
abbrev wV (t e : Int) : Array Value := #[.int .i64 t, .int .i64 e]
theorem win_info : (Tryd.prog.info? 52).map (·.size) = some 2 := by kernel_rfl
theorem none_any (w : World) : Calls Tryd.prog 23 #[] w fun e w' => e = .returned (.agg #[.int .i64 64, .int .i64 0]) ∧ Below w.heap.size w w' := by
  go_enter Tryd.func23, Tryd.ntmps23
  go_wp2
  exact bodyPost_ret (v := .agg #[.int .i64 64, .int .i64 0]) (results_cell_row (by rfl) _ _ w.heap.size 52 #[.int .i64 64, .int .i64 0] (0, 0) _ (by rfl) (heap_alloc_new w _) Tryd.underlying52 rfl win_info) rfl ⟨rfl, (Below.refl _ _).alloc (Nat.le_refl _) _⟩
theorem width_any (t e : Nat) (ht : t + e ≤ 64) (w : World) : Calls Tryd.prog 43 #[.agg #[.int .i64 t, .int .i64 e]] w fun r w' => r = .returned (.int .i64 ((64 - t - e : Nat) : Int)) ∧ Below w.heap.size w w' := by
  have e1 : (64 : Int) - t = ((64 - t : Nat) : Int) := by omega
  have e2 : ((64 - t : Nat) : Int) - e = ((64 - t - e : Nat) : Int) := by omega
  go_enter Tryd.func43, Tryd.ntmps43
  go_wp2
  go_ret
  exact ⟨by go_num, (Below.refl _ _).alloc (Nat.le_refl _) _⟩
/-- The table lies. -/
def Tab (w : World) : Prop := TabAt 1 Lib.deBruijn64tab w
theorem tz_any (x : Nat) (hx0 : x ≠ 0) (hx : x < 18446744073709551616) (w : World) (hT : Tab w) :
    Calls Tryd.prog 42 #[.int .u64 x] w fun r w' => r = .returned (.int .i64 (xend x : Nat)) ∧ w = w' := by
  obtain ⟨hlow, hk⟩ := Lib.lowest_bit 64 x hx0 hx
  obtain ⟨hi, htab⟩ := Lib.deBruijn64_at _ hk
  have hcell := hT _ hi
  rw [htab] at hcell
  have key := tz64_key x _ hx hx0 hlow
  have hx00 : ((x : Int) == 0) = false := by
    rw [beq_eq_false_iff_ne]; omega
  unfold xend
  generalize Lib.ctz 64 x = k at *
  obtain ⟨idx, hidx⟩ : ∃ idx, 2 ^ k * 285870213051353865 % 18446744073709551616 / 288230376151711744 = idx := ⟨_, rfl⟩
  rw [hidx] at key hi hcell
  have hi' : (idx : Int) < 64 := by
    have : Lib.deBruijn64tab.length = 64 := by decide
    omega
  have KEY := Lib.hid key
  clear hidx htab hlow key hT hx
  go_enter Tryd.func42, Tryd.ntmps42
  go_wp2_with (simp only [KEY.out])
  go_ret
  exact ⟨rfl, rfl⟩
end Go.Proofs.YtejiboinkapkcaaDoor
