/-
  CONTRACTS OF varint.Zig, Zag, Size and of the document's own Zig and Zag, in any world, for any number. No condition.
-/
import Derived.Test.YtelcaejiipibpaaDoorRows
import Derived.Test.YtelcaejiipibpaaDoorVarArith
import Derived.Test.YtelcaejiipibpaaDoorShelf
import Derived.WalkKit
import Derived.WalkLawsBesides
import Derived.WalkSpells
import Derived.ProofKit
import Derived.Lib.Hide
namespace Go.Proofs.YtelcaejiipibpaaDoor
open Go.RowKit
set_option linter.unusedVariables false
theorem zig_any (v : Int) (h1 : -9223372036854775808 ≤ v) (h2 : v ≤ 9223372036854775807) (w : World) :
    Calls Tryd.prog 52 #[.int .i64 v] w fun e w' => e = .returned (.int .u64 (zg v)) ∧ w = w' := by
  by_cases h : v < 0
  · have e : Go.bits .xor .u64 IntKind.u64.max (IntKind.u64.wrap (IntKind.u64.wrap v * 2)) = zg v := by
      have ew : ∀ n, IntKind.u64.wrap n = n % 18446744073709551616 := fun n => by simp [IntKind.wrap, IntKind.bits, IntKind.signed]
      rw [ew, ew, xor_max _ (by omega) (by omega)]
      unfold zg; rw [if_pos h]; omega
    go_enter Tryd.func52, Tryd.ntmps52
    go_wp2
    go_ret
    exact ⟨rfl, rfl⟩
  · have e : v * 2 = zg v := by unfold zg; rw [if_neg h]; omega
    have E := Lib.hid e
    clear e
    go_enter Tryd.func52, Tryd.ntmps52
    go_wp2
    go_ret
    exact ⟨by rw [← E.out]; rfl, rfl⟩
theorem rzig_any (v : Int) (h1 : -9223372036854775808 ≤ v) (h2 : v ≤ 9223372036854775807) (w : World) :
    Calls Tryd.prog 22 #[.int .i64 v] w fun e w' => e = .returned (.int .u64 (zg v)) ∧ w = w' := by
  by_cases h : v < 0
  · have e : 2 * -(v + 1) + 1 = zg v := by unfold zg; rw [if_pos h]; omega
    have E := Lib.hid e
    clear e
    go_enter Tryd.func22, Tryd.ntmps22
    go_wp2
    go_ret
    exact ⟨by rw [← E.out]; rfl, rfl⟩
  · have e : 2 * v = zg v := by unfold zg; rw [if_neg h]
    have E := Lib.hid e
    clear e
    go_enter Tryd.func22, Tryd.ntmps22
    go_wp2
    go_ret
    exact ⟨by rw [← E.out]; rfl, rfl⟩
theorem zag_any (z : Int) (h1 : 0 ≤ z) (h2 : z ≤ 18446744073709551615) (w : World) :
    Calls Tryd.prog 49 #[.int .u64 z] w fun e w' => e = .returned (.int .i64 (zag z)) ∧ w = w' := by
  by_cases h : z % 2 = 1
  · have e : wrap64 (Go.bits .xor .u64 IntKind.u64.max (z / 2)) = zag z := by
      rw [xor_max _ (by omega) (by omega)]
      unfold zag wrap64; rw [if_pos h]; omega
    go_enter Tryd.func49, Tryd.ntmps49
    go_wp2
    go_ret
    exact ⟨rfl, rfl⟩
  · have e : z / 2 = zag z := by unfold zag; rw [if_neg h]
    have h' : z % 2 = 0 := by omega
    have E := Lib.hid e
    clear e
    go_enter Tryd.func49, Tryd.ntmps49
    go_wp2
    go_ret
    exact ⟨by rw [← E.out]; rfl, rfl⟩
theorem rzag_any (z : Int) (h1 : 0 ≤ z) (h2 : z ≤ 18446744073709551615) (w : World) :
    Calls Tryd.prog 34 #[.int .u64 z] w fun e w' => e = .returned (.int .i64 (zag z)) ∧ w = w' := by
  by_cases h : z % 2 = 1
  · have e : -(z / 2) - 1 = zag z := by unfold zag; rw [if_pos h]
    have hq : z / 2 ≤ 9223372036854775807 := by omega
    have E := Lib.hid e
    clear e
    go_enter Tryd.func34, Tryd.ntmps34
    go_wp2
    go_ret
    exact ⟨by rw [← E.out]; rfl, rfl⟩
  · have e : z / 2 = zag z := by unfold zag; rw [if_neg h]
    have h' : z % 2 = 0 := by omega
    have E := Lib.hid e
    clear e
    go_enter Tryd.func34, Tryd.ntmps34
    go_wp2
    go_ret
    exact ⟨by rw [← E.out]; rfl, rfl⟩
end Go.Proofs.YtelcaejiipibpaaDoor
