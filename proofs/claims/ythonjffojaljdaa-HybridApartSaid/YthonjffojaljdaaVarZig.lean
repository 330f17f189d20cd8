/-
  CONTRACTS OF varint.Zig, Zag, Size and of the document's own Zig and Zag, in any world, for any number. No condition.
-/
import Derived.Test.YthonjffojaljdaaRows
import Derived.Test.YthonjffojaljdaaHybM1
import Derived.Test.YthonjffojaljdaaShelf
import Derived.WalkKit
import Derived.WalkLawsBesides
import Derived.WalkSpells
import Derived.ProofKit
import Derived.Lib.Hide
namespace Go.Proofs.Ythonjffojaljdaa
open Go.RowKit
set_option linter.unusedVariables false
theorem zig_any (v : Int) (h1 : -9223372036854775808 ≤ v) (h2 : v ≤ 9223372036854775807) (w : World) :
    Calls Try.prog 60 #[.int .i64 v] w fun e w' => e = .returned (.int .u64 (zg v)) ∧ w = w' := by
  by_cases h : v < 0
  · have e : Go.bits .xor .u64 IntKind.u64.max (IntKind.u64.wrap (IntKind.u64.wrap v * 2)) = zg v := by
      have ew : ∀ n, IntKind.u64.wrap n = n % 18446744073709551616 := fun n => by simp [IntKind.wrap, IntKind.bits, IntKind.signed]
      rw [ew, ew, xor_max _ (by omega) (by omega)]
      unfold zg; rw [if_pos h]; omega
    go_enter Try.func60, Try.ntmps60
    go_wp2
    go_ret
    exact ⟨rfl, rfl⟩
  · have e : v * 2 = zg v := by unfold zg; rw [if_neg h]; omega
    have E := Lib.hid e
    clear e
    go_enter Try.func60, Try.ntmps60
    go_wp2
    go_ret
    exact ⟨by rw [← E.out]; rfl, rfl⟩
theorem rzig_any (v : Int) (h1 : -9223372036854775808 ≤ v) (h2 : v ≤ 9223372036854775807) (w : World) :
    Calls Try.prog 19 #[.int .i64 v] w fun e w' => e = .returned (.int .u64 (zg v)) ∧ w = w' := by
  by_cases h : v < 0
  · have e : 2 * -(v + 1) + 1 = zg v := by unfold zg; rw [if_pos h]; omega
    have E := Lib.hid e
    clear e
    go_enter Try.func19, Try.ntmps19
    go_wp2
    go_ret
    exact ⟨by rw [← E.out]; rfl, rfl⟩
  · have e : 2 * v = zg v := by unfold zg; rw [if_neg h]
    have E := Lib.hid e
    clear e
    go_enter Try.func19, Try.ntmps19
    go_wp2
    go_ret
    exact ⟨by rw [← E.out]; rfl, rfl⟩
theorem zag_any (z : Int) (h1 : 0 ≤ z) (h2 : z ≤ 18446744073709551615) (w : World) :
    Calls Try.prog 90 #[.int .u64 z] w fun e w' => e = .returned (.int .i64 (zag z)) ∧ w = w' := by
  by_cases h : z % 2 = 1
  · have e : wrap64 (Go.bits .xor .u64 IntKind.u64.max (z / 2)) = zag z := by
      rw [xor_max _ (by omega) (by omega)]
      unfold zag wrap64; rw [if_pos h]; omega
    go_enter Try.func90, Try.ntmps90
    go_wp2
    go_ret
    exact ⟨rfl, rfl⟩
  · have e : z / 2 = zag z := by unfold zag; rw [if_neg h]
    have h' : z % 2 = 0 := by omega
    have E := Lib.hid e
    clear e
    go_enter Try.func90, Try.ntmps90
    go_wp2
    go_ret
    exact ⟨by rw [← E.out]; rfl, rfl⟩
theorem rzag_any (z : Int) (h1 : 0 ≤ z) (h2 : z ≤ 18446744073709551615) (w : World) :
    Calls Try.prog 48 #[.int .u64 z] w fun e w' => e = .returned (.int .i64 (zag z)) ∧ w = w' := by
  by_cases h : z % 2 = 1
  · have e : -(z / 2) - 1 = zag z := by unfold zag; rw [if_pos h]
    have hq : z / 2 ≤ 9223372036854775807 := by omega
    have E := Lib.hid e
    clear e
    go_enter Try.func48, Try.ntmps48
    go_wp2
    go_ret
    exact ⟨by rw [← E.out]; rfl, rfl⟩
  · have e : z / 2 = zag z := by unfold zag; rw [if_neg h]
    have h' : z % 2 = 0 := by omega
    have E := Lib.hid e
    clear e
    go_enter Try.func48, Try.ntmps48
    go_wp2
    go_ret
    exact ⟨by rw [← E.out]; rfl, rfl⟩
theorem size_any (v : Int) (h1 : 0 ≤ v) (h2 : v ≤ 18446744073709551615) (w : World) :
    Calls Try.prog 53 #[.int .u64 v] w fun e w' => e = .returned (.int .i64 ((digs 9 v.toNat).length : Nat)) ∧ w = w' := by
  obtain ⟨u, hu, a1, a2, a3, a4, a5⟩ := or_one v h1 h2
  have hs := size_eq v.toNat u (by omega) a1 a2 a3 a4 a5
  have hl := digs_le 9 v.toNat (by have : (128 : Nat) ^ 10 = 1180591620717411303424 := by decide
                                   omega)
  generalize (digs 9 v.toNat).length = L at *
  have hB : Lib.bitLen u ≤ 100 := by omega
  have HS := Lib.hid hs
  have HL := Lib.hid hl
  clear hs hl a1 a2 a5
  go_enter Try.func53, Try.ntmps53
  go_wp2_with fail
  refine (Try.bits_Len64 u _ (by omega) (by omega)).mono ?_
  rintro e w' ⟨rfl, rfl⟩
  rw [Int.toNat_natCast]
  generalize Lib.bitLen u = B at *
  go_wp2
  go_ret
  refine ⟨?_, rfl⟩
  have := HS.out
  have e : ((B : Int) + 6) / 7 = (L : Int) := by omega
  rw [← e]
  rfl
end Go.Proofs.Ythonjffojaljdaa
