/-
  CONTRACT OF corduroyref09.Takes, in any world. Condition: numbers of 64 bits, which lie in memory as told.
-/
import Derived.Test.YtelcaejiipibpaaDoorSimpleB
import Derived.Test.YtelcaejiipibpaaDoorVarRefGet
import Derived.Test.YtelcaejiipibpaaDoorVarZig
namespace Go.Proofs.YtelcaejiipibpaaDoor
open Go.RowKit
set_option linter.unusedVariables false
set_option maxRecDepth 100000 in
theorem rstakes_any (a : Option Addr) (n cap : Nat) (x : Nat → Int) (hn : n ≤ 1100) (hx : ∀ i, i < n → -9223372036854775808 ≤ x i ∧ x i ≤ 9223372036854775807) (w : World) (h : RowOf w a n (fun i => .int .i64 (x i))) :
    Calls Tryd.prog 9 #[.slice a n cap] w fun e w' => e = .returned (.bool (sOk x n)) ∧ Below w.heap.size w w' := by
  have HI := Lib.hid (sOk_iff x n)
  have RZ := Lib.hid (fun i (hi : i < n) W => rzig_any (x i) (hx i hi).1 (hx i hi).2 W)
  have H := Lib.hid h
  have HZ := Lib.hid (fun i => hz_int x i)
  obtain ⟨B, hB⟩ : ∃ B, sOk x n = B := ⟨_, rfl⟩
  rw [hB] at HI ⊢
  clear hB h hx
  generalize hz x = z at *
  go_enter Tryd.func9, Tryd.ntmps9
  go_wp2
  go_loop [3] (fun y => ∃ i : Nat, i ≤ n ∧ y = .int .i64 i ∧ ∀ j, j < i → z j < 2 ^ 60) (fun y => n - (intOf y).toNat)
  case atStart => exact ⟨0, Nat.zero_le _, rfl, fun j hj => absurd hj (Nat.not_lt_zero _)⟩
  case round =>
    obtain ⟨i, hin, rfl, hu⟩ := hrel
    have HU := Lib.hid hu
    clear hu
    by_cases hil : i < n
    · have j1 : (i : Int) < n := by omega
      have j0 : (0 : Int) ≤ i := by omega
      obtain ⟨b, off, rfl, hblt, hcl⟩ := H.out.at_ hil
      have d0 := hcl i hil
      have RZ2 := RZ.out i hil
      rw [HZ.out i] at RZ2
      obtain ⟨v, hv⟩ : ∃ v, z i = v := ⟨_, rfl⟩
      have HV := Lib.hid hv
      rw [hv] at RZ2
      have RZ3 := Lib.hid RZ2
      clear hv hcl RZ2
      generalize x i = xi at *
      by_cases hv6 : v < 2 ^ 60
      · have q1 : ¬ (1152921504606846976 : Int) ≤ v := by omega
        have HV6 := Lib.hid hv6
        clear hv6
        generalize (v : Int) = c at *
        go_wp2_with (go_at_call 22; refine (RZ3.out _).mono ?_; rintro e w1 ⟨rfl, rfl⟩)
        go_round
        case rel => exact ⟨i + 1, by omega, by go_num, fun j hj => by
          rcases Nat.lt_or_ge j i with h1 | h1
          · exact HU.out j h1
          · obtain rfl : j = i := by omega
            rw [HV.out]; exact HV6.out⟩
        case measure => simp [intOf]; omega
      · have q1 : (1152921504606846976 : Int) ≤ v := by omega
        obtain rfl : B = false := by
          cases B
          · rfl
          · have := HI.out.1 rfl i hil
            rw [HV.out] at this; exact absurd this hv6
        clear hv6 HI
        generalize (v : Int) = c at *
        go_wp2_with (go_at_call 22; refine (RZ3.out _).mono ?_; rintro e w1 ⟨rfl, rfl⟩)
        go_ret
        exact ⟨rfl, Below.refl _ _⟩
    · obtain rfl : i = n := by omega
      have j1 : ¬ (i : Int) < i := by omega
      obtain rfl : B = true := HI.out.2 HU.out
      clear HI
      go_wp2
      go_ret
      exact ⟨rfl, Below.refl _ _⟩
end Go.Proofs.YtelcaejiipibpaaDoor
