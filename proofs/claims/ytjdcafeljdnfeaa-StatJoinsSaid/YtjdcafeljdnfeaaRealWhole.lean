/-
  CONTRACTS OF real.Whole, math.Trunc AND THE DOCUMENT's OWN Rank, Kind AND Whole (corduroyref20), for every real, in any world. No condition.
-/
import Derived.Test.YtjdcafeljdnfeaaRealKnd
import Derived.Test.YtjdcafeljdnfeaaWhole
import Derived.LoopTactic
import Derived.Laws.Cover2
namespace Go.Proofs.Ytjdcafeljdnfeaa
open Go.ChangeShapes Go.WideShapes Go.ChangeAt Go.RowKit
set_option linter.unusedVariables false
/-- The number that bits are, and whether they are one. -/
def wn (b : Nat) : Int := (wholeOf b).getD 0
def wb (b : Nat) : Bool := (wholeOf b).isSome
theorem wn_none {b : Nat} (h : wholeOf b = none) : wn b = 0 ∧ wb b = false := by unfold wn wb; rw [h]; exact ⟨rfl, rfl⟩
theorem wn_some {b : Nat} {n : Int} (h : wholeOf b = some n) : wn b = n ∧ wb b = true := by unfold wn wb; rw [h]; exact ⟨rfl, rfl⟩
theorem integral_run (b : Nat) (n : String) (way : Ieee.Toward) (P : Program) (w : World) (d : Ieee.Datum) (hd : FloatKind.f64.decode b = d) (h : ∀ s t, d ≠ .nan s t) :
    (Extern.MathFloor.toIntegral n way #[.float .f64 b]).run P w = .ok (.float .f64 (FloatKind.f64.encode (d.integral way))) w := by
  obtain ⟨g, hg⟩ : ∃ g, Extern.MathFloor.toIntegral n way #[.float .f64 b] = Extern.MathFloor.toIntegral.match_1 (fun _ => Sem Value) (FloatKind.f64.decode b) g (fun d => pure (.float .f64 (FloatKind.f64.encode (d.integral way)))) := ⟨_, rfl⟩
  rw [hg, hd]
  cases d with
  | number s m e => rfl
  | infinity s => rfl
  | nan s t => exact absurd rfl (h s t)
theorem arch_trunc (b : Nat) (h : ¬ isNan b) (w : World) : (callFunc 111 #[.float .f64 b]).run Try.prog w = .ok (.value (.float .f64 (truncOf b))) w := by
  rw [run_callFunc_extern (e := Extern.MathFloor.toIntegral "math.archTrunc" .zero) Try.func111 (by kernel_rfl) (by kernel_rfl) (by kernel_rfl) (by kernel_rfl)]
  unfold isNan at h
  rw [integral_run b _ _ _ w (Ieee.double.read b) rfl ?_]
  · rfl
  · intro s t e
    by_cases c : rung b = 9218868437227405312
    · rw [read_inf b c] at e; cases e
    · rw [read_num b (by omega)] at e; cases e
theorem trunc_any (b : Nat) (h : ¬ isNan b) (w : World) :
    Calls Try.prog 109 #[.float .f64 b] w fun e w' => e = .returned (.float .f64 (truncOf b)) ∧ w = w' := by
  have ha := arch_trunc b h
  clear h
  go_enter Try.func109, Try.ntmps109
  go_wp2
  go_ret
  exact ⟨rfl, rfl⟩
theorem conv_whole (b : Nat) (n : Int) (h : (Ieee.double.read b).toInt .zero = some n) (h1 : -9007199254740992 ≤ n) (h2 : n ≤ 9007199254740992) (w : World) :
    (convert 79 2 (.float .f64 b)).run Try.prog w = .ok (.int .i64 n) w := by
  have hd : FloatKind.f64.decode b = Ieee.double.read b := rfl
  have hr : IntKind.i64.min ≤ n ∧ n ≤ IntKind.i64.max := by
    have e1 : IntKind.i64.min = -9223372036854775808 := by decide
    have e2 : IntKind.i64.max = 9223372036854775807 := by decide
    omega
  simp [convert, run_underlying Try.underlying79, run_underlying Try.underlying2, Conv.floatToInt, hd, h, hr.1]
  intro hh; omega
theorem place_bd (b : Nat) : (place b ≤ 4845873199050653696 ∧ -4845873199050653696 ≤ place b) ↔ rung b ≤ 4845873199050653696 := by
  unfold place; split <;> omega
theorem order_c (b c : Nat) (hb : ¬ isNan b) (hc : ¬ isNan c) : FloatKind.f64.format.order b c = some (compare (place b) (place c)) := order_num b c hb hc
theorem place_far (b : Nat) (h : ¬ rung b ≤ 4845873199050653696) (h2 : ¬ place b < -4845873199050653696) : 4845873199050653696 < place b := by
  unfold place at *
  cases hm : minus b <;> simp [hm] at * <;> omega
theorem place_hi : place 4845873199050653696 = 4845873199050653696 ∧ ¬ isNan 4845873199050653696 := by unfold isNan; decide
theorem place_lo : place 14069245235905429504 = -4845873199050653696 ∧ ¬ isNan 14069245235905429504 := by unfold isNan; decide
set_option maxRecDepth 100000 in
theorem whole_in (b : Nat) (hb : b < 18446744073709551616) (o1 o2 o3 : Ordering) (k : Int) (B : Bool) (n : Int) (w : World)
    (h1 : FloatKind.f64.format.order b 14069245235905429504 = some o1) (h2 : FloatKind.f64.format.order b 4845873199050653696 = some o2) (h3 : FloatKind.f64.format.order b (truncOf b) = some o3) (hn : ¬ isNan b)
    (hk : (k == 3) = false) (KX : Hid (∀ w, Calls Try.prog 95 #[.float .f64 b] w fun e w' => e = .returned (.int .i64 k) ∧ w = w'))
    (c1 : o1 = .gt ∨ o1 = .eq) (c2 : o2 = .lt ∨ o2 = .eq) (c3 : o3 = .eq) (HC : ∀ w : World, (convert 79 2 (.float .f64 b)).run Try.prog w = .ok (.int .i64 n) w) :
    Calls Try.prog 101 #[.float .f64 b] w fun e w' => e = .returned (.tuple #[.int .i64 n, .bool true]) ∧ w = w' := by
  have TA := Lib.hid (trunc_any b hn)
  subst c3
  clear hn hb
  rcases c1 with rfl | rfl <;> rcases c2 with rfl | rfl
  all_goals
    go_enter Try.func101, Try.ntmps101
    go_wp2_with (first | (go_at_call 109; refine (TA.out _).mono ?_; rintro e w' ⟨rfl, rfl⟩) | (go_at_call 95; refine (KX.out _).mono ?_; rintro e w' ⟨rfl, rfl⟩))
    go_ret2
    exact ⟨rfl, rfl⟩
set_option maxRecDepth 100000 in
theorem whole_zero (b : Nat) (o1 o2 o3 : Ordering) (w : World)
    (h1 : FloatKind.f64.format.order b 14069245235905429504 = some o1) (h2 : FloatKind.f64.format.order b 4845873199050653696 = some o2) (h3 : FloatKind.f64.format.order b (truncOf b) = some o3) (hn : ¬ isNan b)
    (KX : Hid (∀ w, Calls Try.prog 95 #[.float .f64 b] w fun e w' => e = .returned (.int .i64 3) ∧ w = w'))
    (c1 : o1 = .gt) (c2 : o2 = .lt) (c3 : o3 = .eq) :
    Calls Try.prog 101 #[.float .f64 b] w fun e w' => e = .returned (.tuple #[.int .i64 0, .bool false]) ∧ w = w' := by
  have TA := Lib.hid (trunc_any b hn)
  subst c1 c2 c3
  clear hn
  go_enter Try.func101, Try.ntmps101
  go_wp2_with (first | (go_at_call 109; refine (TA.out _).mono ?_; rintro e w' ⟨rfl, rfl⟩) | (go_at_call 95; refine (KX.out _).mono ?_; rintro e w' ⟨rfl, rfl⟩))
  go_ret2
  exact ⟨rfl, rfl⟩
set_option maxRecDepth 100000 in
theorem whole_not (b : Nat) (o1 o2 o3 : Ordering) (w : World)
    (h1 : FloatKind.f64.format.order b 14069245235905429504 = some o1) (h2 : FloatKind.f64.format.order b 4845873199050653696 = some o2) (h3 : FloatKind.f64.format.order b (truncOf b) = some o3) (hn : ¬ isNan b)
    (c1 : o1 = .gt ∨ o1 = .eq) (c2 : o2 = .lt ∨ o2 = .eq) (c3 : o3 = .lt ∨ o3 = .gt) :
    Calls Try.prog 101 #[.float .f64 b] w fun e w' => e = .returned (.tuple #[.int .i64 0, .bool false]) ∧ w = w' := by
  have TA := Lib.hid (trunc_any b hn)
  clear hn
  rcases c1 with rfl | rfl <;> rcases c2 with rfl | rfl <;> rcases c3 with rfl | rfl
  all_goals
    go_enter Try.func101, Try.ntmps101
    go_wp2_with (go_at_call 109; refine (TA.out _).mono ?_; rintro e w' ⟨rfl, rfl⟩)
    go_ret2
    exact ⟨rfl, rfl⟩
theorem whole_nan (b : Nat) (w : World) (h1 : FloatKind.f64.format.order b 14069245235905429504 = none) :
    Calls Try.prog 101 #[.float .f64 b] w fun e w' => e = .returned (.tuple #[.int .i64 0, .bool false]) ∧ w = w' := by
  go_enter Try.func101, Try.ntmps101
  go_wp2
  go_ret2
  exact ⟨rfl, rfl⟩
theorem whole_low (b : Nat) (w : World) (h1 : FloatKind.f64.format.order b 14069245235905429504 = some .lt) :
    Calls Try.prog 101 #[.float .f64 b] w fun e w' => e = .returned (.tuple #[.int .i64 0, .bool false]) ∧ w = w' := by
  go_enter Try.func101, Try.ntmps101
  go_wp2
  go_ret2
  exact ⟨rfl, rfl⟩
theorem whole_high (b : Nat) (w : World) (h1 : FloatKind.f64.format.order b 14069245235905429504 = some .gt) (h2 : FloatKind.f64.format.order b 4845873199050653696 = some .gt) :
    Calls Try.prog 101 #[.float .f64 b] w fun e w' => e = .returned (.tuple #[.int .i64 0, .bool false]) ∧ w = w' := by
  go_enter Try.func101, Try.ntmps101
  go_wp2
  go_ret2
  exact ⟨rfl, rfl⟩
/-- WHAT Whole TELLS of any bits. -/
theorem whole_any (b : Nat) (hb : b < 18446744073709551616) (w : World) :
    Calls Try.prog 101 #[.float .f64 b] w fun e w' => e = .returned (.tuple #[.int .i64 (wn b), .bool (wb b)]) ∧ w = w' := by
  by_cases hnan : isNan b
  · have hw : wholeOf b = none := whole_beyond b (by unfold isNan at hnan; omega)
    rw [(wn_none hw).1, (wn_none hw).2]
    exact whole_nan b w (order_nan b _ (.inl hnan))
  · have q1 := order_c b _ hnan place_lo.2
    have q2 := order_c b _ hnan place_hi.2
    rw [place_lo.1] at q1
    rw [place_hi.1] at q2
    have hp := place_bd b
    by_cases hin : rung b ≤ 4845873199050653696
    · have q3 : FloatKind.f64.format.order b (truncOf b) = Ieee.double.order b (truncOf b) := rfl
      have c1 : compare (place b) (-4845873199050653696) = .gt ∨ compare (place b) (-4845873199050653696) = .eq := by
        by_cases e : place b = -4845873199050653696
        · exact .inr (cmp_eq e)
        · exact .inl (cmp_gt (by omega))
      have c2 : compare (place b) 4845873199050653696 = .lt ∨ compare (place b) 4845873199050653696 = .eq := by
        by_cases e : place b = 4845873199050653696
        · exact .inr (cmp_eq e)
        · exact .inl (cmp_lt (by omega))
      rcases trunc_tells b hb hin with ⟨h3, n, hw, hc, n1, n2⟩ | ⟨h3, hr, hm, hw⟩ | ⟨h3, hw⟩
      · rw [(wn_some hw).1, (wn_some hw).2]
        have hk : (knd (sgn b) == 3) = false := by
          by_cases hr : rung b = 0
          · rw [knd_zero b hb hr]
            by_cases hm : minus b = true
            · exfalso
              unfold wholeOf at hw
              rw [if_neg (by intro e; subst e; simp [minus] at hm), if_pos (by omega)] at hw
              cases hw
            · rw [if_neg hm]; decide
          · have := knd_minus b hb hr
            simpa using this
        exact whole_in b hb _ _ _ _ true n w q1 q2 (q3.trans h3) hnan hk (Lib.hid (kind_any b hb)) c1 c2 rfl (conv_whole b n hc n1 n2)
      · rw [(wn_none hw).1, (wn_none hw).2]
        have hk : knd (sgn b) = 3 := by rw [knd_zero b hb hr, if_pos hm]
        have KA := kind_any b hb
        rw [hk] at KA
        have hp0 : place b = 0 := by unfold place; rw [hr]; simp
        exact whole_zero b _ _ _ w q1 q2 (q3.trans h3) hnan (Lib.hid KA) (cmp_gt (by omega)) (cmp_lt (by omega)) rfl
      · rw [(wn_none hw).1, (wn_none hw).2]
        rcases h3 with h3 | h3
        · exact whole_not b _ _ _ w q1 q2 (q3.trans h3) hnan c1 c2 (.inl rfl)
        · exact whole_not b _ _ _ w q1 q2 (q3.trans h3) hnan c1 c2 (.inr rfl)
    · have hw : wholeOf b = none := whole_beyond b (by omega)
      rw [(wn_none hw).1, (wn_none hw).2]
      by_cases hl : place b < -4845873199050653696
      · exact whole_low b w (q1.trans (congrArg some (cmp_lt hl)))
      · have hf := place_far b hin hl
        exact whole_high b w (q1.trans (congrArg some (cmp_gt (by omega)))) (q2.trans (congrArg some (cmp_gt hf)))
theorem ref_rank (n : Int) (h0 : 0 ≤ n) (h1 : n < 18446744073709551616) (w : World) :
    Calls Try.prog 93 #[.int .u64 n] w fun e w' => e = .returned (.int .i64 (rnk (sgn n.toNat))) ∧ w = w' := by
  have e : n < 9223372036854775808 → rnk (sgn n.toNat) = n := fun h => by
    unfold rnk sgn; split <;> split <;> omega
  have e' : ¬ n < 9223372036854775808 → rnk (sgn n.toNat) = wrap64 (9223372036854775808 + (18446744073709551615 - n)) := fun h => by
    unfold rnk sgn wrap64; split <;> split <;> omega
  generalize rnk (sgn n.toNat) = r at *
  by_cases h : n < 9223372036854775808
  · have hi : IntKind.i64.wrap n = n := by rw [wrap_i64]; rw [if_neg (by omega)]; omega
    rw [e h]
    clear e e'
    go_enter Try.func93, Try.ntmps93
    go_wp2
    go_ret
    exact ⟨rfl, rfl⟩
  · rw [e' h]
    clear e e'
    go_enter Try.func93, Try.ntmps93
    go_wp2
    go_ret
    exact ⟨rfl, rfl⟩
theorem rparts_any (n : Int) (h0 : 0 ≤ n) (h1 : n < 18446744073709551616) (w : World) :
    Calls Try.prog 105 #[.int .u64 n] w fun e w' => e = .returned (.tuple #[.bool (decide (9223372036854775808 ≤ n)), .int .u64 (n / 4503599627370496 % 2048), .int .u64 (n % 4503599627370496)]) ∧ w = w' := by
  go_enter Try.func105, Try.ntmps105
  go_wp2
  go_ret3
  exact ⟨rfl, rfl⟩
end Go.Proofs.Ytjdcafeljdnfeaa
