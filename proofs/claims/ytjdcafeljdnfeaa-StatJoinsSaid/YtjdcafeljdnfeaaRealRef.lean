/-
  CONTRACTS OF THE DOCUMENT's OWN Kind, Whole AND Names (corduroyref20), in any world. No condition.
-/
import Derived.Test.YtjdcafeljdnfeaaRealWhole
namespace Go.Proofs.Ytjdcafeljdnfeaa
open Go.ChangeShapes Go.WideShapes Go.ChangeAt Go.RowKit
set_option linter.unusedVariables false
theorem knd_parts (n : Int) (h0 : 0 ≤ n) (h1 : n < 18446744073709551616) : knd (sgn n.toNat) =
    if n / 4503599627370496 % 2048 = 2047 then (if n % 4503599627370496 = 0 then (if 9223372036854775808 ≤ n then 0 else 7) else 8)
    else if n / 4503599627370496 % 2048 = 0 then (if n % 4503599627370496 = 0 then (if 9223372036854775808 ≤ n then 3 else 4) else (if 9223372036854775808 ≤ n then 2 else 5))
    else (if 9223372036854775808 ≤ n then 1 else 6) := by
  have e1 : sgn n.toNat / 4503599627370496 % 2048 = n / 4503599627370496 % 2048 := by unfold sgn; split <;> omega
  have e2 : sgn n.toNat % 4503599627370496 = n % 4503599627370496 := by unfold sgn; split <;> omega
  have e3 : ∀ a b : Int, sd (sgn n.toNat) a b = if 9223372036854775808 ≤ n then a else b := fun a b => by
    unfold sd
    by_cases h : 9223372036854775808 ≤ n
    · rw [if_pos h, if_pos (by unfold sgn; split <;> omega)]
    · rw [if_neg h, if_neg (by unfold sgn; split <;> omega)]
  unfold knd
  rw [e1, e2, e3, e3, e3, e3]
theorem rkind_core (n E F k : Int) (M : Bool) (w : World)
    (HP : Hid (∀ w, Calls Try.prog 105 #[.int .u64 n] w fun e w' => e = .returned (.tuple #[.bool M, .int .u64 E, .int .u64 F]) ∧ w = w'))
    (hk : Hid (k = if E = 2047 then (if F = 0 then (if M = true then 0 else 7) else 8) else if E = 0 then (if F = 0 then (if M = true then 3 else 4) else (if M = true then 2 else 5)) else (if M = true then 1 else 6))) :
    Calls Try.prog 91 #[.int .u64 n] w fun e w' => e = .returned (.int .i64 k) ∧ w = w' := by
  have z0 : ∀ F : Int, F = 0 → (F == 0) = true ∧ (F != 0) = false := fun F h => by subst h; exact ⟨rfl, rfl⟩
  have z1 : ∀ F : Int, F ≠ 0 → (F == 0) = false ∧ (F != 0) = true := fun F h => ⟨by simpa using h, by simpa using h⟩
  have y1 : ∀ E : Int, E ≠ 2047 → (E == 2047) = false := fun E h => by simpa using h
  have hk := hk.out
  cases M <;> by_cases c1 : E = 2047
  case neg | neg =>
    have q1 := y1 E c1
    by_cases c2 : E = 0
    · subst c2
      by_cases c3 : F = 0
      · subst c3
        simp at hk
        subst hk
        clear z0 z1 y1 c1
        go_enter Try.func91, Try.ntmps91
        go_wp2_with (go_at_call 105; refine (HP.out _).mono ?_; rintro e w' ⟨rfl, rfl⟩)
        go_ret
        exact ⟨rfl, rfl⟩
      · obtain ⟨q2, q3⟩ := z1 F c3
        simp [c3] at hk
        subst hk
        clear z0 z1 y1 c1 c3
        go_enter Try.func91, Try.ntmps91
        go_wp2_with (go_at_call 105; refine (HP.out _).mono ?_; rintro e w' ⟨rfl, rfl⟩)
        go_ret
        exact ⟨rfl, rfl⟩
    · obtain ⟨q2, q3⟩ := z1 E c2
      simp [c1, c2] at hk
      subst hk
      clear z0 z1 y1 c1 c2
      go_enter Try.func91, Try.ntmps91
      go_wp2_with (go_at_call 105; refine (HP.out _).mono ?_; rintro e w' ⟨rfl, rfl⟩)
      go_ret
      exact ⟨rfl, rfl⟩
  all_goals
    subst c1
    by_cases c3 : F = 0
    · subst c3
      simp at hk
      subst hk
      clear z0 z1 y1
      go_enter Try.func91, Try.ntmps91
      go_wp2_with (go_at_call 105; refine (HP.out _).mono ?_; rintro e w' ⟨rfl, rfl⟩)
      go_ret
      exact ⟨rfl, rfl⟩
    · obtain ⟨q2, q3⟩ := z1 F c3
      simp [c3] at hk
      subst hk
      clear z0 z1 y1 c3
      go_enter Try.func91, Try.ntmps91
      go_wp2_with (go_at_call 105; refine (HP.out _).mono ?_; rintro e w' ⟨rfl, rfl⟩)
      go_ret
      exact ⟨rfl, rfl⟩
theorem rkind_any (n : Int) (h0 : 0 ≤ n) (h1 : n < 18446744073709551616) (w : World) :
    Calls Try.prog 91 #[.int .u64 n] w fun e w' => e = .returned (.int .i64 (knd (sgn n.toNat))) ∧ w = w' := by
  refine rkind_core n _ _ _ _ w (Lib.hid (rparts_any n h0 h1)) (Lib.hid ?_)
  rw [knd_parts n h0 h1]
  simp only [decide_eq_true_eq]
/-! The document's own Whole. -/
set_option maxRecDepth 100000 in
theorem rwhole_mid (n E F res : Int) (is : Bool) (M : Bool) (e m : Nat) (w : World) (hn : (n == 0) = false)
    (HP : Hid (∀ w, Calls Try.prog 105 #[.int .u64 n] w fun e w' => e = .returned (.tuple #[.bool M, .int .u64 E, .int .u64 F]) ∧ w = w'))
    (hE : E = e) (h1 : 1023 ≤ e) (h2 : e ≤ 1075) (hF : F + 4503599627370496 = m) (hF0 : 0 ≤ F) (hm : m < 9007199254740992)
    (hr : Hid ((is = true ∧ m % 2 ^ (1075 - e) = 0 ∧ res = Ieee.signed M (m / 2 ^ (1075 - e)) 0) ∨ (is = false ∧ ¬ m % 2 ^ (1075 - e) = 0 ∧ res = 0))) :
    Calls Try.prog 92 #[.int .u64 n] w fun e w' => e = .returned (.tuple #[.int .i64 res, .bool is]) ∧ w = w' := by
  subst hE
  have g1 : ¬ ((e : Nat) : Int) < 1023 := by omega
  have g2 : ¬ (1076 : Int) < (e : Nat) := by omega
  have g3 : (((e : Nat) : Int) == 1076) = false := by simp; omega
  have HF := Lib.hid hF
  have hF2 : F < 4503599627370496 := by omega
  clear hF
  go_enter Try.func92, Try.ntmps92
  go_wp2_with (go_at_call 105; refine (HP.out _).mono ?_; rintro e w' ⟨rfl, rfl⟩)
  go_loop [7, 8] (fun x k => ∃ j : Nat, j ≤ 1075 - e ∧ k = .int .u64 ((e + j : Nat) : Int) ∧ x = .int .u64 ((m / 2 ^ j : Nat) : Int) ∧ m % 2 ^ j = 0) (fun _ k => 1075 - (intOf k).toNat)
  case atStart => exact ⟨0, by omega, rfl, congrArg (Value.int .u64) (by have := HF.out; simpa using this), Nat.mod_one _⟩
  case round =>
    obtain ⟨j, hj, rfl, rfl, hmj⟩ := hrel
    have HM := Lib.hid hmj
    clear hmj
    have hdm : m / 2 ^ j ≤ m := Nat.div_le_self _ _
    have hsucc : m / 2 ^ j / 2 = m / 2 ^ (j + 1) := by rw [Nat.pow_succ, Nat.div_div_eq_div_mul]
    have hmod : m % 2 ^ (j + 1) = m % 2 ^ j + 2 ^ j * (m / 2 ^ j % 2) := by rw [Nat.pow_succ, Nat.mod_mul]
    have HS := Lib.hid hsucc
    have HD := Lib.hid hmod
    clear hsucc hmod
    by_cases hlt : e + j < 1075
    · have hlt' : ((e + j : Nat) : Int) < 1075 := by omega
      have HX := Lib.hid (show ∀ r, m % 2 ^ (1075 - e) = r → m % 2 ^ (j + 1) = r % 2 ^ (j + 1) from fun r h => by rw [← h, Nat.mod_mod_of_dvd]; exact Nat.pow_dvd_pow 2 (by omega))
      generalize hX : m / 2 ^ j = X at *
      by_cases hodd : X % 2 = 1
      · have ho : (((X : Nat) : Int) % 2 == 1) = true := by simp; omega
        have hno : is = false ∧ res = 0 := by
          rcases hr.out with ⟨_, h, _⟩ | ⟨h, _, h'⟩
          · have := HX.out 0 h
            rw [HD.out, HM.out, hodd] at this
            have := Nat.two_pow_pos j
            simp at *
          · exact ⟨h, h'⟩
        obtain ⟨rfl, rfl⟩ := hno
        clear hX
        go_wp2
        go_ret2
        exact ⟨rfl, rfl⟩
      · have ho : (((X : Nat) : Int) % 2 == 1) = false := by simp; omega
        have HX2 := Lib.hid hX
        clear hX
        go_wp2
        go_round
        case rel => exact ⟨j + 1, by omega, by go_num, congrArg (Value.int .u64) (by rw [← HS.out]; simp), by rw [HD.out, HM.out, show X % 2 = 0 from by omega, Nat.mul_zero]⟩
        case measure => simp [intOf]; omega
    · have hlt' : ¬ ((e + j : Nat) : Int) < 1075 := by omega
      obtain rfl : j = 1075 - e := by omega
      have hyes : is = true ∧ res = Ieee.signed M (m / 2 ^ (1075 - e)) 0 := by
        rcases hr.out with ⟨h, _, h'⟩ | ⟨_, h, _⟩
        · exact ⟨h, h'⟩
        · exact absurd HM.out h
      obtain ⟨rfl, hres⟩ := hyes
      generalize m / 2 ^ (1075 - e) = X at *
      have hX1 : ((X : Nat) : Int) ≤ 9007199254740992 := by omega
      cases M
      · have hres : res = X := by rw [hres]; simp [Ieee.signed]
        subst hres
        go_wp2
        go_ret2
        exact ⟨rfl, rfl⟩
      · have hres : res = -(X : Int) := by rw [hres]; simp [Ieee.signed]
        subst hres
        go_wp2
        go_ret2
        exact ⟨rfl, rfl⟩
theorem rwhole_zero (E F : Int) (M : Bool) (w : World)
    (HP : Hid (∀ w, Calls Try.prog 105 #[.int .u64 0] w fun e w' => e = .returned (.tuple #[.bool M, .int .u64 E, .int .u64 F]) ∧ w = w')) :
    Calls Try.prog 92 #[.int .u64 0] w fun e w' => e = .returned (.tuple #[.int .i64 0, .bool true]) ∧ w = w' := by
  go_enter Try.func92, Try.ntmps92
  go_wp2_with (go_at_call 105; refine (HP.out _).mono ?_; rintro e w' ⟨rfl, rfl⟩)
  go_ret2
  exact ⟨rfl, rfl⟩
theorem rwhole_low (n E F : Int) (M : Bool) (w : World) (hn : (n == 0) = false) (h : E < 1023)
    (HP : Hid (∀ w, Calls Try.prog 105 #[.int .u64 n] w fun e w' => e = .returned (.tuple #[.bool M, .int .u64 E, .int .u64 F]) ∧ w = w')) :
    Calls Try.prog 92 #[.int .u64 n] w fun e w' => e = .returned (.tuple #[.int .i64 0, .bool false]) ∧ w = w' := by
  go_enter Try.func92, Try.ntmps92
  go_wp2_with (go_at_call 105; refine (HP.out _).mono ?_; rintro e w' ⟨rfl, rfl⟩)
  go_ret2
  exact ⟨rfl, rfl⟩
theorem rwhole_high (n E F : Int) (M : Bool) (w : World) (hn : (n == 0) = false) (h : 1076 < E)
    (HP : Hid (∀ w, Calls Try.prog 105 #[.int .u64 n] w fun e w' => e = .returned (.tuple #[.bool M, .int .u64 E, .int .u64 F]) ∧ w = w')) :
    Calls Try.prog 92 #[.int .u64 n] w fun e w' => e = .returned (.tuple #[.int .i64 0, .bool false]) ∧ w = w' := by
  have h1 : ¬ E < 1023 := by omega
  go_enter Try.func92, Try.ntmps92
  go_wp2_with (go_at_call 105; refine (HP.out _).mono ?_; rintro e w' ⟨rfl, rfl⟩)
  go_ret2
  exact ⟨rfl, rfl⟩
theorem rwhole_top (n : Int) (M : Bool) (w : World) (hn : (n == 0) = false)
    (HP : Hid (∀ w, Calls Try.prog 105 #[.int .u64 n] w fun e w' => e = .returned (.tuple #[.bool M, .int .u64 1076, .int .u64 0]) ∧ w = w')) :
    Calls Try.prog 92 #[.int .u64 n] w fun e w' => e = .returned (.tuple #[.int .i64 (if M = true then -9007199254740992 else 9007199254740992), .bool true]) ∧ w = w' := by
  cases M
  all_goals
    go_enter Try.func92, Try.ntmps92
    go_wp2_with (go_at_call 105; refine (HP.out _).mono ?_; rintro e w' ⟨rfl, rfl⟩)
    go_loop [7, 8] (fun x k => x = .int .u64 4503599627370496 ∧ k = .int .u64 1076) (fun _ _ => 0)
    case atStart => exact ⟨rfl, rfl⟩
    case round =>
      obtain ⟨rfl, rfl⟩ := hrel
      go_wp2
      go_ret2
      exact ⟨rfl, rfl⟩
theorem rwhole_over (n F : Int) (M : Bool) (w : World) (hn : (n == 0) = false) (h0 : 0 < F) (h1 : F < 4503599627370496)
    (HP : Hid (∀ w, Calls Try.prog 105 #[.int .u64 n] w fun e w' => e = .returned (.tuple #[.bool M, .int .u64 1076, .int .u64 F]) ∧ w = w')) :
    Calls Try.prog 92 #[.int .u64 n] w fun e w' => e = .returned (.tuple #[.int .i64 0, .bool false]) ∧ w = w' := by
  have g : (9007199254740992 : Int) < 2 * (F + 4503599627370496) := by omega
  go_enter Try.func92, Try.ntmps92
  go_wp2_with (go_at_call 105; refine (HP.out _).mono ?_; rintro e w' ⟨rfl, rfl⟩)
  go_loop [7, 8] (fun x k => x = .int .u64 (F + 4503599627370496) ∧ k = .int .u64 1076) (fun _ _ => 0)
  case atStart => exact ⟨rfl, rfl⟩
  case round =>
    obtain ⟨rfl, rfl⟩ := hrel
    go_wp2
    go_ret2
    exact ⟨rfl, rfl⟩
theorem minus_int (n : Int) (h0 : 0 ≤ n) (h1 : n < 18446744073709551616) : decide (9223372036854775808 ≤ n) = minus n.toNat := by
  unfold minus
  rw [Bool.eq_iff_iff]; simp; omega
theorem sg_signed (s : Bool) (m : Nat) : sg s m = Ieee.signed s m 0 := by unfold sg Ieee.signed; simp
/-- WHAT THE DOCUMENT's Whole TELLS. -/
theorem rwhole_any (n : Int) (h0 : 0 ≤ n) (h1 : n < 18446744073709551616) (w : World) :
    Calls Try.prog 92 #[.int .u64 n] w fun e w' => e = .returned (.tuple #[.int .i64 (wn n.toNat), .bool (wb n.toNat)]) ∧ w = w' := by
  have HP := rparts_any n h0 h1
  rw [minus_int n h0 h1] at HP
  have eE : n / 4503599627370496 % 2048 = ((rung n.toNat / 4503599627370496 : Nat) : Int) := by unfold rung; omega
  have eF : n % 4503599627370496 = ((rung n.toNat % 4503599627370496 : Nat) : Int) := by unfold rung; omega
  rw [eE, eF] at HP
  by_cases z : n = 0
  · subst z
    exact rwhole_zero _ _ _ w (Lib.hid HP)
  · have hn : (n == 0) = false := by simpa using z
    have hb : ¬ n.toNat = 0 := by omega
    have hw : wholeOf n.toNat = wholeOf n.toNat := rfl
    conv at hw => rhs; unfold wholeOf; rw [if_neg hb]
    by_cases c1 : rung n.toNat < 4607182418800017408
    · rw [if_pos c1] at hw
      rw [(wn_none hw).1, (wn_none hw).2]
      exact rwhole_low n _ _ _ w hn (by omega) (Lib.hid HP)
    · rw [if_neg c1] at hw
      by_cases c2 : rung n.toNat < 4845873199050653696
      · rw [if_pos c2] at hw
        obtain ⟨e, m, he1, he2, hm1, hm2, he, hm, hr⟩ := rung_parts n.toNat (by omega) c2
        rw [hm, he] at hw
        rw [he] at HP
        refine rwhole_mid n _ _ _ _ _ e m w hn (Lib.hid HP) rfl he1 he2 (by omega) (by omega) hm2 (Lib.hid ?_)
        by_cases c3 : m % 2 ^ (1075 - e) = 0
        · rw [if_pos c3] at hw
          exact .inl ⟨(wn_some hw).2, c3, by rw [(wn_some hw).1, sg_signed]⟩
        · rw [if_neg c3] at hw
          exact .inr ⟨(wn_none hw).2, c3, (wn_none hw).1⟩
      · rw [if_neg c2] at hw
        by_cases c3 : rung n.toNat = 4845873199050653696
        · rw [if_pos c3] at hw
          rw [(wn_some hw).1, (wn_some hw).2]
          rw [c3] at HP
          exact rwhole_top n _ w hn (Lib.hid HP)
        · rw [if_neg c3] at hw
          rw [(wn_none hw).1, (wn_none hw).2]
          by_cases c4 : rung n.toNat / 4503599627370496 = 1076
          · rw [c4] at HP
            exact rwhole_over n _ _ w hn (by omega) (by omega) (Lib.hid HP)
          · exact rwhole_high n _ _ _ w hn (by omega) (Lib.hid HP)
end Go.Proofs.Ytjdcafeljdnfeaa
