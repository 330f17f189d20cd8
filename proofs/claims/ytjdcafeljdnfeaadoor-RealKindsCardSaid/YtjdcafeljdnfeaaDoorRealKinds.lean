/-
  THE CARD OF corduroylaw20.RealKinds: for every two times 64 bits the call returns true and leaves its arguments as they were. Condition: the card's own, that the package-level table of names starts as the program's text lays it.
-/
import Derived.Test.YtjdcafeljdnfeaaDoorCards
import Derived.Test.YtjdcafeljdnfeaaDoorTie
import Derived.Test.YtjdcafeljdnfeaaDoorRealWhole
import Derived.Test.YtjdcafeljdnfeaaDoorRealLaid
namespace Go.Proofs.YtjdcafeljdnfeaaDoor.realKinds
open Go.ChangeShapes Go.WideShapes Go.ChangeAt Go.RowKit
set_option linter.unusedVariables false

/-- How the ways through the first test part: one is no number; the first is not below the second; it is, and has no greater kind. -/
def Ways (ox oy : Option Ordering) (L : Bool) (kx ky : Int) : Prop :=
  ox = none ∨ (ox = some .eq ∧ oy = none) ∨ (ox = some .eq ∧ oy = some .eq ∧ L = false) ∨ (ox = some .eq ∧ oy = some .eq ∧ L = true ∧ decide (ky < kx) = false)
set_option maxRecDepth 100000 in
set_option maxHeartbeats 1000000 in
theorem core_yes (n m N kx ky : Int) (x y : Nat) (ox oy : Option Ordering) (L : Bool) (w : World) (h5 : w.cell? ⟨1, 5, none⟩ = some (.string ⟨#[116, 105, 110, 121]⟩))
    (hx : n.toNat = x) (hy : m.toNat = y) (oxx : FloatKind.f64.format.order x x = ox) (oyy : FloatKind.f64.format.order y y = oy) (hw : Ways ox oy L kx ky) (hN : floatOfInt .f64 N = x)
    (LXY : Hid (∀ w, Calls Tryd.prog 22 #[.float .f64 x, .float .f64 y] w fun e w' => e = .returned (.bool L) ∧ w = w'))
    (KX : Hid (∀ w, Calls Tryd.prog 13 #[.float .f64 x] w fun e w' => e = .returned (.int .i64 kx) ∧ w = w'))
    (KY : Hid (∀ w, Calls Tryd.prog 13 #[.float .f64 y] w fun e w' => e = .returned (.int .i64 ky) ∧ w = w'))
    (WX : Hid (∀ w, Calls Tryd.prog 8 #[.float .f64 x] w fun e w' => e = .returned (.tuple #[.int .i64 N, .bool true]) ∧ w = w'))
    (SXX : Hid (∀ w, Calls Tryd.prog 23 #[.float .f64 x, .float .f64 x] w fun e w' => e = .returned (.bool true) ∧ w = w')) :
    Calls Tryd.prog 5 #[.int .u64 n, .int .u64 m] w fun e w' => e = .returned (.bool true) ∧ w = w' := by
  have hf := call_frombits
  rcases hw with rfl | ⟨rfl, rfl⟩ | ⟨rfl, rfl, rfl⟩ | ⟨rfl, rfl, rfl, hk⟩
  all_goals
    go_enter Tryd.func5, Tryd.ntmps5
    go_wp2_with (first | (go_at_call 22; refine (LXY.out _).mono ?_; rintro e w' ⟨rfl, rfl⟩) | (go_at_call 13; with_reducible refine (KX.out _).mono ?_; rintro e w' ⟨rfl, rfl⟩) | (go_at_call 13; refine (KY.out _).mono ?_; rintro e w' ⟨rfl, rfl⟩) | (go_at_call 8; refine (WX.out _).mono ?_; rintro e w' ⟨rfl, rfl⟩) | (go_at_call 23; refine (SXX.out _).mono ?_; rintro e w' ⟨rfl, rfl⟩) | (go_at_call 19; refine (awake_any _ h5).mono ?_; rintro e w' ⟨rfl, rfl⟩))
    go_ret
    exact ⟨rfl, rfl⟩
set_option maxRecDepth 100000 in
set_option maxHeartbeats 1000000 in
theorem core_no (n m kx ky : Int) (x y : Nat) (ox oy : Option Ordering) (L : Bool) (w : World) (h5 : w.cell? ⟨1, 5, none⟩ = some (.string ⟨#[116, 105, 110, 121]⟩))
    (hx : n.toNat = x) (hy : m.toNat = y) (oxx : FloatKind.f64.format.order x x = ox) (oyy : FloatKind.f64.format.order y y = oy) (hw : Ways ox oy L kx ky)
    (LXY : Hid (∀ w, Calls Tryd.prog 22 #[.float .f64 x, .float .f64 y] w fun e w' => e = .returned (.bool L) ∧ w = w'))
    (KX : Hid (∀ w, Calls Tryd.prog 13 #[.float .f64 x] w fun e w' => e = .returned (.int .i64 kx) ∧ w = w'))
    (KY : Hid (∀ w, Calls Tryd.prog 13 #[.float .f64 y] w fun e w' => e = .returned (.int .i64 ky) ∧ w = w'))
    (WX : Hid (∀ w, Calls Tryd.prog 8 #[.float .f64 x] w fun e w' => e = .returned (.tuple #[.int .i64 0, .bool false]) ∧ w = w')) :
    Calls Tryd.prog 5 #[.int .u64 n, .int .u64 m] w fun e w' => e = .returned (.bool true) ∧ w = w' := by
  have hf := call_frombits
  rcases hw with rfl | ⟨rfl, rfl⟩ | ⟨rfl, rfl, rfl⟩ | ⟨rfl, rfl, rfl, hk⟩
  all_goals
    go_enter Tryd.func5, Tryd.ntmps5
    go_wp2_with (first | (go_at_call 22; refine (LXY.out _).mono ?_; rintro e w' ⟨rfl, rfl⟩) | (go_at_call 13; with_reducible refine (KX.out _).mono ?_; rintro e w' ⟨rfl, rfl⟩) | (go_at_call 13; refine (KY.out _).mono ?_; rintro e w' ⟨rfl, rfl⟩) | (go_at_call 8; refine (WX.out _).mono ?_; rintro e w' ⟨rfl, rfl⟩) | (go_at_call 19; refine (awake_any _ h5).mono ?_; rintro e w' ⟨rfl, rfl⟩))
    go_ret
    exact ⟨rfl, rfl⟩
theorem knd_eq (b : Nat) (hb : b < 18446744073709551616) : knd (sgn b) = if rung b / 4503599627370496 = 2047 then (if rung b % 4503599627370496 = 0 then sd (sgn b) 0 7 else 8) else if rung b / 4503599627370496 = 0 then (if rung b % 4503599627370496 = 0 then sd (sgn b) 3 4 else sd (sgn b) 2 5) else sd (sgn b) 1 6 := by
  have e1 : sgn b / 4503599627370496 % 2048 = ((rung b / 4503599627370496 : Nat) : Int) := by unfold sgn rung; split <;> omega
  have e2 : sgn b % 4503599627370496 = ((rung b % 4503599627370496 : Nat) : Int) := by unfold sgn rung; split <;> omega
  unfold knd
  rw [e1, e2]
  have i1 : (((rung b / 4503599627370496 : Nat) : Int) = 2047) ↔ (rung b / 4503599627370496 = 2047) := by omega
  have i2 : (((rung b / 4503599627370496 : Nat) : Int) = 0) ↔ (rung b / 4503599627370496 = 0) := by omega
  have i3 : (((rung b % 4503599627370496 : Nat) : Int) = 0) ↔ (rung b % 4503599627370496 = 0) := by omega
  simp only [i1, i2, i3]
/-- KINDS RISE WITH RANKS. -/
theorem knd_rise (a b : Nat) (ha : a < 18446744073709551616) (hb : b < 18446744073709551616) (na : ¬ isNan a) (nb : ¬ isNan b) (h : rnk (sgn a) < rnk (sgn b)) : knd (sgn a) ≤ knd (sgn b) := by
  rw [rnk_rung a ha, rnk_rung b hb] at h
  rw [knd_eq a ha, knd_eq b hb]
  have sa := sgn_neg a ha
  have sb := sgn_neg b hb
  unfold isNan at na nb
  unfold sd
  generalize rung a = r at *
  generalize rung b = s at *
  generalize sgn a = u at *
  generalize sgn b = v at *
  cases hma : minus a <;> cases hmb : minus b <;> simp only [hma, hmb, Bool.false_eq_true, if_true, if_false, iff_true, iff_false] at h sa sb <;> split <;> (try split) <;> (try split) <;> (try split) <;> (try split) <;> (try split) <;> omega
theorem walk (n m : Int) (h0 : 0 ≤ n ∧ n ≤ 18446744073709551615) (h1 : 0 ≤ m ∧ m ≤ 18446744073709551615) (w : World) (h5 : w.cell? ⟨1, 5, none⟩ = some (.string ⟨#[116, 105, 110, 121]⟩)) :
    Calls Tryd.prog 5 #[.int .u64 n, .int .u64 m] w fun e w' => e = .returned (.bool true) ∧ w = w' := by
  have hx : n.toNat < 18446744073709551616 := by omega
  have hy : m.toNat < 18446744073709551616 := by omega
  have hself : ∀ b, ¬ isNan b → FloatKind.f64.format.order b b = some .eq := fun b hb => (order_c b b hb hb).trans (congrArg some (cmp_eq rfl))
  have hnan : ∀ b, isNan b → FloatKind.f64.format.order b b = none := fun b hb => order_nan b b (.inl hb)
  have hways : Ways (FloatKind.f64.format.order n.toNat n.toNat) (FloatKind.f64.format.order m.toNat m.toNat) (lss (sgn n.toNat) (sgn m.toNat)) (knd (sgn n.toNat)) (knd (sgn m.toNat)) := by
    by_cases c1 : isNan n.toNat
    · exact .inl (hnan _ c1)
    · by_cases c2 : isNan m.toNat
      · exact .inr (.inl ⟨hself _ c1, hnan _ c2⟩)
      · cases c3 : lss (sgn n.toNat) (sgn m.toNat) with
        | false => exact .inr (.inr (.inl ⟨hself _ c1, hself _ c2, rfl⟩))
        | true =>
          have := knd_rise _ _ hx hy c1 c2 (by unfold lss at c3; exact of_decide_eq_true c3)
          exact .inr (.inr (.inr ⟨hself _ c1, hself _ c2, rfl, decide_eq_false (by omega)⟩))
  have WA := whole_any n.toNat hx
  cases hw : wholeOf n.toNat with
  | none =>
    rw [(wn_none hw).1, (wn_none hw).2] at WA
    exact core_no n m _ _ _ _ _ _ _ w h5 rfl rfl rfl rfl hways (Lib.hid (less_any _ _ hx hy)) (Lib.hid (kind_any _ hx)) (Lib.hid (kind_any _ hy)) (Lib.hid WA)
  | some N =>
    rw [(wn_some hw).1, (wn_some hw).2] at WA
    have S := same_any n.toNat n.toNat hx hx
    rw [decide_eq_true rfl] at S
    exact core_yes n m N _ _ _ _ _ _ _ w h5 rfl rfl rfl rfl hways (whole_back _ hx N hw) (Lib.hid (less_any _ _ hx hy)) (Lib.hid (kind_any _ hx)) (Lib.hid (kind_any _ hy)) (Lib.hid WA) (Lib.hid S)
theorem own : ownKnob Tryd.prog.godebug = none := by kernel_rfl
set_option maxRecDepth 100000 in
theorem contract (H : Type) (enc : TypeId × Value → H) (W : World) (base : Nat) (args : Array Value) (ds gs : List (DataW H)) (before : List MemPlace)
    (hval : ∀ (j : Nat) t v, Tryd.f5.params[j]? = some t → args[j]? = some v → Value.okWide Tryd.prog W .any base t v)
    (hW : DataW.Whole enc Tryd.prog Tryd.f5.params.toList Rows.realKindsSpec.vars false W args.toList ds gs before) (hL : laidMetH Tryd.prog Rows.realKindsRow.laid W) :
    Calls Tryd.prog 5 args W fun e W' => ∃ v, e = .returned v ∧ Rows.realKindsSpec.post enc Tryd.prog Tryd.f5 false true false false W args v W' := by
  have hW' := hW
  obtain ⟨p, q, hA0, hV, rfl, hfz, hnd⟩ := hW
  have hA : DataW.TrodAll enc Tryd.prog W 0 (fun _ => true) true Tryd.f5.params.toList args.toList ds p := hA0
  rw [Tryd.params5] at hA hval
  obtain ⟨v0, vs0, d0, ds0, p0, q0, hargs, rfl, rfl, h0, r0⟩ := trodAll_cons hA
  obtain ⟨v1, vs1, d1, ds1, p1, q1, rfl, rfl, rfl, h1, r1⟩ := trodAll_cons r0
  obtain ⟨rfl, rfl, rfl⟩ := trodAll_nil r1
  obtain rfl : args = #[v0, v1] := by cases args; simp_all
  obtain ⟨rfl, rfl⟩ := trodVars_none hV
  obtain ⟨a0, rfl, rfl, rfl, w0⟩ := open_int Tryd.underlying22 (hval 0 22 v0 rfl rfl) h0
  have b0 := bounds_u64 w0
  obtain ⟨a1, rfl, rfl, rfl, w1⟩ := open_int Tryd.underlying22 (hval 1 22 v1 rfl rfl) h1
  have b1 := bounds_u64 w1
  clear hA0
  simp only [List.append_nil] at hW'
  have h5 : W.cell? ⟨1, 5, none⟩ = some (.string ⟨#[116, 105, 110, 121]⟩) := (names_cells hL 5).trans rfl
  refine (walk a0 a1 b0 b1 W h5).mono fun e W' ⟨he, hg⟩ => ?_
  subst he
  subst hg
  exact ⟨_, rfl, post_of_same (pa := []) (pv := []) hW' (fun _ _ _ => trodAll_cons_mk (shut_bool Tryd.underlying4 _) trodAll_mk0) (fun _ _ => (trodAll_cons_mk (shut_int Tryd.underlying22 w0) (trodAll_cons_mk (shut_int Tryd.underlying22 w1) trodAll_mk0))) (fun _ _ => rfl) rfl
    (World.keptBut_refl _ _) (fun _ => rfl) (ok_one (by kernel_rfl) rfl (okWide_bool_mk Tryd.underlying4 _))⟩

theorem laid_met (os : Os) : laidMet Tryd.prog Rows.realKindsRow.laid ((laidWorld os).forCall (fun _ _ => 0) ⟨#[], #[.int .u64 0, .int .u64 0], []⟩).memory :=
  laidMet_of_run' 8 (by kernel_rfl) (by kernel_rfl)
theorem reads (os : Os) {H : Type} (enc : TypeId × Value → H) : ∃ places, DataW.whole enc Tryd.prog ((laidWorld os).forCall (fun _ _ => 0) ⟨#[], #[.int .u64 0, .int .u64 0], []⟩).memory Tryd.f5.params.toList Rows.realKindsSpec.vars false (#[.int .u64 0, .int .u64 0] : Array Value).toList 8 = some ([.lit (.int .u64 0), .lit (.int .u64 0)], [], places) :=
  ⟨[], by kernel_rfl⟩

set_option maxRecDepth 100000 in
theorem lifted (os : Os) (started : os.Started) (H : Type) (enc : TypeId × Value → H) (F : Stop.Interp) :
    ReturnsInHanded {} Tryd.checked os 5 .any ((OpenSpec.ofChange Rows.realKindsSpec).preRow enc Tryd.prog Tryd.f5 Rows.realKindsRow.domain false Rows.realKindsRow.laid) (((OpenSpec.ofChange Rows.realKindsSpec).at F).post enc Tryd.prog Tryd.f5 false true false false) := by
  obtain ⟨places, hx⟩ := reads os enc
  refine returnsInHanded_of_row (C := Tryd.checked) (s := OpenSpec.ofChange Rows.realKindsSpec) own started (by kernel_rfl) Tryd.func5
    (witness_row_at (enc := enc) (C := Tryd.checked) false (laidWorld os) #[.int .u64 0, .int .u64 0] rfl (by kernel_rfl) (by kernel_rfl) (by kernel_rfl)
      (OpenSpec.preRow_of_cond 8 hx (by kernel_rfl) (fun k hk => by cases hk) (by kernel_rfl) (laid_met os))) ?_
  intro W base args ds gs before hval hW _ _ _ hL _ _
  exact contract H enc W base args ds gs before hval hW hL

theorem said : Rows.RealKindsSaid :=
  OpenClaim.holds_of_cond 5 Tryd.f5 rfl rfl rfl rfl rfl rfl rfl ⟨rfl, rfl, rfl, rfl, rfl⟩ rfl rfl rfl rfl rfl (by kernel_rfl) Tryd.func5 (by kernel_rfl)
    (of_decide_eq_true (by kernel_rfl)) (by unfold Func.isWrapper; first | (rw [if_pos (by decide +kernel)]; kernel_rfl) | (rw [if_neg (by decide +kernel)]; exact ⟨rfl, rfl⟩))
    (fun os started H enc _ F => by rw [OpenClaim.pre_eq_preRow]; exact lifted os started H enc F)

theorem plain (f : FuncId) (fn : Func) (hf : Tryd.pinned.checked.prog.funcNamed "corduroy/corduroylaw20.RealKinds" = some f) (hfn : Tryd.pinned.checked.prog.funcs[f]? = some fn) :
    false = Tryd.pinned.checked.prog.looks [] ∧ ∀ (j : Nat) t, fn.params[j]? = some t → Tryd.pinned.checked.prog.wantsStandIn t = false := by
  obtain rfl : f = 5 := Option.some.inj ((show Tryd.prog.funcNamed "corduroy/corduroylaw20.RealKinds" = some 5 by kernel_rfl).symm.trans hf) |>.symm
  obtain rfl : fn = Tryd.f5 := (Option.some.inj (Tryd.func5.symm.trans hfn)).symm
  refine ⟨by kernel_rfl, fun j t ht => ?_⟩
  rw [Tryd.params5] at ht
  have hm : t = 22 := by simpa using Array.mem_of_getElem? ht
  subst hm; exact (show Tryd.prog.wantsStandIn 22 = false by kernel_rfl)

/-- ████ THE CARD ████ -/
theorem card : Rows.RealKindsCardSaid :=
  Claim7.holds_tied_plain_at .later [] _ _ _ _ said (fun _ h => by cases h) (by kernel_rfl) (fun _ h => by cases h) realKinds_row_tie rfl ⟨rfl, rfl⟩ (by kernel_rfl) rfl plain (by kernel_rfl)
end Go.Proofs.YtjdcafeljdnfeaaDoor.realKinds
