/-
  THE CARD OF corduroylaw20.RealTurned: for every 64 bits the call returns true and leaves its argument as it was. Condition: the card's own, that the package-level table of names starts as the program's text lays it.
-/
import Derived.Test.YtdbppkhdmhdepaaDoorCards
import Derived.Test.YtdbppkhdmhdepaaDoorTie
import Derived.Test.YtdbppkhdmhdepaaDoorRealBase
import Derived.Test.YtdbppkhdmhdepaaDoorRealLaid
namespace Go.Proofs.YtdbppkhdmhdepaaDoor.realTurned
open Go.ChangeShapes Go.WideShapes Go.ChangeAt Go.RowKit

theorem own : ownKnob Tryd.prog.godebug = none := by kernel_rfl
theorem knd_turned (v u : Int) (h : (0 ≤ v ∧ u = v - 9223372036854775808) ∨ (v < 0 ∧ u = v + 9223372036854775808)) (hv : -9223372036854775808 ≤ v ∧ v < 9223372036854775808) :
    (knd v = 8 → knd u = 8) ∧ (knd v ≠ 8 → knd u = 7 - knd v) := by
  have e1 : u / 4503599627370496 % 2048 = v / 4503599627370496 % 2048 := by omega
  have e2 : u % 4503599627370496 = v % 4503599627370496 := by omega
  unfold knd
  rw [e1, e2]
  unfold sd
  constructor
  · intro h; repeat' split at h
    all_goals (first | omega | (simp_all; done))
  · intro h; split <;> (try split) <;> (try split) <;> (try split) <;> first | omega | simp_all
theorem rnk_turned (v u : Int) (h : (0 ≤ v ∧ u = v - 9223372036854775808) ∨ (v < 0 ∧ u = v + 9223372036854775808)) (hv : -9223372036854775808 ≤ v ∧ v < 9223372036854775808) :
    rnk u = -1 - rnk v ∧ (rnk v < rnk u ↔ rnk v < 0) := by
  unfold rnk; split <;> split <;> omega

theorem core_nan (n m r : Int) (x y : Nat) (w : World) (h5 : w.cell? ⟨1, 5, none⟩ = some (.string ⟨#[116, 105, 110, 121]⟩))
    (hm : Go.bits .xor .u64 n 9223372036854775808 = m) (hx : n.toNat = x) (hy : m.toNat = y) (hr1 : -9223372036854775808 ≤ r) (hr2 : r < 9223372036854775808)
    (X14 : Hid (∀ w, Calls Tryd.prog 14 #[.float .f64 x] w fun e w' => e = .returned (.int .i64 r) ∧ w = w'))
    (Y14 : Hid (∀ w, Calls Tryd.prog 14 #[.float .f64 y] w fun e w' => e = .returned (.int .i64 (-1 - r)) ∧ w = w'))
    (X16 : Hid (∀ w, Calls Tryd.prog 16 #[.float .f64 x] w fun e w' => e = .returned (.int .i64 8) ∧ w = w'))
    (Y16 : Hid (∀ w, Calls Tryd.prog 16 #[.float .f64 y] w fun e w' => e = .returned (.int .i64 8) ∧ w = w')) :
    Calls Tryd.prog 8 #[.int .u64 n] w fun e w' => e = .returned (.bool true) ∧ w = w' := by
  have hf := call_frombits
  go_enter Tryd.func8, Tryd.ntmps8
  go_wp2_with fail
  refine (Y14.out _).mono ?_
  rintro e w' ⟨rfl, rfl⟩
  go_wp2_with fail
  refine (X14.out _).mono ?_
  rintro e w' ⟨rfl, rfl⟩
  go_wp2_with fail
  refine (X16.out _).mono ?_
  rintro e w' ⟨rfl, rfl⟩
  go_wp2_with fail
  refine (Y16.out _).mono ?_
  rintro e w' ⟨rfl, rfl⟩
  go_wp2_with fail
  refine (awake_any _ h5).mono ?_
  rintro e w' ⟨rfl, rfl⟩
  go_wp2
  go_ret
  exact ⟨rfl, rfl⟩
theorem core_num (n m r k : Int) (x y : Nat) (w : World) (h5 : w.cell? ⟨1, 5, none⟩ = some (.string ⟨#[116, 105, 110, 121]⟩))
    (hm : Go.bits .xor .u64 n 9223372036854775808 = m) (hx : n.toNat = x) (hy : m.toNat = y) (hr1 : -9223372036854775808 ≤ r) (hr2 : r < 9223372036854775808) (hk : (k == 8) = false) (hk1 : 0 ≤ k) (hk2 : k ≤ 8) (B : Bool) (hB : decide (r < 0) = B)
    (X14 : Hid (∀ w, Calls Tryd.prog 14 #[.float .f64 x] w fun e w' => e = .returned (.int .i64 r) ∧ w = w'))
    (Y14 : Hid (∀ w, Calls Tryd.prog 14 #[.float .f64 y] w fun e w' => e = .returned (.int .i64 (-1 - r)) ∧ w = w'))
    (X16 : Hid (∀ w, Calls Tryd.prog 16 #[.float .f64 x] w fun e w' => e = .returned (.int .i64 k) ∧ w = w'))
    (Y16 : Hid (∀ w, Calls Tryd.prog 16 #[.float .f64 y] w fun e w' => e = .returned (.int .i64 (7 - k)) ∧ w = w'))
    (XY : Hid (∀ w, Calls Tryd.prog 24 #[.float .f64 x, .float .f64 y] w fun e w' => e = .returned (.bool B) ∧ w = w')) :
    Calls Tryd.prog 8 #[.int .u64 n] w fun e w' => e = .returned (.bool true) ∧ w = w' := by
  have hf := call_frombits
  go_enter Tryd.func8, Tryd.ntmps8
  go_wp2_with fail
  refine (Y14.out _).mono ?_
  rintro e w' ⟨rfl, rfl⟩
  go_wp2_with fail
  refine (X14.out _).mono ?_
  rintro e w' ⟨rfl, rfl⟩
  go_wp2_with fail
  refine (X16.out _).mono ?_
  rintro e w' ⟨rfl, rfl⟩
  go_wp2_with fail
  refine (Y16.out _).mono ?_
  rintro e w' ⟨rfl, rfl⟩
  go_wp2_with fail
  refine (X16.out _).mono ?_
  rintro e w' ⟨rfl, rfl⟩
  go_wp2_with fail
  refine (XY.out _).mono ?_
  rintro e w' ⟨rfl, rfl⟩
  go_wp2_with fail
  refine (X14.out _).mono ?_
  rintro e w' ⟨rfl, rfl⟩
  go_wp2_with fail
  refine (awake_any _ h5).mono ?_
  rintro e w' ⟨rfl, rfl⟩
  go_wp2
  go_ret
  exact ⟨rfl, rfl⟩
theorem knd_bd (v : Int) : 0 ≤ knd v ∧ knd v ≤ 8 := by
  unfold knd sd; repeat' split
  all_goals omega
theorem walk (n : Int) (h0 : 0 ≤ n) (h1 : n < 18446744073709551616) (w : World) (h5 : w.cell? ⟨1, 5, none⟩ = some (.string ⟨#[116, 105, 110, 121]⟩)) :
    Calls Tryd.prog 8 #[.int .u64 n] w fun e w' => e = .returned (.bool true) ∧ w = w' := by
  have hf := call_frombits
  obtain ⟨m, hm, hm0, hm1, hmn⟩ : ∃ m : Int, Go.bits .xor .u64 n 9223372036854775808 = m ∧ 0 ≤ m ∧ m < 18446744073709551616 ∧ ((n < 9223372036854775808 ∧ m = n + 9223372036854775808) ∨ (9223372036854775808 ≤ n ∧ m = n - 9223372036854775808)) := by
    refine ⟨_, rfl, ?_⟩
    rw [xor_sign n h0 h1]; split <;> omega
  have hs : (0 ≤ sgn n.toNat ∧ sgn m.toNat = sgn n.toNat - 9223372036854775808) ∨ (sgn n.toNat < 0 ∧ sgn m.toNat = sgn n.toNat + 9223372036854775808) := by
    unfold sgn; split <;> split <;> omega
  have hb := sgn_bd n.toNat (by omega)
  obtain ⟨hr, hl⟩ := rnk_turned _ _ hs hb
  obtain ⟨k8, kn⟩ := knd_turned _ _ hs hb
  have hl' : lss (sgn n.toNat) (sgn m.toNat) = decide (rnk (sgn n.toNat) < 0) := by unfold lss; simp [hl]
  have X14 := rank_any n.toNat (by omega)
  have Y14 := rank_any m.toNat (by omega)
  have X16 := kind_any n.toNat (by omega)
  have Y16 := kind_any m.toNat (by omega)
  have XY := less_any n.toNat m.toNat (by omega) (by omega)
  rw [hl'] at XY
  have hrb : -9223372036854775808 ≤ rnk (sgn n.toNat) ∧ rnk (sgn n.toNat) < 9223372036854775808 := by unfold rnk; split <;> omega
  rw [hr] at Y14
  have kb := knd_bd (sgn n.toNat)
  by_cases c : knd (sgn n.toNat) = 8
  · rw [c] at X16
    rw [k8 c] at Y16
    exact core_nan n m _ _ _ w h5 hm rfl rfl hrb.1 hrb.2 (Lib.hid X14) (Lib.hid Y14) (Lib.hid X16) (Lib.hid Y16)
  · rw [kn c] at Y16
    exact core_num n m _ _ _ _ w h5 hm rfl rfl hrb.1 hrb.2 (by simpa using c) kb.1 kb.2 _ rfl (Lib.hid X14) (Lib.hid Y14) (Lib.hid X16) (Lib.hid Y16) (Lib.hid XY)

theorem contract (H : Type) (enc : TypeId × Value → H) (W : World) (base : Nat) (args : Array Value) (ds gs : List (DataW H)) (before : List MemPlace)
    (hval : ∀ (j : Nat) t v, Tryd.f8.params[j]? = some t → args[j]? = some v → Value.okWide Tryd.prog W .any base t v)
    (hW : DataW.Whole enc Tryd.prog Tryd.f8.params.toList Rows.realTurnedSpec.vars false W args.toList ds gs before) (hL : laidMetH Tryd.prog Rows.realTurnedRow.laid W) :
    Calls Tryd.prog 8 args W fun e W' => ∃ v, e = .returned v ∧ Rows.realTurnedSpec.post enc Tryd.prog Tryd.f8 false true false false W args v W' := by
  have hW' := hW
  obtain ⟨p, q, hA0, hV, rfl, hfz, hnd⟩ := hW
  have hA : DataW.TrodAll enc Tryd.prog W 0 (fun _ => true) true Tryd.f8.params.toList args.toList ds p := hA0
  rw [Tryd.params8] at hA hval
  obtain ⟨v0, vs0, d0, ds0, p0, q0, hargs, rfl, rfl, h0, r0⟩ := trodAll_cons hA
  obtain ⟨rfl, rfl, rfl⟩ := trodAll_nil r0
  obtain rfl : args = #[v0] := by cases args; simp_all
  obtain ⟨rfl, rfl⟩ := trodVars_none hV
  obtain ⟨a0, rfl, rfl, rfl, w0⟩ := open_int Tryd.underlying22 (hval 0 22 v0 rfl rfl) h0
  clear hA0
  simp only [List.append_nil] at hW'
  have hb : 0 ≤ a0 ∧ a0 < 18446744073709551616 := by have := bounds_u64 w0; omega
  have h5 : W.cell? ⟨1, 5, none⟩ = some (.string ⟨#[116, 105, 110, 121]⟩) := (names_cells hL 5).trans rfl
  refine (walk a0 hb.1 hb.2 W h5).mono fun e W' ⟨he, hg⟩ => ?_
  subst he
  subst hg
  exact ⟨_, rfl, post_of_same (pa := []) (pv := []) hW' (fun _ _ _ => trodAll_cons_mk (shut_bool Tryd.underlying4 _) trodAll_mk0) (fun _ _ => trodAll_cons_mk (shut_int Tryd.underlying22 w0) trodAll_mk0) (fun _ _ => rfl) rfl
    (World.keptBut_refl _ _) (fun _ => rfl) (ok_one (by kernel_rfl) rfl (okWide_bool_mk Tryd.underlying4 _))⟩

theorem laid_met (os : Os) : laidMet Tryd.prog Rows.realTurnedRow.laid ((laidWorld os).forCall (fun _ _ => 0) ⟨#[], #[.int .u64 0], []⟩).memory :=
  laidMet_of_run' 8 (by kernel_rfl) (by kernel_rfl)
theorem reads (os : Os) {H : Type} (enc : TypeId × Value → H) : ∃ places, DataW.whole enc Tryd.prog ((laidWorld os).forCall (fun _ _ => 0) ⟨#[], #[.int .u64 0], []⟩).memory Tryd.f8.params.toList Rows.realTurnedSpec.vars false #[Value.int .u64 0].toList 8 = some ([.lit (.int .u64 0)], [], places) :=
  ⟨[], by kernel_rfl⟩

set_option maxRecDepth 100000 in
theorem lifted (os : Os) (started : os.Started) (H : Type) (enc : TypeId × Value → H) (F : Stop.Interp) :
    ReturnsInHanded {} Tryd.checked os 8 .any ((OpenSpec.ofChange Rows.realTurnedSpec).preRow enc Tryd.prog Tryd.f8 Rows.realTurnedRow.domain false Rows.realTurnedRow.laid) (((OpenSpec.ofChange Rows.realTurnedSpec).at F).post enc Tryd.prog Tryd.f8 false true false false) := by
  obtain ⟨places, hx⟩ := reads os enc
  refine returnsInHanded_of_row (C := Tryd.checked) (s := OpenSpec.ofChange Rows.realTurnedSpec) own started (by kernel_rfl) Tryd.func8
    (witness_row_at (enc := enc) (C := Tryd.checked) false (laidWorld os) #[.int .u64 0] rfl (by kernel_rfl) (by kernel_rfl) (by kernel_rfl)
      (OpenSpec.preRow_of_cond 8 hx (by kernel_rfl) (fun k hk => by cases hk) (by kernel_rfl) (laid_met os))) ?_
  intro W base args ds gs before hval hW _ _ _ hL _ _
  exact contract H enc W base args ds gs before hval hW hL

theorem said : Rows.RealTurnedSaid :=
  OpenClaim.holds_of_cond 8 Tryd.f8 rfl rfl rfl rfl rfl rfl rfl ⟨rfl, rfl, rfl, rfl, rfl⟩ rfl rfl rfl rfl rfl (by kernel_rfl) Tryd.func8 (by kernel_rfl)
    (of_decide_eq_true (by kernel_rfl)) (by unfold Func.isWrapper; first | (rw [if_pos (by decide +kernel)]; kernel_rfl) | (rw [if_neg (by decide +kernel)]; exact ⟨rfl, rfl⟩))
    (fun os started H enc _ F => by rw [OpenClaim.pre_eq_preRow]; exact lifted os started H enc F)

theorem plain (f : FuncId) (fn : Func) (hf : Tryd.pinned.checked.prog.funcNamed "corduroy/corduroylaw20.RealTurned" = some f) (hfn : Tryd.pinned.checked.prog.funcs[f]? = some fn) :
    false = Tryd.pinned.checked.prog.looks [] ∧ ∀ (j : Nat) t, fn.params[j]? = some t → Tryd.pinned.checked.prog.wantsStandIn t = false := by
  obtain rfl : f = 8 := Option.some.inj ((show Tryd.prog.funcNamed "corduroy/corduroylaw20.RealTurned" = some 8 by kernel_rfl).symm.trans hf) |>.symm
  obtain rfl : fn = Tryd.f8 := (Option.some.inj (Tryd.func8.symm.trans hfn)).symm
  refine ⟨by kernel_rfl, fun j t ht => ?_⟩
  rw [Tryd.params8] at ht
  obtain rfl : t = 22 := by simpa using Array.mem_of_getElem? ht
  exact (show Tryd.prog.wantsStandIn 22 = false by kernel_rfl)

/-- ████ THE CARD ████ -/
theorem card : Rows.RealTurnedCardSaid :=
  Claim7.holds_tied_plain_at .later [] _ _ _ _ said (fun _ h => by cases h) (by kernel_rfl) (fun _ h => by cases h) realTurned_row_tie rfl ⟨rfl, rfl⟩ (by kernel_rfl) rfl plain (by kernel_rfl)
end Go.Proofs.YtdbppkhdmhdepaaDoor.realTurned
