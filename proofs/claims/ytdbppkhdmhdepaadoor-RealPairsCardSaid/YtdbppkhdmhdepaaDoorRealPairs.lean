/-
  THE CARD OF corduroylaw20.RealPairs: for every two times 64 bits the call returns true and leaves its arguments as they were. Condition: the card's own, that the package-level table of names starts as the program's text lays it.
-/
import Derived.Test.YtdbppkhdmhdepaaDoorCards
import Derived.Test.YtdbppkhdmhdepaaDoorTie
import Derived.Test.YtdbppkhdmhdepaaDoorRealBase
import Derived.Test.YtdbppkhdmhdepaaDoorRealLaid
namespace Go.Proofs.YtdbppkhdmhdepaaDoor.realPairs
open Go.ChangeShapes Go.WideShapes Go.ChangeAt Go.RowKit

/-- The rank of bits by the document: a number below 2^63 is itself. -/
theorem ref_rank (n : Int) (h0 : 0 ≤ n) (h1 : n < 18446744073709551616) (w : World) :
    Calls Tryd.prog 15 #[.int .u64 n] w fun e w' => e = .returned (.int .i64 (rnk (sgn n.toNat))) ∧ w = w' := by
  have e : n < 9223372036854775808 → rnk (sgn n.toNat) = n := fun h => by
    unfold rnk sgn; split <;> split <;> omega
  have e' : ¬ n < 9223372036854775808 → rnk (sgn n.toNat) = wrap64 (9223372036854775808 + (18446744073709551615 - n)) := fun h => by
    unfold rnk sgn wrap64; split <;> split <;> omega
  generalize rnk (sgn n.toNat) = r at *
  by_cases h : n < 9223372036854775808
  · have hi : IntKind.i64.wrap n = n := by rw [wrap_i64]; rw [if_neg (by omega)]; omega
    rw [e h]
    clear e e'
    go_enter Tryd.func15, Tryd.ntmps15
    go_wp2
    go_ret
    exact ⟨rfl, rfl⟩
  · rw [e' h]
    clear e e'
    go_enter Tryd.func15, Tryd.ntmps15
    go_wp2
    go_ret
    exact ⟨rfl, rfl⟩
theorem same_any (a b : Nat) (ha : a < 18446744073709551616) (hb : b < 18446744073709551616) (w : World) :
    Calls Tryd.prog 23 #[.float .f64 a, .float .f64 b] w fun e w' => e = .returned (.bool (decide (a = b))) ∧ w = w' := by
  have h : (sgn a == sgn b) = decide (a = b) := by
    rw [Bool.eq_iff_iff]; simp; unfold sgn; split <;> split <;> omega
  go_enter Tryd.func23, Tryd.ntmps23
  go_wp2_with fail
  refine (bits_any a ha _).mono ?_
  rintro e w' ⟨rfl, rfl⟩
  go_wp2_with fail
  refine (bits_any b hb _).mono ?_
  rintro e w' ⟨rfl, rfl⟩
  go_wp2
  go_ret
  exact ⟨rfl, rfl⟩
theorem core (n m r s : Int) (x y : Nat) (B C : Bool) (w : World) (h5 : w.cell? ⟨1, 5, none⟩ = some (.string ⟨#[116, 105, 110, 121]⟩))
    (hx : n.toNat = x) (hy : m.toNat = y) (hB : (n == m) = B) (hC : decide (r < s) = C)
    (S : Hid (∀ w, Calls Tryd.prog 23 #[.float .f64 x, .float .f64 y] w fun e w' => e = .returned (.bool B) ∧ w = w'))
    (L : Hid (∀ w, Calls Tryd.prog 24 #[.float .f64 x, .float .f64 y] w fun e w' => e = .returned (.bool C) ∧ w = w'))
    (R : Hid (∀ w, Calls Tryd.prog 15 #[.int .u64 n] w fun e w' => e = .returned (.int .i64 r) ∧ w = w'))
    (T : Hid (∀ w, Calls Tryd.prog 15 #[.int .u64 m] w fun e w' => e = .returned (.int .i64 s) ∧ w = w')) :
    Calls Tryd.prog 4 #[.int .u64 n, .int .u64 m] w fun e w' => e = .returned (.bool true) ∧ w = w' := by
  have hf := call_frombits
  go_enter Tryd.func4, Tryd.ntmps4
  go_wp2_with fail
  refine (S.out _).mono ?_
  rintro e w' ⟨rfl, rfl⟩
  go_wp2_with fail
  refine (L.out _).mono ?_
  rintro e w' ⟨rfl, rfl⟩
  go_wp2_with fail
  refine (R.out _).mono ?_
  rintro e w' ⟨rfl, rfl⟩
  go_wp2_with fail
  refine (T.out _).mono ?_
  rintro e w' ⟨rfl, rfl⟩
  go_wp2_with fail
  refine (awake_any _ h5).mono ?_
  rintro e w' ⟨rfl, rfl⟩
  go_wp2
  go_ret
  exact ⟨rfl, rfl⟩
theorem walk (n m : Int) (h0 : 0 ≤ n ∧ n ≤ 18446744073709551615) (h1 : 0 ≤ m ∧ m ≤ 18446744073709551615) (w : World) (h5 : w.cell? ⟨1, 5, none⟩ = some (.string ⟨#[116, 105, 110, 121]⟩)) :
    Calls Tryd.prog 4 #[.int .u64 n, .int .u64 m] w fun e w' => e = .returned (.bool true) ∧ w = w' := by
  have S := same_any n.toNat m.toNat (by omega) (by omega)
  rw [show decide (n.toNat = m.toNat) = (n == m) from by rw [Bool.eq_iff_iff]; simp; omega] at S
  exact core n m _ _ _ _ _ _ w h5 rfl rfl rfl rfl (Lib.hid S) (Lib.hid (less_any n.toNat m.toNat (by omega) (by omega))) (Lib.hid (ref_rank n h0.1 (by omega))) (Lib.hid (ref_rank m h1.1 (by omega)))
theorem own : ownKnob Tryd.prog.godebug = none := by kernel_rfl
theorem contract (H : Type) (enc : TypeId × Value → H) (W : World) (base : Nat) (args : Array Value) (ds gs : List (DataW H)) (before : List MemPlace)
    (hval : ∀ (j : Nat) t v, Tryd.f4.params[j]? = some t → args[j]? = some v → Value.okWide Tryd.prog W .any base t v)
    (hW : DataW.Whole enc Tryd.prog Tryd.f4.params.toList Rows.realPairsSpec.vars false W args.toList ds gs before) (hL : laidMetH Tryd.prog Rows.realPairsRow.laid W) :
    Calls Tryd.prog 4 args W fun e W' => ∃ v, e = .returned v ∧ Rows.realPairsSpec.post enc Tryd.prog Tryd.f4 false true false false W args v W' := by
  have hW' := hW
  obtain ⟨p, q, hA0, hV, rfl, hfz, hnd⟩ := hW
  have hA : DataW.TrodAll enc Tryd.prog W 0 (fun _ => true) true Tryd.f4.params.toList args.toList ds p := hA0
  rw [Tryd.params4] at hA hval
  obtain ⟨v0, vs0, d0, ds0, p0, q0, hargs, rfl, rfl, h0, r0⟩ := trodAll_cons hA
  obtain ⟨v1, vs1, d1, ds1, p1, q1, rfl, rfl, rfl, h1, r1⟩ := trodAll_cons r0
  obtain ⟨rfl, rfl, rfl⟩ := trodAll_nil r1
  obtain rfl : args = #[v0, v1] := by cases args; simp_all
  obtain ⟨rfl, rfl⟩ := trodVars_none hV
  obtain ⟨a0, rfl, rfl, rfl, w0⟩ := open_int Tryd.underlying22 (hval 0 22 v0 rfl rfl) h0
  have b0 := bounds_u64 w0
  obtain ⟨a1, rfl, rfl, rfl, w1⟩ := open_int Tryd.underlying22 (hval 1 22 v1 rfl rfl) h1
  have b1 := bounds_u64 w1
  clear hA0
  simp only [List.append_nil] at hW'
  have h5 : W.cell? ⟨1, 5, none⟩ = some (.string ⟨#[116, 105, 110, 121]⟩) := (names_cells hL 5).trans rfl
  refine (walk a0 a1 b0 b1 W h5).mono fun e W' ⟨he, hg⟩ => ?_
  subst he
  subst hg
  exact ⟨_, rfl, post_of_same (pa := []) (pv := []) hW' (fun _ _ _ => trodAll_cons_mk (shut_bool Tryd.underlying4 _) trodAll_mk0) (fun _ _ => (trodAll_cons_mk (shut_int Tryd.underlying22 w0) (trodAll_cons_mk (shut_int Tryd.underlying22 w1) trodAll_mk0))) (fun _ _ => rfl) rfl
    (World.keptBut_refl _ _) (fun _ => rfl) (ok_one (by kernel_rfl) rfl (okWide_bool_mk Tryd.underlying4 _))⟩

theorem laid_met (os : Os) : laidMet Tryd.prog Rows.realPairsRow.laid ((laidWorld os).forCall (fun _ _ => 0) ⟨#[], #[.int .u64 0, .int .u64 0], []⟩).memory :=
  laidMet_of_run' 8 (by kernel_rfl) (by kernel_rfl)
theorem reads (os : Os) {H : Type} (enc : TypeId × Value → H) : ∃ places, DataW.whole enc Tryd.prog ((laidWorld os).forCall (fun _ _ => 0) ⟨#[], #[.int .u64 0, .int .u64 0], []⟩).memory Tryd.f4.params.toList Rows.realPairsSpec.vars false (#[.int .u64 0, .int .u64 0] : Array Value).toList 8 = some ([.lit (.int .u64 0), .lit (.int .u64 0)], [], places) :=
  ⟨[], by kernel_rfl⟩

set_option maxRecDepth 100000 in
theorem lifted (os : Os) (started : os.Started) (H : Type) (enc : TypeId × Value → H) (F : Stop.Interp) :
    ReturnsInHanded {} Tryd.checked os 4 .any ((OpenSpec.ofChange Rows.realPairsSpec).preRow enc Tryd.prog Tryd.f4 Rows.realPairsRow.domain false Rows.realPairsRow.laid) (((OpenSpec.ofChange Rows.realPairsSpec).at F).post enc Tryd.prog Tryd.f4 false true false false) := by
  obtain ⟨places, hx⟩ := reads os enc
  refine returnsInHanded_of_row (C := Tryd.checked) (s := OpenSpec.ofChange Rows.realPairsSpec) own started (by kernel_rfl) Tryd.func4
    (witness_row_at (enc := enc) (C := Tryd.checked) false (laidWorld os) #[.int .u64 0, .int .u64 0] rfl (by kernel_rfl) (by kernel_rfl) (by kernel_rfl)
      (OpenSpec.preRow_of_cond 8 hx (by kernel_rfl) (fun k hk => by cases hk) (by kernel_rfl) (laid_met os))) ?_
  intro W base args ds gs before hval hW _ _ _ hL _ _
  exact contract H enc W base args ds gs before hval hW hL

theorem said : Rows.RealPairsSaid :=
  OpenClaim.holds_of_cond 4 Tryd.f4 rfl rfl rfl rfl rfl rfl rfl ⟨rfl, rfl, rfl, rfl, rfl⟩ rfl rfl rfl rfl rfl (by kernel_rfl) Tryd.func4 (by kernel_rfl)
    (of_decide_eq_true (by kernel_rfl)) (by unfold Func.isWrapper; first | (rw [if_pos (by decide +kernel)]; kernel_rfl) | (rw [if_neg (by decide +kernel)]; exact ⟨rfl, rfl⟩))
    (fun os started H enc _ F => by rw [OpenClaim.pre_eq_preRow]; exact lifted os started H enc F)

theorem plain (f : FuncId) (fn : Func) (hf : Tryd.pinned.checked.prog.funcNamed "corduroy/corduroylaw20.RealPairs" = some f) (hfn : Tryd.pinned.checked.prog.funcs[f]? = some fn) :
    false = Tryd.pinned.checked.prog.looks [] ∧ ∀ (j : Nat) t, fn.params[j]? = some t → Tryd.pinned.checked.prog.wantsStandIn t = false := by
  obtain rfl : f = 4 := Option.some.inj ((show Tryd.prog.funcNamed "corduroy/corduroylaw20.RealPairs" = some 4 by kernel_rfl).symm.trans hf) |>.symm
  obtain rfl : fn = Tryd.f4 := (Option.some.inj (Tryd.func4.symm.trans hfn)).symm
  refine ⟨by kernel_rfl, fun j t ht => ?_⟩
  rw [Tryd.params4] at ht
  have hm : t = 22 := by simpa using Array.mem_of_getElem? ht
  subst hm; exact (show Tryd.prog.wantsStandIn 22 = false by kernel_rfl)

/-- ████ THE CARD ████ -/
theorem card : Rows.RealPairsCardSaid :=
  Claim7.holds_tied_plain_at .later [] _ _ _ _ said (fun _ h => by cases h) (by kernel_rfl) (fun _ h => by cases h) realPairs_row_tie rfl ⟨rfl, rfl⟩ (by kernel_rfl) rfl plain (by kernel_rfl)
end Go.Proofs.YtdbppkhdmhdepaaDoor.realPairs
