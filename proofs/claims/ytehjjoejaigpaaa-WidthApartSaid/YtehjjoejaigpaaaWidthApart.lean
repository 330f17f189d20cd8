/-
  THE STATEMENT corduroylaw06.WidthApart: for any numbers and any one the call returns true and leaves its arguments as they were. No condition.
-/
import Derived.Test.YtehjjoejaigpaaaWidC
import Derived.Test.YtehjjoejaigpaaaIsRow
namespace Go.Proofs.Ytehjjoejaigpaaa.widthApart
open Go.ChangeShapes Go.WideShapes Go.ChangeAt Go.RowKit
set_option linter.unusedVariables false
theorem apart_skip (a0 : Option Addr) (len0 cap0 : Nat) (f : Int) (w : World) (h : 200 < len0) :
    Calls Try.prog 4 #[.slice a0 len0 cap0, .int .i64 f] w fun e w' => e = .returned (.bool true) ∧ Below w.heap.size w w' := by
  have h' : (200 : Int) < len0 := by omega
  clear h
  go_enter Try.func4, Try.ntmps4
  go_wp2
  go_ret
  exact ⟨rfl, Below.refl _ _⟩
/-- What Least tells of any numbers, and the document's. -/
theorem least_both (a : Option Addr) (n cap : Nat) (x : Nat → Int) (hn : n ≤ 1000) : ∃ (m : Int) (is : Bool), is = decide (0 < n) ∧ ∀ w, RowOf w a n (fun i => .int .i64 (x i)) →
    (Calls Try.prog 18 #[.slice a n cap] w fun e w' => e = .returned (.tuple #[.int .i64 m, .bool is]) ∧ w = w') ∧ Calls Try.prog 19 #[.slice a n cap] w fun e w' => e = .returned (.int .i64 m) ∧ w = w' := by
  by_cases h : 0 < n
  · exact ⟨lmin x n, true, by simp [h], fun w hr => ⟨least_some a n cap x h hn w hr, rleast_some a n cap x h hn w hr⟩⟩
  · obtain rfl : n = 0 := by omega
    exact ⟨0, false, by simp, fun w _ => ⟨least_none a cap w, rleast_none a cap w⟩⟩
set_option maxRecDepth 100000 in
set_option maxHeartbeats 2000000 in
theorem apart_walk (a0 : Option Addr) (n cap0 : Nat) (x : Nat → Int) (f : Int) (w : World) (h : n ≤ 200) (hnc : n ≤ cap0) (hcm : cap0 ≤ maxLen) (H : RowOf w a0 n (fun i => .int .i64 (x i))) :
    Calls Try.prog 4 #[.slice a0 n cap0, .int .i64 f] w fun e w' => e = .returned (.bool true) ∧ Below w.heap.size w w' := by
  have h' : ¬ (200 : Int) < n := by omega
  obtain ⟨m, is, his, LB⟩ := least_both a0 n cap0 x (by omega)
  obtain ⟨L1, L2⟩ := LB w H
  have L1 := Lib.hid L1
  have L2 := Lib.hid L2
  have H := Lib.hid H
  have HNC := Lib.hid hnc
  have HCM := Lib.hid hcm
  clear LB hnc hcm
  by_cases h0 : 0 < n
  case' pos =>
    have n1 : (0 : Int) < n := by omega
    rw [decide_eq_true h0] at his
    subst his
  case' neg =>
    rw [decide_eq_false h0] at his
    obtain rfl : n = 0 := by omega
    subst his
  all_goals
    go_enter Try.func4, Try.ntmps4
    go_wp2_with (first | (go_at_call 18; refine L1.out.mono ?_; rintro e w' ⟨rfl, rfl⟩) | (go_at_call 19; refine L2.out.mono ?_; rintro e w' ⟨rfl, rfl⟩))
    refine (offsets_any a0 _ cap0 x f (by omega) w H.out).mono ?_
    rintro e w1 ⟨v1, rfl, ho1, hb1⟩
    obtain ⟨a1, c1, rfl, hr1, _⟩ := own_reads' ho1
    have HR1 := Lib.hid hr1
    have T1 := Lib.hid hb1
    clear ho1 hr1 hb1
    go_wp2_with fail
    refine (roffsets_any a0 _ cap0 x f (by omega) w1 (H.out.below T1.out)).mono ?_
    rintro e w2 ⟨v2, rfl, ho2, hb2⟩
    obtain ⟨a2, c2, rfl, hr2, _⟩ := own_reads' ho2
    have T2 := Lib.hid (T1.out.trans (hb2.mono T1.out.size))
    have S1 := Lib.hid (sameu a1 a2 _ _ c1 c2 _ _ (by omega) w2 (HR1.out.below hb2) hr2 true (by simp))
    clear ho2 hr2 hb2
    go_wp2_with (go_at_call 20; refine S1.out.mono ?_; rintro e w3 ⟨rfl, hb3⟩; have T3 := Lib.hid (T2.out.trans (hb3.mono T2.out.size)); clear hb3)
    refine (deltas_any a0 _ cap0 x (by omega) HNC.out HCM.out w3 (H.out.below T3.out)).mono ?_
    rintro e w4 ⟨v4, rfl, ho4, hb4⟩
    obtain ⟨a4, c4, rfl, hr4, _⟩ := own_reads' ho4
    have HR4 := Lib.hid hr4
    have T4 := Lib.hid (T3.out.trans (hb4.mono T3.out.size))
    clear ho4 hr4 hb4
    go_wp2_with fail
    refine (rdeltas_any a0 _ cap0 x (by omega) w4 (H.out.below T4.out)).mono ?_
    rintro e w5 ⟨v5, rfl, ho5, hb5⟩
    obtain ⟨a5, c5, rfl, hr5, _⟩ := own_reads' ho5
    have T5 := Lib.hid (T4.out.trans (hb5.mono T4.out.size))
    have S2 := Lib.hid (samei a4 a5 _ _ c4 c5 _ _ (by omega) w5 (HR4.out.below hb5) hr5 true (by simp))
    clear ho5 hr5 hb5
    go_wp2_with (first | (go_at_call 23; refine S2.out.mono ?_; rintro e w6 ⟨rfl, hb6⟩; have T6 := Lib.hid (T5.out.trans (hb6.mono T5.out.size)); clear hb6) | (go_at_call 17; refine (awake_any _).mono ?_; rintro e w7 ⟨rfl, hb7⟩; have T7 := Lib.hid (T6.out.trans (hb7.mono T6.out.size)); clear hb7))
    go_ret
    exact ⟨rfl, T7.out⟩
theorem walk (a0 : Option Addr) (len0 cap0 : Nat) (z0 : List Int) (f : Int) (w : World) (b0 : IsRow .i64 w a0 len0 cap0 z0) (b1 : -9223372036854775808 ≤ f ∧ f ≤ 9223372036854775807) :
    Calls Try.prog 4 #[.slice a0 len0 cap0, .int .i64 f] w fun e w' => e = .returned (.bool true) ∧ Below w.heap.size w w' := by
  by_cases h : 200 < len0
  · exact apart_skip a0 len0 cap0 f w h
  · refine apart_walk a0 len0 cap0 (fun i => z0.getD i 0) f w (by omega) b0.1 b0.2.1 ?_
    obtain ⟨hl, hm, hz, hw, h0⟩ := b0
    rcases h0 with h0 | ⟨b, off, rfl, _, hc⟩
    · exact .inl (by omega)
    · exact .inr ⟨b, off, rfl, fun i hi => hc i (by omega)⟩
theorem own : ownKnob Try.prog.godebug = none := by kernel_rfl
set_option maxRecDepth 100000 in
theorem contract (H : Type) (enc : TypeId × Value → H) (W : World) (base : Nat) (args : Array Value) (ds gs : List (DataW H)) (before : List MemPlace)
    (hval : ∀ (j : Nat) t v, Try.f4.params[j]? = some t → args[j]? = some v → Value.okWide Try.prog W .any base t v)
    (hW : DataW.Whole enc Try.prog Try.f4.params.toList Rows.widthApartSpec.vars false W args.toList ds gs before) :
    Calls Try.prog 4 args W fun e W' => ∃ v, e = .returned v ∧ Rows.widthApartSpec.post enc Try.prog Try.f4 false true false false W args v W' := by
  have hW' := hW
  obtain ⟨p, q, hA0, hV, rfl, hfz, hnd⟩ := hW
  have hA : DataW.TrodAll enc Try.prog W 0 (fun _ => true) true Try.f4.params.toList args.toList ds p := hA0
  rw [Try.params4] at hA hval
  obtain ⟨v0, vs0, d0, ds0, p0, q0, hargs, rfl, rfl, h0, r0⟩ := trodAll_cons hA
  obtain ⟨v1, vs1, d1, ds1, p1, q1, rfl, rfl, rfl, h1, r1⟩ := trodAll_cons r0
  obtain ⟨rfl, rfl, rfl⟩ := trodAll_nil r1
  obtain rfl : args = #[v0, v1] := by cases args; simp_all
  obtain ⟨rfl, rfl⟩ := trodVars_none hV
  have hWhole := hW'
  obtain ⟨a0, len0, cap0, rfl⟩ := okWide_slice Try.underlying31 (hval 0 31 v0 rfl rfl)
  have k0 := h0
  have lt0 : ∀ x ∈ p0, x.block < W.heap.size := by obtain ⟨m, hm⟩ := k0; exact DataW.trod_lt m _ _ _ hm
  obtain ⟨z0, b0⟩ : ∃ zs, IsRow .i64 W a0 len0 cap0 zs := by
    obtain ⟨fuel, hf⟩ := h0
    rcases open_ints Try.underlying31 Try.underlying2 (by kernel_rfl) hf with ⟨hcs, _⟩ | ⟨x, l, c, zs, hcs, _, hl, hm, hz, _, hcell, hwz⟩
    · simp [Value.cells] at hcs
      obtain ⟨rfl, rfl, rfl⟩ := hcs
      exact ⟨[], isRow_nil _ _⟩
    · simp [Value.cells] at hcs
      obtain ⟨rfl, rfl, rfl⟩ := hcs
      exact ⟨zs, isRow_of hl hm (by simpa using hz) hcell hwz⟩
  obtain ⟨a1, rfl, rfl, rfl, w1⟩ := open_int Try.underlying2 (hval 1 2 v1 rfl rfl) h1
  have b1 := bounds_i64 w1
  clear hA0
  refine (walk a0 len0 cap0 z0 a1 W b0 b1).mono fun e W' ⟨he, hg⟩ => ?_
  subst he
  exact ⟨_, rfl, _, _, _, [], _, [], hW', trodAll_mk1 (shut_bool Try.underlying4 _), (trodAll_cons_mk (Below.trod laidOut (by kernel_rfl) (of_decide_eq_true (by kernel_rfl)) k0 hg lt0) (trodAll_cons_mk (shut_int Try.underlying2 w1) trodAll_mk0)), rfl, hg.frame _, fun h => by cases h⟩

set_option maxRecDepth 100000 in
theorem lifted (os : Os) (started : os.Started) (H : Type) (enc : TypeId × Value → H) :
    ReturnsInHanded {} Try.checked os 4 .any (Rows.widthApartSpec.pre6 enc Try.prog Try.f4 Rows.widthApartRow.domain false) (Rows.widthApartSpec.post enc Try.prog Try.f4 false true false false) := by
  refine returnsInHanded_of_change (C := Try.checked) own started (by kernel_rfl) Try.func4
    (ChangeSpec.witness6 (enc := enc) (C := Try.checked) false ⟨#[], #[.slice none 0 0, .int .i64 0], []⟩ 8 (by kernel_rfl) (by kernel_rfl) (by kernel_rfl) (by kernel_rfl)) ?_
  intro W base args ds gs before hval hW _ _
  exact contract H enc W base args ds gs before hval hW

/-- ████ THE STATEMENT ████ -/
theorem proved : Rows.WidthApartSaid :=
  OpenClaim.holds_of_wide 4 Try.f4 rfl rfl rfl rfl rfl rfl rfl ⟨rfl, rfl, rfl, rfl, rfl⟩ rfl rfl rfl rfl rfl (by kernel_rfl) Try.func4 (by kernel_rfl)
    (of_decide_eq_true (by kernel_rfl)) (by unfold Func.isWrapper; first | (rw [if_pos (by decide +kernel)]; kernel_rfl) | (rw [if_neg (by decide +kernel)]; exact ⟨rfl, rfl⟩))
    (fun os started H enc _ => lifted os started H enc)
end Go.Proofs.Ytehjjoejaigpaaa.widthApart
