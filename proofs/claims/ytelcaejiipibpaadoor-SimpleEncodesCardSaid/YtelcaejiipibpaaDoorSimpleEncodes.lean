/-
  THE STATEMENT corduroylaw09.SimpleEncodes: for any numbers the call returns true and leaves its argument as it was. Condition: the table of shapes reads as its initialiser laid it (the card ties it).
-/
import Derived.Test.YtelcaejiipibpaaDoorCards
import Derived.Test.YtelcaejiipibpaaDoorTie
import Derived.Test.YtelcaejiipibpaaDoorSimpleG
import Derived.Test.YtelcaejiipibpaaDoorSimM2
import Derived.Test.YtelcaejiipibpaaDoorSimpleL
import Derived.Test.YtelcaejiipibpaaDoorIsRow
namespace Go.Proofs.YtelcaejiipibpaaDoor.simpleEncodes
open Go.ChangeShapes Go.WideShapes Go.ChangeAt Go.RowKit
set_option linter.unusedVariables false
set_option linter.unusedSimpArgs false
theorem long (a : Option Addr) (n cap : Nat) (hl : 1100 < n) (W : World) :
    Calls Tryd.prog 3 #[.slice a n cap] W fun e w' => e = .returned (.bool true) ∧ Below W.heap.size W w' := by
  have h1 : (1100 : Int) < n := by omega
  clear hl
  go_enter Tryd.func3, Tryd.ntmps3
  go_wp2
  go_ret
  exact ⟨rfl, Below.refl _ _⟩
set_option maxRecDepth 100000 in
theorem main (a : Option Addr) (n cap : Nat) (x : Nat → Int) (hx : ∀ i, i < n → -9223372036854775808 ≤ x i ∧ x i ≤ 9223372036854775807) (hn : n ≤ 1100) (W : World) (h : RowOf W a n (fun i => .int .i64 (x i))) (hT : SW W) :
    Calls Tryd.prog 3 #[.slice a n cap] W fun e w' => e = .returned (.bool true) ∧ Below W.heap.size W w' := by
  have RT := Lib.hid (fun (V : World) (hV : Below W.heap.size W V) => rstakes_any a n cap x hn hx V (h.below hV))
  have key : ∃ Q : Option Addr → Nat → World → Prop,
      (∀ V, Below W.heap.size W V → Calls Tryd.prog 10 #[.slice a n cap] V fun e w' => ∃ (a1 : Option Addr) (m1 c1 : Nat), e = .returned (.slice a1 m1 c1) ∧ Q a1 m1 w' ∧ Below V.heap.size V w') ∧
      (∀ aw m cw V, Below W.heap.size W V → Q aw m V → Calls Tryd.prog 8 #[.iface 25 (.agg #[]), .slice a n cap, .bool (sOk x n), .slice aw m cw] V fun e w' => e = .returned (.bool true) ∧ Below V.heap.size V w') := by
    cases ho : sOk x n
    · refine ⟨fun _ _ _ => True, fun V hV => (rsencode_out a n cap x hn hx ho V (h.below hV)).mono ?_, fun aw m cw V hV _ => ?_⟩
      · rintro e w' ⟨rfl, hb⟩
        exact ⟨none, 0, 0, rfl, trivial, hb⟩
      · have := stold_out a aw n cap m cw x hx (by rw [ho, Bool.and_false]) V (h.below hV)
        rwa [ho] at this
    · obtain ⟨P, hP1, hP2, hP3⟩ := words_of x n ho
      refine ⟨fun a1 m1 w' => m1 = 8 * P ∧ RowOf w' a1 (8 * P) (fun i => .int .u8 ((sF (hz x) n P).getD i 0)), fun V hV => (rsencode_in a n cap P x hn hx ho hP1 hP2 hP3 V (h.below hV)).mono ?_, fun aw m cw V hV hQ => ?_⟩
      · rintro e w' ⟨v, rfl, hv, hb⟩
        obtain ⟨a1, c1, rfl, hr, _⟩ := own_bytes hv
        rw [sF_length] at hr ⊢
        exact ⟨a1, 8 * P, c1, rfl, ⟨rfl, hr⟩, hb⟩
      · obtain ⟨rfl, hr⟩ := hQ
        cases hb : blk n
        · have := stold_out a aw n cap (8 * P) cw x hx (by rw [hb, Bool.false_and]) V (h.below hV)
          rwa [ho] at this
        · exact stold_in a aw n cap P cw x hx hb ho hP1 hP2 hP3 V (h.below hV) (hT.below hV) hr
  obtain ⟨Q, hQ1, hQ2⟩ := key
  have EN := Lib.hid hQ1
  have TD := Lib.hid hQ2
  have NM := Lib.hid (fun V => sname_any V)
  have AW := Lib.hid (fun V (hV : Below W.heap.size W V) => awake09_any V (hT.below hV))
  have h1 : ¬ (1100 : Int) < n := by omega
  clear h hn hQ1 hQ2 hT hx
  generalize sOk x n = ok at *
  go_enter Tryd.func3, Tryd.ntmps3
  go_wp2_with (first
    | (go_at_call 9; refine (RT.out _ (Below.refl _ _)).mono ?_; rintro e w0 ⟨rfl, hb⟩; have HB0 := Lib.hid hb; clear hb)
    | (go_at_call 10; refine (EN.out _ HB0.out).mono ?_; rintro e w1 ⟨a1, m1, c1, rfl, hr1, hb⟩; have HR1 := Lib.hid hr1; have HB1 := Lib.hid (HB0.out.trans (hb.mono HB0.out.size)); clear hb hr1)
    | (go_at_call 8; refine (TD.out _ _ _ _ HB1.out HR1.out).mono ?_; rintro e w2 ⟨rfl, hb⟩; have HB2 := Lib.hid (HB1.out.trans (hb.mono HB1.out.size)); clear hb)
    | (go_at_call 11; refine (NM.out _).mono ?_; rintro e w3 ⟨rfl, hb⟩; have HB3 := Lib.hid (HB2.out.trans (hb.mono HB2.out.size)); clear hb)
    | (go_at_call 12; refine (AW.out _ HB3.out).mono ?_; rintro e w4 ⟨rfl, hb⟩; have HB4 := Lib.hid (HB3.out.trans (hb.mono HB3.out.size)); clear hb))
  go_ret
  exact ⟨rfl, HB4.out⟩
theorem walk (a : Option Addr) (n cap : Nat) (zs : List Int) (W : World) (b : IsRow .i64 W a n cap zs) (h5 : SW W) :
    Calls Tryd.prog 3 #[.slice a n cap] W fun e w' => e = .returned (.bool true) ∧ Below W.heap.size W w' := by
  obtain ⟨b1, b2, b3, b4, b5⟩ := b
  by_cases hl : 1100 < n
  · exact long a n cap hl W
  · refine main a n cap (fun i => zs.getD i 0) (fun i hi => ?hx) (by omega) W ?_ h5
    case hx => exact bounds_i64 (b4 (zs.getD i 0) (by rw [List.getD_eq_getElem?_getD, List.getElem?_eq_getElem (by omega)]; simp))
    rcases b5 with b5 | ⟨b, off, rfl, hb, hc⟩
    · exact .inl (by omega)
    · exact .inr ⟨b, off, rfl, fun i hi => hc i (by omega)⟩
theorem own : ownKnob Tryd.prog.godebug = none := by kernel_rfl
set_option maxRecDepth 100000 in
theorem contract (H : Type) (enc : TypeId × Value → H) (W : World) (base : Nat) (args : Array Value) (ds gs : List (DataW H)) (before : List MemPlace)
    (hval : ∀ (j : Nat) t v, Tryd.f3.params[j]? = some t → args[j]? = some v → Value.okWide Tryd.prog W .any base t v)
    (hW : DataW.Whole enc Tryd.prog Tryd.f3.params.toList Rows.simpleEncodesSpec.vars false W args.toList ds gs before) (hL : laidMetH Tryd.prog Rows.simpleEncodesRow.laid W) :
    Calls Tryd.prog 3 args W fun e W' => ∃ v, e = .returned v ∧ Rows.simpleEncodesSpec.post enc Tryd.prog Tryd.f3 false true false false W args v W' := by
  have hW' := hW
  obtain ⟨p, q, hA0, hV, rfl, hfz, hnd⟩ := hW
  have hA : DataW.TrodAll enc Tryd.prog W 0 (fun _ => true) true Tryd.f3.params.toList args.toList ds p := hA0
  rw [Tryd.params3] at hA hval
  obtain ⟨v0, vs0, d0, ds0, p0, q0, hargs, rfl, rfl, h0, r0⟩ := trodAll_cons hA
  obtain ⟨rfl, rfl, rfl⟩ := trodAll_nil r0
  obtain rfl : args = #[v0] := by cases args; simp_all
  obtain ⟨rfl, rfl⟩ := trodVars_none hV
  have hWhole := hW'
  obtain ⟨a0, len0, cap0, rfl⟩ := okWide_slice Tryd.underlying22 (hval 0 22 v0 rfl rfl)
  have k0 := h0
  have lt0 : ∀ x ∈ p0, x.block < W.heap.size := by obtain ⟨m, hm⟩ := k0; exact DataW.trod_lt m _ _ _ hm
  obtain ⟨z0, b0⟩ : ∃ zs, IsRow .i64 W a0 len0 cap0 zs := by
    obtain ⟨fuel, hf⟩ := h0
    rcases open_ints Tryd.underlying22 Tryd.underlying2 (by kernel_rfl) hf with ⟨hcs, _⟩ | ⟨x, l, c, zs, hcs, _, hl, hm, hz, _, hcell, hwz⟩
    · simp [Value.cells] at hcs
      obtain ⟨rfl, rfl, rfl⟩ := hcs
      exact ⟨[], isRow_nil _ _⟩
    · simp [Value.cells] at hcs
      obtain ⟨rfl, rfl, rfl⟩ := hcs
      exact ⟨zs, isRow_of hl hm (by simpa using hz) hcell hwz⟩
  clear hA0
  have h5 : SW W := words_of_laid hL
  refine (walk a0 len0 cap0 z0 W b0 h5).mono fun e W' ⟨he, hg⟩ => ?_
  subst he
  exact ⟨_, rfl, _, _, _, [], _, [], hW', trodAll_mk1 (shut_bool Tryd.underlying4 _), (trodAll_cons_mk (Below.trod laidOut (by kernel_rfl) (of_decide_eq_true (by kernel_rfl)) k0 hg lt0) trodAll_mk0), rfl, hg.frame _, fun h => by cases h⟩

theorem laid_met (os : Os) : laidMet Tryd.prog Rows.simpleEncodesRow.laid ((laidWorld os).forCall (fun _ _ => 0) ⟨#[], #[.slice none 0 0], []⟩).memory :=
  laidMet_of_run' 8 (by kernel_rfl) (by kernel_rfl)
theorem reads (os : Os) {H : Type} (enc : TypeId × Value → H) : ∃ places, DataW.whole enc Tryd.prog ((laidWorld os).forCall (fun _ _ => 0) ⟨#[], #[.slice none 0 0], []⟩).memory Tryd.f3.params.toList Rows.simpleEncodesSpec.vars false (#[.slice none 0 0] : Array Value).toList 8 = some ([.nil], [], places) :=
  ⟨[], by kernel_rfl⟩

set_option maxRecDepth 100000 in
theorem lifted (os : Os) (started : os.Started) (H : Type) (enc : TypeId × Value → H) (F : Stop.Interp) :
    ReturnsInHanded {} Tryd.checked os 3 .any ((OpenSpec.ofChange Rows.simpleEncodesSpec).preRow enc Tryd.prog Tryd.f3 Rows.simpleEncodesRow.domain false Rows.simpleEncodesRow.laid) (((OpenSpec.ofChange Rows.simpleEncodesSpec).at F).post enc Tryd.prog Tryd.f3 false true false false) := by
  obtain ⟨places, hx⟩ := reads os enc
  refine returnsInHanded_of_row (C := Tryd.checked) (s := OpenSpec.ofChange Rows.simpleEncodesSpec) own started (by kernel_rfl) Tryd.func3
    (witness_row_at (enc := enc) (C := Tryd.checked) false (laidWorld os) #[.slice none 0 0] rfl (by kernel_rfl) (by kernel_rfl) (by kernel_rfl)
      (OpenSpec.preRow_of_cond 8 hx (by kernel_rfl) (fun k hk => by cases hk) (by kernel_rfl) (laid_met os))) ?_
  intro W base args ds gs before hval hW _ _ _ hL _ _
  exact contract H enc W base args ds gs before hval hW hL

theorem said : Rows.SimpleEncodesSaid :=
  OpenClaim.holds_of_cond 3 Tryd.f3 rfl rfl rfl rfl rfl rfl rfl ⟨rfl, rfl, rfl, rfl, rfl⟩ rfl rfl rfl rfl rfl (by kernel_rfl) Tryd.func3 (by kernel_rfl)
    (of_decide_eq_true (by kernel_rfl)) (by unfold Func.isWrapper; first | (rw [if_pos (by decide +kernel)]; kernel_rfl) | (rw [if_neg (by decide +kernel)]; exact ⟨rfl, rfl⟩))
    (fun os started H enc _ F => by rw [OpenClaim.pre_eq_preRow]; exact lifted os started H enc F)

theorem plain (f : FuncId) (fn : Func) (hf : Tryd.pinned.checked.prog.funcNamed "corduroy/corduroylaw09.SimpleEncodes" = some f) (hfn : Tryd.pinned.checked.prog.funcs[f]? = some fn) :
    true = Tryd.pinned.checked.prog.looks [] ∧ ∀ (j : Nat) t, fn.params[j]? = some t → Tryd.pinned.checked.prog.wantsStandIn t = false := by
  obtain rfl : f = 3 := Option.some.inj ((show Tryd.prog.funcNamed "corduroy/corduroylaw09.SimpleEncodes" = some 3 by kernel_rfl).symm.trans hf) |>.symm
  obtain rfl : fn = Tryd.f3 := (Option.some.inj (Tryd.func3.symm.trans hfn)).symm
  refine ⟨by kernel_rfl, fun j t ht => ?_⟩
  rw [Tryd.params3] at ht
  have hm : t = 22 := by simpa using Array.mem_of_getElem? ht
  subst hm; exact (show Tryd.prog.wantsStandIn 22 = false by kernel_rfl)

/-- ████ THE CARD ████ -/
theorem card : Rows.SimpleEncodesCardSaid :=
  Claim7.holds_tied_plain_at .later [] _ _ _ _ said (fun _ h => by cases h) (by kernel_rfl) (fun _ h => by cases h) simpleEncodes_row_tie rfl ⟨rfl, rfl⟩ (by kernel_rfl) rfl plain (by kernel_rfl)
end Go.Proofs.YtelcaejiipibpaaDoor.simpleEncodes
