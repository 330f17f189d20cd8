/-
  THE STATEMENT corduroylaw10.HybridDecodes: for any bytes and any count the call returns true and leaves its argument as it was. No condition.
-/
import Derived.Test.YthonjffojaljdaaHybI
import Derived.Test.YthonjffojaljdaaHybM2
import Derived.Test.YthonjffojaljdaaSameI
import Derived.Test.YthonjffojaljdaaIsRow
namespace Go.Proofs.Ythonjffojaljdaa.hybridDecodes
open Go.ChangeShapes Go.WideShapes Go.ChangeAt Go.RowKit
set_option linter.unusedVariables false
theorem long (a : Option Addr) (nb cap : Nat) (n : Int) (hl : 9000 < nb) (W : World) :
    Calls Try.prog 4 #[.slice a nb cap, .int .i64 n] W fun e w' => e = .returned (.bool true) ∧ Below W.heap.size W w' := by
  have h1 : (9000 : Int) < nb := by omega
  clear hl
  go_enter Try.func4, Try.ntmps4
  go_wp2
  go_ret
  exact ⟨rfl, Below.refl _ _⟩
/-- What follows is the same whatever the decoder and the document tell, as long as they agree. -/
theorem both (a : Option Addr) (nb cap : Nat) (n : Int) (hl : ¬ 9000 < nb) (ys : List Int) (hys : ys.length ≤ 100000) (r : Int) (W : World)
    (hd : Calls Try.prog 15 #[.agg #[], .slice a nb cap, .int .i64 n] W fun e w' => ∃ a c, e = .returned (.tuple #[.slice a ys.length c, .int .i64 r]) ∧ RowOf w' a ys.length (fun i => .int .i64 (ys.getD i 0)) ∧ Below W.heap.size W w')
    (hr : ∀ W1, Below W.heap.size W W1 → Calls Try.prog 16 #[.slice a nb cap, .int .i64 n] W1 fun e w' => ∃ a c, e = .returned (.tuple #[.slice a ys.length c, .int .i64 r]) ∧ RowOf w' a ys.length (fun i => .int .i64 (ys.getD i 0)) ∧ Below W1.heap.size W1 w') :
    Calls Try.prog 4 #[.slice a nb cap, .int .i64 n] W fun e w' => e = .returned (.bool true) ∧ Below W.heap.size W w' := by
  have h1 : ¬ (9000 : Int) < nb := by omega
  have HD := Lib.hid hd
  have HR := Lib.hid hr
  have AW := Lib.hid (fun W => awake10_any W)
  have SM := Lib.hid (fun (a1 a2 : Option Addr) (c1 c2 : Nat) W (h1 : RowOf W a1 ys.length (fun i => .int .i64 (ys.getD i 0))) (h2 : RowOf W a2 ys.length (fun i => .int .i64 (ys.getD i 0))) => samei a1 a2 ys.length ys.length c1 c2 _ _ hys W h1 h2 true (by simp))
  have e1 : (r == r) = true := by simp
  clear hl hd hr hys
  go_enter Try.func4, Try.ntmps4
  go_wp2_with (first
    | (go_at_call 15; refine HD.out.mono ?_; rintro e w1 ⟨a1, c1, rfl, hr1, hb1⟩; have RD := Lib.hid (HR.out w1 hb1); have HR1 := Lib.hid hr1; have HB1 := Lib.hid hb1; clear hr1 hb1)
    | (go_at_call 16; refine RD.out.mono ?_; rintro e w2 ⟨a2, c2, rfl, hr2, hb2⟩; have HR2 := Lib.hid hr2; have HB2 := Lib.hid hb2; clear hr2 hb2)
    | (go_at_call 17; refine (SM.out _ _ _ _ _ (HR1.out.below HB2.out) HR2.out).mono ?_; rintro e w3 ⟨rfl, hb3⟩; have HB3 := Lib.hid hb3; clear hb3)
    | (go_at_call 14; refine (AW.out _).mono ?_; rintro e w5 ⟨rfl, hb5⟩; have HB5 := Lib.hid hb5; clear hb5))
  go_ret
  have s1 := HB1.out.size
  have s2 := HB2.out.size
  have s3 := HB3.out.size
  exact ⟨rfl, ((HB1.out.trans (HB2.out.mono (by omega))).trans (HB3.out.mono (by omega))).trans (HB5.out.mono (by omega))⟩
theorem walk (a : Option Addr) (nb cap : Nat) (zs : List Int) (n : Int) (W : World) (b : IsRow .u8 W a nb cap zs) (bn : -9223372036854775808 ≤ n ∧ n ≤ 9223372036854775807) :
    Calls Try.prog 4 #[.slice a nb cap, .int .i64 n] W fun e w' => e = .returned (.bool true) ∧ Below W.heap.size W w' := by
  obtain ⟨b1, b2, b3, b4, b5⟩ := b
  by_cases hl : 9000 < nb
  · exact long a nb cap n hl W
  have hrow : RowOf W a nb (fun i => .int .u8 (zs.getD i 0)) := by
    rcases b5 with b5 | ⟨b, off, rfl, hb, hc⟩
    · exact .inl (by omega)
    · exact .inr ⟨b, off, rfl, fun i hi => hc i (by omega)⟩
  have hz : ∀ i, i < nb → 0 ≤ zs.getD i 0 ∧ zs.getD i 0 ≤ 255 := fun i hi =>
    bounds_u8 (b4 (zs.getD i 0) (by rw [List.getD_eq_getElem?_getD, List.getElem?_eq_getElem (by omega)]; simp))
  cases hb : blk n
  · exact both a nb cap n hl [] (by simp) 7 W ((hdecode_out a nb cap n hb W).mono fun e w' ⟨he, hw⟩ => ⟨none, 0, he, .inl rfl, hw⟩)
      (fun W1 hW => (rhdecode_out a nb cap n hb W1).mono fun e w' ⟨he, hw⟩ => by subst hw; exact ⟨none, 0, he, .inl rfl, Below.refl _ _⟩)
  · have hn := of_decide_eq_true hb
    obtain ⟨m, rfl⟩ : ∃ m : Nat, n = m := ⟨n.toNat, by omega⟩
    refine both a nb cap m hl (hnums (fun i => zs.getD i 0) m nb) ?_ (herr (fun i => zs.getD i 0) m nb) W (hdecode_in a nb cap m _ hz (by omega) hb W hrow) (fun W1 hW => rhdecode_in a nb cap m _ hz (by omega) b1 b2 hb W1 (hrow.below hW))
    unfold hnums rnums
    split
    · have := hres_len (fun i => zs.getD i 0) nb m; omega
    · simp
theorem own : ownKnob Try.prog.godebug = none := by kernel_rfl
set_option maxRecDepth 100000 in
theorem contract (H : Type) (enc : TypeId × Value → H) (W : World) (base : Nat) (args : Array Value) (ds gs : List (DataW H)) (before : List MemPlace)
    (hval : ∀ (j : Nat) t v, Try.f4.params[j]? = some t → args[j]? = some v → Value.okWide Try.prog W .any base t v)
    (hW : DataW.Whole enc Try.prog Try.f4.params.toList Rows.hybridDecodesSpec.vars false W args.toList ds gs before) :
    Calls Try.prog 4 args W fun e W' => ∃ v, e = .returned v ∧ Rows.hybridDecodesSpec.post enc Try.prog Try.f4 false true false false W args v W' := by
  have hW' := hW
  obtain ⟨p, q, hA0, hV, rfl, hfz, hnd⟩ := hW
  have hA : DataW.TrodAll enc Try.prog W 0 (fun _ => true) true Try.f4.params.toList args.toList ds p := hA0
  rw [Try.params4] at hA hval
  obtain ⟨v0, vs0, d0, ds0, p0, q0, hargs, rfl, rfl, h0, r0⟩ := trodAll_cons hA
  obtain ⟨v1, vs1, d1, ds1, p1, q1, rfl, rfl, rfl, h1, r1⟩ := trodAll_cons r0
  obtain ⟨rfl, rfl, rfl⟩ := trodAll_nil r1
  obtain rfl : args = #[v0, v1] := by cases args; simp_all
  obtain ⟨rfl, rfl⟩ := trodVars_none hV
  have hWhole := hW'
  obtain ⟨a0, len0, cap0, rfl⟩ := okWide_slice Try.underlying26 (hval 0 26 v0 rfl rfl)
  have k0 := h0
  have lt0 : ∀ x ∈ p0, x.block < W.heap.size := by obtain ⟨m, hm⟩ := k0; exact DataW.trod_lt m _ _ _ hm
  obtain ⟨z0, b0⟩ : ∃ zs, IsRow .u8 W a0 len0 cap0 zs := by
    obtain ⟨fuel, hf⟩ := h0
    rcases open_ints Try.underlying26 Try.underlying5 (by kernel_rfl) hf with ⟨hcs, _⟩ | ⟨x, l, c, zs, hcs, _, hl, hm, hz, _, hcell, hwz⟩
    · simp [Value.cells] at hcs
      obtain ⟨rfl, rfl, rfl⟩ := hcs
      exact ⟨[], isRow_nil _ _⟩
    · simp [Value.cells] at hcs
      obtain ⟨rfl, rfl, rfl⟩ := hcs
      exact ⟨zs, isRow_of hl hm (by simpa using hz) hcell hwz⟩
  obtain ⟨a1, rfl, rfl, rfl, w1⟩ := open_int Try.underlying3 (hval 1 3 v1 rfl rfl) h1
  have b1 := bounds_i64 w1
  clear hA0
  refine (walk a0 len0 cap0 z0 a1 W b0 b1).mono fun e W' ⟨he, hg⟩ => ?_
  subst he
  exact ⟨_, rfl, _, _, _, [], _, [], hW', trodAll_mk1 (shut_bool Try.underlying4 _), (trodAll_cons_mk (Below.trod laidOut (by kernel_rfl) (of_decide_eq_true (by kernel_rfl)) k0 hg lt0) (trodAll_cons_mk (shut_int Try.underlying3 w1) trodAll_mk0)), rfl, hg.frame _, fun h => by cases h⟩

set_option maxRecDepth 100000 in
theorem lifted (os : Os) (started : os.Started) (H : Type) (enc : TypeId × Value → H) :
    ReturnsInHanded {} Try.checked os 4 .any (Rows.hybridDecodesSpec.pre6 enc Try.prog Try.f4 Rows.hybridDecodesRow.domain false) (Rows.hybridDecodesSpec.post enc Try.prog Try.f4 false true false false) := by
  refine returnsInHanded_of_change (C := Try.checked) own started (by kernel_rfl) Try.func4
    (ChangeSpec.witness6 (enc := enc) (C := Try.checked) false ⟨#[], #[.slice none 0 0, .int .i64 0], []⟩ 8 (by kernel_rfl) (by kernel_rfl) (by kernel_rfl) (by kernel_rfl)) ?_
  intro W base args ds gs before hval hW _ _
  exact contract H enc W base args ds gs before hval hW

/-- ████ THE STATEMENT ████ -/
theorem proved : Rows.HybridDecodesSaid :=
  OpenClaim.holds_of_wide 4 Try.f4 rfl rfl rfl rfl rfl rfl rfl ⟨rfl, rfl, rfl, rfl, rfl⟩ rfl rfl rfl rfl rfl (by kernel_rfl) Try.func4 (by kernel_rfl)
    (of_decide_eq_true (by kernel_rfl)) (by unfold Func.isWrapper; first | (rw [if_pos (by decide +kernel)]; kernel_rfl) | (rw [if_neg (by decide +kernel)]; exact ⟨rfl, rfl⟩))
    (fun os started H enc _ => lifted os started H enc)
end Go.Proofs.Ythonjffojaljdaa.hybridDecodes
