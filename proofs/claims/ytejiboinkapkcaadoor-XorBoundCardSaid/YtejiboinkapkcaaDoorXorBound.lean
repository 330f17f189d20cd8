/-
  THE STATEMENT corduroylaw22.XorBound: for any reals and one more the call returns true and leaves its argument as it was. Condition: the library's table for trailing noughts reads as its initialiser laid it (the card ties it).
-/
import Derived.Test.YtejiboinkapkcaaDoorCards
import Derived.Test.YtejiboinkapkcaaDoorTie
import Derived.Test.YtejiboinkapkcaaDoorXorD
import Derived.Test.YtejiboinkapkcaaDoorXorL
import Derived.Test.YtejiboinkapkcaaDoorIsRow
namespace Go.Proofs.YtejiboinkapkcaaDoor.xorBound
open Go.ChangeShapes Go.WideShapes Go.ChangeAt Go.RowKit
set_option linter.unusedVariables false
set_option linter.unusedSimpArgs false
theorem out_any (a : Option Addr) (n cap y : Nat) (hn : ¬ (1 ≤ n ∧ n ≤ 1023)) (w : World) :
    Calls Tryd.prog 7 #[.slice a n cap, .int .u64 y] w fun e w' => e = .returned (.bool true) ∧ Below w.heap.size w w' := by
  by_cases h1 : 1023 < n
  · have h' : (1023 : Int) < n := by omega
    go_enter Tryd.func7, Tryd.ntmps7
    go_wp2
    go_ret
    exact ⟨rfl, Below.refl _ _⟩
  · obtain rfl : n = 0 := by omega
    go_enter Tryd.func7, Tryd.ntmps7
    go_wp2
    go_ret
    exact ⟨rfl, Below.refl _ _⟩
/-- The numbers, and one more. -/
def lmore (n : Nat) (l : Nat → Nat) (y i : Nat) : Nat := if i < n then l i else y
theorem bounds (n : Nat) (l : Nat → Nat) (y : Nat) (hn1 : 1 ≤ n) (hn2 : n ≤ 1023) (hl : ∀ i, i < n → l i < 18446744073709551616) (hy : y < 18446744073709551616) :
    8 + ((n : Int) - 1 + 7) / 8 ≤ (xlen l n : Nat) ∧ (xlen l n : Int) ≤ 8 + (77 * ((n : Int) - 1) + 7) / 8 ∧ (xlen l n : Int) ≤ (xlen (lmore n l y) (n + 1) : Nat) ∧ (xlen (lmore n l y) (n + 1) : Int) ≤ (xlen l n : Nat) + 10 ∧ xlen l n ≤ 20000 := by
  unfold xlen
  rw [if_pos ⟨hn1, by omega⟩, if_pos ⟨by omega, by omega⟩, Nat.add_sub_cancel]
  have h1 := xrun_ok l (n - 1) (fun i hi => hl i (by omega)) (n - 1) (Nat.le_refl _)
  have h2 : xrun (lmore n l y) (n - 1) = xrun l (n - 1) := xrun_congr _ (fun i hi => by unfold lmore; rw [if_pos (by omega)])
  have h3 : xrun (lmore n l y) n = xstep (xrun (lmore n l y) (n - 1)) (lmore n l y n ^^^ lmore n l y (n - 1)) := by
    obtain ⟨m, rfl⟩ : ∃ m, n = m + 1 := ⟨n - 1, by omega⟩
    rfl
  rw [h2] at h3
  have h4 := xstep_ok h1.1 (x := lmore n l y n ^^^ lmore n l y (n - 1)) (xor_lt (by unfold lmore; rw [if_neg (by omega)]; exact hy) (by unfold lmore; rw [if_pos (by omega)]; exact hl _ (by omega)))
  rw [← h3] at h4
  generalize (xrun (lmore n l y) n).c = c' at *
  generalize (xrun l (n - 1)).c = c at *
  omega
theorem rowV_more (n : Nat) (l : Nat → Nat) (y : Nat) : rowV (fun i => Value.int .u64 (l i : Nat)) n ++ [.int .u64 (y : Nat)] = rowV (fun i => .int .u64 (lmore n l y i : Nat)) (n + 1) := by
  rw [rowV_succ]
  congr 1
  · exact rowV_congr fun i hi => by unfold lmore; rw [if_pos hi]
  · unfold lmore; rw [if_neg (by omega)]
/-- A row appended to an empty one of one's own, and one number more. -/
theorem append_more (a0 : Option Addr) (n cap : Nat) (l : Nat → Nat) (y : Nat) (hn : n ≤ 2000) (w : World) (H0 : RowOf (w.alloc (.cells #[] 41)) a0 n (fun i => .int .u64 (l i : Nat))) :
    ∃ v1 W1 a' c' W2, (Builtin.append_ #[22, 22] 22 #[.slice (some ⟨w.heap.size, 0, none⟩) 0 0, .slice a0 n cap]).run Tryd.prog (w.alloc (.cells #[] 41)) = .ok v1 W1 ∧
      (Builtin.append_ #[22, 22] 22 #[v1, .slice (some ⟨W1.heap.size, 0, none⟩) 1 1]).run Tryd.prog (W1.alloc (.cells #[.int .u64 (y : Nat)] 41)) = .ok (.slice a' (n + 1) c') W2 ∧ RowOf W2 a' (n + 1) (fun i => .int .u64 (lmore n l y i : Nat)) ∧ Below w.heap.size w W2 := by
  obtain ⟨i0, hi, hz0, hz1, hz2⟩ := info_parts u64Info
  have ho : (w.alloc (.cells #[] 41)).ownsRow w.heap.size 41 1 (.slice (some ⟨w.heap.size, 0, none⟩) 0 0) 0 [] := World.ownsRow_lit w #[] 0 (Nat.le_refl _) (by decide) rfl
  have hb0 : Below w.heap.size w (w.alloc (.cells #[] 41)) := (Below.refl _ _).alloc (Nat.le_refl _) _
  obtain ⟨v1, W1, r1, o1, g1, _⟩ := run_append_row (P := Tryd.prog) (w.alloc (.cells #[] 41)) w.heap.size 22 22 41 i0 (.int .u64 0) 8 Tryd.underlying22 hi hz0 hz1 hz2 rfl _ 0 [] ho a0 n cap _ H0 (fun i _ => rfl) (by unfold maxLen; omega) (by omega) (by simp)
  have hb1 : Below w.heap.size w W1 := hb0.grown g1 (by simp) (fun i hi => (ho.lt i hi).1)
  obtain ⟨v2, W2, r2, o2, g2, _⟩ := run_append_row (P := Tryd.prog) (W1.alloc (.cells #[.int .u64 (y : Nat)] 41)) w.heap.size 22 22 41 i0 (.int .u64 0) 8 Tryd.underlying22 hi hz0 hz1 hz2 rfl v1 _ _ (World.ownsRow.alloc o1 _) (some ⟨W1.heap.size, 0, none⟩) 1 1 (fun _ => .int .u64 (y : Nat)) (RowOf.lit W1 _ _ _ 1 rfl (fun i hi => by
    match i, hi with
    | 0, _ => rfl)) (fun i _ => rfl) (by unfold maxLen; omega) (by omega) (by have := hb1.size; simp; omega)
  have hb2 : Below w.heap.size w W2 := (hb1.alloc hb1.size _).grown g2 (by have := hb1.size; simp; omega) (fun i hi => (o1.lt i hi).1)
  rw [Nat.zero_add, List.nil_append, show rowV (fun _ => Value.int .u64 (y : Nat)) 1 = [.int .u64 (y : Nat)] from rfl, rowV_more] at o2
  obtain ⟨a', c', rfl, hr, _⟩ := own_reads' o2
  exact ⟨v1, W1, a', c', W2, r1, r2, hr, hb2⟩
set_option maxRecDepth 100000 in
set_option maxHeartbeats 2000000 in
theorem main (a : Option Addr) (n cap y : Nat) (l : Nat → Nat) (hl : ∀ i, i < n → l i < 18446744073709551616) (hy : y < 18446744073709551616) (hn1 : 1 ≤ n) (hn2 : n ≤ 1023) (w : World) (h : RowOf w a n (fun i => .int .u64 (l i : Nat))) (hT : Tab w) :
    Calls Tryd.prog 7 #[.slice a n cap, .int .u64 y] w fun e w' => e = .returned (.bool true) ∧ Below w.heap.size w w' := by
  have h1 : ¬ (1023 : Int) < n := by omega
  have h2 : ((n : Int) == 0) = false := by rw [beq_eq_false_iff_ne]; omega
  have h2' : ¬ (n : Int) = 0 := by omega
  have hlm : ∀ i, i < n + 1 → lmore n l y i < 18446744073709551616 := fun i hi => by
    unfold lmore
    split
    · exact hl i (by assumption)
    · exact hy
  obtain ⟨b1, b2, b3, b4, b5⟩ := bounds n l y hn1 hn2 hl hy
  have R0 := Lib.hid (reals_told a n cap l (by omega) w h)
  have S0 := Lib.hid (fun a c W hc hcm hr hb => xsize_any a n c l hl hc hcm W hr (hT.below hb))
  have R1 := Lib.hid (fun a c W hr => reals_told a (n + 1) c (lmore n l y) (by omega) W hr)
  have S1 := Lib.hid (fun a c W hc hcm hr hb => xsize_any a (n + 1) c (lmore n l y) hlm hc hcm W hr (hT.below hb))
  have AW := Lib.hid (fun W hb => awake22_any W (hT.below hb))
  have AP := Lib.hid (fun W (hb : Below w.heap.size w W) => append_more a n cap l y (by omega) W (h.below (hb.alloc hb.size _)))
  have HLM := Lib.hid (show ∃ f, lmore n l y = f from ⟨_, rfl⟩)
  clear h hT hl hlm
  generalize lmore n l y = l' at *
  generalize xlen l' (n + 1) = z at *
  generalize xlen l n = x at *
  clear HLM
  go_enter Tryd.func7, Tryd.ntmps7
  go_wp2_with (first
    | (go_at_call 8; refine R0.out.mono ?_; clear R0; rintro e w1 ⟨a6, c6, rfl, hr6, hc6, hm6, hb6⟩; have HR6 := Lib.hid hr6; have HC6 := Lib.hid (And.intro hc6 hm6); have HB6 := Lib.hid hb6; clear hr6 hc6 hm6 hb6)
    | (go_at_call 11; refine (S0.out _ _ _ HC6.out.1 HC6.out.2 HR6.out HB6.out).mono ?_; clear S0; rintro e w2 ⟨rfl, hb7⟩; obtain ⟨v1, W1, a', c', W2, r1, r2, hr8, hb8⟩ := AP.out w2 (HB6.out.trans (hb7.mono HB6.out.size)); have HRUN1 := Lib.hid r1; have HRUN2 := Lib.hid r2; have HR8 := Lib.hid hr8; have HB8 := Lib.hid ((HB6.out.trans (hb7.mono HB6.out.size)).trans (hb8.mono (HB6.out.trans (hb7.mono HB6.out.size)).size)); clear hb7 r1 r2 hr8 hb8)
    | (at_builtin; go_must (first | (refine wpList_append_ran _ _ rfl _ _ 22 rfl _ _ _ rfl rfl HRUN1.out ?_) | (refine wpList_append_ran _ _ rfl _ _ 22 rfl _ _ _ rfl rfl HRUN2.out ?_)))
    | (go_at_call 8; refine (R1.out _ _ _ HR8.out).mono ?_; rintro e w1 ⟨a9, c9, rfl, hr9, hc9, hm9, hb9⟩; have HR9 := Lib.hid hr9; have HC9 := Lib.hid (And.intro hc9 hm9); have HB9 := Lib.hid (HB8.out.trans (hb9.mono HB8.out.size)); clear hr9 hc9 hm9 hb9)
    | (go_at_call 11; refine (S1.out _ _ _ HC9.out.1 HC9.out.2 HR9.out HB9.out).mono ?_; rintro e w2 ⟨rfl, hb7⟩; have HB10 := Lib.hid (HB9.out.trans (hb7.mono HB9.out.size)); clear hb7)
    | (go_at_call 12; refine (AW.out _ HB10.out).mono ?_; rintro e w3 ⟨rfl, hb8⟩; have HB11 := Lib.hid (HB10.out.trans (hb8.mono HB10.out.size)); clear hb8))
  go_ret
  exact ⟨rfl, HB11.out⟩
theorem walk (a : Option Addr) (n cap : Nat) (zs : List Int) (a1 : Int) (W : World) (b : IsRow .u64 W a n cap zs) (b1 : 0 ≤ a1 ∧ a1 ≤ 18446744073709551615) (h5 : Tab W) :
    Calls Tryd.prog 7 #[.slice a n cap, .int .u64 a1] W fun e w' => e = .returned (.bool true) ∧ Below W.heap.size W w' := by
  obtain ⟨y, rfl⟩ : ∃ y : Nat, a1 = y := ⟨a1.toNat, by omega⟩
  obtain ⟨d1, d2, d3, d4, d5⟩ := b
  have hz : ∀ i, i < n → 0 ≤ zs.getD i 0 ∧ zs.getD i 0 ≤ 18446744073709551615 := fun i hi => by
    have := bounds_u64 (d4 (zs.getD i 0) (by rw [List.getD_eq_getElem?_getD, List.getElem?_eq_getElem (by omega)]; simp))
    omega
  have hr : RowOf W a n (fun i => .int .u64 ((zs.getD i 0).toNat : Nat)) := by
    rcases d5 with d5 | ⟨b, off, rfl, hb, hc⟩
    · exact .inl (by omega)
    · exact .inr ⟨b, off, rfl, fun i hi => by rw [hc i (by omega)]; show some (Value.int .u64 _) = some (Value.int .u64 _); rw [Int.toNat_of_nonneg (hz i hi).1]⟩
  by_cases hn : 1 ≤ n ∧ n ≤ 1023
  · exact main a n cap y (fun i => (zs.getD i 0).toNat) (fun i hi => by have := hz i hi; omega) (by omega) hn.1 hn.2 W hr h5
  · exact out_any a n cap y hn W
theorem own : ownKnob Tryd.prog.godebug = none := by kernel_rfl
set_option maxRecDepth 100000 in
theorem contract (H : Type) (enc : TypeId × Value → H) (W : World) (base : Nat) (args : Array Value) (ds gs : List (DataW H)) (before : List MemPlace)
    (hval : ∀ (j : Nat) t v, Tryd.f7.params[j]? = some t → args[j]? = some v → Value.okWide Tryd.prog W .any base t v)
    (hW : DataW.Whole enc Tryd.prog Tryd.f7.params.toList Rows.xorBoundSpec.vars false W args.toList ds gs before) (hL : laidMetH Tryd.prog Rows.xorBoundRow.laid W) :
    Calls Tryd.prog 7 args W fun e W' => ∃ v, e = .returned v ∧ Rows.xorBoundSpec.post enc Tryd.prog Tryd.f7 false true false false W args v W' := by
  have hW' := hW
  obtain ⟨p, q, hA0, hV, rfl, hfz, hnd⟩ := hW
  have hA : DataW.TrodAll enc Tryd.prog W 0 (fun _ => true) true Tryd.f7.params.toList args.toList ds p := hA0
  rw [Tryd.params7] at hA hval
  obtain ⟨v0, vs0, d0, ds0, p0, q0, hargs, rfl, rfl, h0, r0⟩ := trodAll_cons hA
  obtain ⟨v1, vs1, d1, ds1, p1, q1, rfl, rfl, rfl, h1, r1⟩ := trodAll_cons r0
  obtain ⟨rfl, rfl, rfl⟩ := trodAll_nil r1
  obtain rfl : args = #[v0, v1] := by cases args; simp_all
  obtain ⟨rfl, rfl⟩ := trodVars_none hV
  have hWhole := hW'
  obtain ⟨a0, len0, cap0, rfl⟩ := okWide_slice Tryd.underlying22 (hval 0 22 v0 rfl rfl)
  have k0 := h0
  have lt0 : ∀ x ∈ p0, x.block < W.heap.size := by obtain ⟨m, hm⟩ := k0; exact DataW.trod_lt m _ _ _ hm
  obtain ⟨z0, b0⟩ : ∃ zs, IsRow .u64 W a0 len0 cap0 zs := by
    obtain ⟨fuel, hf⟩ := h0
    rcases open_ints Tryd.underlying22 Tryd.underlying41 (by kernel_rfl) hf with ⟨hcs, _⟩ | ⟨x, l, c, zs, hcs, _, hl, hm, hz, _, hcell, hwz⟩
    · simp [Value.cells] at hcs
      obtain ⟨rfl, rfl, rfl⟩ := hcs
      exact ⟨[], isRow_nil _ _⟩
    · simp [Value.cells] at hcs
      obtain ⟨rfl, rfl, rfl⟩ := hcs
      exact ⟨zs, isRow_of hl hm (by simpa using hz) hcell hwz⟩
  obtain ⟨a1, rfl, rfl, rfl, w1⟩ := open_int Tryd.underlying41 (hval 1 41 v1 rfl rfl) h1
  have b1 := bounds_u64 w1
  clear hA0
  have h5 : Tab W := tab_of hL
  refine (walk a0 len0 cap0 z0 a1 W b0 b1 h5).mono fun e W' ⟨he, hg⟩ => ?_
  subst he
  exact ⟨_, rfl, _, _, _, [], _, [], hW', trodAll_mk1 (shut_bool Tryd.underlying4 _), (trodAll_cons_mk (Below.trod laidOut (by kernel_rfl) (of_decide_eq_true (by kernel_rfl)) k0 hg lt0) (trodAll_cons_mk (shut_int Tryd.underlying41 w1) trodAll_mk0)), rfl, hg.frame _, fun h => by cases h⟩

theorem laid_met (os : Os) : laidMet Tryd.prog Rows.xorBoundRow.laid ((laidWorld os).forCall (fun _ _ => 0) ⟨#[], #[.slice none 0 0, .int .u64 0], []⟩).memory :=
  laidMet_of_run' 8 (by kernel_rfl) (by kernel_rfl)
theorem reads (os : Os) {H : Type} (enc : TypeId × Value → H) : ∃ places, DataW.whole enc Tryd.prog ((laidWorld os).forCall (fun _ _ => 0) ⟨#[], #[.slice none 0 0, .int .u64 0], []⟩).memory Tryd.f7.params.toList Rows.xorBoundSpec.vars false (#[.slice none 0 0, .int .u64 0] : Array Value).toList 8 = some ([.nil, .lit (.int .u64 0)], [], places) :=
  ⟨[], by kernel_rfl⟩

set_option maxRecDepth 100000 in
theorem lifted (os : Os) (started : os.Started) (H : Type) (enc : TypeId × Value → H) (F : Stop.Interp) :
    ReturnsInHanded {} Tryd.checked os 7 .any ((OpenSpec.ofChange Rows.xorBoundSpec).preRow enc Tryd.prog Tryd.f7 Rows.xorBoundRow.domain false Rows.xorBoundRow.laid) (((OpenSpec.ofChange Rows.xorBoundSpec).at F).post enc Tryd.prog Tryd.f7 false true false false) := by
  obtain ⟨places, hx⟩ := reads os enc
  refine returnsInHanded_of_row (C := Tryd.checked) (s := OpenSpec.ofChange Rows.xorBoundSpec) own started (by kernel_rfl) Tryd.func7
    (witness_row_at (enc := enc) (C := Tryd.checked) false (laidWorld os) #[.slice none 0 0, .int .u64 0] rfl (by kernel_rfl) (by kernel_rfl) (by kernel_rfl)
      (OpenSpec.preRow_of_cond 8 hx (by kernel_rfl) (fun k hk => by cases hk) (by kernel_rfl) (laid_met os))) ?_
  intro W base args ds gs before hval hW _ _ _ hL _ _
  exact contract H enc W base args ds gs before hval hW hL

theorem said : Rows.XorBoundSaid :=
  OpenClaim.holds_of_cond 7 Tryd.f7 rfl rfl rfl rfl rfl rfl rfl ⟨rfl, rfl, rfl, rfl, rfl⟩ rfl rfl rfl rfl rfl (by kernel_rfl) Tryd.func7 (by kernel_rfl)
    (of_decide_eq_true (by kernel_rfl)) (by unfold Func.isWrapper; first | (rw [if_pos (by decide +kernel)]; kernel_rfl) | (rw [if_neg (by decide +kernel)]; exact ⟨rfl, rfl⟩))
    (fun os started H enc _ F => by rw [OpenClaim.pre_eq_preRow]; exact lifted os started H enc F)

theorem plain (f : FuncId) (fn : Func) (hf : Tryd.pinned.checked.prog.funcNamed "corduroy/corduroylaw22.XorBound" = some f) (hfn : Tryd.pinned.checked.prog.funcs[f]? = some fn) :
    true = Tryd.pinned.checked.prog.looks [] ∧ ∀ (j : Nat) t, fn.params[j]? = some t → Tryd.pinned.checked.prog.wantsStandIn t = false := by
  obtain rfl : f = 7 := Option.some.inj ((show Tryd.prog.funcNamed "corduroy/corduroylaw22.XorBound" = some 7 by kernel_rfl).symm.trans hf) |>.symm
  obtain rfl : fn = Tryd.f7 := (Option.some.inj (Tryd.func7.symm.trans hfn)).symm
  refine ⟨by kernel_rfl, fun j t ht => ?_⟩
  rw [Tryd.params7] at ht
  have hm : t = 22 ∨ t = 41 := by simpa [or_assoc] using Array.mem_of_getElem? ht
  rcases hm with rfl | rfl
  · exact (show Tryd.prog.wantsStandIn 22 = false by kernel_rfl)
  · exact (show Tryd.prog.wantsStandIn 41 = false by kernel_rfl)

/-- ████ THE CARD ████ -/
theorem card : Rows.XorBoundCardSaid :=
  Claim7.holds_tied_plain_at .later [] _ _ _ _ said (fun _ h => by cases h) (by kernel_rfl) (fun _ h => by cases h) xorBound_row_tie rfl ⟨rfl, rfl⟩ (by kernel_rfl) rfl plain (by kernel_rfl)
end Go.Proofs.YtejiboinkapkcaaDoor.xorBound
