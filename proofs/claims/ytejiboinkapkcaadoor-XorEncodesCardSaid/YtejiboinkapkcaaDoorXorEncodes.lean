/-
  THE STATEMENT corduroylaw22.XorEncodes: for any reals the call returns true and leaves its argument as it was. Condition: the library's table for trailing noughts reads as its initialiser laid it (the card ties it).
-/
import Derived.Test.YtejiboinkapkcaaDoorCards
import Derived.Test.YtejiboinkapkcaaDoorTie
import Derived.Test.YtejiboinkapkcaaDoorXorD
import Derived.Test.YtejiboinkapkcaaDoorXorL
import Derived.Test.YtejiboinkapkcaaDoorXorE
import Derived.Test.YtejiboinkapkcaaDoorIsRow
namespace Go.Proofs.YtejiboinkapkcaaDoor.xorEncodes
open Go.ChangeShapes Go.WideShapes Go.ChangeAt Go.RowKit
set_option linter.unusedVariables false
set_option linter.unusedSimpArgs false
theorem rblock_any (n : Int) (w : World) : Calls Tryd.prog 10 #[.int .i64 n] w fun e w' => e = .returned (.bool (decide (1 ≤ n ∧ n ≤ 1024))) ∧ w = w' := by
  by_cases h1 : 1 ≤ n
  · by_cases h2 : n ≤ 1024
    · rw [decide_eq_true (And.intro h1 h2)]
      go_enter Tryd.func10, Tryd.ntmps10
      go_wp2
      go_ret
      exact ⟨rfl, rfl⟩
    · rw [decide_eq_false (fun h => h2 h.2)]
      go_enter Tryd.func10, Tryd.ntmps10
      go_wp2
      go_ret
      exact ⟨rfl, rfl⟩
  · rw [decide_eq_false (fun h => h1 h.1)]
    go_enter Tryd.func10, Tryd.ntmps10
    go_wp2
    go_ret
    exact ⟨rfl, rfl⟩
theorem long (a : Option Addr) (n cap : Nat) (hn : 1100 < n) (w : World) :
    Calls Tryd.prog 3 #[.slice a n cap] w fun e w' => e = .returned (.bool true) ∧ Below w.heap.size w w' := by
  have h' : (1100 : Int) < n := by omega
  go_enter Tryd.func3, Tryd.ntmps3
  go_wp2
  go_ret
  exact ⟨rfl, Below.refl _ _⟩
set_option maxRecDepth 100000 in
set_option maxHeartbeats 2000000 in
theorem main_out (a : Option Addr) (n cap : Nat) (l : Nat → Nat) (hl : ∀ i, i < n → l i < 18446744073709551616) (hn : n ≤ 1100) (ho : ¬ (1 ≤ n ∧ n ≤ 1024)) (w : World) (h : RowOf w a n (fun i => .int .u64 (l i : Nat))) (hT : Tab w) :
    Calls Tryd.prog 3 #[.slice a n cap] w fun e w' => e = .returned (.bool true) ∧ Below w.heap.size w w' := by
  have h1 : ¬ (1100 : Int) < n := by omega
  have R0 := Lib.hid (reals_told a n cap l (by omega) w h)
  have EN := Lib.hid (fun a c W => xencode_out a n c ho W)
  have BK := rblock_any n
  rw [decide_eq_false (by omega)] at BK
  have BK := Lib.hid BK
  have S0 := fun a c W hc hcm hr hb => xsize_any a n c l hl hc hcm W hr (hT.below hb)
  have hx : xlen l n = 0 := by unfold xlen; rw [if_neg ho]
  rw [hx] at S0
  have S0 := Lib.hid S0
  have AW := Lib.hid (fun W hb => awake22_any W (hT.below hb))
  clear h hT hl hx
  go_enter Tryd.func3, Tryd.ntmps3
  go_wp2_with (first
    | (go_at_call 8; refine R0.out.mono ?_; rintro e w1 ⟨a6, c6, rfl, hr6, hc6, hm6, hb6⟩; have HR6 := Lib.hid hr6; have HC6 := Lib.hid (And.intro hc6 hm6); have HB6 := Lib.hid hb6; clear hr6 hc6 hm6 hb6)
    | (go_at_call 9; refine (EN.out _ _ _).mono ?_; rintro e w2 ⟨rfl, rfl⟩)
    | (go_at_call 10; refine (BK.out _).mono ?_; rintro e w2 ⟨rfl, rfl⟩)
    | (go_at_call 11; refine (S0.out _ _ _ HC6.out.1 HC6.out.2 HR6.out HB6.out).mono ?_; rintro e w2 ⟨rfl, hb7⟩; have HB7 := Lib.hid (HB6.out.trans (hb7.mono HB6.out.size)); clear hb7)
    | (go_at_call 12; refine (AW.out _ HB7.out).mono ?_; rintro e w3 ⟨rfl, hb8⟩; have HB8 := Lib.hid (HB7.out.trans (hb8.mono HB7.out.size)); clear hb8))
  go_ret
  exact ⟨rfl, HB8.out⟩
set_option maxRecDepth 100000 in
set_option maxHeartbeats 2000000 in
theorem main_in (a : Option Addr) (n cap : Nat) (l : Nat → Nat) (hl : ∀ i, i < n → l i < 18446744073709551616) (hn1 : 1 ≤ n) (hn : n ≤ 1024) (w : World) (h : RowOf w a n (fun i => .int .u64 (l i : Nat))) (hT : Tab w) :
    Calls Tryd.prog 3 #[.slice a n cap] w fun e w' => e = .returned (.bool true) ∧ Below w.heap.size w w' := by
  have h1 : ¬ (1100 : Int) < n := by omega
  have R0 := Lib.hid (reals_told a n cap l (by omega) w h)
  have EN := fun a c W hc hcm hr hb => xencode_any a n c l hl hn1 hn hc hcm W hr (hT.below hb)
  unfold XEnd at EN
  have RE := fun W (hb : Below w.heap.size w W) => rxencode_any a n cap l hl hn1 hn W (h.below hb)
  have BK := rblock_any n
  rw [decide_eq_true (by omega)] at BK
  have BK := Lib.hid BK
  have S0 := fun a c W hc hcm hr hb => xsize_any a n c l hl hc hcm W hr (hT.below hb)
  have hx : xlen l n = ((xrun l (n - 1)).c + 7) / 8 := by unfold xlen; rw [if_pos ⟨hn1, hn⟩]
  rw [hx] at S0
  have S0 := Lib.hid S0
  have hlen : (bytesOf (((xrun l (n - 1)).c + 7) / 8) (xrun l (n - 1)).N).length = ((xrun l (n - 1)).c + 7) / 8 := bytesOf_length _ _
  have EN := Lib.hid EN
  have RE := Lib.hid RE
  have AW := Lib.hid (fun W hb => awake22_any W (hT.below hb))
  clear h hT hl hx
  generalize bytesOf (((xrun l (n - 1)).c + 7) / 8) (xrun l (n - 1)).N = xs at *
  generalize ((xrun l (n - 1)).c + 7) / 8 = m at *
  have HLN := Lib.hid hlen
  clear hlen
  go_enter Tryd.func3, Tryd.ntmps3
  go_wp2_with (first
    | (go_at_call 8; refine R0.out.mono ?_; rintro e w1 ⟨a6, c6, rfl, hr6, hc6, hm6, hb6⟩; have HR6 := Lib.hid hr6; have HC6 := Lib.hid (And.intro hc6 hm6); have HB6 := Lib.hid hb6; clear hr6 hc6 hm6 hb6)
    | (go_at_call 9; refine (EN.out _ _ _ HC6.out.1 HC6.out.2 HR6.out HB6.out).mono ?_; rintro e w2 ⟨v2, rfl, ho2, hb2⟩; obtain ⟨a7, c7, rfl, hr7, _, _⟩ := own_bytes ho2; have HR7 := Lib.hid hr7; have HR6b := Lib.hid (HR6.out.below hb2); have HB7 := Lib.hid (HB6.out.trans (hb2.mono HB6.out.size)); clear ho2 hr7 hb2)
    | (go_at_call 10; refine (BK.out _).mono ?_; rintro e w3 ⟨rfl, rfl⟩)
    | (go_at_call 13; refine (RE.out _ HB7.out).mono ?_; rintro e w4 ⟨v4, rfl, ho4, hb4⟩; obtain ⟨a8, c8, rfl, hr8, _, _⟩ := own_bytes ho4; have hr7b := HR7.out.below hb4; have cv1 := conv_list a7 m c7 xs HLN.out w4 hr7b; have cv2 := conv_list a8 m c8 xs HLN.out w4 hr8; have HR6c := Lib.hid (HR6b.out.below hb4); have HB8 := Lib.hid (HB7.out.trans (hb4.mono HB7.out.size)); clear ho4 hr8 hr7b hb4)
    | (go_at_call 11; refine (S0.out _ _ _ HC6.out.1 HC6.out.2 HR6c.out HB8.out).mono ?_; rintro e w2 ⟨rfl, hb7⟩; have HB9 := Lib.hid (HB8.out.trans (hb7.mono HB8.out.size)); clear hb7)
    | (go_at_call 12; refine (AW.out _ HB9.out).mono ?_; rintro e w3 ⟨rfl, hb8⟩; have HB10 := Lib.hid (HB9.out.trans (hb8.mono HB9.out.size)); clear hb8))
  go_ret
  exact ⟨rfl, HB10.out⟩
theorem walk (a : Option Addr) (n cap : Nat) (zs : List Int) (W : World) (b : IsRow .u64 W a n cap zs) (h5 : Tab W) :
    Calls Tryd.prog 3 #[.slice a n cap] W fun e w' => e = .returned (.bool true) ∧ Below W.heap.size W w' := by
  obtain ⟨d1, d2, d3, d4, d5⟩ := b
  have hz : ∀ i, i < n → 0 ≤ zs.getD i 0 ∧ zs.getD i 0 ≤ 18446744073709551615 := fun i hi => by
    have := bounds_u64 (d4 (zs.getD i 0) (by rw [List.getD_eq_getElem?_getD, List.getElem?_eq_getElem (by omega)]; simp))
    omega
  have hr : RowOf W a n (fun i => .int .u64 ((zs.getD i 0).toNat : Nat)) := by
    rcases d5 with d5 | ⟨b, off, rfl, hb, hc⟩
    · exact .inl (by omega)
    · exact .inr ⟨b, off, rfl, fun i hi => by rw [hc i (by omega)]; show some (Value.int .u64 _) = some (Value.int .u64 _); rw [Int.toNat_of_nonneg (hz i hi).1]⟩
  by_cases hl : 1100 < n
  · exact long a n cap hl W
  by_cases hn : 1 ≤ n ∧ n ≤ 1024
  · exact main_in a n cap (fun i => (zs.getD i 0).toNat) (fun i hi => by have := hz i hi; omega) hn.1 hn.2 W hr h5
  · exact main_out a n cap (fun i => (zs.getD i 0).toNat) (fun i hi => by have := hz i hi; omega) (by omega) hn W hr h5
theorem own : ownKnob Tryd.prog.godebug = none := by kernel_rfl
set_option maxRecDepth 100000 in
theorem contract (H : Type) (enc : TypeId × Value → H) (W : World) (base : Nat) (args : Array Value) (ds gs : List (DataW H)) (before : List MemPlace)
    (hval : ∀ (j : Nat) t v, Tryd.f3.params[j]? = some t → args[j]? = some v → Value.okWide Tryd.prog W .any base t v)
    (hW : DataW.Whole enc Tryd.prog Tryd.f3.params.toList Rows.xorEncodesSpec.vars false W args.toList ds gs before) (hL : laidMetH Tryd.prog Rows.xorEncodesRow.laid W) :
    Calls Tryd.prog 3 args W fun e W' => ∃ v, e = .returned v ∧ Rows.xorEncodesSpec.post enc Tryd.prog Tryd.f3 false true false false W args v W' := by
  have hW' := hW
  obtain ⟨p, q, hA0, hV, rfl, hfz, hnd⟩ := hW
  have hA : DataW.TrodAll enc Tryd.prog W 0 (fun _ => true) true Tryd.f3.params.toList args.toList ds p := hA0
  rw [Tryd.params3] at hA hval
  obtain ⟨v0, vs0, d0, ds0, p0, q0, hargs, rfl, rfl, h0, r0⟩ := trodAll_cons hA
  obtain ⟨rfl, rfl, rfl⟩ := trodAll_nil r0
  obtain rfl : args = #[v0] := by cases args; simp_all
  obtain ⟨rfl, rfl⟩ := trodVars_none hV
  have hWhole := hW'
  obtain ⟨a0, len0, cap0, rfl⟩ := okWide_slice Tryd.underlying22 (hval 0 22 v0 rfl rfl)
  have k0 := h0
  have lt0 : ∀ x ∈ p0, x.block < W.heap.size := by obtain ⟨m, hm⟩ := k0; exact DataW.trod_lt m _ _ _ hm
  obtain ⟨z0, b0⟩ : ∃ zs, IsRow .u64 W a0 len0 cap0 zs := by
    obtain ⟨fuel, hf⟩ := h0
    rcases open_ints Tryd.underlying22 Tryd.underlying41 (by kernel_rfl) hf with ⟨hcs, _⟩ | ⟨x, l, c, zs, hcs, _, hl, hm, hz, _, hcell, hwz⟩
    · simp [Value.cells] at hcs
      obtain ⟨rfl, rfl, rfl⟩ := hcs
      exact ⟨[], isRow_nil _ _⟩
    · simp [Value.cells] at hcs
      obtain ⟨rfl, rfl, rfl⟩ := hcs
      exact ⟨zs, isRow_of hl hm (by simpa using hz) hcell hwz⟩
  clear hA0
  have h5 : Tab W := tab_of hL
  refine (walk a0 len0 cap0 z0 W b0 h5).mono fun e W' ⟨he, hg⟩ => ?_
  subst he
  exact ⟨_, rfl, _, _, _, [], _, [], hW', trodAll_mk1 (shut_bool Tryd.underlying4 _), (trodAll_cons_mk (Below.trod laidOut (by kernel_rfl) (of_decide_eq_true (by kernel_rfl)) k0 hg lt0) trodAll_mk0), rfl, hg.frame _, fun h => by cases h⟩

theorem laid_met (os : Os) : laidMet Tryd.prog Rows.xorEncodesRow.laid ((laidWorld os).forCall (fun _ _ => 0) ⟨#[], #[.slice none 0 0], []⟩).memory :=
  laidMet_of_run' 8 (by kernel_rfl) (by kernel_rfl)
theorem reads (os : Os) {H : Type} (enc : TypeId × Value → H) : ∃ places, DataW.whole enc Tryd.prog ((laidWorld os).forCall (fun _ _ => 0) ⟨#[], #[.slice none 0 0], []⟩).memory Tryd.f3.params.toList Rows.xorEncodesSpec.vars false (#[.slice none 0 0] : Array Value).toList 8 = some ([.nil], [], places) :=
  ⟨[], by kernel_rfl⟩

set_option maxRecDepth 100000 in
theorem lifted (os : Os) (started : os.Started) (H : Type) (enc : TypeId × Value → H) (F : Stop.Interp) :
    ReturnsInHanded {} Tryd.checked os 3 .any ((OpenSpec.ofChange Rows.xorEncodesSpec).preRow enc Tryd.prog Tryd.f3 Rows.xorEncodesRow.domain false Rows.xorEncodesRow.laid) (((OpenSpec.ofChange Rows.xorEncodesSpec).at F).post enc Tryd.prog Tryd.f3 false true false false) := by
  obtain ⟨places, hx⟩ := reads os enc
  refine returnsInHanded_of_row (C := Tryd.checked) (s := OpenSpec.ofChange Rows.xorEncodesSpec) own started (by kernel_rfl) Tryd.func3
    (witness_row_at (enc := enc) (C := Tryd.checked) false (laidWorld os) #[.slice none 0 0] rfl (by kernel_rfl) (by kernel_rfl) (by kernel_rfl)
      (OpenSpec.preRow_of_cond 8 hx (by kernel_rfl) (fun k hk => by cases hk) (by kernel_rfl) (laid_met os))) ?_
  intro W base args ds gs before hval hW _ _ _ hL _ _
  exact contract H enc W base args ds gs before hval hW hL

theorem said : Rows.XorEncodesSaid :=
  OpenClaim.holds_of_cond 3 Tryd.f3 rfl rfl rfl rfl rfl rfl rfl ⟨rfl, rfl, rfl, rfl, rfl⟩ rfl rfl rfl rfl rfl (by kernel_rfl) Tryd.func3 (by kernel_rfl)
    (of_decide_eq_true (by kernel_rfl)) (by unfold Func.isWrapper; first | (rw [if_pos (by decide +kernel)]; kernel_rfl) | (rw [if_neg (by decide +kernel)]; exact ⟨rfl, rfl⟩))
    (fun os started H enc _ F => by rw [OpenClaim.pre_eq_preRow]; exact lifted os started H enc F)

theorem plain (f : FuncId) (fn : Func) (hf : Tryd.pinned.checked.prog.funcNamed "corduroy/corduroylaw22.XorEncodes" = some f) (hfn : Tryd.pinned.checked.prog.funcs[f]? = some fn) :
    true = Tryd.pinned.checked.prog.looks [] ∧ ∀ (j : Nat) t, fn.params[j]? = some t → Tryd.pinned.checked.prog.wantsStandIn t = false := by
  obtain rfl : f = 3 := Option.some.inj ((show Tryd.prog.funcNamed "corduroy/corduroylaw22.XorEncodes" = some 3 by kernel_rfl).symm.trans hf) |>.symm
  obtain rfl : fn = Tryd.f3 := (Option.some.inj (Tryd.func3.symm.trans hfn)).symm
  refine ⟨by kernel_rfl, fun j t ht => ?_⟩
  rw [Tryd.params3] at ht
  have hm : t = 22 := by simpa using Array.mem_of_getElem? ht
  subst hm; exact (show Tryd.prog.wantsStandIn 22 = false by kernel_rfl)

/-- ████ THE CARD ████ -/
theorem card : Rows.XorEncodesCardSaid :=
  Claim7.holds_tied_plain_at .later [] _ _ _ _ said (fun _ h => by cases h) (by kernel_rfl) (fun _ h => by cases h) xorEncodes_row_tie rfl ⟨rfl, rfl⟩ (by kernel_rfl) rfl plain (by kernel_rfl)
end Go.Proofs.YtejiboinkapkcaaDoor.xorEncodes
