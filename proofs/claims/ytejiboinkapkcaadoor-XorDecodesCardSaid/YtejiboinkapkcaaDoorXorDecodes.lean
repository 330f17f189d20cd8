/-
  THE STATEMENT corduroylaw22.XorDecodes: for any bytes and any count the call returns true and leaves its argument as it was. Condition: the library's table for trailing noughts reads as its initialiser laid it (the card ties it).
-/
import Derived.Test.YtejiboinkapkcaaDoorCards
import Derived.Test.YtejiboinkapkcaaDoorTie
import Derived.Test.YtejiboinkapkcaaDoorXorD
import Derived.Test.YtejiboinkapkcaaDoorXorL
import Derived.Test.YtejiboinkapkcaaDoorXorK
import Derived.Test.YtejiboinkapkcaaDoorBitsRefB
import Derived.Test.YtejiboinkapkcaaDoorIsRow
namespace Go.Proofs.YtejiboinkapkcaaDoor.xorDecodes
open Go.ChangeShapes Go.WideShapes Go.ChangeAt Go.RowKit
set_option linter.unusedVariables false
set_option linter.unusedSimpArgs false
theorem long (a : Option Addr) (nb cap : Nat) (n : Int) (hn : 9000 < nb) (w : World) :
    Calls Tryd.prog 4 #[.slice a nb cap, .int .i64 n] w fun e w' => e = .returned (.bool true) ∧ Below w.heap.size w w' := by
  have h' : (9000 : Int) < nb := by omega
  go_enter Tryd.func4, Tryd.ntmps4
  go_wp2
  go_ret
  exact ⟨rfl, Below.refl _ _⟩
set_option maxRecDepth 100000 in
set_option maxHeartbeats 1000000 in
theorem bits22_any (a : Option Addr) (n cap : Nat) (l : Nat → Nat) (hn : n ≤ 2000) (w : World) (h : RowOf w a n (fun i => .float .f64 (l i))) :
    Calls Tryd.prog 17 #[.slice a n cap] w fun e w' => ∃ v, e = .returned v ∧ w'.ownsRow w.heap.size 41 1 v n (rowV (fun i => .int .u64 (l i : Nat)) n) ∧ Below w.heap.size w w' := by
  obtain ⟨i0, hi, hz0, hz1, hz2⟩ := info_parts u64Info
  have hf := call_bits
  have H := Lib.hid h
  clear h
  go_enter Tryd.func17, Tryd.ntmps17
  go_wp2
  go_loopw [3, 4] (fun v i wr => ∃ k : Nat, k ≤ n ∧ i = .int .i64 k ∧ wr.ownsRow w.heap.size 41 1 v k (rowV (fun i => .int .u64 (l i : Nat)) k) ∧ Below w.heap.size w wr) (fun _ i _ => n - (intOf i).toNat)
  case atStart => exact ⟨0, by omega, rfl, World.ownsRow_nil _ _ _ _, Below.refl _ _⟩
  case round =>
    obtain ⟨k, hk, rfl, ho, hb⟩ := hrel
    have hsz := hb.size
    by_cases hkn : k < n
    · have k1 : (k : Int) < n := by omega
      obtain ⟨b, off, rfl, hblt, hc⟩ := (H.out.below hb).at_ hkn
      have c0 := hc k hkn
      have RS := Lib.hid (rowV_succ (fun i => Value.int .u64 (l i : Nat)) k)
      have HOW := Lib.hid ho
      have HBW := Lib.hid hb
      clear ho hb hc
      generalize l k = y at *
      go_wp2_with (first | (at_builtin; go_must (refine wpList_append_own_at _ rfl _ _ 22 rfl w.heap.size 41 i0 (.int .u64 0) 1 8 Tryd.underlying22 hi hz0 hz1 hz2 rfl (by decide) _ _ _ rfl (HOW.out.alloc _) ⟨wr.heap.size, 0, none⟩ 1 1 [.int .u64 (y : Nat)] rfl rfl (cell_one_new _ _ _) (by simp [Value.oneCell']) (by unfold maxLen; omega) (by omega) (by simp; omega) ?_); intro v2 w2 hown2 hgrow2 _ _; have HO2 := Lib.hid hown2; have HG2 := Lib.hid hgrow2; clear hown2 hgrow2))
      go_roundw
      case rel => exact ⟨k + 1, by omega, by go_num, by rw [RS.out]; exact HO2.out, (HBW.out.alloc hsz _).grown HG2.out (by simp; omega) (fun j hj => (HOW.out.lt j hj).1)⟩
      case measure => simp [intOf]; omega
    · obtain rfl : k = n := by omega
      have HOW := Lib.hid ho
      have HBW := Lib.hid hb
      clear ho hb
      go_wp2
      go_ret
      exact ⟨_, rfl, HOW.out, HBW.out⟩
set_option maxRecDepth 100000 in
set_option maxHeartbeats 2000000 in
theorem main (a : Option Addr) (nb cap : Nat) (n : Int) (hnb : nb ≤ 9000) (m : Nat) (er : Int) (ys : Nat → Nat) (hm : m ≤ 1024) (hys : ∀ i, i < m → ys i < 18446744073709551616) (w : World) (hT : Tab w)
    (DE : ∀ W, Below w.heap.size w W → Calls Tryd.prog 14 #[.slice a nb cap, .int .i64 n] W fun e w' => Below W.heap.size W w' ∧ ∃ a' c', e = .returned (.tuple #[.slice a' m c', .int .i64 er]) ∧ RowOf w' a' m (fun i => .float .f64 (ys i)))
    (RE : ∀ W, Below w.heap.size w W → Calls Tryd.prog 15 #[.slice a nb cap, .int .i64 n] W fun e w' => Below W.heap.size W w' ∧ ∃ a' c', e = .returned (.tuple #[.slice a' m c', .int .i64 er]) ∧ RowOf w' a' m (fun i => .int .u64 (ys i : Nat))) :
    Calls Tryd.prog 4 #[.slice a nb cap, .int .i64 n] w fun e w' => e = .returned (.bool true) ∧ Below w.heap.size w w' := by
  have h1 : ¬ (9000 : Int) < nb := by omega
  have DE := Lib.hid DE
  have RE := Lib.hid RE
  have BI := Lib.hid (fun a c W hr => bits22_any a m c ys (by omega) W hr)
  have SA := Lib.hid (fun a b ca cb W h1 h2 => same_any a b m m ca cb ys ys (by omega) W h1 h2 true (decide_eq_true ⟨rfl, fun _ _ => rfl⟩))
  have HYS := Lib.hid hys
  have AW := Lib.hid (fun W hb => awake22_any W (hT.below hb))
  clear hys hT
  go_enter Tryd.func4, Tryd.ntmps4
  go_wp2_with (first
    | (go_at_call 14; refine (DE.out _ (Below.refl _ _)).mono ?_; rintro e w1 ⟨hb, a6, c6, rfl, hr6⟩; have HR6 := Lib.hid hr6; have HB6 := Lib.hid hb; clear hr6 hb)
    | (go_at_call 15; refine (RE.out _ HB6.out).mono ?_; rintro e w2 ⟨hb, a7, c7, rfl, hr7⟩; have hr6 := HR6.out.below hb; have HR7 := Lib.hid hr7; have HR6b := Lib.hid hr6; have HB7 := Lib.hid (HB6.out.trans (hb.mono HB6.out.size)); clear hr7 hr6 hb)
    | (go_at_call 17; refine (BI.out _ _ _ HR6b.out).mono ?_; rintro e w3 ⟨v3, rfl, ho, hb⟩; obtain ⟨a8, c8, rfl, hr8, _⟩ := own_reads' ho; have hr7 := HR7.out.below hb; have HR8 := Lib.hid (show U64s w3 a8 m ys from ⟨hr8, HYS.out⟩); have HR7b := Lib.hid (show U64s w3 a7 m ys from ⟨hr7, HYS.out⟩); have HB8 := Lib.hid (HB7.out.trans (hb.mono HB7.out.size)); clear ho hr8 hr7 hb)
    | (go_at_call 16; refine (SA.out _ _ _ _ _ HR8.out HR7b.out).mono ?_; rintro e w4 ⟨rfl, hb⟩; have HB9 := Lib.hid (HB8.out.trans (hb.mono HB8.out.size)); clear hb)
    | (go_at_call 12; refine (AW.out _ HB9.out).mono ?_; rintro e w5 ⟨rfl, hb⟩; have HB10 := Lib.hid (HB9.out.trans (hb.mono HB9.out.size)); clear hb))
  go_ret
  exact ⟨rfl, HB10.out⟩
theorem walk (a : Option Addr) (nb cap : Nat) (zs : List Int) (n : Int) (W : World) (b : IsRow .u8 W a nb cap zs) (b1 : -9223372036854775808 ≤ n ∧ n ≤ 9223372036854775807) (h5 : Tab W) :
    Calls Tryd.prog 4 #[.slice a nb cap, .int .i64 n] W fun e w' => e = .returned (.bool true) ∧ Below W.heap.size W w' := by
  obtain ⟨d1, d2, d3, d4, d5⟩ := b
  by_cases hl : 9000 < nb
  · exact long a nb cap n hl W
  have hz : ∀ i, i < nb → 0 ≤ zs.getD i 0 ∧ zs.getD i 0 ≤ 255 := fun i hi => by
    have := bounds_u8 (d4 (zs.getD i 0) (by rw [List.getD_eq_getElem?_getD, List.getElem?_eq_getElem (by omega)]; simp))
    omega
  have hr : RowOf W a nb (fun i => .int .u8 (zs.getD i 0)) := by
    rcases d5 with d5 | ⟨b, off, rfl, hb, hc⟩
    · exact .inl (by omega)
    · exact .inr ⟨b, off, rfl, fun i hi => hc i (by omega)⟩
  by_cases hn : 1 ≤ n ∧ n ≤ 1024
  · obtain ⟨k, rfl⟩ : ∃ k : Nat, n = k := ⟨n.toNat, by omega⟩
    have hle : dmany (num (fun i => zs.getD i 0) nb) (8 * nb) k ≤ k := by unfold dmany; split <;> omega
    refine main a nb cap k (by omega) (dmany (num (fun i => zs.getD i 0) nb) (8 * nb) k) (derr (num (fun i => zs.getD i 0) nb) (8 * nb) k) (fun i => (drun (num (fun i => zs.getD i 0) nb) (8 * nb) (k - 1)).xs.getD i 0) (by omega) (fun i hi => ?_) W h5
      (fun W' hb => xdecode_any nb cap k a _ hz (by omega) (by omega) (by omega) W' (hr.below hb)) (fun W' hb => rxdecode_any nb cap k a _ hz (by omega) (by omega) (by omega) W' (hr.below hb))
    unfold dmany at hi
    split at hi
    · rename_i h0
      have hB : 64 ≤ 8 * nb := by
        rcases Nat.lt_or_ge (8 * nb) 64 with h | h
        · unfold derr at h0; rw [if_pos h] at h0; cases h0
        · exact h
      have he : (drun (num (fun i => zs.getD i 0) nb) (8 * nb) (k - 1)).er = 0 := by
        unfold derr at h0
        rw [if_neg (by omega)] at h0
        by_cases e : (drun (num (fun i => zs.getD i 0) nb) (8 * nb) (k - 1)).er = 0
        · exact e
        · rw [if_pos e] at h0; exact absurd h0 e
      have h4 := drun_ok hB (k - 1) he
      show (drun _ _ _).xs.getD i 0 < _
      rw [List.getD_eq_getElem?_getD, List.getElem?_eq_getElem (by rw [h4.2.2.1]; omega)]
      exact h4.2.2.2 _ (List.getElem_mem _)
    · omega
  · exact main a nb cap n (by omega) 0 7 (fun _ => 0) (by omega) (fun i hi => by omega) W h5
      (fun W' hb => (xdecode_out a nb cap n hn W').mono fun e w' ⟨h1, h2⟩ => ⟨h2, none, 0, h1, .inl rfl⟩)
      (fun W' hb => (rxdecode_out a nb cap n hn W').mono fun e w' ⟨h1, h2⟩ => ⟨h2 ▸ Below.refl _ _, none, 0, h1, .inl rfl⟩)
theorem own : ownKnob Tryd.prog.godebug = none := by kernel_rfl
set_option maxRecDepth 100000 in
theorem contract (H : Type) (enc : TypeId × Value → H) (W : World) (base : Nat) (args : Array Value) (ds gs : List (DataW H)) (before : List MemPlace)
    (hval : ∀ (j : Nat) t v, Tryd.f4.params[j]? = some t → args[j]? = some v → Value.okWide Tryd.prog W .any base t v)
    (hW : DataW.Whole enc Tryd.prog Tryd.f4.params.toList Rows.xorDecodesSpec.vars false W args.toList ds gs before) (hL : laidMetH Tryd.prog Rows.xorDecodesRow.laid W) :
    Calls Tryd.prog 4 args W fun e W' => ∃ v, e = .returned v ∧ Rows.xorDecodesSpec.post enc Tryd.prog Tryd.f4 false true false false W args v W' := by
  have hW' := hW
  obtain ⟨p, q, hA0, hV, rfl, hfz, hnd⟩ := hW
  have hA : DataW.TrodAll enc Tryd.prog W 0 (fun _ => true) true Tryd.f4.params.toList args.toList ds p := hA0
  rw [Tryd.params4] at hA hval
  obtain ⟨v0, vs0, d0, ds0, p0, q0, hargs, rfl, rfl, h0, r0⟩ := trodAll_cons hA
  obtain ⟨v1, vs1, d1, ds1, p1, q1, rfl, rfl, rfl, h1, r1⟩ := trodAll_cons r0
  obtain ⟨rfl, rfl, rfl⟩ := trodAll_nil r1
  obtain rfl : args = #[v0, v1] := by cases args; simp_all
  obtain ⟨rfl, rfl⟩ := trodVars_none hV
  have hWhole := hW'
  obtain ⟨a0, len0, cap0, rfl⟩ := okWide_slice Tryd.underlying25 (hval 0 25 v0 rfl rfl)
  have k0 := h0
  have lt0 : ∀ x ∈ p0, x.block < W.heap.size := by obtain ⟨m, hm⟩ := k0; exact DataW.trod_lt m _ _ _ hm
  obtain ⟨z0, b0⟩ : ∃ zs, IsRow .u8 W a0 len0 cap0 zs := by
    obtain ⟨fuel, hf⟩ := h0
    rcases open_ints Tryd.underlying25 Tryd.underlying5 (by kernel_rfl) hf with ⟨hcs, _⟩ | ⟨x, l, c, zs, hcs, _, hl, hm, hz, _, hcell, hwz⟩
    · simp [Value.cells] at hcs
      obtain ⟨rfl, rfl, rfl⟩ := hcs
      exact ⟨[], isRow_nil _ _⟩
    · simp [Value.cells] at hcs
      obtain ⟨rfl, rfl, rfl⟩ := hcs
      exact ⟨zs, isRow_of hl hm (by simpa using hz) hcell hwz⟩
  obtain ⟨a1, rfl, rfl, rfl, w1⟩ := open_int Tryd.underlying3 (hval 1 3 v1 rfl rfl) h1
  have b1 := bounds_i64 w1
  clear hA0
  have h5 : Tab W := tab_of hL
  refine (walk a0 len0 cap0 z0 a1 W b0 b1 h5).mono fun e W' ⟨he, hg⟩ => ?_
  subst he
  exact ⟨_, rfl, _, _, _, [], _, [], hW', trodAll_mk1 (shut_bool Tryd.underlying4 _), (trodAll_cons_mk (Below.trod laidOut (by kernel_rfl) (of_decide_eq_true (by kernel_rfl)) k0 hg lt0) (trodAll_cons_mk (shut_int Tryd.underlying3 w1) trodAll_mk0)), rfl, hg.frame _, fun h => by cases h⟩

theorem laid_met (os : Os) : laidMet Tryd.prog Rows.xorDecodesRow.laid ((laidWorld os).forCall (fun _ _ => 0) ⟨#[], #[.slice none 0 0, .int .i64 0], []⟩).memory :=
  laidMet_of_run' 8 (by kernel_rfl) (by kernel_rfl)
theorem reads (os : Os) {H : Type} (enc : TypeId × Value → H) : ∃ places, DataW.whole enc Tryd.prog ((laidWorld os).forCall (fun _ _ => 0) ⟨#[], #[.slice none 0 0, .int .i64 0], []⟩).memory Tryd.f4.params.toList Rows.xorDecodesSpec.vars false (#[.slice none 0 0, .int .i64 0] : Array Value).toList 8 = some ([.nil, .lit (.int .i64 0)], [], places) :=
  ⟨[], by kernel_rfl⟩

set_option maxRecDepth 100000 in
theorem lifted (os : Os) (started : os.Started) (H : Type) (enc : TypeId × Value → H) (F : Stop.Interp) :
    ReturnsInHanded {} Tryd.checked os 4 .any ((OpenSpec.ofChange Rows.xorDecodesSpec).preRow enc Tryd.prog Tryd.f4 Rows.xorDecodesRow.domain false Rows.xorDecodesRow.laid) (((OpenSpec.ofChange Rows.xorDecodesSpec).at F).post enc Tryd.prog Tryd.f4 false true false false) := by
  obtain ⟨places, hx⟩ := reads os enc
  refine returnsInHanded_of_row (C := Tryd.checked) (s := OpenSpec.ofChange Rows.xorDecodesSpec) own started (by kernel_rfl) Tryd.func4
    (witness_row_at (enc := enc) (C := Tryd.checked) false (laidWorld os) #[.slice none 0 0, .int .i64 0] rfl (by kernel_rfl) (by kernel_rfl) (by kernel_rfl)
      (OpenSpec.preRow_of_cond 8 hx (by kernel_rfl) (fun k hk => by cases hk) (by kernel_rfl) (laid_met os))) ?_
  intro W base args ds gs before hval hW _ _ _ hL _ _
  exact contract H enc W base args ds gs before hval hW hL

theorem said : Rows.XorDecodesSaid :=
  OpenClaim.holds_of_cond 4 Tryd.f4 rfl rfl rfl rfl rfl rfl rfl ⟨rfl, rfl, rfl, rfl, rfl⟩ rfl rfl rfl rfl rfl (by kernel_rfl) Tryd.func4 (by kernel_rfl)
    (of_decide_eq_true (by kernel_rfl)) (by unfold Func.isWrapper; first | (rw [if_pos (by decide +kernel)]; kernel_rfl) | (rw [if_neg (by decide +kernel)]; exact ⟨rfl, rfl⟩))
    (fun os started H enc _ F => by rw [OpenClaim.pre_eq_preRow]; exact lifted os started H enc F)

theorem plain (f : FuncId) (fn : Func) (hf : Tryd.pinned.checked.prog.funcNamed "corduroy/corduroylaw22.XorDecodes" = some f) (hfn : Tryd.pinned.checked.prog.funcs[f]? = some fn) :
    true = Tryd.pinned.checked.prog.looks [] ∧ ∀ (j : Nat) t, fn.params[j]? = some t → Tryd.pinned.checked.prog.wantsStandIn t = false := by
  obtain rfl : f = 4 := Option.some.inj ((show Tryd.prog.funcNamed "corduroy/corduroylaw22.XorDecodes" = some 4 by kernel_rfl).symm.trans hf) |>.symm
  obtain rfl : fn = Tryd.f4 := (Option.some.inj (Tryd.func4.symm.trans hfn)).symm
  refine ⟨by kernel_rfl, fun j t ht => ?_⟩
  rw [Tryd.params4] at ht
  have hm : t = 25 ∨ t = 3 := by simpa [or_assoc] using Array.mem_of_getElem? ht
  rcases hm with rfl | rfl
  · exact (show Tryd.prog.wantsStandIn 25 = false by kernel_rfl)
  · exact (show Tryd.prog.wantsStandIn 3 = false by kernel_rfl)

/-- ████ THE CARD ████ -/
theorem card : Rows.XorDecodesCardSaid :=
  Claim7.holds_tied_plain_at .later [] _ _ _ _ said (fun _ h => by cases h) (by kernel_rfl) (fun _ h => by cases h) xorDecodes_row_tie rfl ⟨rfl, rfl⟩ (by kernel_rfl) rfl plain (by kernel_rfl)
end Go.Proofs.YtejiboinkapkcaaDoor.xorDecodes
