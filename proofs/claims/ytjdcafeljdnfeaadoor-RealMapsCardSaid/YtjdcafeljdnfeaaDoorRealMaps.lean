/-
  THE CARD OF corduroylaw20.RealMaps: for any row of 64 bits the call returns true and leaves its argument as it was. Condition: the card's own, that the package-level table of names starts as the program's text lays it.
-/
import Derived.Test.YtjdcafeljdnfeaaDoorCards
import Derived.Test.YtjdcafeljdnfeaaDoorTie
import Derived.Test.YtjdcafeljdnfeaaDoorRealWhole
import Derived.Test.YtjdcafeljdnfeaaDoorRealAwake
import Derived.Test.YtjdcafeljdnfeaaDoorRealLaid
import Derived.Test.YtjdcafeljdnfeaaDoorWords
import Derived.Test.YtjdcafeljdnfeaaDoorIsRow
import Derived.Deep.DeepMust
import Derived.Deep.QuietTactic
import Derived.BigQuiet
namespace Go.Proofs.YtjdcafeljdnfeaaDoor.realMaps
open Go.ChangeShapes Go.WideShapes Go.ChangeAt Go.RowKit
set_option linter.unusedVariables false
theorem f64Info : (Tryd.prog.info? 23).map (fun i => (i.zero, i.size, i.bytes)) = some (some (.float .f64 0), 1, 8) := by kernel_rfl
theorem i64Info : (Tryd.prog.info? 2).map (fun i => (i.zero, i.size, i.bytes)) = some (some (.int .i64 0), 1, 8) := by kernel_rfl
set_option maxRecDepth 100000 in
set_option maxHeartbeats 1000000 in
theorem map_from (a : Option Addr) (n cap : Nat) (l : Nat → Nat) (hn : n ≤ 1000) (w : World) (h : RowOf w a n (fun i => .int .u64 (l i : Nat))) :
    Calls Tryd.prog 20 #[.slice a n cap, .func (.func 6) #[] #[]] w fun e w' => ∃ v, e = .returned v ∧ w'.ownsRow w.heap.size 23 1 v n (rowV (fun i => .float .f64 (l i)) n) ∧ Below w.heap.size w w' := by
  obtain ⟨i0, hi, hz0, hz1, hz2⟩ := info_parts f64Info
  have hf := call_frombits
  have H := Lib.hid h
  clear h
  go_enter Tryd.func20, Tryd.ntmps20
  go_wp2_with (at_make; go_must (refine wpList_make_own _ rfl _ _ 40 rfl w.heap.size 23 i0 (.float .f64 0) 1 Tryd.underlying40 hi hz0 hz1 _ _ _ n rfl rfl rfl (by rw [hz2]; omega) (by unfold maxLen; omega) (Nat.le_refl _) ?_); intro w1 hown hg; have HO := Lib.hid hown; have HG := Lib.hid hg; clear hown hg)
  go_loopw [5, 13] (fun v i wr => ∃ k : Nat, k ≤ n ∧ i = .int .i64 k ∧ wr.ownsRow w.heap.size 23 1 v k (rowV (fun i => .float .f64 (l i)) k) ∧ Below w.heap.size w wr) (fun _ i _ => n - (intOf i).toNat)
  case atStart => exact ⟨0, by omega, rfl, HO.out, (Below.refl _ _).grown HG.out (Nat.le_refl _) (by simp)⟩
  case round =>
    obtain ⟨k, hk, rfl, ho, hb⟩ := hrel
    have hsz := hb.size
    by_cases hkn : k < n
    · have k1 : (k : Int) < n := by omega
      obtain ⟨b, off, rfl, hblt, hc⟩ := (H.out.below hb).at_ hkn
      have c0 := hc k hkn
      have RS := Lib.hid (rowV_succ (fun i => Value.float .f64 (l i)) k)
      have HOW := Lib.hid ho
      have HBW := Lib.hid hb
      clear ho hb hc
      generalize l k = y at *
      go_wp2_with (first | (at_builtin; go_must (refine wpList_append_own_at _ rfl _ _ 40 rfl w.heap.size 23 i0 (.float .f64 0) 1 8 Tryd.underlying40 hi hz0 hz1 hz2 rfl (by decide) _ _ _ rfl (HOW.out.alloc _) ⟨wr.heap.size, 0, none⟩ 1 1 [.float .f64 y] rfl rfl (cell_one_new _ _ _) (by simp [Value.oneCell']) (by unfold maxLen; omega) (by omega) (by simp; omega) ?_); intro v2 w2 hown2 hgrow2 _ _; have HO2 := Lib.hid hown2; have HG2 := Lib.hid hgrow2; clear hown2 hgrow2))
      go_roundw
      case rel => exact ⟨k + 1, by omega, by go_num, by rw [RS.out]; exact HO2.out, (HBW.out.alloc hsz _).grown HG2.out (by simp; omega) (fun j hj => (HOW.out.lt j hj).1)⟩
      case measure => simp [intOf]; omega
    · obtain rfl : k = n := by omega
      have HOW := Lib.hid ho
      have HBW := Lib.hid hb
      clear ho hb
      go_wp2
      go_ret
      exact ⟨_, rfl, HOW.out, HBW.out⟩
set_option maxRecDepth 100000 in
set_option maxHeartbeats 1000000 in
theorem map_rank (a : Option Addr) (n cap : Nat) (l : Nat → Nat) (hl : ∀ i, i < n → l i < 18446744073709551616) (hn : n ≤ 1000) (w : World) (h : RowOf w a n (fun i => .float .f64 (l i))) :
    Calls Tryd.prog 21 #[.slice a n cap, .func (.func 11) #[] #[]] w fun e w' => ∃ v, e = .returned v ∧ w'.ownsRow w.heap.size 2 1 v n (rowV (fun i => .int .i64 (rnk (sgn (l i)))) n) ∧ Below w.heap.size w w' := by
  obtain ⟨i0, hi, hz0, hz1, hz2⟩ := info_parts i64Info
  have H := Lib.hid h
  have HL := Lib.hid hl
  clear h hl
  go_enter Tryd.func21, Tryd.ntmps21
  go_wp2_with (at_make; go_must (refine wpList_make_own _ rfl _ _ 42 rfl w.heap.size 2 i0 (.int .i64 0) 1 Tryd.underlying42 hi hz0 hz1 _ _ _ n rfl rfl rfl (by rw [hz2]; omega) (by unfold maxLen; omega) (Nat.le_refl _) ?_); intro w1 hown hg; have HO := Lib.hid hown; have HG := Lib.hid hg; clear hown hg)
  go_loopw [5, 13] (fun v i wr => ∃ k : Nat, k ≤ n ∧ i = .int .i64 k ∧ wr.ownsRow w.heap.size 2 1 v k (rowV (fun i => .int .i64 (rnk (sgn (l i)))) k) ∧ Below w.heap.size w wr) (fun _ i _ => n - (intOf i).toNat)
  case atStart => exact ⟨0, by omega, rfl, HO.out, (Below.refl _ _).grown HG.out (Nat.le_refl _) (by simp)⟩
  case round =>
    obtain ⟨k, hk, rfl, ho, hb⟩ := hrel
    have hsz := hb.size
    by_cases hkn : k < n
    · have k1 : (k : Int) < n := by omega
      obtain ⟨b, off, rfl, hblt, hc⟩ := (H.out.below hb).at_ hkn
      have c0 := hc k hkn
      have RS := Lib.hid (rowV_succ (fun i => Value.int .i64 (rnk (sgn (l i)))) k)
      have HOW := Lib.hid ho
      have HBW := Lib.hid hb
      have RA := Lib.hid (rank_any (l k) (HL.out k hkn))
      clear ho hb hc
      generalize rnk (sgn (l k)) = u at *
      generalize l k = y at *
      go_wp2_with (first | (go_at_call 11; refine (RA.out _).mono ?_; rintro e w' ⟨rfl, rfl⟩) | (at_builtin; go_must (refine wpList_append_own_at _ rfl _ _ 42 rfl w.heap.size 2 i0 (.int .i64 0) 1 8 Tryd.underlying42 hi hz0 hz1 hz2 rfl (by decide) _ _ _ rfl (HOW.out.alloc _) ⟨wr.heap.size, 0, none⟩ 1 1 [.int .i64 u] rfl rfl (cell_one_new _ _ _) (by simp [Value.oneCell']) (by unfold maxLen; omega) (by omega) (by simp; omega) ?_); intro v2 w2 hown2 hgrow2 _ _; have HO2 := Lib.hid hown2; have HG2 := Lib.hid hgrow2; clear hown2 hgrow2))
      go_roundw
      case rel => exact ⟨k + 1, by omega, by go_num, by rw [RS.out]; exact HO2.out, (HBW.out.alloc hsz _).grown HG2.out (by simp; omega) (fun j hj => (HOW.out.lt j hj).1)⟩
      case measure => simp [intOf]; omega
    · obtain rfl : k = n := by omega
      have HOW := Lib.hid ho
      have HBW := Lib.hid hb
      clear ho hb
      go_wp2
      go_ret
      exact ⟨_, rfl, HOW.out, HBW.out⟩
set_option maxRecDepth 100000 in
set_option maxHeartbeats 1000000 in
theorem maps_walk (a0 : Option Addr) (n cap : Nat) (l : Nat → Nat) (hn : n ≤ 100) (w : World) (H0 : RowOf w a0 n (fun i => .int .u64 (l i : Nat))) (hl : ∀ i, i < n → l i < 18446744073709551616) (h5 : w.cell? ⟨1, 5, none⟩ = some (.string ⟨#[116, 105, 110, 121]⟩)) :
    Calls Tryd.prog 4 #[.slice a0 n cap] w fun e w' => e = .returned (.bool true) ∧ Below w.heap.size w w' := by
  have h' : ¬ (100 : Int) < n := by omega
  have hb := call_bits
  have HL := Lib.hid hl
  have M1 := Lib.hid (map_from a0 n cap l (by omega) w H0)
  have H0 := Lib.hid H0
  have H5 := Lib.hid h5
  clear hl h5
  have hne : ((n : Int) != (n : Int)) = false := by simp
  go_enter Tryd.func4, Tryd.ntmps4
  go_wp2_with fail
  refine M1.out.mono ?_
  rintro e w1 ⟨v1, rfl, ho1, hb1⟩
  obtain ⟨a1, c1, rfl, r1, _⟩ := own_reads' ho1
  have R1 := Lib.hid r1
  have HB1 := Lib.hid hb1
  have M2 := Lib.hid (map_rank a1 n c1 l HL.out (by omega) w1 r1)
  clear ho1 hb1 r1
  go_wp2_with fail
  refine M2.out.mono ?_
  rintro e w2 ⟨v2, rfl, ho2, hb2⟩
  obtain ⟨a2, c2, rfl, r2, _⟩ := own_reads' ho2
  have R2 := Lib.hid r2
  have R1' := Lib.hid (R1.out.below hb2)
  have HB2 := Lib.hid (HB1.out.trans (hb2.mono HB1.out.size))
  clear ho2 hb2 r2
  go_wp2
  go_loopw [5] (fun i wr => ∃ k : Nat, k ≤ n ∧ i = .int .i64 k ∧ ∃ q, wr = w2.drewN q) (fun i _ => n - (intOf i).toNat)
  case atStart => exact ⟨0, by omega, rfl, 0, rfl⟩
  case round =>
    obtain ⟨k, hk, rfl, q, rfl⟩ := hrel
    by_cases hkn : k < n
    · have k1 : (k : Int) < n := by omega
      have k0 : (0 : Int) ≤ k := by omega
      obtain ⟨b0, o0, rfl, _, x0⟩ := (RowOf.drawn (H0.out.below HB2.out) q).at_ hkn
      obtain ⟨b1, o1, rfl, _, x1⟩ := (RowOf.drawn R1'.out q).at_ hkn
      obtain ⟨b2, o2, rfl, _, x2⟩ := (RowOf.drawn R2.out q).at_ hkn
      have y0 := x0 k hkn
      have y1 := x1 k hkn
      have y2 := x2 k hkn
      have RR := Lib.hid (ref_rank (l k : Nat) (by omega) (by have := HL.out k hkn; omega))
      simp only [Int.toNat_natCast] at RR
      clear x0 x1 x2
      have HW := Lib.hid (show ∀ m, (w2.drewN q).drewN m = w2.drewN (q + m) from fun m => World.drewN_drewN ..)
      generalize w2.drewN q = W at *
      generalize rnk (sgn (l k)) = u at *
      generalize l k = y at *
      have e1 : ((y : Int) != (y : Int)) = false := by simp
      have e2 : (u != u) = false := by simp
      go_wp2
      go_quiet ((go_at_call 12; exact Calls.quiet_of_same ((RR.out _).mono fun _ _ h => ⟨h.1, h.2.symm⟩)))
      go_wp2
      go_roundw
      case rel => exact ⟨k + 1, by omega, by go_num, _, HW.out _⟩
      case measure => simp [intOf]; omega
    · have AW := Lib.hid (awake_any (w2.drewN q) ((HB2.out.cell (p := ⟨1, 5, none⟩) (World.block_lt_of_cell? w _ H5.out)).trans H5.out))
      go_wp2_with (go_at_call 19; refine AW.out.mono ?_; rintro e w3 ⟨rfl, rfl⟩)
      go_ret
      exact ⟨rfl, below_drawn HB2.out q⟩
theorem maps_long (a0 : Option Addr) (n cap : Nat) (w : World) (h : 100 < n) :
    Calls Tryd.prog 4 #[.slice a0 n cap] w fun e w' => e = .returned (.bool true) ∧ Below w.heap.size w w' := by
  have h' : (100 : Int) < n := by omega
  go_enter Tryd.func4, Tryd.ntmps4
  go_wp2
  go_ret
  exact ⟨rfl, Below.refl _ _⟩
theorem u64s {w : World} {a : Option Addr} {len cap : Nat} {z : List Int} (h : IsRow .u64 w a len cap z) : RowOf w a len (fun i => .int .u64 ((z.getD i 0).toNat : Nat)) ∧ ∀ i, i < len → (z.getD i 0).toNat < 18446744073709551616 := by
  obtain ⟨hl, hm, hz, hw, h0⟩ := h
  have hb : ∀ i, i < len → 0 ≤ z.getD i 0 ∧ z.getD i 0 < 18446744073709551616 := fun i hi => by
    have hm : z.getD i 0 ∈ z := by simp [List.getD, (by omega : i < z.length)]
    have := bounds_u64 (hw _ hm)
    omega
  refine ⟨?_, fun i hi => by have := hb i hi; show (z.getD i 0).toNat < _; omega⟩
  rcases h0 with h0 | ⟨b, off, rfl, _, hc⟩
  · exact .inl (by omega)
  · exact .inr ⟨b, off, rfl, fun i hi => by rw [hc i (by omega)]; show some (Value.int .u64 _) = some (Value.int .u64 ((z.getD i 0).toNat : Int)); rw [Int.toNat_of_nonneg (hb i hi).1]⟩
theorem walk (a0 : Option Addr) (len0 cap0 : Nat) (z0 : List Int) (w : World) (b0 : IsRow .u64 w a0 len0 cap0 z0) (h5 : w.cell? ⟨1, 5, none⟩ = some (.string ⟨#[116, 105, 110, 121]⟩)) :
    Calls Tryd.prog 4 #[.slice a0 len0 cap0] w fun e w' => e = .returned (.bool true) ∧ Below w.heap.size w w' := by
  by_cases h : 100 < len0
  · exact maps_long a0 len0 cap0 w h
  · exact maps_walk a0 len0 cap0 _ (by omega) w (u64s b0).1 (u64s b0).2 h5
theorem own : ownKnob Tryd.prog.godebug = none := by kernel_rfl
set_option maxRecDepth 100000 in
theorem contract (H : Type) (enc : TypeId × Value → H) (W : World) (base : Nat) (args : Array Value) (ds gs : List (DataW H)) (before : List MemPlace)
    (hval : ∀ (j : Nat) t v, Tryd.f4.params[j]? = some t → args[j]? = some v → Value.okWide Tryd.prog W .any base t v)
    (hW : DataW.Whole enc Tryd.prog Tryd.f4.params.toList Rows.realMapsSpec.vars false W args.toList ds gs before) (hL : laidMetH Tryd.prog Rows.realMapsRow.laid W) :
    Calls Tryd.prog 4 args W fun e W' => ∃ v, e = .returned v ∧ Rows.realMapsSpec.post enc Tryd.prog Tryd.f4 false true false false W args v W' := by
  have hW' := hW
  obtain ⟨p, q, hA0, hV, rfl, hfz, hnd⟩ := hW
  have hA : DataW.TrodAll enc Tryd.prog W 0 (fun _ => true) true Tryd.f4.params.toList args.toList ds p := hA0
  rw [Tryd.params4] at hA hval
  obtain ⟨v0, vs0, d0, ds0, p0, q0, hargs, rfl, rfl, h0, r0⟩ := trodAll_cons hA
  obtain ⟨rfl, rfl, rfl⟩ := trodAll_nil r0
  obtain rfl : args = #[v0] := by cases args; simp_all
  obtain ⟨rfl, rfl⟩ := trodVars_none hV
  have hWhole := hW'
  obtain ⟨a0, len0, cap0, rfl⟩ := okWide_slice Tryd.underlying39 (hval 0 39 v0 rfl rfl)
  have k0 := h0
  have lt0 : ∀ x ∈ p0, x.block < W.heap.size := by obtain ⟨m, hm⟩ := k0; exact DataW.trod_lt m _ _ _ hm
  obtain ⟨z0, b0⟩ : ∃ zs, IsRow .u64 W a0 len0 cap0 zs := by
    obtain ⟨fuel, hf⟩ := h0
    rcases open_ints Tryd.underlying39 Tryd.underlying22 (by kernel_rfl) hf with ⟨hcs, _⟩ | ⟨x, l, c, zs, hcs, _, hl, hm, hz, _, hcell, hwz⟩
    · simp [Value.cells] at hcs
      obtain ⟨rfl, rfl, rfl⟩ := hcs
      exact ⟨[], isRow_nil _ _⟩
    · simp [Value.cells] at hcs
      obtain ⟨rfl, rfl, rfl⟩ := hcs
      exact ⟨zs, isRow_of hl hm (by simpa using hz) hcell hwz⟩
  clear hA0
  have h5 : W.cell? ⟨1, 5, none⟩ = some (.string ⟨#[116, 105, 110, 121]⟩) := (names_cells hL 5).trans rfl
  refine (walk a0 len0 cap0 z0 W b0 h5).mono fun e W' ⟨he, hg⟩ => ?_
  subst he
  exact ⟨_, rfl, _, _, _, [], _, [], hW', trodAll_mk1 (shut_bool Tryd.underlying4 _), (trodAll_cons_mk (Below.trod laidOut (by kernel_rfl) (of_decide_eq_true (by kernel_rfl)) k0 hg lt0) trodAll_mk0), rfl, hg.frame _, fun h => by cases h⟩

theorem laid_met (os : Os) : laidMet Tryd.prog Rows.realMapsRow.laid ((laidWorld os).forCall (fun _ _ => 0) ⟨#[], #[.slice none 0 0], []⟩).memory :=
  laidMet_of_run' 8 (by kernel_rfl) (by kernel_rfl)
theorem reads (os : Os) {H : Type} (enc : TypeId × Value → H) : ∃ places, DataW.whole enc Tryd.prog ((laidWorld os).forCall (fun _ _ => 0) ⟨#[], #[.slice none 0 0], []⟩).memory Tryd.f4.params.toList Rows.realMapsSpec.vars false (#[.slice none 0 0] : Array Value).toList 8 = some ([.nil], [], places) :=
  ⟨[], by kernel_rfl⟩

set_option maxRecDepth 100000 in
theorem lifted (os : Os) (started : os.Started) (H : Type) (enc : TypeId × Value → H) (F : Stop.Interp) :
    ReturnsInHanded {} Tryd.checked os 4 .any ((OpenSpec.ofChange Rows.realMapsSpec).preRow enc Tryd.prog Tryd.f4 Rows.realMapsRow.domain false Rows.realMapsRow.laid) (((OpenSpec.ofChange Rows.realMapsSpec).at F).post enc Tryd.prog Tryd.f4 false true false false) := by
  obtain ⟨places, hx⟩ := reads os enc
  refine returnsInHanded_of_row (C := Tryd.checked) (s := OpenSpec.ofChange Rows.realMapsSpec) own started (by kernel_rfl) Tryd.func4
    (witness_row_at (enc := enc) (C := Tryd.checked) false (laidWorld os) #[.slice none 0 0] rfl (by kernel_rfl) (by kernel_rfl) (by kernel_rfl)
      (OpenSpec.preRow_of_cond 8 hx (by kernel_rfl) (fun k hk => by cases hk) (by kernel_rfl) (laid_met os))) ?_
  intro W base args ds gs before hval hW _ _ _ hL _ _
  exact contract H enc W base args ds gs before hval hW hL

theorem said : Rows.RealMapsSaid :=
  OpenClaim.holds_of_cond 4 Tryd.f4 rfl rfl rfl rfl rfl rfl rfl ⟨rfl, rfl, rfl, rfl, rfl⟩ rfl rfl rfl rfl rfl (by kernel_rfl) Tryd.func4 (by kernel_rfl)
    (of_decide_eq_true (by kernel_rfl)) (by unfold Func.isWrapper; first | (rw [if_pos (by decide +kernel)]; kernel_rfl) | (rw [if_neg (by decide +kernel)]; exact ⟨rfl, rfl⟩))
    (fun os started H enc _ F => by rw [OpenClaim.pre_eq_preRow]; exact lifted os started H enc F)

theorem plain (f : FuncId) (fn : Func) (hf : Tryd.pinned.checked.prog.funcNamed "corduroy/corduroylaw20.RealMaps" = some f) (hfn : Tryd.pinned.checked.prog.funcs[f]? = some fn) :
    false = Tryd.pinned.checked.prog.looks [] ∧ ∀ (j : Nat) t, fn.params[j]? = some t → Tryd.pinned.checked.prog.wantsStandIn t = false := by
  obtain rfl : f = 4 := Option.some.inj ((show Tryd.prog.funcNamed "corduroy/corduroylaw20.RealMaps" = some 4 by kernel_rfl).symm.trans hf) |>.symm
  obtain rfl : fn = Tryd.f4 := (Option.some.inj (Tryd.func4.symm.trans hfn)).symm
  refine ⟨by kernel_rfl, fun j t ht => ?_⟩
  rw [Tryd.params4] at ht
  have hm : t = 39 := by simpa using Array.mem_of_getElem? ht
  subst hm; exact (show Tryd.prog.wantsStandIn 39 = false by kernel_rfl)

/-- ████ THE CARD ████ -/
theorem card : Rows.RealMapsCardSaid :=
  Claim7.holds_tied_plain_at .later [] _ _ _ _ said (fun _ h => by cases h) (by kernel_rfl) (fun _ h => by cases h) realMaps_row_tie rfl ⟨rfl, rfl⟩ (by kernel_rfl) rfl plain (by kernel_rfl)
end Go.Proofs.YtjdcafeljdnfeaaDoor.realMaps
