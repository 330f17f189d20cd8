/-
  THE CARD OF corduroylaw20.RealTells: for any 64 bits, any number and any kind the call returns true and leaves its arguments as they were. Condition: the card's own, that the package-level table of names starts as the program's text lays it.
-/
import Derived.Test.YtjdcafeljdnfeaaDoorCards
import Derived.Test.YtjdcafeljdnfeaaDoorTie
import Derived.Test.YtjdcafeljdnfeaaDoorRealRef
import Derived.Test.YtjdcafeljdnfeaaDoorRealLaid
namespace Go.Proofs.YtjdcafeljdnfeaaDoor.realTells
open Go.ChangeShapes Go.WideShapes Go.ChangeAt Go.RowKit
set_option linter.unusedVariables false
set_option maxRecDepth 100000 in
theorem core_in (n v N s r t : Int) (kd k x u y : Nat) (W : Bool) (w : World) (h5 : ∀ i, i < 9 → w.cell? ⟨1, i, none⟩ = some (.string (nm i))) (hk : kd < 9)
    (hx : n.toNat = x) (hs : IntKind.i64.wrap n = s) (hu : IntKind.u64.wrap v = (u : Nat))
    (WX : Hid (∀ w, Calls Tryd.prog 8 #[.float .f64 x] w fun e w' => e = .returned (.tuple #[.int .i64 N, .bool W]) ∧ w = w'))
    (RW : Hid (∀ w, Calls Tryd.prog 9 #[.int .u64 n] w fun e w' => e = .returned (.tuple #[.int .i64 N, .bool W]) ∧ w = w'))
    (BX : Hid (∀ w, Calls Tryd.prog 10 #[.float .f64 x] w fun e w' => e = .returned (.int .i64 s) ∧ w = w'))
    (RX : Hid (∀ w, Calls Tryd.prog 11 #[.float .f64 x] w fun e w' => e = .returned (.int .i64 r) ∧ w = w'))
    (RR : Hid (∀ w, Calls Tryd.prog 12 #[.int .u64 n] w fun e w' => e = .returned (.int .i64 r) ∧ w = w'))
    (KX : Hid (∀ w, Calls Tryd.prog 13 #[.float .f64 x] w fun e w' => e = .returned (.int .i64 t) ∧ w = w'))
    (RK : Hid (∀ w, Calls Tryd.prog 14 #[.int .u64 n] w fun e w' => e = .returned (.int .i64 t) ∧ w = w'))
    (FB : Hid (∀ w, Calls Tryd.prog 17 #[.int .i64 v] w fun e w' => e = .returned (.float .f64 u) ∧ w = w'))
    (FR : Hid (∀ w, Calls Tryd.prog 18 #[.int .i64 v] w fun e w' => e = .returned (.float .f64 y) ∧ w = w'))
    (RY : Hid (∀ w, Calls Tryd.prog 12 #[.int .u64 (y : Nat)] w fun e w' => e = .returned (.int .i64 v) ∧ w = w')) :
    Calls Tryd.prog 3 #[.int .u64 n, .int .i64 v, .int .i64 kd] w fun e w' => e = .returned (.bool true) ∧ Below w.heap.size w w' := by
  have hf := call_frombits
  have hb := call_bits
  have H5 := Lib.hid h5
  clear h5
  have g1 : (0 : Int) ≤ (kd : Nat) := by omega
  have g2 : ((kd : Nat) : Int) < 9 := by omega
  go_enter Tryd.func3, Tryd.ntmps3
  go_wp2_with fail
  refine (rnames_any _).mono ?_
  rintro e w1 ⟨rfl, hc, hb1⟩
  have hck := hc kd hk
  have HB := Lib.hid hb1
  have H6 : ∀ i, i < 9 → w1.cell? ⟨1, i, none⟩ = some (.string (nm i)) := fun i hi => (hb1.cell (p := ⟨1, i, none⟩) (World.block_lt_of_cell? w _ (H5.out i hi))).trans (H5.out i hi)
  have NI := Lib.hid (name_in kd hk w1 (H6 kd hk))
  have AW := Lib.hid (awake_any w1 (H6 5 (by decide)))
  generalize nm kd = nk at *
  clear hc hb1 H6
  go_wp2_with (first | (go_at_call 8; refine (WX.out _).mono ?_; rintro e w' ⟨rfl, rfl⟩) | (go_at_call 9; refine (RW.out _).mono ?_; rintro e w' ⟨rfl, rfl⟩) | (go_at_call 10; refine (BX.out _).mono ?_; rintro e w' ⟨rfl, rfl⟩) | (go_at_call 11; refine (RX.out _).mono ?_; rintro e w' ⟨rfl, rfl⟩) | (go_at_call 12; with_reducible refine (RR.out _).mono ?_; rintro e w' ⟨rfl, rfl⟩) | (go_at_call 12; refine (RY.out _).mono ?_; rintro e w' ⟨rfl, rfl⟩) | (go_at_call 13; refine (KX.out _).mono ?_; rintro e w' ⟨rfl, rfl⟩) | (go_at_call 14; refine (RK.out _).mono ?_; rintro e w' ⟨rfl, rfl⟩) | (go_at_call 15; refine NI.out.mono ?_; rintro e w' ⟨rfl, rfl⟩) | (go_at_call 17; refine (FB.out _).mono ?_; rintro e w' ⟨rfl, rfl⟩) | (go_at_call 18; refine (FR.out _).mono ?_; rintro e w' ⟨rfl, rfl⟩) | (go_at_call 19; refine AW.out.mono ?_; rintro e w' ⟨rfl, rfl⟩))
  go_ret
  exact ⟨rfl, HB.out⟩
set_option maxRecDepth 100000 in
theorem core_out (n v N s r t kd : Int) (k x u y : Nat) (W : Bool) (w : World) (h5 : ∀ i, i < 9 → w.cell? ⟨1, i, none⟩ = some (.string (nm i))) (hk : kd < 0 ∨ 9 ≤ kd)
    (hx : n.toNat = x) (hs : IntKind.i64.wrap n = s) (hu : IntKind.u64.wrap v = (u : Nat))
    (WX : Hid (∀ w, Calls Tryd.prog 8 #[.float .f64 x] w fun e w' => e = .returned (.tuple #[.int .i64 N, .bool W]) ∧ w = w'))
    (RW : Hid (∀ w, Calls Tryd.prog 9 #[.int .u64 n] w fun e w' => e = .returned (.tuple #[.int .i64 N, .bool W]) ∧ w = w'))
    (BX : Hid (∀ w, Calls Tryd.prog 10 #[.float .f64 x] w fun e w' => e = .returned (.int .i64 s) ∧ w = w'))
    (RX : Hid (∀ w, Calls Tryd.prog 11 #[.float .f64 x] w fun e w' => e = .returned (.int .i64 r) ∧ w = w'))
    (RR : Hid (∀ w, Calls Tryd.prog 12 #[.int .u64 n] w fun e w' => e = .returned (.int .i64 r) ∧ w = w'))
    (KX : Hid (∀ w, Calls Tryd.prog 13 #[.float .f64 x] w fun e w' => e = .returned (.int .i64 t) ∧ w = w'))
    (RK : Hid (∀ w, Calls Tryd.prog 14 #[.int .u64 n] w fun e w' => e = .returned (.int .i64 t) ∧ w = w'))
    (FB : Hid (∀ w, Calls Tryd.prog 17 #[.int .i64 v] w fun e w' => e = .returned (.float .f64 u) ∧ w = w'))
    (FR : Hid (∀ w, Calls Tryd.prog 18 #[.int .i64 v] w fun e w' => e = .returned (.float .f64 y) ∧ w = w'))
    (RY : Hid (∀ w, Calls Tryd.prog 12 #[.int .u64 (y : Nat)] w fun e w' => e = .returned (.int .i64 v) ∧ w = w')) :
    Calls Tryd.prog 3 #[.int .u64 n, .int .i64 v, .int .i64 kd] w fun e w' => e = .returned (.bool true) ∧ Below w.heap.size w w' := by
  have hf := call_frombits
  have hb := call_bits
  have NI : Hid (Calls Tryd.prog 15 #[.int .i64 kd] w fun e w' => e = .returned (.string ⟨#[]⟩) ∧ w = w') := by
    rcases hk with hk | hk
    · exact Lib.hid (name_low kd hk w)
    · exact Lib.hid (name_high kd hk w)
  have AW := Lib.hid (awake_any w (h5 5 (by decide)))
  clear h5
  rcases hk with hk | hk
  · have g1 : ¬ (0 : Int) ≤ kd := by omega
    go_enter Tryd.func3, Tryd.ntmps3
    go_wp2_with (first | (go_at_call 8; refine (WX.out _).mono ?_; rintro e w' ⟨rfl, rfl⟩) | (go_at_call 9; refine (RW.out _).mono ?_; rintro e w' ⟨rfl, rfl⟩) | (go_at_call 10; refine (BX.out _).mono ?_; rintro e w' ⟨rfl, rfl⟩) | (go_at_call 11; refine (RX.out _).mono ?_; rintro e w' ⟨rfl, rfl⟩) | (go_at_call 12; with_reducible refine (RR.out _).mono ?_; rintro e w' ⟨rfl, rfl⟩) | (go_at_call 12; refine (RY.out _).mono ?_; rintro e w' ⟨rfl, rfl⟩) | (go_at_call 13; refine (KX.out _).mono ?_; rintro e w' ⟨rfl, rfl⟩) | (go_at_call 14; refine (RK.out _).mono ?_; rintro e w' ⟨rfl, rfl⟩) | (go_at_call 15; refine NI.out.mono ?_; rintro e w' ⟨rfl, rfl⟩) | (go_at_call 17; refine (FB.out _).mono ?_; rintro e w' ⟨rfl, rfl⟩) | (go_at_call 18; refine (FR.out _).mono ?_; rintro e w' ⟨rfl, rfl⟩) | (go_at_call 19; refine AW.out.mono ?_; rintro e w' ⟨rfl, rfl⟩))
    go_ret
    exact ⟨rfl, Below.refl _ _⟩
  · have g1 : (0 : Int) ≤ kd := by omega
    have g2 : ¬ kd < 9 := by omega
    go_enter Tryd.func3, Tryd.ntmps3
    go_wp2_with (first | (go_at_call 8; refine (WX.out _).mono ?_; rintro e w' ⟨rfl, rfl⟩) | (go_at_call 9; refine (RW.out _).mono ?_; rintro e w' ⟨rfl, rfl⟩) | (go_at_call 10; refine (BX.out _).mono ?_; rintro e w' ⟨rfl, rfl⟩) | (go_at_call 11; refine (RX.out _).mono ?_; rintro e w' ⟨rfl, rfl⟩) | (go_at_call 12; with_reducible refine (RR.out _).mono ?_; rintro e w' ⟨rfl, rfl⟩) | (go_at_call 12; refine (RY.out _).mono ?_; rintro e w' ⟨rfl, rfl⟩) | (go_at_call 13; refine (KX.out _).mono ?_; rintro e w' ⟨rfl, rfl⟩) | (go_at_call 14; refine (RK.out _).mono ?_; rintro e w' ⟨rfl, rfl⟩) | (go_at_call 15; refine NI.out.mono ?_; rintro e w' ⟨rfl, rfl⟩) | (go_at_call 17; refine (FB.out _).mono ?_; rintro e w' ⟨rfl, rfl⟩) | (go_at_call 18; refine (FR.out _).mono ?_; rintro e w' ⟨rfl, rfl⟩) | (go_at_call 19; refine AW.out.mono ?_; rintro e w' ⟨rfl, rfl⟩))
    go_ret
    exact ⟨rfl, Below.refl _ _⟩
theorem walk (n v kd : Int) (h0 : 0 ≤ n ∧ n ≤ 18446744073709551615) (h1 : -9223372036854775808 ≤ v ∧ v ≤ 9223372036854775807) (h2 : -9223372036854775808 ≤ kd ∧ kd ≤ 9223372036854775807) (w : World) (h5 : ∀ i, i < 9 → w.cell? ⟨1, i, none⟩ = some (.string (nm i))) :
    Calls Tryd.prog 3 #[.int .u64 n, .int .i64 v, .int .i64 kd] w fun e w' => e = .returned (.bool true) ∧ Below w.heap.size w w' := by
  have hx : n.toNat < 18446744073709551616 := by omega
  have hs : IntKind.i64.wrap n = sgn n.toNat := by unfold sgn; rw [wrap_i64]; split <;> split <;> omega
  have hu : IntKind.u64.wrap v = ((v % 18446744073709551616).toNat : Nat) := by
    have : IntKind.u64.wrap v = v % 18446744073709551616 := by simp [IntKind.wrap, IntKind.bits, IntKind.signed]
    omega
  have hr := rnk_rnk v h1.1 (by omega)
  have FR := from_rank v h1.1
  have RY := ref_rank ((rnk v % 18446744073709551616).toNat : Nat) (by omega) (by omega)
  have hy : rnk (sgn ((rnk v % 18446744073709551616).toNat : Int).toNat) = v := by
    rw [Int.toNat_natCast]
    have : sgn (rnk v % 18446744073709551616).toNat = rnk v := by unfold sgn; split <;> omega
    rw [this, hr.1]
  rw [hy] at RY
  by_cases c : 0 ≤ kd ∧ kd < 9
  · obtain ⟨k, rfl⟩ : ∃ k : Nat, kd = k := ⟨kd.toNat, by omega⟩
    exact core_in n v _ _ _ _ k 0 _ _ _ _ w h5 (by omega) rfl hs hu (Lib.hid (whole_any _ hx)) (Lib.hid (rwhole_any n h0.1 (by omega))) (Lib.hid (bits_any _ hx)) (Lib.hid (rank_any _ hx)) (Lib.hid (ref_rank n h0.1 (by omega))) (Lib.hid (kind_any _ hx)) (Lib.hid (rkind_any n h0.1 (by omega))) (Lib.hid (from_bits v)) (Lib.hid FR) (Lib.hid RY)
  · exact core_out n v _ _ _ _ kd 0 _ _ _ _ w h5 (by omega) rfl hs hu (Lib.hid (whole_any _ hx)) (Lib.hid (rwhole_any n h0.1 (by omega))) (Lib.hid (bits_any _ hx)) (Lib.hid (rank_any _ hx)) (Lib.hid (ref_rank n h0.1 (by omega))) (Lib.hid (kind_any _ hx)) (Lib.hid (rkind_any n h0.1 (by omega))) (Lib.hid (from_bits v)) (Lib.hid FR) (Lib.hid RY)
theorem own : ownKnob Tryd.prog.godebug = none := by kernel_rfl
set_option maxRecDepth 100000 in
theorem contract (H : Type) (enc : TypeId × Value → H) (W : World) (base : Nat) (args : Array Value) (ds gs : List (DataW H)) (before : List MemPlace)
    (hval : ∀ (j : Nat) t v, Tryd.f3.params[j]? = some t → args[j]? = some v → Value.okWide Tryd.prog W .any base t v)
    (hW : DataW.Whole enc Tryd.prog Tryd.f3.params.toList Rows.realTellsSpec.vars false W args.toList ds gs before) (hL : laidMetH Tryd.prog Rows.realTellsRow.laid W) :
    Calls Tryd.prog 3 args W fun e W' => ∃ v, e = .returned v ∧ Rows.realTellsSpec.post enc Tryd.prog Tryd.f3 false true false false W args v W' := by
  have hW' := hW
  obtain ⟨p, q, hA0, hV, rfl, hfz, hnd⟩ := hW
  have hA : DataW.TrodAll enc Tryd.prog W 0 (fun _ => true) true Tryd.f3.params.toList args.toList ds p := hA0
  rw [Tryd.params3] at hA hval
  obtain ⟨v0, vs0, d0, ds0, p0, q0, hargs, rfl, rfl, h0, r0⟩ := trodAll_cons hA
  obtain ⟨v1, vs1, d1, ds1, p1, q1, rfl, rfl, rfl, h1, r1⟩ := trodAll_cons r0
  obtain ⟨v2, vs2, d2, ds2, p2, q2, rfl, rfl, rfl, h2, r2⟩ := trodAll_cons r1
  obtain ⟨rfl, rfl, rfl⟩ := trodAll_nil r2
  obtain rfl : args = #[v0, v1, v2] := by cases args; simp_all
  obtain ⟨rfl, rfl⟩ := trodVars_none hV
  obtain ⟨a0, rfl, rfl, rfl, w0⟩ := open_int Tryd.underlying22 (hval 0 22 v0 rfl rfl) h0
  have b0 := bounds_u64 w0
  obtain ⟨a1, rfl, rfl, rfl, w1⟩ := open_int Tryd.underlying2 (hval 1 2 v1 rfl rfl) h1
  have b1 := bounds_i64 w1
  obtain ⟨a2, rfl, rfl, rfl, w2⟩ := open_int Tryd.underlying3 (hval 2 3 v2 rfl rfl) h2
  have b2 := bounds_i64 w2
  clear hA0
  simp only [List.append_nil] at hW'
  have h5 : ∀ i, i < 9 → W.cell? ⟨1, i, none⟩ = some (.string (nm i)) := fun i hi => (names_cells hL i).trans (by
    match i, hi with
    | 0, _ => rfl
    | 1, _ => rfl
    | 2, _ => rfl
    | 3, _ => rfl
    | 4, _ => rfl
    | 5, _ => rfl
    | 6, _ => rfl
    | 7, _ => rfl
    | 8, _ => rfl)
  refine (walk a0 a1 a2 b0 b1 b2 W h5).mono fun e W' ⟨he, hg⟩ => ?_
  subst he
  exact ⟨_, rfl, _, _, _, [], [], [], hW', trodAll_mk1 (shut_bool Tryd.underlying4 _), (trodAll_cons_mk (shut_int Tryd.underlying22 w0) (trodAll_cons_mk (shut_int Tryd.underlying2 w1) (trodAll_cons_mk (shut_int Tryd.underlying3 w2) trodAll_mk0))), rfl, hg.frame _, fun h => by cases h⟩

theorem laid_met (os : Os) : laidMet Tryd.prog Rows.realTellsRow.laid ((laidWorld os).forCall (fun _ _ => 0) ⟨#[], #[.int .u64 0, .int .i64 0, .int .i64 0], []⟩).memory :=
  laidMet_of_run' 8 (by kernel_rfl) (by kernel_rfl)
theorem reads (os : Os) {H : Type} (enc : TypeId × Value → H) : ∃ places, DataW.whole enc Tryd.prog ((laidWorld os).forCall (fun _ _ => 0) ⟨#[], #[.int .u64 0, .int .i64 0, .int .i64 0], []⟩).memory Tryd.f3.params.toList Rows.realTellsSpec.vars false (#[.int .u64 0, .int .i64 0, .int .i64 0] : Array Value).toList 8 = some ([.lit (.int .u64 0), .lit (.int .i64 0), .lit (.int .i64 0)], [], places) :=
  ⟨[], by kernel_rfl⟩

set_option maxRecDepth 100000 in
theorem lifted (os : Os) (started : os.Started) (H : Type) (enc : TypeId × Value → H) (F : Stop.Interp) :
    ReturnsInHanded {} Tryd.checked os 3 .any ((OpenSpec.ofChange Rows.realTellsSpec).preRow enc Tryd.prog Tryd.f3 Rows.realTellsRow.domain false Rows.realTellsRow.laid) (((OpenSpec.ofChange Rows.realTellsSpec).at F).post enc Tryd.prog Tryd.f3 false true false false) := by
  obtain ⟨places, hx⟩ := reads os enc
  refine returnsInHanded_of_row (C := Tryd.checked) (s := OpenSpec.ofChange Rows.realTellsSpec) own started (by kernel_rfl) Tryd.func3
    (witness_row_at (enc := enc) (C := Tryd.checked) false (laidWorld os) #[.int .u64 0, .int .i64 0, .int .i64 0] rfl (by kernel_rfl) (by kernel_rfl) (by kernel_rfl)
      (OpenSpec.preRow_of_cond 8 hx (by kernel_rfl) (fun k hk => by cases hk) (by kernel_rfl) (laid_met os))) ?_
  intro W base args ds gs before hval hW _ _ _ hL _ _
  exact contract H enc W base args ds gs before hval hW hL

theorem said : Rows.RealTellsSaid :=
  OpenClaim.holds_of_cond 3 Tryd.f3 rfl rfl rfl rfl rfl rfl rfl ⟨rfl, rfl, rfl, rfl, rfl⟩ rfl rfl rfl rfl rfl (by kernel_rfl) Tryd.func3 (by kernel_rfl)
    (of_decide_eq_true (by kernel_rfl)) (by unfold Func.isWrapper; first | (rw [if_pos (by decide +kernel)]; kernel_rfl) | (rw [if_neg (by decide +kernel)]; exact ⟨rfl, rfl⟩))
    (fun os started H enc _ F => by rw [OpenClaim.pre_eq_preRow]; exact lifted os started H enc F)

theorem plain (f : FuncId) (fn : Func) (hf : Tryd.pinned.checked.prog.funcNamed "corduroy/corduroylaw20.RealTells" = some f) (hfn : Tryd.pinned.checked.prog.funcs[f]? = some fn) :
    false = Tryd.pinned.checked.prog.looks [] ∧ ∀ (j : Nat) t, fn.params[j]? = some t → Tryd.pinned.checked.prog.wantsStandIn t = false := by
  obtain rfl : f = 3 := Option.some.inj ((show Tryd.prog.funcNamed "corduroy/corduroylaw20.RealTells" = some 3 by kernel_rfl).symm.trans hf) |>.symm
  obtain rfl : fn = Tryd.f3 := (Option.some.inj (Tryd.func3.symm.trans hfn)).symm
  refine ⟨by kernel_rfl, fun j t ht => ?_⟩
  rw [Tryd.params3] at ht
  have hm : t = 22 ∨ t = 2 ∨ t = 3 := by simpa [or_assoc] using Array.mem_of_getElem? ht
  rcases hm with rfl | rfl | rfl
  · exact (show Tryd.prog.wantsStandIn 22 = false by kernel_rfl)
  · exact (show Tryd.prog.wantsStandIn 2 = false by kernel_rfl)
  · exact (show Tryd.prog.wantsStandIn 3 = false by kernel_rfl)

/-- ████ THE CARD ████ -/
theorem card : Rows.RealTellsCardSaid :=
  Claim7.holds_tied_plain_at .later [] _ _ _ _ said (fun _ h => by cases h) (by kernel_rfl) (fun _ h => by cases h) realTells_row_tie rfl ⟨rfl, rfl⟩ (by kernel_rfl) rfl plain (by kernel_rfl)
end Go.Proofs.YtjdcafeljdnfeaaDoor.realTells
