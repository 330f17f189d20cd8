/-
  THE STATEMENT corduroylaw01.BitsBack: for any numbers, any bytes and any shape the call returns true and leaves its arguments as they were. No condition.
-/
import Derived.Test.YtmfcopfcebacdaaBitsBoth
import Derived.Test.YtmfcopfcebacdaaArr
namespace Go.Proofs.Ytmfcopfcebacdaa.bitsBack
open Go.ChangeShapes Go.WideShapes Go.ChangeAt Go.RowKit
set_option linter.unusedVariables false
set_option maxRecDepth 100000 in
set_option maxHeartbeats 4000000 in
theorem back_walk (a0 a1 : Option Addr) (n cap0 m cap1 : Nat) (l : Nat → Nat) (z : Nat → Int) (hz : ∀ i, i < m → 0 ≤ z i ∧ z i ≤ 255) (width cnt : Int) (w : World) (hn : n ≤ 300) (hm : m ≤ 1000) (H0 : U64s w a0 n l) (H1 : RowOf w a1 m (fun i => .int .u8 (z i))) :
    Calls Try.prog 7 #[.slice a0 n cap0, .slice a1 m cap1, .agg #[.int .i64 width, .int .i64 cnt]] w fun e w' => e = .returned (.bool true) ∧ Below w.heap.size w w' := by
  have h' : ¬ (300 : Int) < n := by omega
  have h'' : ¬ (1000 : Int) < m := by omega
  obtain ⟨xs, er, P0, T0⟩ := pack_tells width a0 n cap0 l
  obtain ⟨mm, ys, fr, hmm, hys, U1, T1⟩ := unpack_tells a1 m cap1 z width cnt hz
  have U1 := Lib.hid U1
  have T1 := Lib.hid T1
  have HY := Lib.hid hys
  clear hys
  have P0 := Lib.hid P0
  have T0 := Lib.hid T0
  have HZ := Lib.hid hz
  have H0 := Lib.hid H0
  have H1 := Lib.hid H1
  clear hz
  go_enter Try.func7, Try.ntmps7
  go_wp2
  go_quiet (fail)
  have hB0 : ∀ k, Below w.heap.size w ((w.alloc (.cells #[.int .i64 width, .int .i64 cnt] 57)).drewN k) := fun k => by
    have := (Below.refl w.heap.size w).alloc (Nat.le_refl _) (.cells #[.int .i64 width, .int .i64 cnt] 57)
    exact ⟨this.os, this.tape, this.output, this.size, this.block⟩
  go_wp2_with fail
  refine (P0.out _ (H0.out.below (hB0 _))).mono ?_
  rintro e w1 ⟨v1, rfl, ho1, hb1⟩
  have HB1 := Lib.hid ((hB0 _).trans (hb1.mono (hB0 _).size))
  clear hb1 hB0
  rcases T0.out with ⟨rfl, k, rfl, hk1, hk2, hxs, hfit⟩ | ⟨e1, e2, rfl⟩
  case' inl =>
    have hlen : xs.length = need n k := by rw [hxs]; exact bytesOf_length _ _
    rw [hlen, hxs, show cellsOf (bytesOf (need n k) (packN k l n)) = rowV (fun i => .int .u8 ((packN k l n / 256 ^ i % 256 : Nat) : Int)) (need n k) from by simp [cellsOf, bytesOf, rowV]] at ho1
    obtain ⟨a2, c2, rfl, hr2, _⟩ := own_reads' ho1
    have UP := Lib.hid (unpack_packed a2 c2 k n l hk1 hk2 hfit w1 hr2)
    have NE := Lib.hid (fun W => need_yes n k hk2 hk1 W)
    have HU := Lib.hid H0.out.2
    have HFIT := Lib.hid hfit
    clear ho1 hr2 hxs hfit hlen T0
    have hne : ((need n k : Nat) != (need n k : Nat)) = false := by simp
    generalize need n k = d at *
    have hne : ((d : Int) != (d : Int)) = false := by simp
    go_wp2_with fail
    refine UP.out.mono ?_
    rintro e w2 ⟨v2, rfl, ho2, hb2⟩
    obtain ⟨a3, c3, rfl, k3⟩ := own_u64s ho2 HU.out
    have HB2 := Lib.hid (HB1.out.trans (hb2.mono HB1.out.size))
    have SA := Lib.hid (same_any a3 a0 n n c3 cap0 l l (by omega) w2 (k3 w2 (Below.refl _ _)) (H0.out.below HB2.out) true (by simp))
    clear ho2 hb2 k3
    go_wp2_with (first | (go_at_call 34; refine SA.out.mono ?_; rintro e w3 ⟨rfl, hb3⟩; have HB3 := Lib.hid hb3; clear hb3) | (go_at_call 30; refine (NE.out _).mono ?_; rintro e w' ⟨rfl, rfl⟩))
    have HBt := Lib.hid (HB2.out.trans (HB3.out.mono HB2.out.size))
  case' inr =>
    clear T0
    go_wp2_with fail
    have HBt := HB1
  all_goals
    refine (U1.out _ (H1.out.below HBt.out)).mono ?_
    rintro e w4 ⟨v4, rfl, ho4, hb4⟩
    obtain ⟨a4, c4, rfl, k4⟩ := own_u64s ho4 HY.out
    have HB4 := Lib.hid (HBt.out.trans (hb4.mono HBt.out.size))
    rcases T1.out with ⟨rfl, k', hk', hk1', hm', hys', hM⟩ | ⟨f1, f2, rfl⟩
    · have hfit' : ∀ i, i < mm → ys i < 2 ^ k' := fun i _ => by rw [hys']; exact Nat.mod_lt _ (Nat.pow_pos (by decide))
      have hP := pack_ok k' hk1' a4 mm c4 ys hmm hfit' w4 (k4 w4 (Below.refl _ _))
      rw [← hk', ← hm', hys', packN_unN, Nat.mod_eq_of_lt hM, bytes_back m z HZ.out] at hP
      have HP := Lib.hid hP
      clear ho4 hb4 k4 hP hfit' hys' hM hk' hm' T1
      go_wp2_with fail
      refine HP.out.mono ?_
      rintro e w5 ⟨v5, rfl, ho5, hb5⟩
      obtain ⟨a5, c5, rfl, k5⟩ := own_conv ho5
      have q1 := k5 w5 (Below.refl _ _)
      have hB5 := HB4.out.trans (hb5.mono HB4.out.size)
      have q2 := conv_any a1 m cap1 z w5 (H1.out.below hB5)
      have HB5 := Lib.hid hB5
      clear ho5 hb5 k5 hB5
      generalize strOfNums ((List.range m).map z) = s at *
      go_wp2_with (go_at_call 23; refine (awake_any _).mono ?_; rintro e w6 ⟨rfl, hb6⟩; have HB6 := Lib.hid hb6; clear hb6)
      go_ret
      exact ⟨rfl, HB5.out.trans (HB6.out.mono HB5.out.size)⟩
    · clear ho4 hb4 k4 T1
      go_wp2_with (go_at_call 23; refine (awake_any _).mono ?_; rintro e w6 ⟨rfl, hb6⟩; have HB6 := Lib.hid hb6; clear hb6)
      go_ret
      exact ⟨rfl, HB4.out.trans (HB6.out.mono HB4.out.size)⟩
theorem back_skip (a0 a1 : Option Addr) (len0 cap0 len1 cap1 : Nat) (width cnt : Int) (w : World) (h : 300 < len0 ∨ 1000 < len1) :
    Calls Try.prog 7 #[.slice a0 len0 cap0, .slice a1 len1 cap1, .agg #[.int .i64 width, .int .i64 cnt]] w fun e w' => e = .returned (.bool true) ∧ Below w.heap.size w w' := by
  have hB0 : ∀ k, Below w.heap.size w ((w.alloc (.cells #[.int .i64 width, .int .i64 cnt] 57)).drewN k) := fun k => by
    have := (Below.refl w.heap.size w).alloc (Nat.le_refl _) (.cells #[.int .i64 width, .int .i64 cnt] 57)
    exact ⟨this.os, this.tape, this.output, this.size, this.block⟩
  by_cases h1 : 300 < len0
  · have h' : (300 : Int) < len0 := by omega
    clear h
    go_enter Try.func7, Try.ntmps7
    go_wp2
    go_quiet (fail)
    go_wp2
    go_ret
    exact ⟨rfl, hB0 _⟩
  · have h' : ¬ (300 : Int) < len0 := by omega
    have h2 : (1000 : Int) < len1 := by omega
    clear h
    go_enter Try.func7, Try.ntmps7
    go_wp2
    go_quiet (fail)
    go_wp2
    go_ret
    exact ⟨rfl, hB0 _⟩
theorem walk (a0 : Option Addr) (len0 cap0 : Nat) (z0 : List Int) (a1 : Option Addr) (len1 cap1 : Nat) (z1 : List Int) (x2 y2 : Int) (w : World) (b0 : IsRow .u64 w a0 len0 cap0 z0) (b1 : IsRow .u8 w a1 len1 cap1 z1) (b2 : (Lit.int .i64 x2).wf = true ∧ (Lit.int .i64 y2).wf = true) :
    Calls Try.prog 7 #[.slice a0 len0 cap0, .slice a1 len1 cap1, .agg #[.int .i64 x2, .int .i64 y2]] w fun e w' => e = .returned (.bool true) ∧ Below w.heap.size w w' := by
  by_cases h : 300 < len0 ∨ 1000 < len1
  · exact back_skip a0 a1 len0 cap0 len1 cap1 x2 y2 w h
  · exact back_walk a0 a1 len0 cap0 len1 cap1 _ _ b1.bytes.2 x2 y2 w (by omega) (by omega) b0.u64s b1.bytes.1
theorem own : ownKnob Try.prog.godebug = none := by kernel_rfl
set_option maxRecDepth 100000 in
theorem contract (H : Type) (enc : TypeId × Value → H) (W : World) (base : Nat) (args : Array Value) (ds gs : List (DataW H)) (before : List MemPlace)
    (hval : ∀ (j : Nat) t v, Try.f7.params[j]? = some t → args[j]? = some v → Value.okWide Try.prog W .any base t v)
    (hW : DataW.Whole enc Try.prog Try.f7.params.toList Rows.bitsBackSpec.vars false W args.toList ds gs before) :
    Calls Try.prog 7 args W fun e W' => ∃ v, e = .returned v ∧ Rows.bitsBackSpec.post enc Try.prog Try.f7 false true false false W args v W' := by
  have hW' := hW
  obtain ⟨p, q, hA0, hV, rfl, hfz, hnd⟩ := hW
  have hA : DataW.TrodAll enc Try.prog W 0 (fun _ => true) true Try.f7.params.toList args.toList ds p := hA0
  rw [Try.params7] at hA hval
  obtain ⟨v0, vs0, d0, ds0, p0, q0, hargs, rfl, rfl, h0, r0⟩ := trodAll_cons hA
  obtain ⟨v1, vs1, d1, ds1, p1, q1, rfl, rfl, rfl, h1, r1⟩ := trodAll_cons r0
  obtain ⟨v2, vs2, d2, ds2, p2, q2, rfl, rfl, rfl, h2, r2⟩ := trodAll_cons r1
  obtain ⟨rfl, rfl, rfl⟩ := trodAll_nil r2
  obtain rfl : args = #[v0, v1, v2] := by cases args; simp_all
  obtain ⟨rfl, rfl⟩ := trodVars_none hV
  have hWhole := hW'
  obtain ⟨a0, len0, cap0, rfl⟩ := okWide_slice Try.underlying22 (hval 0 22 v0 rfl rfl)
  have k0 := h0
  have lt0 : ∀ x ∈ p0, x.block < W.heap.size := by obtain ⟨m, hm⟩ := k0; exact DataW.trod_lt m _ _ _ hm
  obtain ⟨z0, b0⟩ : ∃ zs, IsRow .u64 W a0 len0 cap0 zs := by
    obtain ⟨fuel, hf⟩ := h0
    rcases open_ints Try.underlying22 Try.underlying29 (by kernel_rfl) hf with ⟨hcs, _⟩ | ⟨x, l, c, zs, hcs, _, hl, hm, hz, _, hcell, hwz⟩
    · simp [Value.cells] at hcs
      obtain ⟨rfl, rfl, rfl⟩ := hcs
      exact ⟨[], isRow_nil _ _⟩
    · simp [Value.cells] at hcs
      obtain ⟨rfl, rfl, rfl⟩ := hcs
      exact ⟨zs, isRow_of hl hm (by simpa using hz) hcell hwz⟩
  obtain ⟨a1, len1, cap1, rfl⟩ := okWide_slice Try.underlying34 (hval 1 34 v1 rfl rfl)
  have k1 := h1
  have lt1 : ∀ x ∈ p1, x.block < W.heap.size := by obtain ⟨m, hm⟩ := k1; exact DataW.trod_lt m _ _ _ hm
  obtain ⟨z1, b1⟩ : ∃ zs, IsRow .u8 W a1 len1 cap1 zs := by
    obtain ⟨fuel, hf⟩ := h1
    rcases open_ints Try.underlying34 Try.underlying5 (by kernel_rfl) hf with ⟨hcs, _⟩ | ⟨x, l, c, zs, hcs, _, hl, hm, hz, _, hcell, hwz⟩
    · simp [Value.cells] at hcs
      obtain ⟨rfl, rfl, rfl⟩ := hcs
      exact ⟨[], isRow_nil _ _⟩
    · simp [Value.cells] at hcs
      obtain ⟨rfl, rfl, rfl⟩ := hcs
      exact ⟨zs, isRow_of hl hm (by simpa using hz) hcell hwz⟩
  obtain ⟨x2, y2, rfl, rfl, rfl, w2x, w2y⟩ := open_arr2 Try.underlying57 Try.underlying3 (by kernel_rfl) (by kernel_rfl) (hval 2 57 v2 rfl rfl) h2
  have b2 := And.intro w2x w2y
  clear hA0
  refine (walk a0 len0 cap0 z0 a1 len1 cap1 z1 x2 y2 W b0 b1 b2).mono fun e W' ⟨he, hg⟩ => ?_
  subst he
  exact ⟨_, rfl, _, _, _, [], _, [], hW', trodAll_mk1 (shut_bool Try.underlying4 _), (trodAll_cons_mk (Below.trod laidOut (by kernel_rfl) (of_decide_eq_true (by kernel_rfl)) k0 hg lt0) (trodAll_cons_mk (Below.trod laidOut (by kernel_rfl) (of_decide_eq_true (by kernel_rfl)) k1 hg lt1) (trodAll_cons_mk (shut_arr2 Try.underlying57 Try.underlying3 (by kernel_rfl) (by kernel_rfl) w2x w2y) trodAll_mk0))), rfl, hg.frame _, fun h => by cases h⟩

set_option maxRecDepth 100000 in
theorem lifted (os : Os) (started : os.Started) (H : Type) (enc : TypeId × Value → H) :
    ReturnsInHanded {} Try.checked os 7 .any (Rows.bitsBackSpec.pre6 enc Try.prog Try.f7 Rows.bitsBackRow.domain false) (Rows.bitsBackSpec.post enc Try.prog Try.f7 false true false false) := by
  refine returnsInHanded_of_change (C := Try.checked) own started (by kernel_rfl) Try.func7
    (ChangeSpec.witness6 (enc := enc) (C := Try.checked) false ⟨#[], #[.slice none 0 0, .slice none 0 0, .agg #[.int .i64 0, .int .i64 0]], []⟩ 8 (by kernel_rfl) (by kernel_rfl) (by kernel_rfl) (by kernel_rfl)) ?_
  intro W base args ds gs before hval hW _ _
  exact contract H enc W base args ds gs before hval hW

/-- ████ THE STATEMENT ████ -/
theorem proved : Rows.BitsBackSaid :=
  OpenClaim.holds_of_wide 7 Try.f7 rfl rfl rfl rfl rfl rfl rfl ⟨rfl, rfl, rfl, rfl, rfl⟩ rfl rfl rfl rfl rfl (by kernel_rfl) Try.func7 (by kernel_rfl)
    (of_decide_eq_true (by kernel_rfl)) (by unfold Func.isWrapper; first | (rw [if_pos (by decide +kernel)]; kernel_rfl) | (rw [if_neg (by decide +kernel)]; exact ⟨rfl, rfl⟩))
    (fun os started H enc _ => lifted os started H enc)
end Go.Proofs.Ytmfcopfcebacdaa.bitsBack
