/-
  THE STATEMENT corduroylaw01.BitsApart: for any two rows of numbers and any width the call returns true and leaves its arguments as they were. No condition.
-/
import Derived.Test.YtmfcopfcebacdaaBitsBoth
namespace Go.Proofs.Ytmfcopfcebacdaa.bitsApart
open Go.ChangeShapes Go.WideShapes Go.ChangeAt Go.RowKit
set_option linter.unusedVariables false
theorem apart_skip (a0 a1 : Option Addr) (len0 cap0 len1 cap1 : Nat) (width : Int) (w : World) (h : 200 < len0 ∨ len1 ≠ len0) :
    Calls Try.prog 10 #[.slice a0 len0 cap0, .slice a1 len1 cap1, .int .i64 width] w fun e w' => e = .returned (.bool true) ∧ Below w.heap.size w w' := by
  by_cases h1 : 200 < len0
  · have h' : (200 : Int) < len0 := by omega
    clear h
    go_enter Try.func10, Try.ntmps10
    go_wp2
    go_ret
    exact ⟨rfl, Below.refl _ _⟩
  · have h' : ¬ (200 : Int) < len0 := by omega
    have h2 : ((len1 : Int) != (len0 : Int)) = true := by rw [bne_iff_ne]; omega
    clear h
    go_enter Try.func10, Try.ntmps10
    go_wp2
    go_ret
    exact ⟨rfl, Below.refl _ _⟩
set_option maxRecDepth 100000 in
set_option maxHeartbeats 2000000 in
theorem apart_walk (a0 a1 : Option Addr) (n cap0 cap1 : Nat) (l r : Nat → Nat) (width : Int) (w : World) (h : n ≤ 200) (H0 : U64s w a0 n l) (H1 : U64s w a1 n r) :
    Calls Try.prog 10 #[.slice a0 n cap0, .slice a1 n cap1, .int .i64 width] w fun e w' => e = .returned (.bool true) ∧ Below w.heap.size w w' := by
  have h' : ¬ (200 : Int) < n := by omega
  have h2 : ((n : Int) != (n : Int)) = false := by simp
  obtain ⟨xs, er, P0, T0⟩ := pack_tells width a0 n cap0 l
  obtain ⟨ys, fr, P1, T1⟩ := pack_tells width a1 n cap1 r
  have P0 := Lib.hid P0
  have P1 := Lib.hid P1
  have H0 := Lib.hid H0
  have H1 := Lib.hid H1
  have T0 := Lib.hid T0
  have T1 := Lib.hid T1
  go_enter Try.func10, Try.ntmps10
  go_wp2_with fail
  refine (P0.out _ H0.out).mono ?_
  rintro e w1 ⟨v1, rfl, ho1, hb1⟩
  obtain ⟨a1', c1, rfl, k1⟩ := own_conv ho1
  have K1 := Lib.hid k1
  have HB1 := Lib.hid hb1
  clear ho1 hb1 k1
  go_wp2_with fail
  refine (P1.out _ (H1.out.below HB1.out)).mono ?_
  rintro e w2 ⟨v2, rfl, ho2, hb2⟩
  obtain ⟨a2', c2, rfl, k2⟩ := own_conv ho2
  have HB2 := Lib.hid hb2
  have HB := Lib.hid (HB1.out.trans (hb2.mono HB1.out.size))
  have K1 := Lib.hid (fun W (hW : Below w2.heap.size w2 W) => K1.out W (hb2.trans (hW.mono hb2.size)))
  have K2 := Lib.hid k2
  clear ho2 hb2 k2
  rcases T0.out with ⟨rfl, k, hk, hk1, hk2, hxs, hfit⟩ | ⟨e1, e2, rfl⟩
  · rcases T1.out with ⟨rfl, k', hk', _, _, hys, hfit'⟩ | ⟨e3, e4, rfl⟩
    · obtain rfl : k = k' := by omega
      have hS0 := H0.out.below HB.out
      have hS1 := H1.out.below HB.out
      clear T0 T1
      obtain ⟨q, hq⟩ : ∃ q, decide (n = n ∧ ∀ i, i < n → l i = r i) = q := ⟨_, rfl⟩
      have hs : ((strOfNums xs).toList == (strOfNums ys).toList) = q := by
        rw [← hq, hxs, hys]
        exact pack_text k n l r hfit hfit'
      have SA := Lib.hid (fun W (hW : Below w2.heap.size w2 W) => same_any a0 a1 n n cap0 cap1 l r (by omega) W (hS0.below hW) (hS1.below hW) q hq)
      have BR : ∀ W, Below w2.heap.size w2 W → Below w2.heap.size w2 W.drew := fun W h => h.drew
      have k1 := K1.out w2.drew (Below.refl _ _).drew
      have k2 := K2.out w2.drew (Below.refl _ _).drew
      clear hfit hfit' hxs hys hk' hS0 hS1 BR hq
      generalize strOfNums xs = s at *
      generalize strOfNums ys = t at *
      go_wp2
      go_region_held3 (fun w' => (convert 34 9 (.slice a1' xs.length c1)).run Try.prog w' = .ok (.string s) w' ∧ (convert 34 9 (.slice a2' ys.length c2)).run Try.prog w' = .ok (.string t) w')
        (first | (exact ⟨k1, k2⟩) | (exact ⟨q1, q2⟩) | (exact ⟨q3, q4⟩) | go_keep)
        (first
          | (go_at_call 34; refine (SA.out _ (Below.refl _ _).drew).mono ?_; rintro e w3 ⟨rfl, hb3⟩; have q1 := K1.out w3 ((Below.refl _ _).drew.trans (hb3.mono (Nat.le_refl _))); have q2 := K2.out w3 ((Below.refl _ _).drew.trans (hb3.mono (Nat.le_refl _))); have HB3 := Lib.hid ((Below.refl w2.heap.size w2).drew.trans (hb3.mono (Nat.le_refl _))); clear hb3)
          | (go_at_call 23; refine (awake_any _).mono ?_; rintro e w4 ⟨rfl, hb4⟩; have HB4 := Lib.hid hb4; have q3 := K1.out w4 (HB3.out.trans (hb4.mono HB3.out.size)); have q4 := K2.out w4 (HB3.out.trans (hb4.mono HB3.out.size)); clear hb4))
      go_wp2
      go_ret
      refine ⟨rfl, ?_⟩
      have t1 := HB.out.trans (HB3.out.mono HB.out.size)
      exact t1.trans (HB4.out.mono t1.size)
    · clear hxs hfit T0 T1
      go_wp2_with (go_at_call 23; refine (awake_any _).mono ?_; rintro e w4 ⟨rfl, hb4⟩; have HB4 := Lib.hid hb4; clear hb4)
      go_ret
      exact ⟨rfl, HB.out.trans (HB4.out.mono HB.out.size)⟩
  · rcases T1.out with ⟨rfl, k', hk', _, _, hys, hfit'⟩ | ⟨e3, e4, rfl⟩
    · clear hys hfit' T0 T1
      go_wp2_with (go_at_call 23; refine (awake_any _).mono ?_; rintro e w4 ⟨rfl, hb4⟩; have HB4 := Lib.hid hb4; clear hb4)
      go_ret
      exact ⟨rfl, HB.out.trans (HB4.out.mono HB.out.size)⟩
    · clear T0 T1
      go_wp2_with (go_at_call 23; refine (awake_any _).mono ?_; rintro e w4 ⟨rfl, hb4⟩; have HB4 := Lib.hid hb4; clear hb4)
      go_ret
      exact ⟨rfl, HB.out.trans (HB4.out.mono HB.out.size)⟩
theorem walk (a0 : Option Addr) (len0 cap0 : Nat) (z0 : List Int) (a1 : Option Addr) (len1 cap1 : Nat) (z1 : List Int) (width : Int) (w : World) (b0 : IsRow .u64 w a0 len0 cap0 z0) (b1 : IsRow .u64 w a1 len1 cap1 z1) (b2 : -9223372036854775808 ≤ width ∧ width ≤ 9223372036854775807) :
    Calls Try.prog 10 #[.slice a0 len0 cap0, .slice a1 len1 cap1, .int .i64 width] w fun e w' => e = .returned (.bool true) ∧ Below w.heap.size w w' := by
  by_cases h : 200 < len0 ∨ len1 ≠ len0
  · exact apart_skip a0 a1 len0 cap0 len1 cap1 width w h
  · obtain rfl : len1 = len0 := by omega
    exact apart_walk a0 a1 len1 cap0 cap1 _ _ width w (by omega) b0.u64s b1.u64s
theorem own : ownKnob Try.prog.godebug = none := by kernel_rfl
set_option maxRecDepth 100000 in
theorem contract (H : Type) (enc : TypeId × Value → H) (W : World) (base : Nat) (args : Array Value) (ds gs : List (DataW H)) (before : List MemPlace)
    (hval : ∀ (j : Nat) t v, Try.f10.params[j]? = some t → args[j]? = some v → Value.okWide Try.prog W .any base t v)
    (hW : DataW.Whole enc Try.prog Try.f10.params.toList Rows.bitsApartSpec.vars false W args.toList ds gs before) :
    Calls Try.prog 10 args W fun e W' => ∃ v, e = .returned v ∧ Rows.bitsApartSpec.post enc Try.prog Try.f10 false true false false W args v W' := by
  have hW' := hW
  obtain ⟨p, q, hA0, hV, rfl, hfz, hnd⟩ := hW
  have hA : DataW.TrodAll enc Try.prog W 0 (fun _ => true) true Try.f10.params.toList args.toList ds p := hA0
  rw [Try.params10] at hA hval
  obtain ⟨v0, vs0, d0, ds0, p0, q0, hargs, rfl, rfl, h0, r0⟩ := trodAll_cons hA
  obtain ⟨v1, vs1, d1, ds1, p1, q1, rfl, rfl, rfl, h1, r1⟩ := trodAll_cons r0
  obtain ⟨v2, vs2, d2, ds2, p2, q2, rfl, rfl, rfl, h2, r2⟩ := trodAll_cons r1
  obtain ⟨rfl, rfl, rfl⟩ := trodAll_nil r2
  obtain rfl : args = #[v0, v1, v2] := by cases args; simp_all
  obtain ⟨rfl, rfl⟩ := trodVars_none hV
  have hWhole := hW'
  obtain ⟨a0, len0, cap0, rfl⟩ := okWide_slice Try.underlying22 (hval 0 22 v0 rfl rfl)
  have k0 := h0
  have lt0 : ∀ x ∈ p0, x.block < W.heap.size := by obtain ⟨m, hm⟩ := k0; exact DataW.trod_lt m _ _ _ hm
  obtain ⟨z0, b0⟩ : ∃ zs, IsRow .u64 W a0 len0 cap0 zs := by
    obtain ⟨fuel, hf⟩ := h0
    rcases open_ints Try.underlying22 Try.underlying29 (by kernel_rfl) hf with ⟨hcs, _⟩ | ⟨x, l, c, zs, hcs, _, hl, hm, hz, _, hcell, hwz⟩
    · simp [Value.cells] at hcs
      obtain ⟨rfl, rfl, rfl⟩ := hcs
      exact ⟨[], isRow_nil _ _⟩
    · simp [Value.cells] at hcs
      obtain ⟨rfl, rfl, rfl⟩ := hcs
      exact ⟨zs, isRow_of hl hm (by simpa using hz) hcell hwz⟩
  obtain ⟨a1, len1, cap1, rfl⟩ := okWide_slice Try.underlying22 (hval 1 22 v1 rfl rfl)
  have k1 := h1
  have lt1 : ∀ x ∈ p1, x.block < W.heap.size := by obtain ⟨m, hm⟩ := k1; exact DataW.trod_lt m _ _ _ hm
  obtain ⟨z1, b1⟩ : ∃ zs, IsRow .u64 W a1 len1 cap1 zs := by
    obtain ⟨fuel, hf⟩ := h1
    rcases open_ints Try.underlying22 Try.underlying29 (by kernel_rfl) hf with ⟨hcs, _⟩ | ⟨x, l, c, zs, hcs, _, hl, hm, hz, _, hcell, hwz⟩
    · simp [Value.cells] at hcs
      obtain ⟨rfl, rfl, rfl⟩ := hcs
      exact ⟨[], isRow_nil _ _⟩
    · simp [Value.cells] at hcs
      obtain ⟨rfl, rfl, rfl⟩ := hcs
      exact ⟨zs, isRow_of hl hm (by simpa using hz) hcell hwz⟩
  obtain ⟨a2, rfl, rfl, rfl, w2⟩ := open_int Try.underlying3 (hval 2 3 v2 rfl rfl) h2
  have b2 := bounds_i64 w2
  clear hA0
  refine (walk a0 len0 cap0 z0 a1 len1 cap1 z1 a2 W b0 b1 b2).mono fun e W' ⟨he, hg⟩ => ?_
  subst he
  exact ⟨_, rfl, _, _, _, [], _, [], hW', trodAll_mk1 (shut_bool Try.underlying4 _), (trodAll_cons_mk (Below.trod laidOut (by kernel_rfl) (of_decide_eq_true (by kernel_rfl)) k0 hg lt0) (trodAll_cons_mk (Below.trod laidOut (by kernel_rfl) (of_decide_eq_true (by kernel_rfl)) k1 hg lt1) (trodAll_cons_mk (shut_int Try.underlying3 w2) trodAll_mk0))), rfl, hg.frame _, fun h => by cases h⟩

set_option maxRecDepth 100000 in
theorem lifted (os : Os) (started : os.Started) (H : Type) (enc : TypeId × Value → H) :
    ReturnsInHanded {} Try.checked os 10 .any (Rows.bitsApartSpec.pre6 enc Try.prog Try.f10 Rows.bitsApartRow.domain false) (Rows.bitsApartSpec.post enc Try.prog Try.f10 false true false false) := by
  refine returnsInHanded_of_change (C := Try.checked) own started (by kernel_rfl) Try.func10
    (ChangeSpec.witness6 (enc := enc) (C := Try.checked) false ⟨#[], #[.slice none 0 0, .slice none 0 0, .int .i64 0], []⟩ 8 (by kernel_rfl) (by kernel_rfl) (by kernel_rfl) (by kernel_rfl)) ?_
  intro W base args ds gs before hval hW _ _
  exact contract H enc W base args ds gs before hval hW

/-- ████ THE STATEMENT ████ -/
theorem proved : Rows.BitsApartSaid :=
  OpenClaim.holds_of_wide 10 Try.f10 rfl rfl rfl rfl rfl rfl rfl ⟨rfl, rfl, rfl, rfl, rfl⟩ rfl rfl rfl rfl rfl (by kernel_rfl) Try.func10 (by kernel_rfl)
    (of_decide_eq_true (by kernel_rfl)) (by unfold Func.isWrapper; first | (rw [if_pos (by decide +kernel)]; kernel_rfl) | (rw [if_neg (by decide +kernel)]; exact ⟨rfl, rfl⟩))
    (fun os started H enc _ => lifted os started H enc)
end Go.Proofs.Ytmfcopfcebacdaa.bitsApart
