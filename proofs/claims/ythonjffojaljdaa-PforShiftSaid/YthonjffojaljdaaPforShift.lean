/-
  THE STATEMENT corduroylaw11.PforShift: for any numbers and any step the call returns true and leaves its argument as it was. No condition.
-/
import Derived.Test.YthonjffojaljdaaPforJ
import Derived.Test.YthonjffojaljdaaWidRef
import Derived.Test.YthonjffojaljdaaIsRow
import Derived.BigQuiet
namespace Go.Proofs.Ythonjffojaljdaa.pforShift
open Go.ChangeShapes Go.WideShapes Go.ChangeAt Go.RowKit Go.BigFrame
set_option linter.unusedVariables false
theorem out (a : Option Addr) (n cap : Nat) (b : Int) (hl : 300 < n ∨ n = 0) (W : World) :
    Calls Try.prog 10 #[.slice a n cap, .int .i64 b] W fun e w' => e = .returned (.bool true) ∧ Below W.heap.size W w' := by
  by_cases h : 300 < n
  · have h1 : (300 : Int) < n := by omega
    clear hl
    go_enter Try.func10, Try.ntmps10
    go_wp2
    go_ret
    exact ⟨rfl, Below.refl _ _⟩
  · obtain rfl : n = 0 := by omega
    clear hl h
    go_enter Try.func10, Try.ntmps10
    go_wp2
    go_ret
    exact ⟨rfl, Below.refl _ _⟩
set_option maxRecDepth 100000 in
set_option maxHeartbeats 2000000 in
theorem main (a : Option Addr) (n cap : Nat) (x : Nat → Int) (b : Int) (hn : n ≤ 300) (h0 : 0 < n) (hx : ∀ i, i < n → -9223372036854775808 ≤ x i ∧ x i ≤ 9223372036854775807) (hb1 : -9223372036854775808 ≤ b) (hb2 : b ≤ 9223372036854775807) (W : World) (h : RowOf W a n (fun i => .int .i64 (x i))) :
    Calls Try.prog 10 #[.slice a n cap, .int .i64 b] W fun e w' => e = .returned (.bool true) ∧ Below W.heap.size W w' := by
  obtain ⟨i0, hi, hz0, hz1, hz2⟩ := info_parts i64Info
  have hbk : blk n = true := blk_in (by omega) (by omega)
  have SZ := Lib.hid (fun (a2 : Option Addr) (c2 : Nat) (z : Nat → Int) (V : World) (hr : RowOf V a2 n (fun i => .int .i64 (z i))) => (show Calls Try.prog 29 #[.agg #[], .slice a2 n c2] V fun e w' => e = .returned (.int .i64 (fl z n : Nat)) ∧ Below V.heap.size V w' from by
    have := fsz_any a2 n c2 z V hr
    rwa [hbk, if_pos rfl] at this))
  have H := Lib.hid h
  have HX := Lib.hid hx
  have AW := Lib.hid (fun V => awake11_any V)
  have hfl := fl_le x n
  obtain ⟨S, hS⟩ : ∃ S, fl x n = S := ⟨_, rfl⟩
  have HS := Lib.hid hS
  rw [hS] at hfl
  have g1 : ¬ (300 : Int) < n := by omega
  have g2 : ¬ (n : Int) = 0 := by omega
  have g3 : ¬ (S : Int) < 10 := by omega
  have g4 : ¬ (10 + 8 * (n : Int)) < (S : Int) := by omega
  clear h hx hbk hS
  go_enter Try.func10, Try.ntmps10
  go_wp2_with (first
    | (go_at_call 29; refine (SZ.out _ _ x _ H.out).mono ?_; rintro e w1 ⟨rfl, hb⟩
       rw [HS.out]
       have ho : (w1.alloc (.cells #[] 2)).ownsRow w1.heap.size 2 1 (.slice (some ⟨w1.heap.size, 0, none⟩) 0 0) 0 [] := World.ownsRow_lit w1 #[] 0 (Nat.le_refl _) (by decide) rfl
       obtain ⟨v2, w2, hrun, hown, hg, _⟩ := run_append_row (P := Try.prog) (w1.alloc (.cells #[] 2)) w1.heap.size 22 22 2 i0 (.int .i64 0) 8 Try.underlying22 hi hz0 hz1 hz2 rfl _ 0 [] ho a n cap _ ((H.out.below hb).below ((Below.refl _ _).alloc (Nat.le_refl _) _)) (fun i hi => rfl) (by unfold maxLen; omega) (by omega) (by simp)
       rw [Nat.zero_add, List.nil_append] at hown
       have hb2 := ((Below.refl w1.heap.size w1).alloc (Nat.le_refl _) (.cells #[] 2)).grown hg (by simp) (fun j hj => (ho.lt j hj).1)
       obtain ⟨n1, rfl⟩ : ∃ n1, n = n1 + 1 := ⟨n - 1, by omega⟩
       obtain ⟨g, c, rfl⟩ := ownsRow_succ hown
       have HRUN := Lib.hid hrun; have HO2 := Lib.hid hown; have HB1 := Lib.hid hb; have HB2 := Lib.hid hb2; clear hrun hown hg hb2 hb ho)
    | (at_builtin; refine wpList_append_ran _ _ rfl _ _ 22 rfl _ _ _ rfl rfl HRUN.out ?_; clear HRUN))
  go_loopw [7] (fun i wr => ∃ k : Nat, k ≤ n1 + 1 ∧ i = .int .i64 k ∧ (∀ j, j < k → -9223372036854775808 ≤ x j + b ∧ x j + b ≤ 9223372036854775807) ∧ wr.ownsRow w1.heap.size 2 1 (.slice (some ⟨g, 0, none⟩) (n1 + 1) c) (n1 + 1) (rowV (fun j => .int .i64 (if j < k then x j + b else x j)) (n1 + 1)) ∧ Below w1.heap.size w1 wr) (fun i _ => n1 + 1 - (intOf i).toNat)
  case atStart => exact ⟨0, by omega, rfl, fun j hj => absurd hj (Nat.not_lt_zero _), by simpa using HO2.out, HB2.out⟩
  case round =>
    obtain ⟨k, hk, rfl, hin, ho, hb⟩ := hrel
    have hs1 := HB1.out.size
    have hg1 := (ho.lt g rfl).1
    by_cases hkn : k < n1 + 1
    · have k1 : (k : Int) < (n1 : Int) + 1 := by omega
      have k0 : (0 : Int) ≤ k := by omega
      obtain ⟨bb, off, rfl, hblt, hc⟩ := ((H.out.below HB1.out).below hb).at_ hkn
      obtain ⟨bb', off', he, hblt', _⟩ := H.out.at_ hkn
      cases he
      have c0 := hc k hkn
      have hxk := HX.out k hkn
      have q0 := ho.cellAt k (by omega)
      rw [rowV_get _ hkn, if_neg (Nat.lt_irrefl k)] at q0
      have q1 := ho.frozenAt k
      have hgl := hg1
      have hbl2 : bb < w1.heap.size := by omega
      have hne : ¬ g = bb := by omega
      have hne' : ¬ bb = g := by omega
      have HIN := Lib.hid hin
      have HO3 := Lib.hid ho
      have HB3 := Lib.hid hb
      clear hin ho hb hc hblt hg1
      by_cases hr : -9223372036854775808 ≤ x k + b ∧ x k + b ≤ 9223372036854775807
      · have HRR := Lib.hid hr
        obtain ⟨hr1, hr2⟩ := hr
        have HST := Lib.hid (HO3.out.stored k (.int .i64 (x k + b))).1
        have d1 : (wr.setCell ⟨g, k, none⟩ (.int .i64 (x k + b))).cell? ⟨g, k, none⟩ = some (.int .i64 (x k + b)) := World.cell?_setCell_same' _ _ _ (by rw [q0]; rfl)
        have HBS := Lib.hid ((Below.refl w1.heap.size wr).setCell (p := ⟨g, k, none⟩) hgl (.int .i64 (x k + b)))
        have d2 : (wr.setCell ⟨g, k, none⟩ (.int .i64 (x k + b))).cell? ⟨bb, off + k, none⟩ = some (.int .i64 (x k)) := (HBS.out.cell (p := ⟨bb, off + k, none⟩) (by show bb < _; omega)).trans c0
        have HD1 := Lib.hid d1
        have HD2 := Lib.hid d2
        clear d1 d2
        by_cases hbp : 0 < b
        · have p1 : x k < x k + b := by omega
          go_upto_region 11 with fail
          have d1 := HD1.out
          have d2 := HD2.out
          generalize wr.setCell ⟨g, k, none⟩ (.int .i64 (x k + b)) = w5 at *
          clear q0 q1 c0
          go_quiet (fail)
          go_wp2_with fail
          go_roundw
          case rel =>
            refine ⟨k + 1, by omega, by go_num, fun j hj => ?_, ?_, below_drewN (HB3.out.trans HBS.out) _⟩
            · by_cases e : j < k
              · exact HIN.out j e
              · obtain rfl : j = k := by omega
                exact HRR.out
            · have h1 := HST.out
              rw [rowV_set] at h1
              rw [rowV_congr (g := fun j => if j = k then .int .i64 (x k + b) else .int .i64 (if j < k then x j + b else x j)) (fun j hj => by
                by_cases e : j = k
                · subst e; simp
                · rw [if_neg e]
                  by_cases e2 : j < k
                  · rw [if_pos e2, if_pos (by omega)]
                  · rw [if_neg e2, if_neg (by omega)])]
              exact h1
          case measure => simp [intOf]; omega
        · have p1 : ¬ x k < x k + b := by omega
          go_upto_region 11 with fail
          have d1 := HD1.out
          have d2 := HD2.out
          generalize wr.setCell ⟨g, k, none⟩ (.int .i64 (x k + b)) = w5 at *
          clear q0 q1 c0
          go_quiet (fail)
          go_wp2_with fail
          go_roundw
          case rel =>
            refine ⟨k + 1, by omega, by go_num, fun j hj => ?_, ?_, below_drewN (HB3.out.trans HBS.out) _⟩
            · by_cases e : j < k
              · exact HIN.out j e
              · obtain rfl : j = k := by omega
                exact HRR.out
            · have h1 := HST.out
              rw [rowV_set] at h1
              rw [rowV_congr (g := fun j => if j = k then .int .i64 (x k + b) else .int .i64 (if j < k then x j + b else x j)) (fun j hj => by
                by_cases e : j = k
                · subst e; simp
                · rw [if_neg e]
                  by_cases e2 : j < k
                  · rw [if_pos e2, if_pos (by omega)]
                  · rw [if_neg e2, if_neg (by omega)])]
              exact h1
          case measure => simp [intOf]; omega
      · obtain ⟨V, hV⟩ : ∃ V, wrap64 (x k + b) = V := ⟨_, rfl⟩
        have hVv : V = x k + b - 18446744073709551616 ∧ 0 < b ∨ V = x k + b + 18446744073709551616 ∧ b < 0 := by
          rw [← hV]
          unfold wrap64
          omega
        have b0 : ¬ b = 0 := by omega
        have HV := Lib.hid hV
        clear hr hV
        have d1 : (wr.setCell ⟨g, k, none⟩ (.int .i64 V)).cell? ⟨g, k, none⟩ = some (.int .i64 V) := World.cell?_setCell_same' _ _ _ (by rw [q0]; rfl)
        have HBS := Lib.hid ((Below.refl w1.heap.size wr).setCell (p := ⟨g, k, none⟩) hgl (.int .i64 V))
        have d2 : (wr.setCell ⟨g, k, none⟩ (.int .i64 V)).cell? ⟨bb, off + k, none⟩ = some (.int .i64 (x k)) := (HBS.out.cell (p := ⟨bb, off + k, none⟩) (by show bb < _; omega)).trans c0
        have HD1 := Lib.hid d1
        have HD2 := Lib.hid d2
        clear d1 d2
        by_cases hbp : 0 < b
        · have p1 : ¬ x k < V := by omega
          clear hVv
          go_upto_region 11 with fail
          rw [HV.out]
          have d1 := HD1.out
          have d2 := HD2.out
          generalize wr.setCell ⟨g, k, none⟩ (.int .i64 V) = w5 at *
          clear q0 q1 c0
          go_quiet (fail)
          go_wp2_with (go_at_call 30; refine (AW.out _).mono ?_; rintro e w6 ⟨rfl, hb⟩; have HB6 := Lib.hid hb; clear hb)
          go_ret
          have hA := below_drewN (HB1.out.trans ((HB3.out.trans HBS.out).mono hs1)) nq
          exact ⟨rfl, hA.trans (HB6.out.mono hA.size)⟩
        · have p1 : x k < V := by omega
          clear hVv
          go_upto_region 11 with fail
          rw [HV.out]
          have d1 := HD1.out
          have d2 := HD2.out
          generalize wr.setCell ⟨g, k, none⟩ (.int .i64 V) = w5 at *
          clear q0 q1 c0
          go_quiet (fail)
          go_wp2_with (go_at_call 30; refine (AW.out _).mono ?_; rintro e w6 ⟨rfl, hb⟩; have HB6 := Lib.hid hb; clear hb)
          go_ret
          have hA := below_drewN (HB1.out.trans ((HB3.out.trans HBS.out).mono hs1)) nq
          exact ⟨rfl, hA.trans (HB6.out.mono hA.size)⟩
    · obtain rfl : k = n1 + 1 := by omega
      have k1 : ¬ ((n1 + 1 : Nat) : Int) < (n1 : Int) + 1 := by omega
      have hfl2 : fl (fun i => x i + b) (n1 + 1) = S := by rw [← HS.out]; exact (fo_congr x (fun i => x i + b) (n1 + 1) (fo_by x (fun i => x i + b) b (n1 + 1) (by omega) (fun i _ => rfl))).symm
      have hlm : lmin (fun i => x i + b) (n1 + 1) = lmin x (n1 + 1) + b := lmin_by x (fun i => x i + b) b (n1 + 1) (by omega) (fun i _ => rfl) (n1 + 1) (Nat.le_refl _)
      have hb3 := lmin_bd x (n1 + 1) (by omega) HX.out
      have hb4 := lmin_bd (fun i => x i + b) (n1 + 1) (by omega) hin
      rw [hlm] at hb4
      rw [rowV_congr (g := fun i => .int .i64 (x i + b)) (fun i hi => by rw [if_pos hi])] at ho
      obtain ⟨a3, c3, he, hr3, _⟩ := own_reads' ho
      cases he
      have S2 := Lib.hid (fun (V : World) (hV : Below wr.heap.size wr V) => SZ.out (some ⟨g, 0, none⟩) c (fun i => x i + b) V (hr3.below hV))
      have L1 := Lib.hid (fun (V : World) (hV : Below wr.heap.size wr V) => rleast_some (some ⟨g, 0, none⟩) (n1 + 1) c (fun i => x i + b) (by omega) (by omega) V (hr3.below hV))
      have L2 := Lib.hid (fun (V : World) (hV : Below wr.heap.size wr V) => rleast_some a (n1 + 1) cap x (by omega) (by omega) V (((H.out.below HB1.out).below hb).below hV))
      rw [hfl2] at S2
      rw [hlm] at L1
      have HB3 := Lib.hid hb
      clear hin ho hb hr3 hfl2 hlm SZ HS HX
      generalize lmin x (n1 + 1) = M at *
      go_upto_region 13 with fail
      go_wp2_with (first
        | (go_at_call 29; refine (S2.out _ (Below.refl _ _)).mono ?_; rintro e w6 ⟨rfl, hb⟩; have HB6 := Lib.hid hb; clear hb)
        | (go_at_call 31; first | (refine (L1.out _ HB6.out).mono ?_; clear L1; rintro e w7 ⟨rfl, rfl⟩) | (refine (L2.out _ HB6.out).mono ?_; rintro e w7 ⟨rfl, rfl⟩))
        | (go_at_call 30; refine (AW.out _).mono ?_; rintro e w8 ⟨rfl, hb⟩; have HB8 := Lib.hid hb; clear hb))
      go_ret
      have hA := (HB1.out.trans (HB3.out.mono hs1)).trans (HB6.out.mono (by have := HB3.out.size; omega))
      exact ⟨rfl, hA.trans (HB8.out.mono hA.size)⟩
theorem walk (a : Option Addr) (n cap : Nat) (zs : List Int) (b : Int) (W : World) (h : IsRow .i64 W a n cap zs) (hbb : -9223372036854775808 ≤ b ∧ b ≤ 9223372036854775807) :
    Calls Try.prog 10 #[.slice a n cap, .int .i64 b] W fun e w' => e = .returned (.bool true) ∧ Below W.heap.size W w' := by
  obtain ⟨b1, b2, b3, b4, b5⟩ := h
  by_cases hl : 300 < n ∨ n = 0
  · exact out a n cap b hl W
  · refine main a n cap (fun i => zs.getD i 0) b (by omega) (by omega) (fun i hi => bounds_i64 (b4 (zs.getD i 0) (by rw [List.getD_eq_getElem?_getD, List.getElem?_eq_getElem (by omega)]; simp))) hbb.1 hbb.2 W ?_
    rcases b5 with b5 | ⟨b, off, rfl, hb, hc⟩
    · exact .inl (by omega)
    · exact .inr ⟨b, off, rfl, fun i hi => hc i (by omega)⟩
theorem own : ownKnob Try.prog.godebug = none := by kernel_rfl
set_option maxRecDepth 100000 in
theorem contract (H : Type) (enc : TypeId × Value → H) (W : World) (base : Nat) (args : Array Value) (ds gs : List (DataW H)) (before : List MemPlace)
    (hval : ∀ (j : Nat) t v, Try.f10.params[j]? = some t → args[j]? = some v → Value.okWide Try.prog W .any base t v)
    (hW : DataW.Whole enc Try.prog Try.f10.params.toList Rows.pforShiftSpec.vars false W args.toList ds gs before) :
    Calls Try.prog 10 args W fun e W' => ∃ v, e = .returned v ∧ Rows.pforShiftSpec.post enc Try.prog Try.f10 false true false false W args v W' := by
  have hW' := hW
  obtain ⟨p, q, hA0, hV, rfl, hfz, hnd⟩ := hW
  have hA : DataW.TrodAll enc Try.prog W 0 (fun _ => true) true Try.f10.params.toList args.toList ds p := hA0
  rw [Try.params10] at hA hval
  obtain ⟨v0, vs0, d0, ds0, p0, q0, hargs, rfl, rfl, h0, r0⟩ := trodAll_cons hA
  obtain ⟨v1, vs1, d1, ds1, p1, q1, rfl, rfl, rfl, h1, r1⟩ := trodAll_cons r0
  obtain ⟨rfl, rfl, rfl⟩ := trodAll_nil r1
  obtain rfl : args = #[v0, v1] := by cases args; simp_all
  obtain ⟨rfl, rfl⟩ := trodVars_none hV
  have hWhole := hW'
  obtain ⟨a0, len0, cap0, rfl⟩ := okWide_slice Try.underlying22 (hval 0 22 v0 rfl rfl)
  have k0 := h0
  have lt0 : ∀ x ∈ p0, x.block < W.heap.size := by obtain ⟨m, hm⟩ := k0; exact DataW.trod_lt m _ _ _ hm
  obtain ⟨z0, b0⟩ : ∃ zs, IsRow .i64 W a0 len0 cap0 zs := by
    obtain ⟨fuel, hf⟩ := h0
    rcases open_ints Try.underlying22 Try.underlying2 (by kernel_rfl) hf with ⟨hcs, _⟩ | ⟨x, l, c, zs, hcs, _, hl, hm, hz, _, hcell, hwz⟩
    · simp [Value.cells] at hcs
      obtain ⟨rfl, rfl, rfl⟩ := hcs
      exact ⟨[], isRow_nil _ _⟩
    · simp [Value.cells] at hcs
      obtain ⟨rfl, rfl, rfl⟩ := hcs
      exact ⟨zs, isRow_of hl hm (by simpa using hz) hcell hwz⟩
  obtain ⟨a1, rfl, rfl, rfl, w1⟩ := open_int Try.underlying2 (hval 1 2 v1 rfl rfl) h1
  have b1 := bounds_i64 w1
  clear hA0
  refine (walk a0 len0 cap0 z0 a1 W b0 b1).mono fun e W' ⟨he, hg⟩ => ?_
  subst he
  exact ⟨_, rfl, _, _, _, [], _, [], hW', trodAll_mk1 (shut_bool Try.underlying4 _), (trodAll_cons_mk (Below.trod laidOut (by kernel_rfl) (of_decide_eq_true (by kernel_rfl)) k0 hg lt0) (trodAll_cons_mk (shut_int Try.underlying2 w1) trodAll_mk0)), rfl, hg.frame _, fun h => by cases h⟩

set_option maxRecDepth 100000 in
theorem lifted (os : Os) (started : os.Started) (H : Type) (enc : TypeId × Value → H) :
    ReturnsInHanded {} Try.checked os 10 .any (Rows.pforShiftSpec.pre6 enc Try.prog Try.f10 Rows.pforShiftRow.domain false) (Rows.pforShiftSpec.post enc Try.prog Try.f10 false true false false) := by
  refine returnsInHanded_of_change (C := Try.checked) own started (by kernel_rfl) Try.func10
    (ChangeSpec.witness6 (enc := enc) (C := Try.checked) false ⟨#[], #[.slice none 0 0, .int .i64 0], []⟩ 8 (by kernel_rfl) (by kernel_rfl) (by kernel_rfl) (by kernel_rfl)) ?_
  intro W base args ds gs before hval hW _ _
  exact contract H enc W base args ds gs before hval hW

/-- ████ THE STATEMENT ████ -/
theorem proved : Rows.PforShiftSaid :=
  OpenClaim.holds_of_wide 10 Try.f10 rfl rfl rfl rfl rfl rfl rfl ⟨rfl, rfl, rfl, rfl, rfl⟩ rfl rfl rfl rfl rfl (by kernel_rfl) Try.func10 (by kernel_rfl)
    (of_decide_eq_true (by kernel_rfl)) (by unfold Func.isWrapper; first | (rw [if_pos (by decide +kernel)]; kernel_rfl) | (rw [if_neg (by decide +kernel)]; exact ⟨rfl, rfl⟩))
    (fun os started H enc _ => lifted os started H enc)
end Go.Proofs.Ythonjffojaljdaa.pforShift
