/-
  THE STATEMENT corduroylaw21.StatMay: for any row of bits the call returns true and leaves its argument as it was. No condition.
-/
import Derived.Test.YtjdcafeljdnfeaaStatE
import Derived.Test.YtjdcafeljdnfeaaStatF
namespace Go.Proofs.Ytjdcafeljdnfeaa.statMay
open Go.ChangeShapes Go.WideShapes Go.ChangeAt Go.RowKit
set_option linter.unusedVariables false
theorem long (a0 : Option Addr) (n cap : Nat) (w : World) (h : 200 < n) :
    Calls Try.prog 12 #[.slice a0 n cap] w fun e w' => e = .returned (.bool true) ∧ Below w.heap.size w w' := by
  have h' : (200 : Int) < n := by omega
  go_enter Try.func12, Try.ntmps12
  go_wp2
  go_ret
  exact ⟨rfl, Below.refl _ _⟩
theorem sumK_bd (s : St) (N : Int) (h : ∀ i, 0 ≤ s.k i ∧ s.k i ≤ N) (j : Nat) : 0 ≤ sumK s j ∧ sumK s j ≤ j * N := by
  induction j with
  | zero => simp [sumK]
  | succ j ih =>
    simp only [sumK]
    have := h j
    rw [Int.natCast_succ, Int.add_mul, Int.one_mul]
    omega
set_option maxRecDepth 100000 in
set_option maxHeartbeats 4000000 in
theorem main (a0 : Option Addr) (n cap : Nat) (l : Nat → Nat) (hn : n ≤ 200) (hl : ∀ i, i < n → l i < 18446744073709551616) (w : World) (H0 : RowOf w a0 n (fun i => .int .u64 (l i : Nat))) :
    Calls Try.prog 12 #[.slice a0 n cap] w fun e w' => e = .returned (.bool true) ∧ Below w.heap.size w w' := by
  have h' : ¬ (200 : Int) < n := by omega
  have hf := call_frombits
  obtain ⟨_, hks, _, q3, q4⟩ := small_fold l n hl
  have RE := Lib.hid (told_reals a0 n cap l (by omega) w H0)
  have OF := Lib.hid (fun a c W => of_any a n c l hl (by omega) W)
  have MA := fun i (hi : i < n) W => may_any (fold l n) (l i) (hl i hi) q3 q4 W
  have MB := Lib.hid (fun i (hi : i < n) => may_fold l n i hi)
  have H0 := Lib.hid H0
  have h9 := sumK_fold l n
  have hA : ((fold l n).any == decide ((fold l n).k 8 < (n : Int))) = true := by rw [← (any_fold l n).2.2]; simp
  have hA := Lib.hid hA
  have N1 := Lib.hid (stV_one (fold l n))
  have HKS := Lib.hid hks
  have SB := Lib.hid (sumK_bd (fold l n) n hks)
  have H9 := Lib.hid h9
  clear q3 q4 h9 hks
  generalize fold l n = s at *
  have KAT := Lib.hid (stV_at s)
  have MA := Lib.hid MA
  go_enter Try.func12, Try.ntmps12
  go_wp2_with fail
  refine RE.out.mono ?_
  rintro e w1 ⟨a1, c1, rfl, r1, hb1⟩
  have OF := Lib.hid (OF.out a1 c1 w1 r1)
  have B1 := Lib.hid hb1
  clear r1 hb1
  go_wp2_with fail
  refine OF.out.mono ?_
  rintro e w2 ⟨rfl, hb2⟩
  have B2 := Lib.hid (B1.out.trans (hb2.mono B1.out.size))
  clear hb2
  obtain ⟨W0, hW0⟩ : ∃ W0, w2.alloc (.cells #[.int .i64 0, .int .i64 0, .int .i64 0, .int .i64 0, .int .i64 0, .int .i64 0, .int .i64 0, .int .i64 0, .int .i64 0, .int .i64 0, .int .i64 0, .bool false, .float .f64 0, .float .f64 0] 81) = W0 := ⟨_, rfl⟩
  have l1 := Lies.new w2 81 #[.int .i64 0, .int .i64 0, .int .i64 0, .int .i64 0, .int .i64 0, .int .i64 0, .int .i64 0, .int .i64 0, .int .i64 0, .int .i64 0, .int .i64 0, .bool false, .float .f64 0, .float .f64 0]
  rw [hW0] at l1
  have l3 : Below w2.heap.size w2 W0 := by rw [← hW0]; exact (Below.refl _ _).alloc (Nat.le_refl _) _
  obtain ⟨W1, hW1⟩ : ∃ W1, W0.setRow w2.heap.size (stV s) = W1 := ⟨_, rfl⟩
  have L1 := Lib.hid l1
  have P1 := Lib.hid (lies_row l1 hW1)
  have B4 := Lib.hid (B2.out.trans ((below_row l3 (Nat.le_refl _) hW1).mono B2.out.size))
  clear l1 l3
  go_wp2_with (first | (refine wpList_store_row rfl 81 (.tmp 3) (.tmp 12) rfl w2.heap.size (stV s) rfl rfl 81 _ L1.out stat_info rfl N1.out ?_; rw [hW1]))
  go_loop [4, 5] (fun u i => ∃ j : Nat, j ≤ 9 ∧ i = .int .i64 j ∧ u = .int .i64 (sumK s j)) (fun _ i => 9 - (intOf i).toNat)
  case atStart => exact ⟨0, by omega, rfl, rfl⟩
  case round =>
    obtain ⟨j, hj, rfl, rfl⟩ := hrel
    obtain ⟨p1, p2⟩ := SB.out j
    have p3 : sumK s j ≤ 1800 := by
      have : (j : Int) * n ≤ 9 * 200 := Int.mul_le_mul (by omega) (by omega) (by omega) (by omega)
      omega
    clear p2
    by_cases hlt : j < 9
    · have hlt' : ((j : Nat) : Int) < 9 := by omega
      have h0 : (0 : Int) ≤ (j : Nat) := by omega
      have hn' : ((j : Nat) : Int).toNat = j := by omega
      have cj : W1.cell? ⟨w2.heap.size, 1 + j, none⟩ = some (.int .i64 (s.k j)) := (P1.out.cell (1 + j)).trans (KAT.out j hlt)
      obtain ⟨p4, p5⟩ := HKS.out j
      have HE := Lib.hid (show sumK s (j + 1) = sumK s j + s.k j from rfl)
      generalize hsj : sumK s j = sj at *
      generalize s.k j = kj at *
      have HSJ := Lib.hid hsj
      clear hsj
      go_wp2
      go_round
      case rel => exact ⟨j + 1, by omega, by go_num, by rw [HE.out]⟩
      case measure => simp [intOf]; omega
    · obtain rfl : j = 9 := by omega
      rw [H9.out]
      have hlt' : ¬ ((9 : Nat) : Int) < 9 := by omega
      clear p1 p3
      go_wp2
      go_loopw [6] (fun i wr => ∃ k : Nat, k ≤ n ∧ i = .int .i64 k ∧ Below W1.heap.size W1 wr) (fun i _ => n - (intOf i).toNat)
      case atStart => exact ⟨0, by omega, rfl, Below.refl _ _⟩
      case round =>
        obtain ⟨k, hk, rfl, hb⟩ := hrel
        have z1 := P1.out.lt
        have hP := P1.out.below hb z1
        have HB := Lib.hid hb
        have q0 : wr.cell? ⟨w2.heap.size, 0, none⟩ = some (.int .i64 s.cnt) ∧ wr.cell? ⟨w2.heap.size, 1, none⟩ = some (.int .i64 (s.k 0)) ∧ wr.cell? ⟨w2.heap.size, 2, none⟩ = some (.int .i64 (s.k 1)) ∧ wr.cell? ⟨w2.heap.size, 3, none⟩ = some (.int .i64 (s.k 2)) ∧ wr.cell? ⟨w2.heap.size, 4, none⟩ = some (.int .i64 (s.k 3)) ∧ wr.cell? ⟨w2.heap.size, 5, none⟩ = some (.int .i64 (s.k 4)) ∧ wr.cell? ⟨w2.heap.size, 6, none⟩ = some (.int .i64 (s.k 5)) ∧ wr.cell? ⟨w2.heap.size, 7, none⟩ = some (.int .i64 (s.k 6)) ∧ wr.cell? ⟨w2.heap.size, 8, none⟩ = some (.int .i64 (s.k 7)) ∧ wr.cell? ⟨w2.heap.size, 9, none⟩ = some (.int .i64 (s.k 8)) ∧ wr.cell? ⟨w2.heap.size, 10, none⟩ = some (.int .i64 s.whole) ∧ wr.cell? ⟨w2.heap.size, 11, none⟩ = some (.bool s.any) ∧ wr.cell? ⟨w2.heap.size, 12, none⟩ = some (.float .f64 s.mn) ∧ wr.cell? ⟨w2.heap.size, 13, none⟩ = some (.float .f64 s.mx) := ⟨hP.cell 0, hP.cell 1, hP.cell 2, hP.cell 3, hP.cell 4, hP.cell 5, hP.cell 6, hP.cell 7, hP.cell 8, hP.cell 9, hP.cell 10, hP.cell 11, hP.cell 12, hP.cell 13⟩
        have Q0 := Lib.hid q0
        clear hb hP q0
        by_cases hkn : k < n
        · have k1 : (k : Int) < n := by omega
          have k0 : (0 : Int) ≤ k := by omega
          have kn : ((k : Nat) : Int).toNat = k := by omega
          obtain ⟨b, off, rfl, hblt, hc⟩ := H0.out.at_ hkn
          have hc0 : Hid (∀ W, Below w.heap.size w W → W.cell? ⟨b, off + k, none⟩ = some (.int .u64 (l k : Nat))) := Lib.hid (fun W hW => (hW.cell (p := ⟨b, off + k, none⟩) hblt).trans (hc k hkn))
          have M1 := MA.out k hkn
          rw [MB.out k hkn] at M1
          dsimp only [stV] at M1
          have M1 := Lib.hid M1
          have c0 := hc0.out wr (B4.out.trans (HB.out.mono B4.out.size))
          have C0 := Lib.hid c0
          clear hc c0
          generalize l k = y at *
          have q : (wr.drew.cell? ⟨w2.heap.size, 0, none⟩ = some (.int .i64 s.cnt) ∧ wr.drew.cell? ⟨w2.heap.size, 1, none⟩ = some (.int .i64 (s.k 0)) ∧ wr.drew.cell? ⟨w2.heap.size, 2, none⟩ = some (.int .i64 (s.k 1)) ∧ wr.drew.cell? ⟨w2.heap.size, 3, none⟩ = some (.int .i64 (s.k 2)) ∧ wr.drew.cell? ⟨w2.heap.size, 4, none⟩ = some (.int .i64 (s.k 3)) ∧ wr.drew.cell? ⟨w2.heap.size, 5, none⟩ = some (.int .i64 (s.k 4)) ∧ wr.drew.cell? ⟨w2.heap.size, 6, none⟩ = some (.int .i64 (s.k 5)) ∧ wr.drew.cell? ⟨w2.heap.size, 7, none⟩ = some (.int .i64 (s.k 6)) ∧ wr.drew.cell? ⟨w2.heap.size, 8, none⟩ = some (.int .i64 (s.k 7)) ∧ wr.drew.cell? ⟨w2.heap.size, 9, none⟩ = some (.int .i64 (s.k 8)) ∧ wr.drew.cell? ⟨w2.heap.size, 10, none⟩ = some (.int .i64 s.whole) ∧ wr.drew.cell? ⟨w2.heap.size, 11, none⟩ = some (.bool s.any) ∧ wr.drew.cell? ⟨w2.heap.size, 12, none⟩ = some (.float .f64 s.mn) ∧ wr.drew.cell? ⟨w2.heap.size, 13, none⟩ = some (.float .f64 s.mx)) ∧ wr.drew.cell? ⟨b, off + k, none⟩ = some (.int .u64 (y : Nat)) := ⟨Q0.out, C0.out⟩
          go_wp2
          go_region_held3 (fun w' => (w'.cell? ⟨w2.heap.size, 0, none⟩ = some (.int .i64 s.cnt) ∧ w'.cell? ⟨w2.heap.size, 1, none⟩ = some (.int .i64 (s.k 0)) ∧ w'.cell? ⟨w2.heap.size, 2, none⟩ = some (.int .i64 (s.k 1)) ∧ w'.cell? ⟨w2.heap.size, 3, none⟩ = some (.int .i64 (s.k 2)) ∧ w'.cell? ⟨w2.heap.size, 4, none⟩ = some (.int .i64 (s.k 3)) ∧ w'.cell? ⟨w2.heap.size, 5, none⟩ = some (.int .i64 (s.k 4)) ∧ w'.cell? ⟨w2.heap.size, 6, none⟩ = some (.int .i64 (s.k 5)) ∧ w'.cell? ⟨w2.heap.size, 7, none⟩ = some (.int .i64 (s.k 6)) ∧ w'.cell? ⟨w2.heap.size, 8, none⟩ = some (.int .i64 (s.k 7)) ∧ w'.cell? ⟨w2.heap.size, 9, none⟩ = some (.int .i64 (s.k 8)) ∧ w'.cell? ⟨w2.heap.size, 10, none⟩ = some (.int .i64 s.whole) ∧ w'.cell? ⟨w2.heap.size, 11, none⟩ = some (.bool s.any) ∧ w'.cell? ⟨w2.heap.size, 12, none⟩ = some (.float .f64 s.mn) ∧ w'.cell? ⟨w2.heap.size, 13, none⟩ = some (.float .f64 s.mx)) ∧ w'.cell? ⟨b, off + k, none⟩ = some (.int .u64 (y : Nat))) (first | (exact q) | go_keep)
            ((go_at_call 50; refine (M1.out _).mono ?_; rintro e w6 ⟨rfl, hd⟩; have hd : Below wr.heap.size wr w6 := ⟨hd.os, hd.tape, hd.output, hd.size, hd.block⟩; have HD := Lib.hid (HB.out.trans (hd.mono HB.out.size)); have hP := P1.out.below HD.out z1; have q : (w6.cell? ⟨w2.heap.size, 0, none⟩ = some (.int .i64 s.cnt) ∧ w6.cell? ⟨w2.heap.size, 1, none⟩ = some (.int .i64 (s.k 0)) ∧ w6.cell? ⟨w2.heap.size, 2, none⟩ = some (.int .i64 (s.k 1)) ∧ w6.cell? ⟨w2.heap.size, 3, none⟩ = some (.int .i64 (s.k 2)) ∧ w6.cell? ⟨w2.heap.size, 4, none⟩ = some (.int .i64 (s.k 3)) ∧ w6.cell? ⟨w2.heap.size, 5, none⟩ = some (.int .i64 (s.k 4)) ∧ w6.cell? ⟨w2.heap.size, 6, none⟩ = some (.int .i64 (s.k 5)) ∧ w6.cell? ⟨w2.heap.size, 7, none⟩ = some (.int .i64 (s.k 6)) ∧ w6.cell? ⟨w2.heap.size, 8, none⟩ = some (.int .i64 (s.k 7)) ∧ w6.cell? ⟨w2.heap.size, 9, none⟩ = some (.int .i64 (s.k 8)) ∧ w6.cell? ⟨w2.heap.size, 10, none⟩ = some (.int .i64 s.whole) ∧ w6.cell? ⟨w2.heap.size, 11, none⟩ = some (.bool s.any) ∧ w6.cell? ⟨w2.heap.size, 12, none⟩ = some (.float .f64 s.mn) ∧ w6.cell? ⟨w2.heap.size, 13, none⟩ = some (.float .f64 s.mx)) ∧ w6.cell? ⟨b, off + k, none⟩ = some (.int .u64 (y : Nat)) := ⟨⟨hP.cell 0, hP.cell 1, hP.cell 2, hP.cell 3, hP.cell 4, hP.cell 5, hP.cell 6, hP.cell 7, hP.cell 8, hP.cell 9, hP.cell 10, hP.cell 11, hP.cell 12, hP.cell 13⟩, hc0.out w6 (B4.out.trans (HD.out.mono B4.out.size))⟩; clear hd hP))
          go_wp2
          go_roundw
          case rel => exact ⟨k + 1, by omega, by go_num, HD.out⟩
          case measure => simp [intOf]; omega
        · have k1 : ¬ (k : Int) < n := by omega
          obtain ⟨x0, x1, x2, x3, x4, x5, x6, x7, x8, x9, x10, x11, x12, x13⟩ := Q0.out
          have hAA := hA.out
          have en : ((n : Int) == (n : Int)) = true := by simp
          go_wp2_with (go_at_call 53; refine (awake21_any _).mono ?_; rintro e w8 ⟨rfl, hd⟩; have HD := Lib.hid hd; clear hd)
          go_ret
          exact ⟨rfl, (B4.out.trans (HB.out.mono B4.out.size)).trans (HD.out.mono ((B4.out.trans (HB.out.mono B4.out.size)).size))⟩
theorem walk (a0 : Option Addr) (len0 cap0 : Nat) (z0 : List Int) (w : World) (b0 : IsRow .u64 w a0 len0 cap0 z0) :
    Calls Try.prog 12 #[.slice a0 len0 cap0] w fun e w' => e = .returned (.bool true) ∧ Below w.heap.size w w' := by
  by_cases h : 200 < len0
  · exact long a0 len0 cap0 w h
  · exact main a0 len0 cap0 _ (by omega) (isrow_u64 b0).2 w (isrow_u64 b0).1
theorem own : ownKnob Try.prog.godebug = none := by kernel_rfl
set_option maxRecDepth 100000 in
theorem contract (H : Type) (enc : TypeId × Value → H) (W : World) (base : Nat) (args : Array Value) (ds gs : List (DataW H)) (before : List MemPlace)
    (hval : ∀ (j : Nat) t v, Try.f12.params[j]? = some t → args[j]? = some v → Value.okWide Try.prog W .any base t v)
    (hW : DataW.Whole enc Try.prog Try.f12.params.toList Rows.statMaySpec.vars false W args.toList ds gs before) :
    Calls Try.prog 12 args W fun e W' => ∃ v, e = .returned v ∧ Rows.statMaySpec.post enc Try.prog Try.f12 false true false false W args v W' := by
  have hW' := hW
  obtain ⟨p, q, hA0, hV, rfl, hfz, hnd⟩ := hW
  have hA : DataW.TrodAll enc Try.prog W 0 (fun _ => true) true Try.f12.params.toList args.toList ds p := hA0
  rw [Try.params12] at hA hval
  obtain ⟨v0, vs0, d0, ds0, p0, q0, hargs, rfl, rfl, h0, r0⟩ := trodAll_cons hA
  obtain ⟨rfl, rfl, rfl⟩ := trodAll_nil r0
  obtain rfl : args = #[v0] := by cases args; simp_all
  obtain ⟨rfl, rfl⟩ := trodVars_none hV
  have hWhole := hW'
  obtain ⟨a0, len0, cap0, rfl⟩ := okWide_slice Try.underlying61 (hval 0 61 v0 rfl rfl)
  have k0 := h0
  have lt0 : ∀ x ∈ p0, x.block < W.heap.size := by obtain ⟨m, hm⟩ := k0; exact DataW.trod_lt m _ _ _ hm
  obtain ⟨z0, b0⟩ : ∃ zs, IsRow .u64 W a0 len0 cap0 zs := by
    obtain ⟨fuel, hf⟩ := h0
    rcases open_ints Try.underlying61 Try.underlying50 (by kernel_rfl) hf with ⟨hcs, _⟩ | ⟨x, l, c, zs, hcs, _, hl, hm, hz, _, hcell, hwz⟩
    · simp [Value.cells] at hcs
      obtain ⟨rfl, rfl, rfl⟩ := hcs
      exact ⟨[], isRow_nil _ _⟩
    · simp [Value.cells] at hcs
      obtain ⟨rfl, rfl, rfl⟩ := hcs
      exact ⟨zs, isRow_of hl hm (by simpa using hz) hcell hwz⟩
  clear hA0
  refine (walk a0 len0 cap0 z0 W b0).mono fun e W' ⟨he, hg⟩ => ?_
  subst he
  exact ⟨_, rfl, _, _, _, [], _, [], hW', trodAll_mk1 (shut_bool Try.underlying4 _), (trodAll_cons_mk (Below.trod laidOut (by kernel_rfl) (of_decide_eq_true (by kernel_rfl)) k0 hg lt0) trodAll_mk0), rfl, hg.frame _, fun h => by cases h⟩

set_option maxRecDepth 100000 in
theorem lifted (os : Os) (started : os.Started) (H : Type) (enc : TypeId × Value → H) :
    ReturnsInHanded {} Try.checked os 12 .any (Rows.statMaySpec.pre6 enc Try.prog Try.f12 Rows.statMayRow.domain false) (Rows.statMaySpec.post enc Try.prog Try.f12 false true false false) := by
  refine returnsInHanded_of_change (C := Try.checked) own started (by kernel_rfl) Try.func12
    (ChangeSpec.witness6 (enc := enc) (C := Try.checked) false ⟨#[], #[.slice none 0 0], []⟩ 8 (by kernel_rfl) (by kernel_rfl) (by kernel_rfl) (by kernel_rfl)) ?_
  intro W base args ds gs before hval hW _ _
  exact contract H enc W base args ds gs before hval hW

/-- ████ THE STATEMENT ████ -/
theorem proved : Rows.StatMaySaid :=
  OpenClaim.holds_of_wide 12 Try.f12 rfl rfl rfl rfl rfl rfl rfl ⟨rfl, rfl, rfl, rfl, rfl⟩ rfl rfl rfl rfl rfl (by kernel_rfl) Try.func12 (by kernel_rfl)
    (of_decide_eq_true (by kernel_rfl)) (by unfold Func.isWrapper; first | (rw [if_pos (by decide +kernel)]; kernel_rfl) | (rw [if_neg (by decide +kernel)]; exact ⟨rfl, rfl⟩))
    (fun os started H enc _ => lifted os started H enc)
end Go.Proofs.Ytjdcafeljdnfeaa.statMay
