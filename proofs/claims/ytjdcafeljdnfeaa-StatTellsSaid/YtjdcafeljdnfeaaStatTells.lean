/-
  THE STATEMENT corduroylaw21.StatTells: for any row of bits and any bits the call returns true and leaves its arguments as they were. No condition.
-/
import Derived.Test.YtjdcafeljdnfeaaStatE
namespace Go.Proofs.Ytjdcafeljdnfeaa.statTells
open Go.ChangeShapes Go.WideShapes Go.ChangeAt Go.RowKit
set_option linter.unusedVariables false
theorem long (a0 : Option Addr) (n cap : Nat) (v : Int) (w : World) (h : 200 < n) :
    Calls Try.prog 9 #[.slice a0 n cap, .int .u64 v] w fun e w' => e = .returned (.bool true) ∧ Below w.heap.size w w' := by
  have h' : (200 : Int) < n := by omega
  go_enter Try.func9, Try.ntmps9
  go_wp2
  go_ret
  exact ⟨rfl, Below.refl _ _⟩
set_option maxRecDepth 100000 in
set_option maxHeartbeats 4000000 in
theorem main (a0 : Option Addr) (n cap : Nat) (l : Nat → Nat) (b : Nat) (hn : n ≤ 200) (hl : ∀ i, i < n → l i < 18446744073709551616) (hb : b < 18446744073709551616) (w : World) (H0 : RowOf w a0 n (fun i => .int .u64 (l i : Nat))) :
    Calls Try.prog 9 #[.slice a0 n cap, .int .u64 (b : Nat)] w fun e w' => e = .returned (.bool true) ∧ Below w.heap.size w w' := by
  have h' : ¬ (200 : Int) < n := by omega
  have hf := call_frombits
  obtain ⟨_, _, _, q3, q4⟩ := small_fold l n hl
  have RE := Lib.hid (told_reals a0 n cap l (by omega) w H0)
  have OF := Lib.hid (fun a c W => of_any a n c l hl (by omega) W)
  have RO := Lib.hid (fun W h => rof_any a0 n cap l hl (by omega) W h)
  have MA := Lib.hid (fun W => may_any (fold l n) b hb q3 q4 W)
  have RM := Lib.hid (fun W => rmay_any (fold l n) b hb q3 q4 W)
  have LI := Lib.hid (fun W => like_same (fold l n) W)
  have H0 := Lib.hid H0
  have eB : (mayB (fold l n) b == mayB (fold l n) b) = true := by simp
  have N1 := Lib.hid (stV_one (fold l n))
  have N2 := Lib.hid (stR_one (fold l n))
  clear q3 q4
  generalize mayB (fold l n) b = B at *
  generalize fold l n = s at *
  obtain ⟨c, k, wh, an, mn, mx⟩ := s
  dsimp only [stV, stR] at OF RO MA RM LI N1 N2
  go_enter Try.func9, Try.ntmps9
  go_wp2_with fail
  refine RE.out.mono ?_
  rintro e w1 ⟨a1, c1, rfl, r1, hb1⟩
  have OF := Lib.hid (OF.out a1 c1 w1 r1)
  have B1 := Lib.hid hb1
  clear r1 hb1
  go_wp2_with fail
  refine OF.out.mono ?_
  rintro e w2 ⟨rfl, hb2⟩
  have B2 := Lib.hid (B1.out.trans (hb2.mono B1.out.size))
  have RO := Lib.hid (RO.out w2 (H0.out.below B2.out))
  clear hb2
  go_wp2_with fail
  refine RO.out.mono ?_
  rintro e w3 ⟨rfl, hb3⟩
  have B3 := Lib.hid (B2.out.trans (hb3.mono B2.out.size))
  clear hb3
  obtain ⟨W0, hW0⟩ : ∃ W0, (w3.alloc (.cells #[.int .i64 0, .int .i64 0, .int .i64 0, .int .i64 0, .int .i64 0, .int .i64 0, .int .i64 0, .int .i64 0, .int .i64 0, .int .i64 0, .int .i64 0, .bool false, .float .f64 0, .float .f64 0] 81)).alloc (.cells #[.int .i64 0, .int .i64 0, .int .i64 0, .int .i64 0, .int .i64 0, .int .i64 0, .int .i64 0, .int .i64 0, .int .i64 0, .int .i64 0, .int .i64 0, .bool false, .int .u64 0, .int .u64 0] 86) = W0 := ⟨_, rfl⟩
  obtain ⟨l1, l2, l3⟩ := two_new _ _ _ _ _ _ hW0
  obtain ⟨W1, hW1⟩ : ∃ W1, W0.setRow w3.heap.size #[.int .i64 c, .int .i64 (k 0), .int .i64 (k 1), .int .i64 (k 2), .int .i64 (k 3), .int .i64 (k 4), .int .i64 (k 5), .int .i64 (k 6), .int .i64 (k 7), .int .i64 (k 8), .int .i64 wh, .bool an, .float .f64 mn, .float .f64 mx] = W1 := ⟨_, rfl⟩
  have m1 := lies_row l1 hW1
  have m2 := lies_rowFar l2 (by omega) hW1
  have m3 := below_row l3 (Nat.le_refl _) hW1
  obtain ⟨W2, hW2⟩ : ∃ W2, W1.setRow (w3.heap.size + 1) #[.int .i64 c, .int .i64 (k 0), .int .i64 (k 1), .int .i64 (k 2), .int .i64 (k 3), .int .i64 (k 4), .int .i64 (k 5), .int .i64 (k 6), .int .i64 (k 7), .int .i64 (k 8), .int .i64 wh, .bool an, .int .u64 (mn : Nat), .int .u64 (mx : Nat)] = W2 := ⟨_, rfl⟩
  have L1 := Lib.hid l1
  have M2 := Lib.hid m2
  have P1 := Lib.hid (lies_rowFar m1 (by omega) hW2)
  have P2 := Lib.hid (lies_row m2 hW2)
  have B4 := Lib.hid (B3.out.trans ((below_row m3 (by omega) hW2).mono B3.out.size))
  clear l1 l2 l3 m1 m2 m3
  go_wp2_with (first | (refine wpList_store_row rfl 81 (.tmp 5) (.tmp 12) rfl w3.heap.size #[.int .i64 c, .int .i64 (k 0), .int .i64 (k 1), .int .i64 (k 2), .int .i64 (k 3), .int .i64 (k 4), .int .i64 (k 5), .int .i64 (k 6), .int .i64 (k 7), .int .i64 (k 8), .int .i64 wh, .bool an, .float .f64 mn, .float .f64 mx] rfl rfl 81 _ L1.out stat_info rfl N1.out ?_; rw [hW1]) | (refine wpList_store_row rfl 86 (.tmp 6) (.tmp 14) rfl (w3.heap.size + 1) #[.int .i64 c, .int .i64 (k 0), .int .i64 (k 1), .int .i64 (k 2), .int .i64 (k 3), .int .i64 (k 4), .int .i64 (k 5), .int .i64 (k 6), .int .i64 (k 7), .int .i64 (k 8), .int .i64 wh, .bool an, .int .u64 (mn : Nat), .int .u64 (mx : Nat)] rfl rfl 86 _ M2.out stR_info rfl N2.out ?_; rw [hW2]))
  have D := Lib.hid ((Below.refl W2.heap.size W2).drew)
  have q := (fun (W : World) (h1 : Lies W w3.heap.size 81 #[.int .i64 c, .int .i64 (k 0), .int .i64 (k 1), .int .i64 (k 2), .int .i64 (k 3), .int .i64 (k 4), .int .i64 (k 5), .int .i64 (k 6), .int .i64 (k 7), .int .i64 (k 8), .int .i64 wh, .bool an, .float .f64 mn, .float .f64 mx]) (h2 : Lies W (w3.heap.size + 1) 86 #[.int .i64 c, .int .i64 (k 0), .int .i64 (k 1), .int .i64 (k 2), .int .i64 (k 3), .int .i64 (k 4), .int .i64 (k 5), .int .i64 (k 6), .int .i64 (k 7), .int .i64 (k 8), .int .i64 wh, .bool an, .int .u64 (mn : Nat), .int .u64 (mx : Nat)]) => (show W.cell? ⟨w3.heap.size, 0, none⟩ = some (.int .i64 c) ∧ W.cell? ⟨w3.heap.size, 1, none⟩ = some (.int .i64 (k 0)) ∧ W.cell? ⟨w3.heap.size, 2, none⟩ = some (.int .i64 (k 1)) ∧ W.cell? ⟨w3.heap.size, 3, none⟩ = some (.int .i64 (k 2)) ∧ W.cell? ⟨w3.heap.size, 4, none⟩ = some (.int .i64 (k 3)) ∧ W.cell? ⟨w3.heap.size, 5, none⟩ = some (.int .i64 (k 4)) ∧ W.cell? ⟨w3.heap.size, 6, none⟩ = some (.int .i64 (k 5)) ∧ W.cell? ⟨w3.heap.size, 7, none⟩ = some (.int .i64 (k 6)) ∧ W.cell? ⟨w3.heap.size, 8, none⟩ = some (.int .i64 (k 7)) ∧ W.cell? ⟨w3.heap.size, 9, none⟩ = some (.int .i64 (k 8)) ∧ W.cell? ⟨w3.heap.size, 10, none⟩ = some (.int .i64 wh) ∧ W.cell? ⟨w3.heap.size, 11, none⟩ = some (.bool an) ∧ W.cell? ⟨w3.heap.size, 12, none⟩ = some (.float .f64 mn) ∧ W.cell? ⟨w3.heap.size, 13, none⟩ = some (.float .f64 mx) ∧ W.cell? ⟨w3.heap.size + 1, 0, none⟩ = some (.int .i64 c) ∧ W.cell? ⟨w3.heap.size + 1, 1, none⟩ = some (.int .i64 (k 0)) ∧ W.cell? ⟨w3.heap.size + 1, 2, none⟩ = some (.int .i64 (k 1)) ∧ W.cell? ⟨w3.heap.size + 1, 3, none⟩ = some (.int .i64 (k 2)) ∧ W.cell? ⟨w3.heap.size + 1, 4, none⟩ = some (.int .i64 (k 3)) ∧ W.cell? ⟨w3.heap.size + 1, 5, none⟩ = some (.int .i64 (k 4)) ∧ W.cell? ⟨w3.heap.size + 1, 6, none⟩ = some (.int .i64 (k 5)) ∧ W.cell? ⟨w3.heap.size + 1, 7, none⟩ = some (.int .i64 (k 6)) ∧ W.cell? ⟨w3.heap.size + 1, 8, none⟩ = some (.int .i64 (k 7)) ∧ W.cell? ⟨w3.heap.size + 1, 9, none⟩ = some (.int .i64 (k 8)) ∧ W.cell? ⟨w3.heap.size + 1, 10, none⟩ = some (.int .i64 wh) ∧ W.cell? ⟨w3.heap.size + 1, 11, none⟩ = some (.bool an) ∧ W.cell? ⟨w3.heap.size + 1, 12, none⟩ = some (.int .u64 (mn : Nat)) ∧ W.cell? ⟨w3.heap.size + 1, 13, none⟩ = some (.int .u64 (mx : Nat)) from ⟨h1.cell 0, h1.cell 1, h1.cell 2, h1.cell 3, h1.cell 4, h1.cell 5, h1.cell 6, h1.cell 7, h1.cell 8, h1.cell 9, h1.cell 10, h1.cell 11, h1.cell 12, h1.cell 13, h2.cell 0, h2.cell 1, h2.cell 2, h2.cell 3, h2.cell 4, h2.cell 5, h2.cell 6, h2.cell 7, h2.cell 8, h2.cell 9, h2.cell 10, h2.cell 11, h2.cell 12, h2.cell 13⟩))
  have Q := Lib.hid q
  clear q
  have q := Q.out _ P1.out.drew P2.out.drew
  have z1 := P1.out.lt
  have z2 := P2.out.lt
  go_region_held3 (fun w' => w'.cell? ⟨w3.heap.size, 0, none⟩ = some (.int .i64 c) ∧ w'.cell? ⟨w3.heap.size, 1, none⟩ = some (.int .i64 (k 0)) ∧ w'.cell? ⟨w3.heap.size, 2, none⟩ = some (.int .i64 (k 1)) ∧ w'.cell? ⟨w3.heap.size, 3, none⟩ = some (.int .i64 (k 2)) ∧ w'.cell? ⟨w3.heap.size, 4, none⟩ = some (.int .i64 (k 3)) ∧ w'.cell? ⟨w3.heap.size, 5, none⟩ = some (.int .i64 (k 4)) ∧ w'.cell? ⟨w3.heap.size, 6, none⟩ = some (.int .i64 (k 5)) ∧ w'.cell? ⟨w3.heap.size, 7, none⟩ = some (.int .i64 (k 6)) ∧ w'.cell? ⟨w3.heap.size, 8, none⟩ = some (.int .i64 (k 7)) ∧ w'.cell? ⟨w3.heap.size, 9, none⟩ = some (.int .i64 (k 8)) ∧ w'.cell? ⟨w3.heap.size, 10, none⟩ = some (.int .i64 wh) ∧ w'.cell? ⟨w3.heap.size, 11, none⟩ = some (.bool an) ∧ w'.cell? ⟨w3.heap.size, 12, none⟩ = some (.float .f64 mn) ∧ w'.cell? ⟨w3.heap.size, 13, none⟩ = some (.float .f64 mx) ∧ w'.cell? ⟨w3.heap.size + 1, 0, none⟩ = some (.int .i64 c) ∧ w'.cell? ⟨w3.heap.size + 1, 1, none⟩ = some (.int .i64 (k 0)) ∧ w'.cell? ⟨w3.heap.size + 1, 2, none⟩ = some (.int .i64 (k 1)) ∧ w'.cell? ⟨w3.heap.size + 1, 3, none⟩ = some (.int .i64 (k 2)) ∧ w'.cell? ⟨w3.heap.size + 1, 4, none⟩ = some (.int .i64 (k 3)) ∧ w'.cell? ⟨w3.heap.size + 1, 5, none⟩ = some (.int .i64 (k 4)) ∧ w'.cell? ⟨w3.heap.size + 1, 6, none⟩ = some (.int .i64 (k 5)) ∧ w'.cell? ⟨w3.heap.size + 1, 7, none⟩ = some (.int .i64 (k 6)) ∧ w'.cell? ⟨w3.heap.size + 1, 8, none⟩ = some (.int .i64 (k 7)) ∧ w'.cell? ⟨w3.heap.size + 1, 9, none⟩ = some (.int .i64 (k 8)) ∧ w'.cell? ⟨w3.heap.size + 1, 10, none⟩ = some (.int .i64 wh) ∧ w'.cell? ⟨w3.heap.size + 1, 11, none⟩ = some (.bool an) ∧ w'.cell? ⟨w3.heap.size + 1, 12, none⟩ = some (.int .u64 (mn : Nat)) ∧ w'.cell? ⟨w3.heap.size + 1, 13, none⟩ = some (.int .u64 (mx : Nat))) (first | (exact q) | go_keep)
    (first
      | (go_at_call 49; refine (LI.out _).mono ?_; rintro e w5 ⟨rfl, hd⟩; have D := Lib.hid (D.out.trans (hd.mono D.out.size)); have q := Q.out _ (P1.out.below D.out z1) (P2.out.below D.out z2); clear hd)
      | (go_at_call 50; refine (MA.out _).mono ?_; rintro e w6 ⟨rfl, hd⟩; have D := Lib.hid (D.out.trans (hd.mono D.out.size)); have q := Q.out _ (P1.out.below D.out z1) (P2.out.below D.out z2); clear hd)
      | (go_at_call 52; refine (RM.out _).mono ?_; rintro e w7 ⟨rfl, hd⟩; have D := Lib.hid (D.out.trans (hd.mono D.out.size)); have q := Q.out _ (P1.out.below D.out z1) (P2.out.below D.out z2); clear hd)
      | (go_at_call 53; refine (awake21_any _).mono ?_; rintro e w8 ⟨rfl, hd⟩; have D := Lib.hid (D.out.trans (hd.mono D.out.size)); have q := Q.out _ (P1.out.below D.out z1) (P2.out.below D.out z2); clear hd))
  all_goals
    go_wp2
    go_ret
    exact ⟨rfl, B4.out.trans (D.out.mono B4.out.size)⟩
theorem walk (a0 : Option Addr) (len0 cap0 : Nat) (z0 : List Int) (v : Int) (w : World) (b0 : IsRow .u64 w a0 len0 cap0 z0) (b1 : 0 ≤ v ∧ v ≤ 18446744073709551615) :
    Calls Try.prog 9 #[.slice a0 len0 cap0, .int .u64 v] w fun e w' => e = .returned (.bool true) ∧ Below w.heap.size w w' := by
  by_cases h : 200 < len0
  · exact long a0 len0 cap0 v w h
  · obtain ⟨b, rfl⟩ : ∃ b : Nat, v = b := ⟨v.toNat, by omega⟩
    exact main a0 len0 cap0 _ b (by omega) (isrow_u64 b0).2 (by omega) w (isrow_u64 b0).1
theorem own : ownKnob Try.prog.godebug = none := by kernel_rfl
set_option maxRecDepth 100000 in
theorem contract (H : Type) (enc : TypeId × Value → H) (W : World) (base : Nat) (args : Array Value) (ds gs : List (DataW H)) (before : List MemPlace)
    (hval : ∀ (j : Nat) t v, Try.f9.params[j]? = some t → args[j]? = some v → Value.okWide Try.prog W .any base t v)
    (hW : DataW.Whole enc Try.prog Try.f9.params.toList Rows.statTellsSpec.vars false W args.toList ds gs before) :
    Calls Try.prog 9 args W fun e W' => ∃ v, e = .returned v ∧ Rows.statTellsSpec.post enc Try.prog Try.f9 false true false false W args v W' := by
  have hW' := hW
  obtain ⟨p, q, hA0, hV, rfl, hfz, hnd⟩ := hW
  have hA : DataW.TrodAll enc Try.prog W 0 (fun _ => true) true Try.f9.params.toList args.toList ds p := hA0
  rw [Try.params9] at hA hval
  obtain ⟨v0, vs0, d0, ds0, p0, q0, hargs, rfl, rfl, h0, r0⟩ := trodAll_cons hA
  obtain ⟨v1, vs1, d1, ds1, p1, q1, rfl, rfl, rfl, h1, r1⟩ := trodAll_cons r0
  obtain ⟨rfl, rfl, rfl⟩ := trodAll_nil r1
  obtain rfl : args = #[v0, v1] := by cases args; simp_all
  obtain ⟨rfl, rfl⟩ := trodVars_none hV
  have hWhole := hW'
  obtain ⟨a0, len0, cap0, rfl⟩ := okWide_slice Try.underlying61 (hval 0 61 v0 rfl rfl)
  have k0 := h0
  have lt0 : ∀ x ∈ p0, x.block < W.heap.size := by obtain ⟨m, hm⟩ := k0; exact DataW.trod_lt m _ _ _ hm
  obtain ⟨z0, b0⟩ : ∃ zs, IsRow .u64 W a0 len0 cap0 zs := by
    obtain ⟨fuel, hf⟩ := h0
    rcases open_ints Try.underlying61 Try.underlying50 (by kernel_rfl) hf with ⟨hcs, _⟩ | ⟨x, l, c, zs, hcs, _, hl, hm, hz, _, hcell, hwz⟩
    · simp [Value.cells] at hcs
      obtain ⟨rfl, rfl, rfl⟩ := hcs
      exact ⟨[], isRow_nil _ _⟩
    · simp [Value.cells] at hcs
      obtain ⟨rfl, rfl, rfl⟩ := hcs
      exact ⟨zs, isRow_of hl hm (by simpa using hz) hcell hwz⟩
  obtain ⟨a1, rfl, rfl, rfl, w1⟩ := open_int Try.underlying50 (hval 1 50 v1 rfl rfl) h1
  have b1 := bounds_u64 w1
  clear hA0
  refine (walk a0 len0 cap0 z0 a1 W b0 b1).mono fun e W' ⟨he, hg⟩ => ?_
  subst he
  exact ⟨_, rfl, _, _, _, [], _, [], hW', trodAll_mk1 (shut_bool Try.underlying4 _), (trodAll_cons_mk (Below.trod laidOut (by kernel_rfl) (of_decide_eq_true (by kernel_rfl)) k0 hg lt0) (trodAll_cons_mk (shut_int Try.underlying50 w1) trodAll_mk0)), rfl, hg.frame _, fun h => by cases h⟩

set_option maxRecDepth 100000 in
theorem lifted (os : Os) (started : os.Started) (H : Type) (enc : TypeId × Value → H) :
    ReturnsInHanded {} Try.checked os 9 .any (Rows.statTellsSpec.pre6 enc Try.prog Try.f9 Rows.statTellsRow.domain false) (Rows.statTellsSpec.post enc Try.prog Try.f9 false true false false) := by
  refine returnsInHanded_of_change (C := Try.checked) own started (by kernel_rfl) Try.func9
    (ChangeSpec.witness6 (enc := enc) (C := Try.checked) false ⟨#[], #[.slice none 0 0, .int .u64 0], []⟩ 8 (by kernel_rfl) (by kernel_rfl) (by kernel_rfl) (by kernel_rfl)) ?_
  intro W base args ds gs before hval hW _ _
  exact contract H enc W base args ds gs before hval hW

/-- ████ THE STATEMENT ████ -/
theorem proved : Rows.StatTellsSaid :=
  OpenClaim.holds_of_wide 9 Try.f9 rfl rfl rfl rfl rfl rfl rfl ⟨rfl, rfl, rfl, rfl, rfl⟩ rfl rfl rfl rfl rfl (by kernel_rfl) Try.func9 (by kernel_rfl)
    (of_decide_eq_true (by kernel_rfl)) (by unfold Func.isWrapper; first | (rw [if_pos (by decide +kernel)]; kernel_rfl) | (rw [if_neg (by decide +kernel)]; exact ⟨rfl, rfl⟩))
    (fun os started H enc _ => lifted os started H enc)
end Go.Proofs.Ytjdcafeljdnfeaa.statTells
