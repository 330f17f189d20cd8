/-
  THE STATEMENT corduroylaw06.WidthBack: for any numbers and any one the call returns true and leaves its arguments as they were. No condition.
-/
import Derived.Test.YtjdcafeljdnfeaaWidC
import Derived.Test.YtjdcafeljdnfeaaIsRow
import Derived.Deep.RegionHeldLaw
import Derived.Deep.RegionWith
import Derived.StillTailTactics
namespace Go.Proofs.Ytjdcafeljdnfeaa.widthBack
open Go.ChangeShapes Go.WideShapes Go.ChangeAt Go.RowKit
set_option linter.unusedVariables false
set_option linter.unusedSimpArgs false
theorem wpAnyH_pass {P : Program} {ops : Array Oper} {Q : Exit → Act → World → Prop} {md : Region.Mode} {S : World → Prop} {fuel : Nat} {listed : Array Bool} {a : Act} {w : World} {i : Nat} {o : Oper} (ho : ops[i]? = some o)
    (hr : Region.ready md ops listed = [i]) (hw : Region.wanted o (yielded ops a.tmps) = false) (hS : S w)
    (h : wpAnyH P md ops Q S fuel (listed.setIfInBounds i true) (a.put o.dst undef) w) : wpAnyH P md ops Q S (fuel + 1) listed a w :=
  wpAnyH_ready hr (by simp) (AllReadyH.cons ho (fun K hK => by rw [if_neg (by simp [hw])]; exact hK.out _ _ hS (fun _ => h)) AllReadyH.nil)
theorem bk_offs (x f : Int) (h1 : -9223372036854775808 ≤ x) (h2 : x ≤ 9223372036854775807) : bk (offs x f) f = x := by
  unfold bk offs; simp only [u64w, wrap64]; omega
theorem dl_sum (s x : Int) (h1 : -9223372036854775808 ≤ x) (h2 : x ≤ 9223372036854775807) : dl (wrap64 (s + x)) s = x := by
  unfold dl; simp only [wrap64]; omega
theorem sum_dl (y x : Int) (h1 : -9223372036854775808 ≤ x) (h2 : x ≤ 9223372036854775807) : wrap64 (y + dl x y) = x := by
  unfold dl; simp only [wrap64]; omega
theorem sm_dl (x : Nat → Int) : ∀ i, (∀ j, j ≤ i → -9223372036854775808 ≤ x j ∧ x j ≤ 9223372036854775807) → sm (x 0) (fun i => dl (x (i + 1)) (x i)) i = x i
  | 0, _ => rfl
  | i + 1, h => by
    have h1 := h (i + 1) (Nat.le_refl _)
    simp only [sm]
    rw [sm_dl x i (fun j hj => h j (by omega))]
    exact sum_dl _ _ h1.1 h1.2
theorem back_skip (a0 : Option Addr) (len0 cap0 : Nat) (f : Int) (w : World) (h : 200 < len0) :
    Calls Try.prog 7 #[.slice a0 len0 cap0, .int .i64 f] w fun e w' => e = .returned (.bool true) ∧ Below w.heap.size w w' := by
  have h' : (200 : Int) < len0 := by omega
  clear h
  go_enter Try.func7, Try.ntmps7
  go_wp2
  go_ret
  exact ⟨rfl, Below.refl _ _⟩
set_option maxRecDepth 100000 in
set_option maxHeartbeats 2000000 in
theorem back_zero (a0 : Option Addr) (n cap0 : Nat) (x : Nat → Int) (f : Int) (w : World) (h0 : n = 0) (h : n ≤ 200) (hnc : n ≤ cap0) (hcm : cap0 ≤ maxLen) (hx : ∀ j, j < n → -9223372036854775808 ≤ x j ∧ x j ≤ 9223372036854775807) (H : RowOf w a0 n (fun i => .int .i64 (x i))) :
    Calls Try.prog 7 #[.slice a0 n cap0, .int .i64 f] w fun e w' => e = .returned (.bool true) ∧ Below w.heap.size w w' := by
  have h' : ¬ (200 : Int) < n := by omega
  replace h0 := Lib.hid h0
  have hal : ∀ q, a0 = some q → 0 < n → q.block < w.heap.size := fun q hq h0 => by
    obtain ⟨b, off, ha, hb, _⟩ := H.at_ h0
    rw [hq] at ha
    injection ha with ha
    subst ha
    exact hb
  have H := Lib.hid H
  have HX := Lib.hid hx
  have HNC := Lib.hid hnc
  have HCM := Lib.hid hcm
  have HAL := Lib.hid hal
  have E1 := Lib.hid (rowV_congr (n := n) (f := fun i => Value.int .i64 (bk (offs (x i) f) f)) (g := fun i => .int .i64 (x i)) (fun i hi => by rw [bk_offs _ _ (hx i hi).1 (hx i hi).2]))
  clear hnc hcm hx hal
  go_enter Try.func7, Try.ntmps7
  go_wp2_with fail
  refine (offsets_any a0 n cap0 x f (by omega) w H.out).mono ?_
  rintro e w1 ⟨v1, rfl, ho1, hb1⟩
  obtain ⟨a1, c1, rfl, hr1, _⟩ := own_reads' ho1
  have HR1 := Lib.hid hr1
  have T1 := Lib.hid hb1
  clear ho1 hr1 hb1
  go_wp2_with fail
  refine (back_any a1 n c1 _ f (by omega) w1 HR1.out).mono ?_
  rintro e w2 ⟨v2, rfl, ho2, hb2⟩
  rw [E1.out] at ho2
  obtain ⟨a2, c2, rfl, hr2, _⟩ := own_reads' ho2
  have T2 := Lib.hid (T1.out.trans (hb2.mono T1.out.size))
  have S1 := Lib.hid (samei a2 a0 n n c2 cap0 _ _ (by omega) w2 hr2 (H.out.below T2.out) true (by simp))
  clear ho2 hr2 hb2
  go_wp2_with (go_at_call 40; refine S1.out.mono ?_; rintro e w3 ⟨rfl, hb3⟩; have T3 := Lib.hid (T2.out.trans (hb3.mono T2.out.size)); clear hb3)
  refine (sums_any a0 n cap0 x f (by omega) w3 (H.out.below T3.out) (fun q hq h0 => Nat.lt_of_lt_of_le (HAL.out q hq h0) T3.out.size)).mono ?_
  rintro e w4 ⟨v4, rfl, ho4, hb4⟩
  obtain ⟨a4, c4, rfl, hr4, _, hle4, _⟩ := own_reads ho4
  have hr4 : RowOf w4 a4 (n + 1) (fun i => .int .i64 (sm f x i)) := hr4.congr fun i hi => by simp [rowV, hi]
  have hc4 : c4 ≤ maxLen := by
    rcases ho4.2 with ⟨_, h0⟩ | ⟨g, cp, cur, hv, _, _, _, hm, _⟩
    · omega
    · injection hv with _ _ hcp
      omega
  obtain ⟨b4, o4, rfl, _, hcell4⟩ := hr4.at_ (i := 0) (by omega)
  have q0 := hcell4 0 (by omega)
  rw [Nat.add_zero, show sm f x 0 = f from rfl] at q0
  have T4 := Lib.hid (T3.out.trans (hb4.mono T3.out.size))
  have DD := Lib.hid (deltas_any _ (n + 1) c4 (sm f x) (by omega) hle4 hc4 w4 hr4)
  have E2 := Lib.hid (rowV_congr (n := n) (f := fun i => Value.int .i64 (dl (sm f x (i + 1)) (sm f x i))) (g := fun i => .int .i64 (x i)) (fun i hi => by rw [show sm f x (i + 1) = wrap64 (sm f x i + x i) from rfl, dl_sum _ _ (HX.out i hi).1 (HX.out i hi).2]))
  rw [Nat.add_sub_cancel, E2.out] at DD
  have n1 : (((n : Int) + 1) != ((n : Int) + 1)) = false := by simp
  have n2 : (0 : Int) < (n : Int) + 1 := by omega
  have f1 : (f != f) = false := by simp
  clear ho4 hr4 hb4 hcell4 hle4 hc4
  go_wp2_with fail
  refine DD.out.mono ?_
  rintro e w5 ⟨v5, rfl, ho5, hb5⟩
  obtain ⟨a5, c5, rfl, hr5, _⟩ := own_reads' ho5
  have T5 := Lib.hid (T4.out.trans (hb5.mono T4.out.size))
  have S2 := Lib.hid (samei a5 a0 n n c5 cap0 _ _ (by omega) w5 hr5 (H.out.below T5.out) true (by simp))
  clear ho5 hr5 hb5
  go_wp2_with (first | (go_at_call 40; refine S2.out.mono ?_; rintro e w6 ⟨rfl, hb6⟩; have T6 := Lib.hid (T5.out.trans (hb6.mono T5.out.size)); clear hb6))
  have n3 : ((n : Int) == 0) = true := by simp; exact h0.out
  clear q0 h0
  refine wp_region_held_drew (S := fun _ => True) (by kernel_rfl) trivial (fun _ => ?_)
  refine wpAnyH_take (i := 0) (oi := ?oix1) (v := ?vx1) ?hix1 ?hsx1 ?hfx1 ?hrx1 ?hQx1 ?hyx1 ?hSx1 ?hx1
  case hix1 =>
    simp only [List.getElem?_toArray, List.getElem?_cons_succ, List.getElem?_cons_zero]
    rfl
  case hsx1 => kernel_rfl
  case hfx1 => kernel_rfl
  case hrx1 => kernel_rfl
  case hyx1 =>
    refine Or.inl ⟨by rfl, ?_⟩
    intro w hSw
    (try dsimp only at hSw)
    go_simp
    try with_reducible rfl
  case hQx1 => exact fun _ _ _ h => h
  case hSx1 => trivial
  try simp only [Act.put, List.setIfInBounds_toArray, List.set_cons_zero, List.set_cons_succ]
  refine wpAnyH_take (i := 1) (oi := ?oix2) (v := ?vx2) ?hix2 ?hsx2 ?hfx2 ?hrx2 ?hQx2 ?hyx2 ?hSx2 ?hx2
  case hix2 =>
    simp only [List.getElem?_toArray, List.getElem?_cons_succ, List.getElem?_cons_zero]
    rfl
  case hsx2 => kernel_rfl
  case hfx2 => kernel_rfl
  case hrx2 => kernel_rfl
  case hyx2 =>
    refine Or.inl ⟨by rfl, ?_⟩
    intro w hSw
    (try dsimp only at hSw)
    go_simp
    try with_reducible rfl
  case hQx2 => exact fun _ _ _ h => h
  case hSx2 => trivial
  try simp only [Act.put, List.setIfInBounds_toArray, List.set_cons_zero, List.set_cons_succ]
  refine wpAnyH_take (i := 2) (oi := ?oix3) (v := ?vx3) ?hix3 ?hsx3 ?hfx3 ?hrx3 ?hQx3 ?hyx3 ?hSx3 ?hx3
  case hix3 =>
    simp only [List.getElem?_toArray, List.getElem?_cons_succ, List.getElem?_cons_zero]
    rfl
  case hsx3 => kernel_rfl
  case hfx3 => kernel_rfl
  case hrx3 => kernel_rfl
  case hyx3 =>
    refine Or.inl ⟨by rfl, ?_⟩
    intro w hSw
    (try dsimp only at hSw)
    go_simp
    try with_reducible rfl
  case hQx3 => exact fun _ _ _ h => h
  case hSx3 => trivial
  try simp only [Act.put, List.setIfInBounds_toArray, List.set_cons_zero, List.set_cons_succ]
  refine wpAnyH_take (i := 3) (oi := ?oix4) (v := ?vx4) ?hix4 ?hsx4 ?hfx4 ?hrx4 ?hQx4 ?hyx4 ?hSx4 ?hx4
  case hix4 =>
    simp only [List.getElem?_toArray, List.getElem?_cons_succ, List.getElem?_cons_zero]
    rfl
  case hsx4 => kernel_rfl
  case hfx4 => kernel_rfl
  case hrx4 => kernel_rfl
  case hyx4 =>
    refine Or.inl ⟨by rfl, ?_⟩
    intro w hSw
    (try dsimp only at hSw)
    go_simp
    try with_reducible rfl
  case hQx4 => exact fun _ _ _ h => h
  case hSx4 => trivial
  try simp only [Act.put, List.setIfInBounds_toArray, List.set_cons_zero, List.set_cons_succ]
  refine wpAnyH_take (i := 4) (oi := ?oix9) (v := undef) ?hix9 ?hsx9 ?hfx9 ?hrx9 ?hQx9 ?hyx9 ?hSx9 ?hx9
  case hix9 =>
    simp only [List.getElem?_toArray, List.getElem?_cons_succ, List.getElem?_cons_zero]
    rfl
  case hsx9 => kernel_rfl
  case hfx9 => kernel_rfl
  case hrx9 => kernel_rfl
  case hyx9 =>
    exact Or.inr ⟨by rfl, rfl⟩
  case hQx9 => exact fun _ _ _ h => h
  case hSx9 => trivial
  try simp only [Act.put, List.setIfInBounds_toArray, List.set_cons_zero, List.set_cons_succ]
  refine wpAnyH_take (i := 5) (oi := ?oix10) (v := undef) ?hix10 ?hsx10 ?hfx10 ?hrx10 ?hQx10 ?hyx10 ?hSx10 ?hx10
  case hix10 =>
    simp only [List.getElem?_toArray, List.getElem?_cons_succ, List.getElem?_cons_zero]
    rfl
  case hsx10 => kernel_rfl
  case hfx10 => kernel_rfl
  case hrx10 => kernel_rfl
  case hyx10 =>
    exact Or.inr ⟨by rfl, rfl⟩
  case hQx10 => exact fun _ _ _ h => h
  case hSx10 => trivial
  try simp only [Act.put, List.setIfInBounds_toArray, List.set_cons_zero, List.set_cons_succ]
  refine wpAnyH_take (i := 6) (oi := ?oix11) (v := undef) ?hix11 ?hsx11 ?hfx11 ?hrx11 ?hQx11 ?hyx11 ?hSx11 ?hx11
  case hix11 =>
    simp only [List.getElem?_toArray, List.getElem?_cons_succ, List.getElem?_cons_zero]
    rfl
  case hsx11 => kernel_rfl
  case hfx11 => kernel_rfl
  case hrx11 => kernel_rfl
  case hyx11 =>
    exact Or.inr ⟨by rfl, rfl⟩
  case hQx11 => exact fun _ _ _ h => h
  case hSx11 => trivial
  try simp only [Act.put, List.setIfInBounds_toArray, List.set_cons_zero, List.set_cons_succ]
  refine wpAnyH_take (i := 7) (oi := ?oix12) (v := undef) ?hix12 ?hsx12 ?hfx12 ?hrx12 ?hQx12 ?hyx12 ?hSx12 ?hx12
  case hix12 =>
    simp only [List.getElem?_toArray, List.getElem?_cons_succ, List.getElem?_cons_zero]
    rfl
  case hsx12 => kernel_rfl
  case hfx12 => kernel_rfl
  case hrx12 => kernel_rfl
  case hyx12 =>
    exact Or.inr ⟨by rfl, rfl⟩
  case hQx12 => exact fun _ _ _ h => h
  case hSx12 => trivial
  try simp only [Act.put, List.setIfInBounds_toArray, List.set_cons_zero, List.set_cons_succ]
  refine wpAnyH_take (i := 10) (oi := ?oix13) (v := undef) ?hix13 ?hsx13 ?hfx13 ?hrx13 ?hQx13 ?hyx13 ?hSx13 ?hx13
  case hix13 =>
    simp only [List.getElem?_toArray, List.getElem?_cons_succ, List.getElem?_cons_zero]
    rfl
  case hsx13 => kernel_rfl
  case hfx13 => kernel_rfl
  case hrx13 => kernel_rfl
  case hyx13 =>
    exact Or.inr ⟨by rfl, rfl⟩
  case hQx13 => exact fun _ _ _ h => h
  case hSx13 => trivial
  try simp only [Act.put, List.setIfInBounds_toArray, List.set_cons_zero, List.set_cons_succ]
  refine wpAnyH_pass (i := 8) (o := ?oix14) ?hix14 ?hrx14 ?hwx14 ?hSx14 ?hx14
  case hix14 =>
    simp only [List.getElem?_toArray, List.getElem?_cons_succ, List.getElem?_cons_zero]
    rfl
  case hrx14 => kernel_rfl
  case hwx14 => rfl
  case hSx14 => trivial
  try simp only [Act.put, List.setIfInBounds_toArray, List.set_cons_zero, List.set_cons_succ]
  refine wpAnyH_pass (i := 9) (o := ?oix15) ?hix15 ?hrx15 ?hwx15 ?hSx15 ?hx15
  case hix15 =>
    simp only [List.getElem?_toArray, List.getElem?_cons_succ, List.getElem?_cons_zero]
    rfl
  case hrx15 => kernel_rfl
  case hwx15 => rfl
  case hSx15 => trivial
  try simp only [Act.put, List.setIfInBounds_toArray, List.set_cons_zero, List.set_cons_succ]
  refine wpAnyH_pass (i := 11) (o := ?oix16) ?hix16 ?hrx16 ?hwx16 ?hSx16 ?hx16
  case hix16 =>
    simp only [List.getElem?_toArray, List.getElem?_cons_succ, List.getElem?_cons_zero]
    rfl
  case hrx16 => kernel_rfl
  case hwx16 => rfl
  case hSx16 => trivial
  try simp only [Act.put, List.setIfInBounds_toArray, List.set_cons_zero, List.set_cons_succ]
  refine wpAnyH_take (i := 12) (oi := ?oix5) (v := ?vx5) ?hix5 ?hsx5 ?hfx5 ?hrx5 ?hQx5 ?hyx5 ?hSx5 ?hx5
  case hix5 =>
    simp only [List.getElem?_toArray, List.getElem?_cons_succ, List.getElem?_cons_zero]
    rfl
  case hsx5 => kernel_rfl
  case hfx5 => kernel_rfl
  case hrx5 => kernel_rfl
  case hyx5 =>
    refine Or.inl ⟨by rfl, ?_⟩
    intro w hSw
    (try dsimp only at hSw)
    go_simp
    try with_reducible rfl
  case hQx5 => exact fun _ _ _ h => h
  case hSx5 => trivial
  try simp only [Act.put, List.setIfInBounds_toArray, List.set_cons_zero, List.set_cons_succ]
  refine wpAnyH_take (i := 13) (oi := ?oix6) (v := ?vx6) ?hix6 ?hsx6 ?hfx6 ?hrx6 ?hQx6 ?hyx6 ?hSx6 ?hx6
  case hix6 =>
    simp only [List.getElem?_toArray, List.getElem?_cons_succ, List.getElem?_cons_zero]
    rfl
  case hsx6 => kernel_rfl
  case hfx6 => kernel_rfl
  case hrx6 => kernel_rfl
  case hyx6 =>
    refine Or.inl ⟨by rfl, ?_⟩
    intro w hSw
    (try dsimp only at hSw)
    go_simp
    try with_reducible rfl
  case hQx6 => exact fun _ _ _ h => h
  case hSx6 => trivial
  try simp only [Act.put, List.setIfInBounds_toArray, List.set_cons_zero, List.set_cons_succ]
  refine wpAnyH_ready (rs := [14]) (by kernel_rfl) (by simp) ?_
  refine AllReadyH.cons (o := ?oi) ?hi ?hk AllReadyH.nil
  case hi =>
    simp only [List.getElem?_toArray, List.getElem?_cons_succ, List.getElem?_cons_zero]
    rfl
  intro K hK
  go_simp
  (go_at_call 39; refine (awake6_any _).mono ?_; rintro e w11 ⟨rfl, hb11⟩; have T11 := Lib.hid (T6.out.drew.trans (hb11.mono T6.out.drew.size)); clear hb11)
  go_simp
  refine hK.out _ _ trivial (fun _ => ?_)
  clear hK K
  try simp only [Act.put, List.setIfInBounds_toArray, List.set_cons_zero, List.set_cons_succ]
  refine wpAnyH_take (i := 15) (oi := ?oix7) (v := ?vx7) ?hix7 ?hsx7 ?hfx7 ?hrx7 ?hQx7 ?hyx7 ?hSx7 ?hx7
  case hix7 =>
    simp only [List.getElem?_toArray, List.getElem?_cons_succ, List.getElem?_cons_zero]
    rfl
  case hsx7 => kernel_rfl
  case hfx7 => kernel_rfl
  case hrx7 => kernel_rfl
  case hyx7 =>
    refine Or.inl ⟨by rfl, ?_⟩
    intro w hSw
    (try dsimp only at hSw)
    go_simp
    try with_reducible rfl
  case hQx7 => exact fun _ _ _ h => h
  case hSx7 => trivial
  try simp only [Act.put, List.setIfInBounds_toArray, List.set_cons_zero, List.set_cons_succ]
  refine wpAnyH_take (i := 16) (oi := ?oix8) (v := ?vx8) ?hix8 ?hsx8 ?hfx8 ?hrx8 ?hQx8 ?hyx8 ?hSx8 ?hx8
  case hix8 =>
    simp only [List.getElem?_toArray, List.getElem?_cons_succ, List.getElem?_cons_zero]
    rfl
  case hsx8 => kernel_rfl
  case hfx8 => kernel_rfl
  case hrx8 => kernel_rfl
  case hyx8 =>
    refine Or.inl ⟨by rfl, ?_⟩
    intro w hSw
    (try dsimp only at hSw)
    go_simp
    try with_reducible rfl
  case hQx8 => exact fun _ _ _ h => h
  case hSx8 => trivial
  try simp only [Act.put, List.setIfInBounds_toArray, List.set_cons_zero, List.set_cons_succ]
  refine wpAnyH_done (by kernel_rfl) ?_ _
  all_goals
    go_wp2
    go_ret
    exact ⟨rfl, T11.out⟩
set_option maxRecDepth 100000 in
set_option maxHeartbeats 2000000 in
theorem back_walk (a0 : Option Addr) (n cap0 : Nat) (x : Nat → Int) (f : Int) (w : World) (h0 : n ≠ 0) (h : n ≤ 200) (hnc : n ≤ cap0) (hcm : cap0 ≤ maxLen) (hx : ∀ j, j < n → -9223372036854775808 ≤ x j ∧ x j ≤ 9223372036854775807) (H : RowOf w a0 n (fun i => .int .i64 (x i))) :
    Calls Try.prog 7 #[.slice a0 n cap0, .int .i64 f] w fun e w' => e = .returned (.bool true) ∧ Below w.heap.size w w' := by
  have h' : ¬ (200 : Int) < n := by omega
  have hal : ∀ q, a0 = some q → 0 < n → q.block < w.heap.size := fun q hq h0 => by
    obtain ⟨b, off, ha, hb, _⟩ := H.at_ h0
    rw [hq] at ha
    injection ha with ha
    subst ha
    exact hb
  have H := Lib.hid H
  have HX := Lib.hid hx
  have HNC := Lib.hid hnc
  have HCM := Lib.hid hcm
  have HAL := Lib.hid hal
  have E1 := Lib.hid (rowV_congr (n := n) (f := fun i => Value.int .i64 (bk (offs (x i) f) f)) (g := fun i => .int .i64 (x i)) (fun i hi => by rw [bk_offs _ _ (hx i hi).1 (hx i hi).2]))
  clear hnc hcm hx hal
  go_enter Try.func7, Try.ntmps7
  go_wp2_with fail
  refine (offsets_any a0 n cap0 x f (by omega) w H.out).mono ?_
  rintro e w1 ⟨v1, rfl, ho1, hb1⟩
  obtain ⟨a1, c1, rfl, hr1, _⟩ := own_reads' ho1
  have HR1 := Lib.hid hr1
  have T1 := Lib.hid hb1
  clear ho1 hr1 hb1
  go_wp2_with fail
  refine (back_any a1 n c1 _ f (by omega) w1 HR1.out).mono ?_
  rintro e w2 ⟨v2, rfl, ho2, hb2⟩
  rw [E1.out] at ho2
  obtain ⟨a2, c2, rfl, hr2, _⟩ := own_reads' ho2
  have T2 := Lib.hid (T1.out.trans (hb2.mono T1.out.size))
  have S1 := Lib.hid (samei a2 a0 n n c2 cap0 _ _ (by omega) w2 hr2 (H.out.below T2.out) true (by simp))
  clear ho2 hr2 hb2
  go_wp2_with (go_at_call 40; refine S1.out.mono ?_; rintro e w3 ⟨rfl, hb3⟩; have T3 := Lib.hid (T2.out.trans (hb3.mono T2.out.size)); clear hb3)
  refine (sums_any a0 n cap0 x f (by omega) w3 (H.out.below T3.out) (fun q hq h0 => Nat.lt_of_lt_of_le (HAL.out q hq h0) T3.out.size)).mono ?_
  rintro e w4 ⟨v4, rfl, ho4, hb4⟩
  obtain ⟨a4, c4, rfl, hr4, _, hle4, _⟩ := own_reads ho4
  have hr4 : RowOf w4 a4 (n + 1) (fun i => .int .i64 (sm f x i)) := hr4.congr fun i hi => by simp [rowV, hi]
  have hc4 : c4 ≤ maxLen := by
    rcases ho4.2 with ⟨_, h0⟩ | ⟨g, cp, cur, hv, _, _, _, hm, _⟩
    · omega
    · injection hv with _ _ hcp
      omega
  obtain ⟨b4, o4, rfl, _, hcell4⟩ := hr4.at_ (i := 0) (by omega)
  have q0 := hcell4 0 (by omega)
  rw [Nat.add_zero, show sm f x 0 = f from rfl] at q0
  have T4 := Lib.hid (T3.out.trans (hb4.mono T3.out.size))
  have DD := Lib.hid (deltas_any _ (n + 1) c4 (sm f x) (by omega) hle4 hc4 w4 hr4)
  have E2 := Lib.hid (rowV_congr (n := n) (f := fun i => Value.int .i64 (dl (sm f x (i + 1)) (sm f x i))) (g := fun i => .int .i64 (x i)) (fun i hi => by rw [show sm f x (i + 1) = wrap64 (sm f x i + x i) from rfl, dl_sum _ _ (HX.out i hi).1 (HX.out i hi).2]))
  rw [Nat.add_sub_cancel, E2.out] at DD
  have n1 : (((n : Int) + 1) != ((n : Int) + 1)) = false := by simp
  have n2 : (0 : Int) < (n : Int) + 1 := by omega
  have f1 : (f != f) = false := by simp
  clear ho4 hr4 hb4 hcell4 hle4 hc4
  go_wp2_with fail
  refine DD.out.mono ?_
  rintro e w5 ⟨v5, rfl, ho5, hb5⟩
  obtain ⟨a5, c5, rfl, hr5, _⟩ := own_reads' ho5
  have T5 := Lib.hid (T4.out.trans (hb5.mono T4.out.size))
  have S2 := Lib.hid (samei a5 a0 n n c5 cap0 _ _ (by omega) w5 hr5 (H.out.below T5.out) true (by simp))
  clear ho5 hr5 hb5
  go_wp2_with (first | (go_at_call 40; refine S2.out.mono ?_; rintro e w6 ⟨rfl, hb6⟩; have T6 := Lib.hid (T5.out.trans (hb6.mono T5.out.size)); clear hb6))
  obtain ⟨m, rfl⟩ : ∃ m, n = m + 1 := ⟨n - 1, by omega⟩
  obtain ⟨b0, off0, rfl, hb0, hc0⟩ := H.out.at_ (i := 0) (by omega)
  have c0 := (T6.out.cell (p := ⟨b0, off0 + 0, none⟩) hb0).trans (hc0 0 (by omega))
  rw [Nat.add_zero] at c0
  have n3 : (((m : Int) + 1) == 0) = false := by simp; omega
  have n4 : (0 : Int) < (m : Int) + 1 := by omega
  have DW := Lib.hid (deltas_any _ (m + 1) cap0 x (by omega) HNC.out HCM.out w6.drew (H.out.below T6.out.drew))
  rw [Nat.add_sub_cancel] at DW
  have SD := Lib.hid (rowV_congr (n := m + 1) (f := fun i => Value.int .i64 (sm (x 0) (fun i => dl (x (i + 1)) (x i)) i)) (g := fun i => .int .i64 (x i)) (fun i hi => by rw [sm_dl x i (fun j hj => HX.out j (by omega))]))
  have CC := Lib.hid (fun W (hW : Below w.heap.size w W) => (hW.cell (p := ⟨b0, off0 + 0, none⟩) hb0).trans (hc0 0 (by omega)))
  clear hc0 h0
  go_region_held3 (fun w' => w'.cell? ⟨b0, off0, none⟩ = some (.int .i64 (x 0))) (first | (exact q8) | (exact q9) | (exact q10) | (exact q11) | go_keep)
    (first
      | (go_at_call 44; refine DW.out.mono ?_; rintro e w8 ⟨v8, rfl, ho8, hb8⟩; obtain ⟨a8, c8, rfl, hr8, hx8⟩ := own_reads' ho8; have T8 := Lib.hid (T6.out.drew.trans (hb8.mono T6.out.drew.size)); have SU := Lib.hid (sums_any a8 m c8 _ (x 0) (by omega) w8 hr8 (fun q hq _ => (hx8 q hq).2)); rw [SD.out] at SU; have q8 := CC.out w8 T8.out; rw [Nat.add_zero] at q8; clear ho8 hr8 hb8 hx8)
      | (go_at_call 43; refine SU.out.mono ?_; rintro e w9 ⟨v9, rfl, ho9, hb9⟩; obtain ⟨a9, c9, rfl, hr9, _⟩ := own_reads' ho9; have T9 := Lib.hid (T8.out.trans (hb9.mono T8.out.size)); have S3 := Lib.hid (samei a9 (some ⟨b0, off0, none⟩) (m + 1) (m + 1) c9 cap0 _ _ (by omega) w9 hr9 (H.out.below T9.out) true (by simp)); have q9 := CC.out w9 T9.out; rw [Nat.add_zero] at q9; clear ho9 hr9 hb9)
      | (go_at_call 40; refine S3.out.mono ?_; rintro e w10 ⟨rfl, hb10⟩; have T10 := Lib.hid (T9.out.trans (hb10.mono T9.out.size)); have q10 := CC.out w10 T10.out; rw [Nat.add_zero] at q10; clear hb10)
      | (go_at_call 39; refine (awake6_any _).mono ?_; rintro e w11 ⟨rfl, hb11⟩; have T11 := Lib.hid (T10.out.trans (hb11.mono T10.out.size)); have q11 := CC.out w11 T11.out; rw [Nat.add_zero] at q11; clear hb11))
  all_goals
    go_wp2
    go_ret
    exact ⟨rfl, T11.out⟩
theorem walk (a0 : Option Addr) (len0 cap0 : Nat) (z0 : List Int) (f : Int) (w : World) (b0 : IsRow .i64 w a0 len0 cap0 z0) (b1 : -9223372036854775808 ≤ f ∧ f ≤ 9223372036854775807) :
    Calls Try.prog 7 #[.slice a0 len0 cap0, .int .i64 f] w fun e w' => e = .returned (.bool true) ∧ Below w.heap.size w w' := by
  by_cases h : 200 < len0
  · exact back_skip a0 len0 cap0 f w h
  · obtain ⟨hl, hm, hz, hw, h0⟩ := b0
    by_cases hz0 : len0 = 0
    · subst hz0
      exact back_zero a0 0 cap0 (fun i => z0.getD i 0) f w rfl (by omega) hl hm (fun j hj => by omega) (.inl rfl)
    refine back_walk a0 len0 cap0 (fun i => z0.getD i 0) f w hz0 (by omega) hl hm (fun j hj => bounds_i64 (hw _ (by simp [List.getD, (by omega : j < z0.length)]))) ?_
    rcases h0 with h0 | ⟨b, off, rfl, _, hc⟩
    · exact .inl (by omega)
    · exact .inr ⟨b, off, rfl, fun i hi => hc i (by omega)⟩
theorem own : ownKnob Try.prog.godebug = none := by kernel_rfl
set_option maxRecDepth 100000 in
theorem contract (H : Type) (enc : TypeId × Value → H) (W : World) (base : Nat) (args : Array Value) (ds gs : List (DataW H)) (before : List MemPlace)
    (hval : ∀ (j : Nat) t v, Try.f7.params[j]? = some t → args[j]? = some v → Value.okWide Try.prog W .any base t v)
    (hW : DataW.Whole enc Try.prog Try.f7.params.toList Rows.widthBackSpec.vars false W args.toList ds gs before) :
    Calls Try.prog 7 args W fun e W' => ∃ v, e = .returned v ∧ Rows.widthBackSpec.post enc Try.prog Try.f7 false true false false W args v W' := by
  have hW' := hW
  obtain ⟨p, q, hA0, hV, rfl, hfz, hnd⟩ := hW
  have hA : DataW.TrodAll enc Try.prog W 0 (fun _ => true) true Try.f7.params.toList args.toList ds p := hA0
  rw [Try.params7] at hA hval
  obtain ⟨v0, vs0, d0, ds0, p0, q0, hargs, rfl, rfl, h0, r0⟩ := trodAll_cons hA
  obtain ⟨v1, vs1, d1, ds1, p1, q1, rfl, rfl, rfl, h1, r1⟩ := trodAll_cons r0
  obtain ⟨rfl, rfl, rfl⟩ := trodAll_nil r1
  obtain rfl : args = #[v0, v1] := by cases args; simp_all
  obtain ⟨rfl, rfl⟩ := trodVars_none hV
  have hWhole := hW'
  obtain ⟨a0, len0, cap0, rfl⟩ := okWide_slice Try.underlying68 (hval 0 68 v0 rfl rfl)
  have k0 := h0
  have lt0 : ∀ x ∈ p0, x.block < W.heap.size := by obtain ⟨m, hm⟩ := k0; exact DataW.trod_lt m _ _ _ hm
  obtain ⟨z0, b0⟩ : ∃ zs, IsRow .i64 W a0 len0 cap0 zs := by
    obtain ⟨fuel, hf⟩ := h0
    rcases open_ints Try.underlying68 Try.underlying2 (by kernel_rfl) hf with ⟨hcs, _⟩ | ⟨x, l, c, zs, hcs, _, hl, hm, hz, _, hcell, hwz⟩
    · simp [Value.cells] at hcs
      obtain ⟨rfl, rfl, rfl⟩ := hcs
      exact ⟨[], isRow_nil _ _⟩
    · simp [Value.cells] at hcs
      obtain ⟨rfl, rfl, rfl⟩ := hcs
      exact ⟨zs, isRow_of hl hm (by simpa using hz) hcell hwz⟩
  obtain ⟨a1, rfl, rfl, rfl, w1⟩ := open_int Try.underlying2 (hval 1 2 v1 rfl rfl) h1
  have b1 := bounds_i64 w1
  clear hA0
  refine (walk a0 len0 cap0 z0 a1 W b0 b1).mono fun e W' ⟨he, hg⟩ => ?_
  subst he
  exact ⟨_, rfl, _, _, _, [], _, [], hW', trodAll_mk1 (shut_bool Try.underlying4 _), (trodAll_cons_mk (Below.trod laidOut (by kernel_rfl) (of_decide_eq_true (by kernel_rfl)) k0 hg lt0) (trodAll_cons_mk (shut_int Try.underlying2 w1) trodAll_mk0)), rfl, hg.frame _, fun h => by cases h⟩

set_option maxRecDepth 100000 in
theorem lifted (os : Os) (started : os.Started) (H : Type) (enc : TypeId × Value → H) :
    ReturnsInHanded {} Try.checked os 7 .any (Rows.widthBackSpec.pre6 enc Try.prog Try.f7 Rows.widthBackRow.domain false) (Rows.widthBackSpec.post enc Try.prog Try.f7 false true false false) := by
  refine returnsInHanded_of_change (C := Try.checked) own started (by kernel_rfl) Try.func7
    (ChangeSpec.witness6 (enc := enc) (C := Try.checked) false ⟨#[], #[.slice none 0 0, .int .i64 0], []⟩ 8 (by kernel_rfl) (by kernel_rfl) (by kernel_rfl) (by kernel_rfl)) ?_
  intro W base args ds gs before hval hW _ _
  exact contract H enc W base args ds gs before hval hW

/-- ████ THE STATEMENT ████ -/
theorem proved : Rows.WidthBackSaid :=
  OpenClaim.holds_of_wide 7 Try.f7 rfl rfl rfl rfl rfl rfl rfl ⟨rfl, rfl, rfl, rfl, rfl⟩ rfl rfl rfl rfl rfl (by kernel_rfl) Try.func7 (by kernel_rfl)
    (of_decide_eq_true (by kernel_rfl)) (by unfold Func.isWrapper; first | (rw [if_pos (by decide +kernel)]; kernel_rfl) | (rw [if_neg (by decide +kernel)]; exact ⟨rfl, rfl⟩))
    (fun os started H enc _ => lifted os started H enc)
end Go.Proofs.Ytjdcafeljdnfeaa.widthBack
