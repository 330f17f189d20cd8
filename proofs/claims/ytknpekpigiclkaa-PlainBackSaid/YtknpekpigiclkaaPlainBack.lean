/-
  THE STATEMENT corduroylaw07.PlainBack: for any two rows of numbers the call returns true and leaves its arguments as they were. No condition.
-/
import Derived.Test.YtknpekpigiclkaaPlainF
import Derived.Test.YtknpekpigiclkaaText
import Derived.Test.YtknpekpigiclkaaIsRow
namespace Go.Proofs.Ytknpekpigiclkaa.plainBack
open Go.ChangeShapes Go.WideShapes Go.ChangeAt Go.RowKit
set_option linter.unusedVariables false
theorem wpAnyH_pass {P : Program} {ops : Array Oper} {Q : Exit → Act → World → Prop} {md : Region.Mode} {S : World → Prop} {fuel : Nat} {listed : Array Bool} {a : Act} {w : World} {i : Nat} {o : Oper} (ho : ops[i]? = some o)
    (hr : Region.ready md ops listed = [i]) (hw : Region.wanted o (yielded ops a.tmps) = false) (hS : S w)
    (h : wpAnyH P md ops Q S fuel (listed.setIfInBounds i true) (a.put o.dst undef) w) : wpAnyH P md ops Q S (fuel + 1) listed a w :=
  wpAnyH_ready hr (by simp) (AllReadyH.cons ho (fun K hK => by rw [if_neg (by simp [hw])]; exact hK.out _ _ hS (fun _ => h)) AllReadyH.nil)
theorem long (a a2 : Option Addr) (n cap m cap2 : Nat) (hl : 300 < n ∨ 300 < m) (W : World) :
    Calls Try.prog 8 #[.slice a n cap, .slice a2 m cap2] W fun e w' => e = .returned (.bool true) ∧ Below W.heap.size W w' := by
  by_cases h : 300 < n
  · have h1 : (300 : Int) < n := by omega
    clear hl
    go_enter Try.func8, Try.ntmps8
    go_wp2
    go_ret
    exact ⟨rfl, Below.refl _ _⟩
  · have h1 : ¬ (300 : Int) < n := by omega
    have h2 : (300 : Int) < m := by omega
    clear hl
    go_enter Try.func8, Try.ntmps8
    go_wp2
    go_ret
    exact ⟨rfl, Below.refl _ _⟩
theorem pb_congr (x y : Nat → Int) : ∀ n, (∀ i, i < n → x i = y i) → pb x n = pb y n
  | 0, _ => rfl
  | n + 1, h => by rw [pb, pb, pb_congr x y n (fun i hi => h i (by omega)), h n (by omega)]
theorem pb_mem (x : Nat → Int) (n : Nat) : ∀ v ∈ pb x n, 0 ≤ v ∧ v ≤ 255 := by
  intro v hv
  obtain ⟨i, hi, rfl⟩ := List.getElem_of_mem hv
  have := pb_byte x n i (by rw [pb_length] at hi; exact hi)
  rw [List.getD_eq_getElem?_getD, List.getElem?_eq_getElem hi] at this
  exact this
/-- Unlike blocks have unlike forms. -/
theorem pb_text (x y : Nat → Int) (n m : Nat) (hx : ∀ i, i < n → -9223372036854775808 ≤ x i ∧ x i ≤ 9223372036854775807) (hy : ∀ i, i < m → -9223372036854775808 ≤ y i ∧ y i ≤ 9223372036854775807) :
    ((strOfNums (pb x n)).toList == (strOfNums (pb y m)).toList) = decide (n = m ∧ ∀ i, i < n → x i = y i) := by
  rw [str_beq _ _ (pb_mem x n) (pb_mem y m)]
  congr 1
  apply propext
  refine ⟨fun h => ?_, fun ⟨h1, h2⟩ => by subst h1; exact pb_congr x y n h2⟩
  have hl := congrArg List.length h
  rw [pb_length, pb_length] at hl
  obtain rfl : n = m := by omega
  exact ⟨rfl, fun i hi => by rw [← dn_pb x n i hi (hx i hi), h, dn_pb y n i hi (hy i hi)]⟩
set_option maxRecDepth 100000 in
set_option maxHeartbeats 4000000 in
theorem main_both (a a2 : Option Addr) (n cap m cap2 : Nat) (x y : Nat → Int) (hn : n ≤ 300) (hm : m ≤ 300) (hx : ∀ i, i < n → -9223372036854775808 ≤ x i ∧ x i ≤ 9223372036854775807) (hy : ∀ i, i < m → -9223372036854775808 ≤ y i ∧ y i ≤ 9223372036854775807)
    (W : World) (h : RowOf W a n (fun i => .int .i64 (x i))) (h2 : RowOf W a2 m (fun i => .int .i64 (y i))) (hb1 : blk n = true) (hb2 : blk m = true) :
    Calls Try.prog 8 #[.slice a n cap, .slice a2 m cap2] W fun e w' => e = .returned (.bool true) ∧ Below W.heap.size W w' := by
  have n1 : ¬ (300 : Int) < n := by omega
  have n2 : ¬ (300 : Int) < m := by omega
  have AW := Lib.hid (fun W => awake7_any W)
  have BK := Lib.hid (fun (W1 : World) (hb : Below W.heap.size W W1) => (show Calls Try.prog 42 #[.iface 53 (.agg #[]), .slice a n cap] W1 fun e w' => e = .returned (.bool true) ∧ Below W1.heap.size W1 w' from by
    cases hb' : blk n
    · exact back_out a n cap (by omega) hb' W1
    · exact back_in a n cap x hb' hx W1 (h.below hb)))
  go_enter Try.func8, Try.ntmps8
  go_wp2_with fail
  refine (pencode_in a n cap x hb1 W h).mono ?_
  rintro e w1 ⟨v1, rfl, ho1, hb1'⟩
  obtain ⟨a3, c3, rfl, hr1, _⟩ := own_bytes ho1
  have HR1 := Lib.hid hr1
  have HB1 := Lib.hid hb1'
  clear hr1 hb1' ho1
  go_wp2_with fail
  refine (pencode_in a2 m cap2 y hb2 w1 (h2.below HB1.out)).mono ?_
  rintro e w2 ⟨v2, rfl, ho2, hb2⟩
  obtain ⟨a4, c4, rfl, hr2, _⟩ := own_bytes ho2
  clear ho2
  go_wp2_with fail
  have HB2 := Lib.hid (HB1.out.trans (hb2.mono HB1.out.size))
  have HALL := Lib.hid (fun w' (hb : Below w2.heap.size w2 w') => (show (convert 34 9 (.slice a3 (8 * n) c3)).run Try.prog w' = .ok (.string (strOfNums (pb x n))) w' ∧ (convert 34 9 (.slice a4 (8 * m) c4)).run Try.prog w' = .ok (.string (strOfNums (pb y m))) w' from ⟨conv_list a3 (8 * n) c3 _ (pb_length x n) w' ((HR1.out.below hb2).below hb), conv_list a4 (8 * m) c4 _ (pb_length y m) w' (hr2.below hb)⟩))
  have hst := pb_text x y n m hx hy
  have SM := Lib.hid (samei a a2 n m cap cap2 x y (by omega) w2.drew ((h.below HB2.out).drew) ((h2.below HB2.out).drew) (decide (n = m ∧ ∀ i, i < n → x i = y i)) rfl)
  have P0 := Lib.hid (((Below.refl w2.heap.size w2)).drew)
  clear hx hy h h2 hb2 hr2
  generalize decide (n = m ∧ ∀ i, i < n → x i = y i) = t at *
  generalize strOfNums (pb x n) = X at *
  generalize strOfNums (pb y m) = Y at *
  have htt : (t != t) = false := by simp
  refine wp_region_held_drew (S := (fun w' => (convert 34 9 (.slice a3 (8 * n) c3)).run Try.prog w' = .ok (.string X) w' ∧ (convert 34 9 (.slice a4 (8 * m) c4)).run Try.prog w' = .ok (.string Y) w')) (by kernel_rfl) (HALL.out _ P0.out) (fun hHeld => ?_)
  refine wpAnyH_take (i := 0) (oi := ?oix1) (v := ?vx1) ?hix1 ?hsx1 ?hfx1 ?hrx1 ?hQx1 ?hyx1 ?hSx1 ?hx1
  case hix1 =>
    simp only [List.getElem?_toArray, List.getElem?_cons_zero]
    rfl
  case hsx1 => kernel_rfl
  case hfx1 => kernel_rfl
  case hrx1 => kernel_rfl
  case hyx1 =>
    refine Or.inl ⟨by rfl, ?_⟩
    intro w hSw
    (try dsimp only at hSw)
    go_simp
    try with_reducible rfl
  case hQx1 => exact fun _ _ _ h => h
  case hSx1 => assumption
  try simp only [Act.put, List.setIfInBounds_toArray, List.set_cons_zero, List.set_cons_succ]
  refine wpAnyH_take (i := 1) (oi := ?oix2) (v := ?vx2) ?hix2 ?hsx2 ?hfx2 ?hrx2 ?hQx2 ?hyx2 ?hSx2 ?hx2
  case hix2 =>
    simp only [List.getElem?_toArray, List.getElem?_cons_succ, List.getElem?_cons_zero]
    rfl
  case hsx2 => kernel_rfl
  case hfx2 => kernel_rfl
  case hrx2 => kernel_rfl
  case hyx2 =>
    refine Or.inl ⟨by rfl, ?_⟩
    intro w hSw
    (try dsimp only at hSw)
    go_simp
    try with_reducible rfl
  case hQx2 => exact fun _ _ _ h => h
  case hSx2 => assumption
  try simp only [Act.put, List.setIfInBounds_toArray, List.set_cons_zero, List.set_cons_succ]
  refine wpAnyH_take (i := 2) (oi := ?oix3) (v := ?vx3) ?hix3 ?hsx3 ?hfx3 ?hrx3 ?hQx3 ?hyx3 ?hSx3 ?hx3
  case hix3 =>
    simp only [List.getElem?_toArray, List.getElem?_cons_succ, List.getElem?_cons_zero]
    rfl
  case hsx3 => kernel_rfl
  case hfx3 => kernel_rfl
  case hrx3 => kernel_rfl
  case hyx3 =>
    refine Or.inl ⟨by rfl, ?_⟩
    intro w hSw
    (try dsimp only at hSw)
    go_simp
    try with_reducible rfl
  case hQx3 => exact fun _ _ _ h => h
  case hSx3 => assumption
  try simp only [Act.put, List.setIfInBounds_toArray, List.set_cons_zero, List.set_cons_succ]
  refine wpAnyH_take (i := 3) (oi := ?oix4) (v := ?vx4) ?hix4 ?hsx4 ?hfx4 ?hrx4 ?hQx4 ?hyx4 ?hSx4 ?hx4
  case hix4 =>
    simp only [List.getElem?_toArray, List.getElem?_cons_succ, List.getElem?_cons_zero]
    rfl
  case hsx4 => kernel_rfl
  case hfx4 => kernel_rfl
  case hrx4 => kernel_rfl
  case hyx4 =>
    refine Or.inl ⟨by rfl, ?_⟩
    intro w hSw
    (try dsimp only at hSw)
    go_simp
    try with_reducible rfl
  case hQx4 => exact fun _ _ _ h => h
  case hSx4 => assumption
  try simp only [Act.put, List.setIfInBounds_toArray, List.set_cons_zero, List.set_cons_succ]
  refine wpAnyH_take (i := 4) (oi := ?oix5) (v := ?vx5) ?hix5 ?hsx5 ?hfx5 ?hrx5 ?hQx5 ?hyx5 ?hSx5 ?hx5
  case hix5 =>
    simp only [List.getElem?_toArray, List.getElem?_cons_succ, List.getElem?_cons_zero]
    rfl
  case hsx5 => kernel_rfl
  case hfx5 => kernel_rfl
  case hrx5 => kernel_rfl
  case hyx5 =>
    refine Or.inl ⟨by rfl, ?_⟩
    intro w hSw
    (try dsimp only at hSw)
    go_simp
    try with_reducible rfl
  case hQx5 => exact fun _ _ _ h => h
  case hSx5 => assumption
  try simp only [Act.put, List.setIfInBounds_toArray, List.set_cons_zero, List.set_cons_succ]
  refine wpAnyH_take (i := 5) (oi := ?oix6) (v := ?vx6) ?hix6 ?hsx6 ?hfx6 ?hrx6 ?hQx6 ?hyx6 ?hSx6 ?hx6
  case hix6 =>
    simp only [List.getElem?_toArray, List.getElem?_cons_succ, List.getElem?_cons_zero]
    rfl
  case hsx6 => kernel_rfl
  case hfx6 => kernel_rfl
  case hrx6 => kernel_rfl
  case hyx6 =>
    refine Or.inl ⟨by rfl, ?_⟩
    intro w hSw
    (try dsimp only at hSw)
    go_simp
    try with_reducible rfl
  case hQx6 => exact fun _ _ _ h => h
  case hSx6 => assumption
  try simp only [Act.put, List.setIfInBounds_toArray, List.set_cons_zero, List.set_cons_succ]
  refine wpAnyH_take (i := 6) (oi := ?oix7) (v := ?vx7) ?hix7 ?hsx7 ?hfx7 ?hrx7 ?hQx7 ?hyx7 ?hSx7 ?hx7
  case hix7 =>
    simp only [List.getElem?_toArray, List.getElem?_cons_succ, List.getElem?_cons_zero]
    rfl
  case hsx7 => kernel_rfl
  case hfx7 => kernel_rfl
  case hrx7 => kernel_rfl
  case hyx7 =>
    refine Or.inl ⟨by rfl, ?_⟩
    intro w hSw
    (try dsimp only at hSw)
    go_simp
    try with_reducible rfl
  case hQx7 => exact fun _ _ _ h => h
  case hSx7 => assumption
  try simp only [Act.put, List.setIfInBounds_toArray, List.set_cons_zero, List.set_cons_succ]
  refine wpAnyH_take (i := 7) (oi := ?oix8) (v := ?vx8) ?hix8 ?hsx8 ?hfx8 ?hrx8 ?hQx8 ?hyx8 ?hSx8 ?hx8
  case hix8 =>
    simp only [List.getElem?_toArray, List.getElem?_cons_succ, List.getElem?_cons_zero]
    rfl
  case hsx8 => kernel_rfl
  case hfx8 => kernel_rfl
  case hrx8 => kernel_rfl
  case hyx8 =>
    refine Or.inl ⟨by rfl, ?_⟩
    intro w hSw
    (try dsimp only at hSw)
    go_simp
    try with_reducible rfl
  case hQx8 => exact fun _ _ _ h => h
  case hSx8 => assumption
  try simp only [Act.put, List.setIfInBounds_toArray, List.set_cons_zero, List.set_cons_succ]
  refine wpAnyH_take (i := 8) (oi := ?oix9) (v := ?vx9) ?hix9 ?hsx9 ?hfx9 ?hrx9 ?hQx9 ?hyx9 ?hSx9 ?hx9
  case hix9 =>
    simp only [List.getElem?_toArray, List.getElem?_cons_succ, List.getElem?_cons_zero]
    rfl
  case hsx9 => kernel_rfl
  case hfx9 => kernel_rfl
  case hrx9 => kernel_rfl
  case hyx9 =>
    refine Or.inl ⟨by rfl, ?_⟩
    intro w hSw
    (try dsimp only at hSw)
    go_simp
    try with_reducible rfl
  case hQx9 => exact fun _ _ _ h => h
  case hSx9 => assumption
  try simp only [Act.put, List.setIfInBounds_toArray, List.set_cons_zero, List.set_cons_succ]
  refine wpAnyH_take (i := 9) (oi := ?oix10) (v := ?vx10) ?hix10 ?hsx10 ?hfx10 ?hrx10 ?hQx10 ?hyx10 ?hSx10 ?hx10
  case hix10 =>
    simp only [List.getElem?_toArray, List.getElem?_cons_succ, List.getElem?_cons_zero]
    rfl
  case hsx10 => kernel_rfl
  case hfx10 => kernel_rfl
  case hrx10 => kernel_rfl
  case hyx10 =>
    refine Or.inl ⟨by rfl, ?_⟩
    intro w hSw
    (try dsimp only at hSw)
    go_simp
    try with_reducible rfl
  case hQx10 => exact fun _ _ _ h => h
  case hSx10 => assumption
  try simp only [Act.put, List.setIfInBounds_toArray, List.set_cons_zero, List.set_cons_succ]
  refine wpAnyH_take (i := 10) (oi := ?oix11) (v := ?vx11) ?hix11 ?hsx11 ?hfx11 ?hrx11 ?hQx11 ?hyx11 ?hSx11 ?hx11
  case hix11 =>
    simp only [List.getElem?_toArray, List.getElem?_cons_succ, List.getElem?_cons_zero]
    rfl
  case hsx11 => kernel_rfl
  case hfx11 => kernel_rfl
  case hrx11 => kernel_rfl
  case hyx11 =>
    refine Or.inl ⟨by rfl, ?_⟩
    intro w hSw
    (try dsimp only at hSw)
    go_simp
    try with_reducible rfl
  case hQx11 => exact fun _ _ _ h => h
  case hSx11 => assumption
  try simp only [Act.put, List.setIfInBounds_toArray, List.set_cons_zero, List.set_cons_succ]
  refine wpAnyH_take (i := 11) (oi := ?oix12) (v := ?vx12) ?hix12 ?hsx12 ?hfx12 ?hrx12 ?hQx12 ?hyx12 ?hSx12 ?hx12
  case hix12 =>
    simp only [List.getElem?_toArray, List.getElem?_cons_succ, List.getElem?_cons_zero]
    rfl
  case hsx12 => kernel_rfl
  case hfx12 => kernel_rfl
  case hrx12 => kernel_rfl
  case hyx12 =>
    refine Or.inl ⟨by rfl, ?_⟩
    intro w hSw
    (try dsimp only at hSw)
    go_simp
    try with_reducible rfl
  case hQx12 => exact fun _ _ _ h => h
  case hSx12 => assumption
  try simp only [Act.put, List.setIfInBounds_toArray, List.set_cons_zero, List.set_cons_succ]
  refine wpAnyH_take (i := 12) (oi := ?oix13) (v := ?vx13) ?hix13 ?hsx13 ?hfx13 ?hrx13 ?hQx13 ?hyx13 ?hSx13 ?hx13
  case hix13 =>
    simp only [List.getElem?_toArray, List.getElem?_cons_succ, List.getElem?_cons_zero]
    rfl
  case hsx13 => kernel_rfl
  case hfx13 => kernel_rfl
  case hrx13 => kernel_rfl
  case hyx13 =>
    refine Or.inl ⟨by rfl, ?_⟩
    intro w hSw
    (try dsimp only at hSw)
    go_simp
    try with_reducible rfl
  case hQx13 => exact fun _ _ _ h => h
  case hSx13 => assumption
  try simp only [Act.put, List.setIfInBounds_toArray, List.set_cons_zero, List.set_cons_succ]
  refine wpAnyH_take (i := 13) (oi := ?oix14) (v := ?vx14) ?hix14 ?hsx14 ?hfx14 ?hrx14 ?hQx14 ?hyx14 ?hSx14 ?hx14
  case hix14 =>
    simp only [List.getElem?_toArray, List.getElem?_cons_succ, List.getElem?_cons_zero]
    rfl
  case hsx14 => kernel_rfl
  case hfx14 => kernel_rfl
  case hrx14 => kernel_rfl
  case hyx14 =>
    refine Or.inl ⟨by rfl, ?_⟩
    intro w hSw
    (try dsimp only at hSw)
    go_simp
    try with_reducible rfl
  case hQx14 => exact fun _ _ _ h => h
  case hSx14 => assumption
  try simp only [Act.put, List.setIfInBounds_toArray, List.set_cons_zero, List.set_cons_succ]
  refine wpAnyH_ready (rs := [14]) (by kernel_rfl) (by simp) ?_
  refine AllReadyH.cons (o := ?ox15) ?ix15 ?kx15 AllReadyH.nil
  case ix15 =>
    simp only [List.getElem?_toArray, List.getElem?_cons_succ, List.getElem?_cons_zero]
    rfl
  intro K hK
  go_simp
  go_at_call 33
  refine SM.out.mono ?_
  rintro e w3 ⟨rfl, hb⟩
  have P1 := Lib.hid (show Below w2.heap.size w2 w3 from ⟨hb.os, hb.tape, hb.output, hb.size, hb.block⟩)
  clear hb
  refine hK.out _ _ (HALL.out _ P1.out) (fun hHeld => ?_)
  clear hK K
  try simp only [Act.put, List.setIfInBounds_toArray, List.set_cons_zero, List.set_cons_succ]
  refine wpAnyH_take (i := 15) (oi := ?oix16) (v := ?vx16) ?hix16 ?hsx16 ?hfx16 ?hrx16 ?hQx16 ?hyx16 ?hSx16 ?hx16
  case hix16 =>
    simp only [List.getElem?_toArray, List.getElem?_cons_succ, List.getElem?_cons_zero]
    rfl
  case hsx16 => kernel_rfl
  case hfx16 => kernel_rfl
  case hrx16 => kernel_rfl
  case hyx16 =>
    refine Or.inl ⟨by rfl, ?_⟩
    intro w hSw
    (try dsimp only at hSw)
    go_simp
    try with_reducible rfl
  case hQx16 => exact fun _ _ _ h => h
  case hSx16 => assumption
  try simp only [Act.put, List.setIfInBounds_toArray, List.set_cons_zero, List.set_cons_succ]
  refine wpAnyH_take (i := 16) (oi := ?oix17) (v := ?vx17) ?hix17 ?hsx17 ?hfx17 ?hrx17 ?hQx17 ?hyx17 ?hSx17 ?hx17
  case hix17 =>
    simp only [List.getElem?_toArray, List.getElem?_cons_succ, List.getElem?_cons_zero]
    rfl
  case hsx17 => kernel_rfl
  case hfx17 => kernel_rfl
  case hrx17 => kernel_rfl
  case hyx17 =>
    refine Or.inl ⟨by rfl, ?_⟩
    intro w hSw
    (try dsimp only at hSw)
    go_simp
    try with_reducible rfl
  case hQx17 => exact fun _ _ _ h => h
  case hSx17 => assumption
  try simp only [Act.put, List.setIfInBounds_toArray, List.set_cons_zero, List.set_cons_succ]
  refine wpAnyH_done (by kernel_rfl) ?_ _
  have HBX := Lib.hid (HB2.out.trans (P1.out.mono HB2.out.size))
  clear hst htt
  go_wp2_with (first
    | (go_at_call 42; refine (BK.out _ HBX.out).mono ?_; rintro e w4 ⟨rfl, hb⟩; have HB4 := Lib.hid hb; clear hb)
    | (go_at_call 30; refine (AW.out _).mono ?_; rintro e w5 ⟨rfl, hb⟩; have HB5 := Lib.hid hb; clear hb))
  go_ret
  exact ⟨rfl, (HBX.out.trans (HB4.out.mono HBX.out.size)).trans (HB5.out.mono (Nat.le_trans HBX.out.size HB4.out.size))⟩
set_option maxRecDepth 100000 in
set_option maxHeartbeats 4000000 in
theorem main_first (a a2 : Option Addr) (n cap m cap2 : Nat) (x y : Nat → Int) (hn : n ≤ 300) (hm : m ≤ 300) (hx : ∀ i, i < n → -9223372036854775808 ≤ x i ∧ x i ≤ 9223372036854775807) (hy : ∀ i, i < m → -9223372036854775808 ≤ y i ∧ y i ≤ 9223372036854775807)
    (W : World) (h : RowOf W a n (fun i => .int .i64 (x i))) (h2 : RowOf W a2 m (fun i => .int .i64 (y i))) (hb1 : blk n = false) :
    Calls Try.prog 8 #[.slice a n cap, .slice a2 m cap2] W fun e w' => e = .returned (.bool true) ∧ Below W.heap.size W w' := by
  have n1 : ¬ (300 : Int) < n := by omega
  have n2 : ¬ (300 : Int) < m := by omega
  have AW := Lib.hid (fun W => awake7_any W)
  have BK := Lib.hid (fun (W1 : World) (hb : Below W.heap.size W W1) => (show Calls Try.prog 42 #[.iface 53 (.agg #[]), .slice a n cap] W1 fun e w' => e = .returned (.bool true) ∧ Below W1.heap.size W1 w' from by
    cases hb' : blk n
    · exact back_out a n cap (by omega) hb' W1
    · exact back_in a n cap x hb' hx W1 (h.below hb)))
  have E2 : ∀ w1, Below W.heap.size W w1 → Calls Try.prog 41 #[.agg #[], .slice a2 m cap2] w1 fun e w' => ∃ a c k f, e = .returned (.tuple #[.slice a k c, .int .i64 f]) ∧ Below w1.heap.size w1 w' := fun w1 hw => by
    cases hb' : blk m
    · exact (pencode_out a2 m cap2 hb' w1).mono fun e w' ⟨he, hb⟩ => ⟨none, 0, 0, 7, he, hb⟩
    · exact (pencode_in a2 m cap2 y hb' w1 (h2.below hw)).mono fun e w' ⟨v, he, ho, hb⟩ => by
        obtain ⟨a3, c3, rfl, _⟩ := own_bytes ho
        exact ⟨a3, c3, _, 0, he, hb⟩
  go_enter Try.func8, Try.ntmps8
  go_wp2_with fail
  refine (pencode_out a n cap hb1 W).mono ?_
  rintro e w1 ⟨rfl, hb1'⟩
  have HB1 := Lib.hid hb1'
  clear hb1'
  go_wp2_with fail
  refine (E2 w1 HB1.out).mono ?_
  rintro e w2 ⟨a4, c4, k4, f4, rfl, hb2⟩
  clear E2
  go_wp2_with fail
  have HB2 := Lib.hid (HB1.out.trans (hb2.mono HB1.out.size))
  clear hb2 hx hy h h2
  refine wp_region_held_drew (S := (fun _ : World => True)) (by kernel_rfl) trivial (fun hHeld => ?_)
  refine wpAnyH_take (i := 0) (oi := ?oix18) (v := ?vx18) ?hix18 ?hsx18 ?hfx18 ?hrx18 ?hQx18 ?hyx18 ?hSx18 ?hx18
  case hix18 =>
    simp only [List.getElem?_toArray, List.getElem?_cons_zero]
    rfl
  case hsx18 => kernel_rfl
  case hfx18 => kernel_rfl
  case hrx18 => kernel_rfl
  case hyx18 =>
    refine Or.inl ⟨by rfl, ?_⟩
    intro w hSw
    (try dsimp only at hSw)
    go_simp
    try with_reducible rfl
  case hQx18 => exact fun _ _ _ h => h
  case hSx18 => trivial
  try simp only [Act.put, List.setIfInBounds_toArray, List.set_cons_zero, List.set_cons_succ]
  refine wpAnyH_take (i := 1) (oi := ?oix19) (v := ?vx19) ?hix19 ?hsx19 ?hfx19 ?hrx19 ?hQx19 ?hyx19 ?hSx19 ?hx19
  case hix19 =>
    simp only [List.getElem?_toArray, List.getElem?_cons_succ, List.getElem?_cons_zero]
    rfl
  case hsx19 => kernel_rfl
  case hfx19 => kernel_rfl
  case hrx19 => kernel_rfl
  case hyx19 =>
    refine Or.inl ⟨by rfl, ?_⟩
    intro w hSw
    (try dsimp only at hSw)
    go_simp
    try with_reducible rfl
  case hQx19 => exact fun _ _ _ h => h
  case hSx19 => trivial
  try simp only [Act.put, List.setIfInBounds_toArray, List.set_cons_zero, List.set_cons_succ]
  refine wpAnyH_take (i := 2) (oi := ?oix20) (v := ?vx20) ?hix20 ?hsx20 ?hfx20 ?hrx20 ?hQx20 ?hyx20 ?hSx20 ?hx20
  case hix20 =>
    simp only [List.getElem?_toArray, List.getElem?_cons_succ, List.getElem?_cons_zero]
    rfl
  case hsx20 => kernel_rfl
  case hfx20 => kernel_rfl
  case hrx20 => kernel_rfl
  case hyx20 =>
    refine Or.inl ⟨by rfl, ?_⟩
    intro w hSw
    (try dsimp only at hSw)
    go_simp
    try with_reducible rfl
  case hQx20 => exact fun _ _ _ h => h
  case hSx20 => trivial
  try simp only [Act.put, List.setIfInBounds_toArray, List.set_cons_zero, List.set_cons_succ]
  refine wpAnyH_take (i := 3) (oi := ?oix21) (v := undef) ?hix21 ?hsx21 ?hfx21 ?hrx21 ?hQx21 ?hyx21 ?hSx21 ?hx21
  case hix21 =>
    simp only [List.getElem?_toArray, List.getElem?_cons_succ, List.getElem?_cons_zero]
    rfl
  case hsx21 => kernel_rfl
  case hfx21 => kernel_rfl
  case hrx21 => kernel_rfl
  case hyx21 =>
    exact Or.inr ⟨by rfl, rfl⟩
  case hQx21 => exact fun _ _ _ h => h
  case hSx21 => trivial
  try simp only [Act.put, List.setIfInBounds_toArray, List.set_cons_zero, List.set_cons_succ]
  refine wpAnyH_take (i := 4) (oi := ?oix22) (v := undef) ?hix22 ?hsx22 ?hfx22 ?hrx22 ?hQx22 ?hyx22 ?hSx22 ?hx22
  case hix22 =>
    simp only [List.getElem?_toArray, List.getElem?_cons_succ, List.getElem?_cons_zero]
    rfl
  case hsx22 => kernel_rfl
  case hfx22 => kernel_rfl
  case hrx22 => kernel_rfl
  case hyx22 =>
    exact Or.inr ⟨by rfl, rfl⟩
  case hQx22 => exact fun _ _ _ h => h
  case hSx22 => trivial
  try simp only [Act.put, List.setIfInBounds_toArray, List.set_cons_zero, List.set_cons_succ]
  refine wpAnyH_take (i := 5) (oi := ?oix23) (v := ?vx23) ?hix23 ?hsx23 ?hfx23 ?hrx23 ?hQx23 ?hyx23 ?hSx23 ?hx23
  case hix23 =>
    simp only [List.getElem?_toArray, List.getElem?_cons_succ, List.getElem?_cons_zero]
    rfl
  case hsx23 => kernel_rfl
  case hfx23 => kernel_rfl
  case hrx23 => kernel_rfl
  case hyx23 =>
    refine Or.inl ⟨by rfl, ?_⟩
    intro w hSw
    (try dsimp only at hSw)
    go_simp
    try with_reducible rfl
  case hQx23 => exact fun _ _ _ h => h
  case hSx23 => trivial
  try simp only [Act.put, List.setIfInBounds_toArray, List.set_cons_zero, List.set_cons_succ]
  refine wpAnyH_take (i := 6) (oi := ?oix24) (v := ?vx24) ?hix24 ?hsx24 ?hfx24 ?hrx24 ?hQx24 ?hyx24 ?hSx24 ?hx24
  case hix24 =>
    simp only [List.getElem?_toArray, List.getElem?_cons_succ, List.getElem?_cons_zero]
    rfl
  case hsx24 => kernel_rfl
  case hfx24 => kernel_rfl
  case hrx24 => kernel_rfl
  case hyx24 =>
    refine Or.inl ⟨by rfl, ?_⟩
    intro w hSw
    (try dsimp only at hSw)
    go_simp
    try with_reducible rfl
  case hQx24 => exact fun _ _ _ h => h
  case hSx24 => trivial
  try simp only [Act.put, List.setIfInBounds_toArray, List.set_cons_zero, List.set_cons_succ]
  refine wpAnyH_take (i := 7) (oi := ?oix25) (v := undef) ?hix25 ?hsx25 ?hfx25 ?hrx25 ?hQx25 ?hyx25 ?hSx25 ?hx25
  case hix25 =>
    simp only [List.getElem?_toArray, List.getElem?_cons_succ, List.getElem?_cons_zero]
    rfl
  case hsx25 => kernel_rfl
  case hfx25 => kernel_rfl
  case hrx25 => kernel_rfl
  case hyx25 =>
    exact Or.inr ⟨by rfl, rfl⟩
  case hQx25 => exact fun _ _ _ h => h
  case hSx25 => trivial
  try simp only [Act.put, List.setIfInBounds_toArray, List.set_cons_zero, List.set_cons_succ]
  refine wpAnyH_take (i := 8) (oi := ?oix26) (v := undef) ?hix26 ?hsx26 ?hfx26 ?hrx26 ?hQx26 ?hyx26 ?hSx26 ?hx26
  case hix26 =>
    simp only [List.getElem?_toArray, List.getElem?_cons_succ, List.getElem?_cons_zero]
    rfl
  case hsx26 => kernel_rfl
  case hfx26 => kernel_rfl
  case hrx26 => kernel_rfl
  case hyx26 =>
    exact Or.inr ⟨by rfl, rfl⟩
  case hQx26 => exact fun _ _ _ h => h
  case hSx26 => trivial
  try simp only [Act.put, List.setIfInBounds_toArray, List.set_cons_zero, List.set_cons_succ]
  refine wpAnyH_take (i := 9) (oi := ?oix27) (v := undef) ?hix27 ?hsx27 ?hfx27 ?hrx27 ?hQx27 ?hyx27 ?hSx27 ?hx27
  case hix27 =>
    simp only [List.getElem?_toArray, List.getElem?_cons_succ, List.getElem?_cons_zero]
    rfl
  case hsx27 => kernel_rfl
  case hfx27 => kernel_rfl
  case hrx27 => kernel_rfl
  case hyx27 =>
    exact Or.inr ⟨by rfl, rfl⟩
  case hQx27 => exact fun _ _ _ h => h
  case hSx27 => trivial
  try simp only [Act.put, List.setIfInBounds_toArray, List.set_cons_zero, List.set_cons_succ]
  refine wpAnyH_take (i := 10) (oi := ?oix28) (v := undef) ?hix28 ?hsx28 ?hfx28 ?hrx28 ?hQx28 ?hyx28 ?hSx28 ?hx28
  case hix28 =>
    simp only [List.getElem?_toArray, List.getElem?_cons_succ, List.getElem?_cons_zero]
    rfl
  case hsx28 => kernel_rfl
  case hfx28 => kernel_rfl
  case hrx28 => kernel_rfl
  case hyx28 =>
    exact Or.inr ⟨by rfl, rfl⟩
  case hQx28 => exact fun _ _ _ h => h
  case hSx28 => trivial
  try simp only [Act.put, List.setIfInBounds_toArray, List.set_cons_zero, List.set_cons_succ]
  refine wpAnyH_take (i := 11) (oi := ?oix29) (v := undef) ?hix29 ?hsx29 ?hfx29 ?hrx29 ?hQx29 ?hyx29 ?hSx29 ?hx29
  case hix29 =>
    simp only [List.getElem?_toArray, List.getElem?_cons_succ, List.getElem?_cons_zero]
    rfl
  case hsx29 => kernel_rfl
  case hfx29 => kernel_rfl
  case hrx29 => kernel_rfl
  case hyx29 =>
    exact Or.inr ⟨by rfl, rfl⟩
  case hQx29 => exact fun _ _ _ h => h
  case hSx29 => trivial
  try simp only [Act.put, List.setIfInBounds_toArray, List.set_cons_zero, List.set_cons_succ]
  refine wpAnyH_take (i := 12) (oi := ?oix30) (v := undef) ?hix30 ?hsx30 ?hfx30 ?hrx30 ?hQx30 ?hyx30 ?hSx30 ?hx30
  case hix30 =>
    simp only [List.getElem?_toArray, List.getElem?_cons_succ, List.getElem?_cons_zero]
    rfl
  case hsx30 => kernel_rfl
  case hfx30 => kernel_rfl
  case hrx30 => kernel_rfl
  case hyx30 =>
    exact Or.inr ⟨by rfl, rfl⟩
  case hQx30 => exact fun _ _ _ h => h
  case hSx30 => trivial
  try simp only [Act.put, List.setIfInBounds_toArray, List.set_cons_zero, List.set_cons_succ]
  refine wpAnyH_take (i := 13) (oi := ?oix31) (v := undef) ?hix31 ?hsx31 ?hfx31 ?hrx31 ?hQx31 ?hyx31 ?hSx31 ?hx31
  case hix31 =>
    simp only [List.getElem?_toArray, List.getElem?_cons_succ, List.getElem?_cons_zero]
    rfl
  case hsx31 => kernel_rfl
  case hfx31 => kernel_rfl
  case hrx31 => kernel_rfl
  case hyx31 =>
    exact Or.inr ⟨by rfl, rfl⟩
  case hQx31 => exact fun _ _ _ h => h
  case hSx31 => trivial
  try simp only [Act.put, List.setIfInBounds_toArray, List.set_cons_zero, List.set_cons_succ]
  refine wpAnyH_pass (i := 14) (o := ?oix32) ?hix32 ?hrx32 ?hwx32 ?hSx32 ?hx32
  case hix32 =>
    simp only [List.getElem?_toArray, List.getElem?_cons_succ, List.getElem?_cons_zero]
    rfl
  case hrx32 => kernel_rfl
  case hwx32 => rfl
  case hSx32 => trivial
  try simp only [Act.put, List.setIfInBounds_toArray, List.set_cons_zero, List.set_cons_succ]
  refine wpAnyH_take (i := 15) (oi := ?oix33) (v := undef) ?hix33 ?hsx33 ?hfx33 ?hrx33 ?hQx33 ?hyx33 ?hSx33 ?hx33
  case hix33 =>
    simp only [List.getElem?_toArray, List.getElem?_cons_succ, List.getElem?_cons_zero]
    rfl
  case hsx33 => kernel_rfl
  case hfx33 => kernel_rfl
  case hrx33 => kernel_rfl
  case hyx33 =>
    exact Or.inr ⟨by rfl, rfl⟩
  case hQx33 => exact fun _ _ _ h => h
  case hSx33 => trivial
  try simp only [Act.put, List.setIfInBounds_toArray, List.set_cons_zero, List.set_cons_succ]
  refine wpAnyH_take (i := 16) (oi := ?oix34) (v := ?vx34) ?hix34 ?hsx34 ?hfx34 ?hrx34 ?hQx34 ?hyx34 ?hSx34 ?hx34
  case hix34 =>
    simp only [List.getElem?_toArray, List.getElem?_cons_succ, List.getElem?_cons_zero]
    rfl
  case hsx34 => kernel_rfl
  case hfx34 => kernel_rfl
  case hrx34 => kernel_rfl
  case hyx34 =>
    refine Or.inl ⟨by rfl, ?_⟩
    intro w hSw
    (try dsimp only at hSw)
    go_simp
    try with_reducible rfl
  case hQx34 => exact fun _ _ _ h => h
  case hSx34 => trivial
  try simp only [Act.put, List.setIfInBounds_toArray, List.set_cons_zero, List.set_cons_succ]
  refine wpAnyH_done (by kernel_rfl) ?_ _
  have HBX := Lib.hid (show Below W.heap.size W w2.drew from ⟨HB2.out.os, HB2.out.tape, HB2.out.output, HB2.out.size, HB2.out.block⟩)
  go_wp2_with (first
    | (go_at_call 42; refine (BK.out _ HBX.out).mono ?_; rintro e w4 ⟨rfl, hb⟩; have HB4 := Lib.hid hb; clear hb)
    | (go_at_call 30; refine (AW.out _).mono ?_; rintro e w5 ⟨rfl, hb⟩; have HB5 := Lib.hid hb; clear hb))
  go_ret
  exact ⟨rfl, (HBX.out.trans (HB4.out.mono HBX.out.size)).trans (HB5.out.mono (Nat.le_trans HBX.out.size HB4.out.size))⟩
set_option maxRecDepth 100000 in
set_option maxHeartbeats 4000000 in
theorem main_second (a a2 : Option Addr) (n cap m cap2 : Nat) (x y : Nat → Int) (hn : n ≤ 300) (hm : m ≤ 300) (hx : ∀ i, i < n → -9223372036854775808 ≤ x i ∧ x i ≤ 9223372036854775807) (hy : ∀ i, i < m → -9223372036854775808 ≤ y i ∧ y i ≤ 9223372036854775807)
    (W : World) (h : RowOf W a n (fun i => .int .i64 (x i))) (h2 : RowOf W a2 m (fun i => .int .i64 (y i))) (hb1 : blk n = true) (hb2 : blk m = false) :
    Calls Try.prog 8 #[.slice a n cap, .slice a2 m cap2] W fun e w' => e = .returned (.bool true) ∧ Below W.heap.size W w' := by
  have n1 : ¬ (300 : Int) < n := by omega
  have n2 : ¬ (300 : Int) < m := by omega
  have AW := Lib.hid (fun W => awake7_any W)
  have BK := Lib.hid (fun (W1 : World) (hb : Below W.heap.size W W1) => (show Calls Try.prog 42 #[.iface 53 (.agg #[]), .slice a n cap] W1 fun e w' => e = .returned (.bool true) ∧ Below W1.heap.size W1 w' from by
    cases hb' : blk n
    · exact back_out a n cap (by omega) hb' W1
    · exact back_in a n cap x hb' hx W1 (h.below hb)))
  go_enter Try.func8, Try.ntmps8
  go_wp2_with fail
  refine (pencode_in a n cap x hb1 W h).mono ?_
  rintro e w1 ⟨v1, rfl, ho1, hb1'⟩
  obtain ⟨a3, c3, rfl, hr1, _⟩ := own_bytes ho1
  have HR1 := Lib.hid hr1
  have HB1 := Lib.hid hb1'
  clear hr1 hb1' ho1
  go_wp2_with fail
  refine (pencode_out a2 m cap2 hb2 w1).mono ?_
  rintro e w2 ⟨rfl, hb2⟩
  go_wp2_with fail
  have HB2 := Lib.hid (HB1.out.trans (hb2.mono HB1.out.size))
  clear hb2 hx hy h h2
  refine wp_region_held_drew (S := (fun _ : World => True)) (by kernel_rfl) trivial (fun hHeld => ?_)
  refine wpAnyH_take (i := 0) (oi := ?oix35) (v := ?vx35) ?hix35 ?hsx35 ?hfx35 ?hrx35 ?hQx35 ?hyx35 ?hSx35 ?hx35
  case hix35 =>
    simp only [List.getElem?_toArray, List.getElem?_cons_zero]
    rfl
  case hsx35 => kernel_rfl
  case hfx35 => kernel_rfl
  case hrx35 => kernel_rfl
  case hyx35 =>
    refine Or.inl ⟨by rfl, ?_⟩
    intro w hSw
    (try dsimp only at hSw)
    go_simp
    try with_reducible rfl
  case hQx35 => exact fun _ _ _ h => h
  case hSx35 => trivial
  try simp only [Act.put, List.setIfInBounds_toArray, List.set_cons_zero, List.set_cons_succ]
  refine wpAnyH_take (i := 1) (oi := ?oix36) (v := ?vx36) ?hix36 ?hsx36 ?hfx36 ?hrx36 ?hQx36 ?hyx36 ?hSx36 ?hx36
  case hix36 =>
    simp only [List.getElem?_toArray, List.getElem?_cons_succ, List.getElem?_cons_zero]
    rfl
  case hsx36 => kernel_rfl
  case hfx36 => kernel_rfl
  case hrx36 => kernel_rfl
  case hyx36 =>
    refine Or.inl ⟨by rfl, ?_⟩
    intro w hSw
    (try dsimp only at hSw)
    go_simp
    try with_reducible rfl
  case hQx36 => exact fun _ _ _ h => h
  case hSx36 => trivial
  try simp only [Act.put, List.setIfInBounds_toArray, List.set_cons_zero, List.set_cons_succ]
  refine wpAnyH_take (i := 2) (oi := ?oix37) (v := ?vx37) ?hix37 ?hsx37 ?hfx37 ?hrx37 ?hQx37 ?hyx37 ?hSx37 ?hx37
  case hix37 =>
    simp only [List.getElem?_toArray, List.getElem?_cons_succ, List.getElem?_cons_zero]
    rfl
  case hsx37 => kernel_rfl
  case hfx37 => kernel_rfl
  case hrx37 => kernel_rfl
  case hyx37 =>
    refine Or.inl ⟨by rfl, ?_⟩
    intro w hSw
    (try dsimp only at hSw)
    go_simp
    try with_reducible rfl
  case hQx37 => exact fun _ _ _ h => h
  case hSx37 => trivial
  try simp only [Act.put, List.setIfInBounds_toArray, List.set_cons_zero, List.set_cons_succ]
  refine wpAnyH_take (i := 3) (oi := ?oix38) (v := ?vx38) ?hix38 ?hsx38 ?hfx38 ?hrx38 ?hQx38 ?hyx38 ?hSx38 ?hx38
  case hix38 =>
    simp only [List.getElem?_toArray, List.getElem?_cons_succ, List.getElem?_cons_zero]
    rfl
  case hsx38 => kernel_rfl
  case hfx38 => kernel_rfl
  case hrx38 => kernel_rfl
  case hyx38 =>
    refine Or.inl ⟨by rfl, ?_⟩
    intro w hSw
    (try dsimp only at hSw)
    go_simp
    try with_reducible rfl
  case hQx38 => exact fun _ _ _ h => h
  case hSx38 => trivial
  try simp only [Act.put, List.setIfInBounds_toArray, List.set_cons_zero, List.set_cons_succ]
  refine wpAnyH_take (i := 4) (oi := ?oix39) (v := ?vx39) ?hix39 ?hsx39 ?hfx39 ?hrx39 ?hQx39 ?hyx39 ?hSx39 ?hx39
  case hix39 =>
    simp only [List.getElem?_toArray, List.getElem?_cons_succ, List.getElem?_cons_zero]
    rfl
  case hsx39 => kernel_rfl
  case hfx39 => kernel_rfl
  case hrx39 => kernel_rfl
  case hyx39 =>
    refine Or.inl ⟨by rfl, ?_⟩
    intro w hSw
    (try dsimp only at hSw)
    go_simp
    try with_reducible rfl
  case hQx39 => exact fun _ _ _ h => h
  case hSx39 => trivial
  try simp only [Act.put, List.setIfInBounds_toArray, List.set_cons_zero, List.set_cons_succ]
  refine wpAnyH_take (i := 5) (oi := ?oix40) (v := ?vx40) ?hix40 ?hsx40 ?hfx40 ?hrx40 ?hQx40 ?hyx40 ?hSx40 ?hx40
  case hix40 =>
    simp only [List.getElem?_toArray, List.getElem?_cons_succ, List.getElem?_cons_zero]
    rfl
  case hsx40 => kernel_rfl
  case hfx40 => kernel_rfl
  case hrx40 => kernel_rfl
  case hyx40 =>
    refine Or.inl ⟨by rfl, ?_⟩
    intro w hSw
    (try dsimp only at hSw)
    go_simp
    try with_reducible rfl
  case hQx40 => exact fun _ _ _ h => h
  case hSx40 => trivial
  try simp only [Act.put, List.setIfInBounds_toArray, List.set_cons_zero, List.set_cons_succ]
  refine wpAnyH_take (i := 6) (oi := ?oix41) (v := ?vx41) ?hix41 ?hsx41 ?hfx41 ?hrx41 ?hQx41 ?hyx41 ?hSx41 ?hx41
  case hix41 =>
    simp only [List.getElem?_toArray, List.getElem?_cons_succ, List.getElem?_cons_zero]
    rfl
  case hsx41 => kernel_rfl
  case hfx41 => kernel_rfl
  case hrx41 => kernel_rfl
  case hyx41 =>
    refine Or.inl ⟨by rfl, ?_⟩
    intro w hSw
    (try dsimp only at hSw)
    go_simp
    try with_reducible rfl
  case hQx41 => exact fun _ _ _ h => h
  case hSx41 => trivial
  try simp only [Act.put, List.setIfInBounds_toArray, List.set_cons_zero, List.set_cons_succ]
  refine wpAnyH_take (i := 7) (oi := ?oix42) (v := undef) ?hix42 ?hsx42 ?hfx42 ?hrx42 ?hQx42 ?hyx42 ?hSx42 ?hx42
  case hix42 =>
    simp only [List.getElem?_toArray, List.getElem?_cons_succ, List.getElem?_cons_zero]
    rfl
  case hsx42 => kernel_rfl
  case hfx42 => kernel_rfl
  case hrx42 => kernel_rfl
  case hyx42 =>
    exact Or.inr ⟨by rfl, rfl⟩
  case hQx42 => exact fun _ _ _ h => h
  case hSx42 => trivial
  try simp only [Act.put, List.setIfInBounds_toArray, List.set_cons_zero, List.set_cons_succ]
  refine wpAnyH_take (i := 8) (oi := ?oix43) (v := undef) ?hix43 ?hsx43 ?hfx43 ?hrx43 ?hQx43 ?hyx43 ?hSx43 ?hx43
  case hix43 =>
    simp only [List.getElem?_toArray, List.getElem?_cons_succ, List.getElem?_cons_zero]
    rfl
  case hsx43 => kernel_rfl
  case hfx43 => kernel_rfl
  case hrx43 => kernel_rfl
  case hyx43 =>
    exact Or.inr ⟨by rfl, rfl⟩
  case hQx43 => exact fun _ _ _ h => h
  case hSx43 => trivial
  try simp only [Act.put, List.setIfInBounds_toArray, List.set_cons_zero, List.set_cons_succ]
  refine wpAnyH_take (i := 9) (oi := ?oix44) (v := undef) ?hix44 ?hsx44 ?hfx44 ?hrx44 ?hQx44 ?hyx44 ?hSx44 ?hx44
  case hix44 =>
    simp only [List.getElem?_toArray, List.getElem?_cons_succ, List.getElem?_cons_zero]
    rfl
  case hsx44 => kernel_rfl
  case hfx44 => kernel_rfl
  case hrx44 => kernel_rfl
  case hyx44 =>
    exact Or.inr ⟨by rfl, rfl⟩
  case hQx44 => exact fun _ _ _ h => h
  case hSx44 => trivial
  try simp only [Act.put, List.setIfInBounds_toArray, List.set_cons_zero, List.set_cons_succ]
  refine wpAnyH_take (i := 10) (oi := ?oix45) (v := undef) ?hix45 ?hsx45 ?hfx45 ?hrx45 ?hQx45 ?hyx45 ?hSx45 ?hx45
  case hix45 =>
    simp only [List.getElem?_toArray, List.getElem?_cons_succ, List.getElem?_cons_zero]
    rfl
  case hsx45 => kernel_rfl
  case hfx45 => kernel_rfl
  case hrx45 => kernel_rfl
  case hyx45 =>
    exact Or.inr ⟨by rfl, rfl⟩
  case hQx45 => exact fun _ _ _ h => h
  case hSx45 => trivial
  try simp only [Act.put, List.setIfInBounds_toArray, List.set_cons_zero, List.set_cons_succ]
  refine wpAnyH_take (i := 11) (oi := ?oix46) (v := undef) ?hix46 ?hsx46 ?hfx46 ?hrx46 ?hQx46 ?hyx46 ?hSx46 ?hx46
  case hix46 =>
    simp only [List.getElem?_toArray, List.getElem?_cons_succ, List.getElem?_cons_zero]
    rfl
  case hsx46 => kernel_rfl
  case hfx46 => kernel_rfl
  case hrx46 => kernel_rfl
  case hyx46 =>
    exact Or.inr ⟨by rfl, rfl⟩
  case hQx46 => exact fun _ _ _ h => h
  case hSx46 => trivial
  try simp only [Act.put, List.setIfInBounds_toArray, List.set_cons_zero, List.set_cons_succ]
  refine wpAnyH_take (i := 12) (oi := ?oix47) (v := undef) ?hix47 ?hsx47 ?hfx47 ?hrx47 ?hQx47 ?hyx47 ?hSx47 ?hx47
  case hix47 =>
    simp only [List.getElem?_toArray, List.getElem?_cons_succ, List.getElem?_cons_zero]
    rfl
  case hsx47 => kernel_rfl
  case hfx47 => kernel_rfl
  case hrx47 => kernel_rfl
  case hyx47 =>
    exact Or.inr ⟨by rfl, rfl⟩
  case hQx47 => exact fun _ _ _ h => h
  case hSx47 => trivial
  try simp only [Act.put, List.setIfInBounds_toArray, List.set_cons_zero, List.set_cons_succ]
  refine wpAnyH_take (i := 13) (oi := ?oix48) (v := undef) ?hix48 ?hsx48 ?hfx48 ?hrx48 ?hQx48 ?hyx48 ?hSx48 ?hx48
  case hix48 =>
    simp only [List.getElem?_toArray, List.getElem?_cons_succ, List.getElem?_cons_zero]
    rfl
  case hsx48 => kernel_rfl
  case hfx48 => kernel_rfl
  case hrx48 => kernel_rfl
  case hyx48 =>
    exact Or.inr ⟨by rfl, rfl⟩
  case hQx48 => exact fun _ _ _ h => h
  case hSx48 => trivial
  try simp only [Act.put, List.setIfInBounds_toArray, List.set_cons_zero, List.set_cons_succ]
  refine wpAnyH_pass (i := 14) (o := ?oix49) ?hix49 ?hrx49 ?hwx49 ?hSx49 ?hx49
  case hix49 =>
    simp only [List.getElem?_toArray, List.getElem?_cons_succ, List.getElem?_cons_zero]
    rfl
  case hrx49 => kernel_rfl
  case hwx49 => rfl
  case hSx49 => trivial
  try simp only [Act.put, List.setIfInBounds_toArray, List.set_cons_zero, List.set_cons_succ]
  refine wpAnyH_take (i := 15) (oi := ?oix50) (v := undef) ?hix50 ?hsx50 ?hfx50 ?hrx50 ?hQx50 ?hyx50 ?hSx50 ?hx50
  case hix50 =>
    simp only [List.getElem?_toArray, List.getElem?_cons_succ, List.getElem?_cons_zero]
    rfl
  case hsx50 => kernel_rfl
  case hfx50 => kernel_rfl
  case hrx50 => kernel_rfl
  case hyx50 =>
    exact Or.inr ⟨by rfl, rfl⟩
  case hQx50 => exact fun _ _ _ h => h
  case hSx50 => trivial
  try simp only [Act.put, List.setIfInBounds_toArray, List.set_cons_zero, List.set_cons_succ]
  refine wpAnyH_take (i := 16) (oi := ?oix51) (v := ?vx51) ?hix51 ?hsx51 ?hfx51 ?hrx51 ?hQx51 ?hyx51 ?hSx51 ?hx51
  case hix51 =>
    simp only [List.getElem?_toArray, List.getElem?_cons_succ, List.getElem?_cons_zero]
    rfl
  case hsx51 => kernel_rfl
  case hfx51 => kernel_rfl
  case hrx51 => kernel_rfl
  case hyx51 =>
    refine Or.inl ⟨by rfl, ?_⟩
    intro w hSw
    (try dsimp only at hSw)
    go_simp
    try with_reducible rfl
  case hQx51 => exact fun _ _ _ h => h
  case hSx51 => trivial
  try simp only [Act.put, List.setIfInBounds_toArray, List.set_cons_zero, List.set_cons_succ]
  refine wpAnyH_done (by kernel_rfl) ?_ _
  have HBX := Lib.hid (show Below W.heap.size W w2.drew from ⟨HB2.out.os, HB2.out.tape, HB2.out.output, HB2.out.size, HB2.out.block⟩)
  go_wp2_with (first
    | (go_at_call 42; refine (BK.out _ HBX.out).mono ?_; rintro e w4 ⟨rfl, hb⟩; have HB4 := Lib.hid hb; clear hb)
    | (go_at_call 30; refine (AW.out _).mono ?_; rintro e w5 ⟨rfl, hb⟩; have HB5 := Lib.hid hb; clear hb))
  go_ret
  exact ⟨rfl, (HBX.out.trans (HB4.out.mono HBX.out.size)).trans (HB5.out.mono (Nat.le_trans HBX.out.size HB4.out.size))⟩
theorem walk (a : Option Addr) (n cap : Nat) (xs : List Int) (a2 : Option Addr) (m cap2 : Nat) (ys : List Int) (W : World) (b : IsRow .i64 W a n cap xs) (b2 : IsRow .i64 W a2 m cap2 ys) :
    Calls Try.prog 8 #[.slice a n cap, .slice a2 m cap2] W fun e w' => e = .returned (.bool true) ∧ Below W.heap.size W w' := by
  by_cases hl : 300 < n ∨ 300 < m
  · exact long a a2 n cap m cap2 hl W
  obtain ⟨b1, b2', b3, b4, b5⟩ := b
  obtain ⟨d1, d2, d3, d4, d5⟩ := b2
  have hr : RowOf W a n (fun i => .int .i64 (xs.getD i 0)) := by
    rcases b5 with b5 | ⟨b, off, rfl, hb, hc⟩
    · exact .inl (by omega)
    · exact .inr ⟨b, off, rfl, fun i hi => hc i (by omega)⟩
  have hr2 : RowOf W a2 m (fun i => .int .i64 (ys.getD i 0)) := by
    rcases d5 with d5 | ⟨b, off, rfl, hb, hc⟩
    · exact .inl (by omega)
    · exact .inr ⟨b, off, rfl, fun i hi => hc i (by omega)⟩
  have hx : ∀ i, i < n → -9223372036854775808 ≤ xs.getD i 0 ∧ xs.getD i 0 ≤ 9223372036854775807 := fun i hi => bounds_i64 (b4 (xs.getD i 0) (by rw [List.getD_eq_getElem?_getD, List.getElem?_eq_getElem (by omega)]; simp))
  have hy : ∀ i, i < m → -9223372036854775808 ≤ ys.getD i 0 ∧ ys.getD i 0 ≤ 9223372036854775807 := fun i hi => bounds_i64 (d4 (ys.getD i 0) (by rw [List.getD_eq_getElem?_getD, List.getElem?_eq_getElem (by omega)]; simp))
  cases hb1 : blk n
  · exact main_first a a2 n cap m cap2 _ _ (by omega) (by omega) hx hy W hr hr2 hb1
  · cases hb2 : blk m
    · exact main_second a a2 n cap m cap2 _ _ (by omega) (by omega) hx hy W hr hr2 hb1 hb2
    · exact main_both a a2 n cap m cap2 _ _ (by omega) (by omega) hx hy W hr hr2 hb1 hb2
theorem own : ownKnob Try.prog.godebug = none := by kernel_rfl
set_option maxRecDepth 100000 in
theorem contract (H : Type) (enc : TypeId × Value → H) (W : World) (base : Nat) (args : Array Value) (ds gs : List (DataW H)) (before : List MemPlace)
    (hval : ∀ (j : Nat) t v, Try.f8.params[j]? = some t → args[j]? = some v → Value.okWide Try.prog W .any base t v)
    (hW : DataW.Whole enc Try.prog Try.f8.params.toList Rows.plainBackSpec.vars false W args.toList ds gs before) :
    Calls Try.prog 8 args W fun e W' => ∃ v, e = .returned v ∧ Rows.plainBackSpec.post enc Try.prog Try.f8 false true false false W args v W' := by
  have hW' := hW
  obtain ⟨p, q, hA0, hV, rfl, hfz, hnd⟩ := hW
  have hA : DataW.TrodAll enc Try.prog W 0 (fun _ => true) true Try.f8.params.toList args.toList ds p := hA0
  rw [Try.params8] at hA hval
  obtain ⟨v0, vs0, d0, ds0, p0, q0, hargs, rfl, rfl, h0, r0⟩ := trodAll_cons hA
  obtain ⟨v1, vs1, d1, ds1, p1, q1, rfl, rfl, rfl, h1, r1⟩ := trodAll_cons r0
  obtain ⟨rfl, rfl, rfl⟩ := trodAll_nil r1
  obtain rfl : args = #[v0, v1] := by cases args; simp_all
  obtain ⟨rfl, rfl⟩ := trodVars_none hV
  have hWhole := hW'
  obtain ⟨a0, len0, cap0, rfl⟩ := okWide_slice Try.underlying50 (hval 0 50 v0 rfl rfl)
  have k0 := h0
  have lt0 : ∀ x ∈ p0, x.block < W.heap.size := by obtain ⟨m, hm⟩ := k0; exact DataW.trod_lt m _ _ _ hm
  obtain ⟨z0, b0⟩ : ∃ zs, IsRow .i64 W a0 len0 cap0 zs := by
    obtain ⟨fuel, hf⟩ := h0
    rcases open_ints Try.underlying50 Try.underlying2 (by kernel_rfl) hf with ⟨hcs, _⟩ | ⟨x, l, c, zs, hcs, _, hl, hm, hz, _, hcell, hwz⟩
    · simp [Value.cells] at hcs
      obtain ⟨rfl, rfl, rfl⟩ := hcs
      exact ⟨[], isRow_nil _ _⟩
    · simp [Value.cells] at hcs
      obtain ⟨rfl, rfl, rfl⟩ := hcs
      exact ⟨zs, isRow_of hl hm (by simpa using hz) hcell hwz⟩
  obtain ⟨a1, len1, cap1, rfl⟩ := okWide_slice Try.underlying50 (hval 1 50 v1 rfl rfl)
  have k1 := h1
  have lt1 : ∀ x ∈ p1, x.block < W.heap.size := by obtain ⟨m, hm⟩ := k1; exact DataW.trod_lt m _ _ _ hm
  obtain ⟨z1, b1⟩ : ∃ zs, IsRow .i64 W a1 len1 cap1 zs := by
    obtain ⟨fuel, hf⟩ := h1
    rcases open_ints Try.underlying50 Try.underlying2 (by kernel_rfl) hf with ⟨hcs, _⟩ | ⟨x, l, c, zs, hcs, _, hl, hm, hz, _, hcell, hwz⟩
    · simp [Value.cells] at hcs
      obtain ⟨rfl, rfl, rfl⟩ := hcs
      exact ⟨[], isRow_nil _ _⟩
    · simp [Value.cells] at hcs
      obtain ⟨rfl, rfl, rfl⟩ := hcs
      exact ⟨zs, isRow_of hl hm (by simpa using hz) hcell hwz⟩
  clear hA0
  refine (walk a0 len0 cap0 z0 a1 len1 cap1 z1 W b0 b1).mono fun e W' ⟨he, hg⟩ => ?_
  subst he
  exact ⟨_, rfl, _, _, _, [], _, [], hW', trodAll_mk1 (shut_bool Try.underlying4 _), (trodAll_cons_mk (Below.trod laidOut (by kernel_rfl) (of_decide_eq_true (by kernel_rfl)) k0 hg lt0) (trodAll_cons_mk (Below.trod laidOut (by kernel_rfl) (of_decide_eq_true (by kernel_rfl)) k1 hg lt1) trodAll_mk0)), rfl, hg.frame _, fun h => by cases h⟩

set_option maxRecDepth 100000 in
theorem lifted (os : Os) (started : os.Started) (H : Type) (enc : TypeId × Value → H) :
    ReturnsInHanded {} Try.checked os 8 .any (Rows.plainBackSpec.pre6 enc Try.prog Try.f8 Rows.plainBackRow.domain false) (Rows.plainBackSpec.post enc Try.prog Try.f8 false true false false) := by
  refine returnsInHanded_of_change (C := Try.checked) own started (by kernel_rfl) Try.func8
    (ChangeSpec.witness6 (enc := enc) (C := Try.checked) false ⟨#[], #[.slice none 0 0, .slice none 0 0], []⟩ 8 (by kernel_rfl) (by kernel_rfl) (by kernel_rfl) (by kernel_rfl)) ?_
  intro W base args ds gs before hval hW _ _
  exact contract H enc W base args ds gs before hval hW

/-- ████ THE STATEMENT ████ -/
theorem proved : Rows.PlainBackSaid :=
  OpenClaim.holds_of_wide 8 Try.f8 rfl rfl rfl rfl rfl rfl rfl ⟨rfl, rfl, rfl, rfl, rfl⟩ rfl rfl rfl rfl rfl (by kernel_rfl) Try.func8 (by kernel_rfl)
    (of_decide_eq_true (by kernel_rfl)) (by unfold Func.isWrapper; first | (rw [if_pos (by decide +kernel)]; kernel_rfl) | (rw [if_neg (by decide +kernel)]; exact ⟨rfl, rfl⟩))
    (fun os started H enc _ => lifted os started H enc)
end Go.Proofs.Ytknpekpigiclkaa.plainBack
