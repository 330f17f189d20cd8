/-
  THE STATEMENT corduroylaw25.ZoneTells: for any two rows of numbers the call returns true and leaves its arguments as they were. No condition.
-/
import Derived.Test.YtknpekpigiclkaaZoneD
import Derived.Test.YtknpekpigiclkaaIsRow
namespace Go.Proofs.Ytknpekpigiclkaa.zoneTells
open Go.ChangeShapes Go.WideShapes Go.ChangeAt Go.RowKit
set_option linter.unusedVariables false
set_option linter.unusedSimpArgs false
theorem zlongInfo : (Try.prog.info? 2).map (fun i => (i.zero, i.size, i.bytes)) = some (some (.int .i64 0), 1, 8) := by kernel_rfl
theorem long (a0 a1 : Option Addr) (n cap m cap1 : Nat) (w : World) (h : 300 < n ∨ 300 < m) :
    Calls Try.prog 14 #[.slice a0 n cap, .slice a1 m cap1] w fun e w' => e = .returned (.bool true) ∧ Below w.heap.size w w' := by
  by_cases h1 : 300 < n
  · have h' : (300 : Int) < n := by omega
    go_enter Try.func14, Try.ntmps14
    go_wp2
    go_ret
    exact ⟨rfl, Below.refl _ _⟩
  · have h' : ¬ (300 : Int) < n := by omega
    have h'' : (300 : Int) < m := by omega
    go_enter Try.func14, Try.ntmps14
    go_wp2
    go_ret
    exact ⟨rfl, Below.refl _ _⟩
theorem rowV_app (n m : Nat) (l r : Nat → Int) : rowV (fun i => Value.int .i64 (l i)) n ++ rowV (fun i => Value.int .i64 (r i)) m = rowV (fun i => .int .i64 (zapp n l r i)) (n + m) := by
  apply List.ext_getElem?
  intro i
  by_cases h1 : i < n
  · rw [List.getElem?_append_left (by rw [rowV_length]; exact h1), rowV_get _ h1, rowV_get _ (by omega)]
    unfold zapp; rw [if_pos h1]
  · rw [List.getElem?_append_right (by rw [rowV_length]; omega), rowV_length]
    by_cases h2 : i < n + m
    · rw [rowV_get _ (by omega), rowV_get _ h2]
      unfold zapp; rw [if_neg h1]
    · rw [rowV_ge _ (by omega), rowV_ge _ (by omega)]
/-- Two rows appended to an empty one of one's own. -/
theorem append_two (a0 a1 : Option Addr) (n cap m cap1 : Nat) (l r : Nat → Int) (hn : n ≤ 500) (hm : m ≤ 500) (w : World) (H0 : RowOf (w.alloc (.cells #[] 2)) a0 n (fun i => .int .i64 (l i))) (H1 : ∀ W, Below w.heap.size w W → RowOf W a1 m (fun i => .int .i64 (r i))) :
    ∃ v1 W1 a' c' W2, (Builtin.append_ #[50, 50] 50 #[.slice (some ⟨w.heap.size, 0, none⟩) 0 0, .slice a0 n cap]).run Try.prog (w.alloc (.cells #[] 2)) = .ok v1 W1 ∧
      (Builtin.append_ #[50, 50] 50 #[v1, .slice a1 m cap1]).run Try.prog W1 = .ok (.slice a' (n + m) c') W2 ∧ RowOf W2 a' (n + m) (fun i => .int .i64 (zapp n l r i)) ∧ Below w.heap.size w W2 := by
  obtain ⟨i0, hi, hz0, hz1, hz2⟩ := info_parts zlongInfo
  have ho : (w.alloc (.cells #[] 2)).ownsRow w.heap.size 2 1 (.slice (some ⟨w.heap.size, 0, none⟩) 0 0) 0 [] := World.ownsRow_lit w #[] 0 (Nat.le_refl _) (by decide) rfl
  have hb0 : Below w.heap.size w (w.alloc (.cells #[] 2)) := (Below.refl _ _).alloc (Nat.le_refl _) _
  obtain ⟨v1, W1, r1, o1, g1, _⟩ := run_append_row (P := Try.prog) (w.alloc (.cells #[] 2)) w.heap.size 50 50 2 i0 (.int .i64 0) 8 Try.underlying50 hi hz0 hz1 hz2 rfl _ 0 [] ho a0 n cap _ H0 (fun i _ => rfl) (by unfold maxLen; omega) (by omega) (by simp)
  have hb1 : Below w.heap.size w W1 := hb0.grown g1 (by simp) (fun i hi => (ho.lt i hi).1)
  obtain ⟨v2, W2, r2, o2, g2, _⟩ := run_append_row (P := Try.prog) W1 w.heap.size 50 50 2 i0 (.int .i64 0) 8 Try.underlying50 hi hz0 hz1 hz2 rfl v1 _ _ o1 a1 m cap1 _ (H1 W1 hb1) (fun i _ => rfl) (by unfold maxLen; omega) (by omega) hb1.size
  have hb2 : Below w.heap.size w W2 := hb1.grown g2 hb1.size (fun i hi => (o1.lt i hi).1)
  rw [Nat.zero_add, List.nil_append, rowV_app] at o2
  obtain ⟨a', c', rfl, hr, _⟩ := own_reads' o2
  exact ⟨v1, W1, a', c', W2, r1, r2, hr, hb2⟩
set_option maxRecDepth 100000 in
set_option maxHeartbeats 4000000 in
theorem main (a a2 : Option Addr) (n cap m cap2 : Nat) (x y : Nat → Int) (hn : n ≤ 300) (hm : m ≤ 300) (hcap : n ≤ cap) (hcm : cap ≤ maxLen) (hcap2 : m ≤ cap2) (hcm2 : cap2 ≤ maxLen) (hx : ∀ i, i < n → -9223372036854775808 ≤ x i ∧ x i ≤ 9223372036854775807) (hy : ∀ i, i < m → -9223372036854775808 ≤ y i ∧ y i ≤ 9223372036854775807)
    (W : World) (h : RowOf W a n (fun i => .int .i64 (x i))) (hr2 : RowOf W a2 m (fun i => .int .i64 (y i))) :
    Calls Try.prog 14 #[.slice a n cap, .slice a2 m cap2] W fun e w' => e = .returned (.bool true) ∧ Below W.heap.size W w' := by
  have hn300 : ¬ (300 : Int) < n := by omega
  have hm300 : ¬ (300 : Int) < m := by omega
  obtain ⟨c1, l1, h1, s1, e1⟩ := zAny_form x n
  obtain ⟨c2, l2, h2, s2, e2⟩ := zAny_form y m
  have ZO1 := zof_any a n cap x (by omega) hcap hcm hx W h
  have ZO2 := fun W' (hb : Below W.heap.size W W') => zof_any a2 m cap2 y (by omega) hcap2 hcm2 hy W' (hr2.below hb)
  have RO1 := fun W' (hb : Below W.heap.size W W') => rof_any a n cap x (by omega) W' (h.below hb)
  rw [e1] at ZO1 RO1
  rw [e2] at ZO2
  obtain ⟨b1, hb1⟩ : ∃ b, decide (0 < n) = b := ⟨_, rfl⟩
  obtain ⟨b2, hb2⟩ : ∃ b, decide (0 < m) = b := ⟨_, rfl⟩
  rw [hb1] at ZO1
  rw [hb2] at ZO2
  have hd1 := hb1
  have hd2 := hb2
  have H := Lib.hid h
  have H2 := Lib.hid hr2
  have HB1 := Lib.hid hb1
  have HB2 := Lib.hid hb2
  have E1 := Lib.hid e1
  have E2 := Lib.hid e2
  have HN := Lib.hid (And.intro hn hm)
  have AW := Lib.hid awake25_any
  have ZO1 := Lib.hid ZO1
  have ZO2 := Lib.hid ZO2
  have RO1 := Lib.hid RO1
  obtain ⟨s0, hs0⟩ : ∃ s, W.heap.size = s := ⟨_, rfl⟩
  clear h hr2 hb1 hb2 e1 e2 hn hm hcap hcm hcap2 hcm2 hx hy
  go_enter Try.func14, Try.ntmps14
  go_wp2_with fail
  refine ZO1.out.mono ?_
  rintro e w1 ⟨rfl, hb1⟩
  have LA := Lib.hid (Lies.new w1 79 #[.int .i64 c1, .int .i64 l1, .int .i64 h1, .int .i64 s1])
  have BA := Lib.hid (hb1.alloc hb1.size (.cells #[.int .i64 c1, .int .i64 l1, .int .i64 h1, .int .i64 s1] 79))
  have GA := Lib.hid hb1.size
  go_wp2_with fail
  refine (ZO2.out _ BA.out).mono ?_
  rintro e w2 ⟨rfl, hb2⟩
  have LB := Lib.hid ((LA.out.below hb2 LA.out.lt).alloc (.cells #[.int .i64 c2, .int .i64 l2, .int .i64 h2, .int .i64 s2] 79))
  have LC := Lib.hid (Lies.new w2 79 #[.int .i64 c2, .int .i64 l2, .int .i64 h2, .int .i64 s2])
  have BC := Lib.hid ((BA.out.trans (hb2.mono BA.out.size)).alloc (BA.out.trans (hb2.mono BA.out.size)).size (.cells #[.int .i64 c2, .int .i64 l2, .int .i64 h2, .int .i64 s2] 79))
  clear LA BA hb1 hb2 GA ZO1 ZO2 hs0
  go_wp2_with fail
  generalize w2.alloc (.cells #[.int .i64 c2, .int .i64 l2, .int .i64 h2, .int .i64 s2] 79) = wc at *
  generalize w1.heap.size = g1 at *
  generalize w2.heap.size = g2 at *
  have HALL := Lib.hid (fun W' (hb : Below wc.heap.size wc W') => lies_zone (LB.out.below hb LB.out.lt) Try.underlying79 rfl zone_info)
  have hbb1 : (b1 == b1) = true := by simp
  have hbb2 : (b2 == b2) = true := by simp
  have P0 := Lib.hid (show Below wc.heap.size wc wc.drew from (Below.refl _ _).drew)
  refine wp_region_held_drew (S := (fun W' => (Instr.loadAt 79 (.pointer (some ⟨g1, 0, none⟩))).run Try.prog W' = .ok (.agg #[.int .i64 c1, .int .i64 l1, .int .i64 h1, .int .i64 s1]) W')) (by kernel_rfl) (HALL.out _ P0.out) (fun hHeld => ?_)
  refine wpAnyH_take (i := 0) (oi := ?oix1) (v := (.agg #[.int .i64 c1, .int .i64 l1, .int .i64 h1, .int .i64 s1])) ?hix1 ?hsx1 ?hfx1 ?hrx1 ?hQx1 ?hyx1 ?hSx1 ?hx1
  case hix1 =>
    simp only [List.getElem?_toArray, List.getElem?_cons_zero]
    rfl
  case hsx1 => kernel_rfl
  case hfx1 => kernel_rfl
  case hrx1 => kernel_rfl
  case hyx1 =>
    refine Or.inl ⟨by rfl, ?_⟩
    intro w hSw
    (try dsimp only at hSw)
    exact exec_load (ptr := .pointer (some ⟨g1, 0, none⟩)) 79 (.tmp 5) rfl (by rfl) hSw
  case hQx1 => exact fun _ _ _ h => h
  case hSx1 => assumption
  try simp only [Act.put, List.setIfInBounds_toArray, List.set_cons_zero, List.set_cons_succ]
  refine wpAnyH_take (i := 1) (oi := ?oix2) (v := ?vx2) ?hix2 ?hsx2 ?hfx2 ?hrx2 ?hQx2 ?hyx2 ?hSx2 ?hx2
  case hix2 =>
    simp only [List.getElem?_toArray, List.getElem?_cons_succ, List.getElem?_cons_zero]
    rfl
  case hsx2 => kernel_rfl
  case hfx2 => kernel_rfl
  case hrx2 => kernel_rfl
  case hyx2 =>
    refine Or.inl ⟨by rfl, ?_⟩
    intro w hSw
    (try dsimp only at hSw)
    go_simp
    try with_reducible rfl
  case hQx2 => exact fun _ _ _ h => h
  case hSx2 => assumption
  try simp only [Act.put, List.setIfInBounds_toArray, List.set_cons_zero, List.set_cons_succ]
  refine wpAnyH_ready (rs := [2]) (by kernel_rfl) (by simp) ?_
  refine AllReadyH.cons (o := ?ox3) ?ix3 ?kx3 AllReadyH.nil
  case ix3 =>
    simp only [List.getElem?_toArray, List.getElem?_cons_succ, List.getElem?_cons_zero]
    rfl
  intro K hK
  go_simp
  go_at_call 53
  refine (RO1.out _ (BC.out.trans (P0.out.mono BC.out.size))).mono ?_
  rintro e w3 ⟨rfl, hb⟩
  have P1 := Lib.hid (P0.out.trans (hb.mono P0.out.size))
  clear hb
  refine hK.out _ _ (HALL.out _ P1.out) (fun hHeld => ?_)
  clear hK K
  try simp only [Act.put, List.setIfInBounds_toArray, List.set_cons_zero, List.set_cons_succ]
  refine wpAnyH_ready (rs := [3]) (by kernel_rfl) (by simp) ?_
  refine AllReadyH.cons (o := ?ox4) ?ix4 ?kx4 AllReadyH.nil
  case ix4 =>
    simp only [List.getElem?_toArray, List.getElem?_cons_succ, List.getElem?_cons_zero]
    rfl
  intro K hK
  go_simp
  refine hK.out _ _ (HALL.out _ (P1.out.alloc P1.out.size (.cells #[.int .i64 c1, .int .i64 l1, .int .i64 h1, .int .i64 s1] 84))) (fun hHeld => ?_)
  clear hK K
  try simp only [Act.put, List.setIfInBounds_toArray, List.set_cons_zero, List.set_cons_succ]
  refine wpAnyH_ready (rs := [4]) (by kernel_rfl) (by simp) ?_
  refine AllReadyH.cons (o := ?ox5) ?ix5 ?kx5 AllReadyH.nil
  case ix5 =>
    simp only [List.getElem?_toArray, List.getElem?_cons_succ, List.getElem?_cons_zero]
    rfl
  intro K hK
  go_simp
  go_at_call 52
  refine (own_one w3.heap.size c1 l1 h1 s1 _ (Lies.new w3 84 #[.int .i64 c1, .int .i64 l1, .int .i64 h1, .int .i64 s1])).mono ?_
  rintro e w4 ⟨g4, k4, rfl, hg4, hz4, hb⟩
  have P2 := Lib.hid ((P1.out.alloc P1.out.size (.cells #[.int .i64 c1, .int .i64 l1, .int .i64 h1, .int .i64 s1] 84)).trans (hb.mono (by have := P1.out.size; simp; omega)))
  have q0 : w4.cell? ⟨g4, 0, none⟩ = some (.int .i64 c1) := hz4 0 _ rfl
  have q1 : w4.cell? ⟨g4, 1, none⟩ = some (.int .i64 l1) := hz4 1 _ rfl
  have q2 : w4.cell? ⟨g4, 2, none⟩ = some (.int .i64 h1) := hz4 2 _ rfl
  have q3 : w4.cell? ⟨g4, 3, none⟩ = some (.int .i64 s1) := hz4 3 _ rfl
  clear hb hz4
  refine hK.out _ _ (HALL.out _ P2.out) (fun hHeld => ?_)
  clear hK K
  try simp only [Act.put, List.setIfInBounds_toArray, List.set_cons_zero, List.set_cons_succ]
  refine wpAnyH_take (i := 5) (oi := ?oix6) (v := ?vx6) ?hix6 ?hsx6 ?hfx6 ?hrx6 ?hQx6 ?hyx6 ?hSx6 ?hx6
  case hix6 =>
    simp only [List.getElem?_toArray, List.getElem?_cons_succ, List.getElem?_cons_zero]
    rfl
  case hsx6 => kernel_rfl
  case hfx6 => kernel_rfl
  case hrx6 => kernel_rfl
  case hyx6 =>
    refine Or.inl ⟨by rfl, ?_⟩
    intro w hSw
    (try dsimp only at hSw)
    go_simp
    try with_reducible rfl
  case hQx6 => exact fun _ _ _ h => h
  case hSx6 => assumption
  try simp only [Act.put, List.setIfInBounds_toArray, List.set_cons_zero, List.set_cons_succ]
  refine wpAnyH_ready (rs := [6]) (by kernel_rfl) (by simp) ?_
  refine AllReadyH.cons (o := ?ox7) ?ix7 ?kx7 AllReadyH.nil
  case ix7 =>
    simp only [List.getElem?_toArray, List.getElem?_cons_succ, List.getElem?_cons_zero]
    rfl
  intro K hK
  go_simp
  refine hK.out _ _ (HALL.out _ P2.out) (fun hHeld => ?_)
  clear hK K
  try simp only [Act.put, List.setIfInBounds_toArray, List.set_cons_zero, List.set_cons_succ]
  refine wpAnyH_take (i := 7) (oi := ?oix8) (v := ?vx8) ?hix8 ?hsx8 ?hfx8 ?hrx8 ?hQx8 ?hyx8 ?hSx8 ?hx8
  case hix8 =>
    simp only [List.getElem?_toArray, List.getElem?_cons_succ, List.getElem?_cons_zero]
    rfl
  case hsx8 => kernel_rfl
  case hfx8 => kernel_rfl
  case hrx8 => kernel_rfl
  case hyx8 =>
    refine Or.inl ⟨by rfl, ?_⟩
    intro w hSw
    (try dsimp only at hSw)
    go_simp
    try with_reducible rfl
  case hQx8 => exact fun _ _ _ h => h
  case hSx8 => assumption
  try simp only [Act.put, List.setIfInBounds_toArray, List.set_cons_zero, List.set_cons_succ]
  refine wpAnyH_take (i := 8) (oi := ?oix9) (v := ?vx9) ?hix9 ?hsx9 ?hfx9 ?hrx9 ?hQx9 ?hyx9 ?hSx9 ?hx9
  case hix9 =>
    simp only [List.getElem?_toArray, List.getElem?_cons_succ, List.getElem?_cons_zero]
    rfl
  case hsx9 => kernel_rfl
  case hfx9 => kernel_rfl
  case hrx9 => kernel_rfl
  case hyx9 =>
    refine Or.inl ⟨by rfl, ?_⟩
    intro w hSw
    (try dsimp only at hSw)
    go_simp
    try with_reducible rfl
  case hQx9 => exact fun _ _ _ h => h
  case hSx9 => assumption
  try simp only [Act.put, List.setIfInBounds_toArray, List.set_cons_zero, List.set_cons_succ]
  refine wpAnyH_take (i := 9) (oi := ?oix10) (v := ?vx10) ?hix10 ?hsx10 ?hfx10 ?hrx10 ?hQx10 ?hyx10 ?hSx10 ?hx10
  case hix10 =>
    simp only [List.getElem?_toArray, List.getElem?_cons_succ, List.getElem?_cons_zero]
    rfl
  case hsx10 => kernel_rfl
  case hfx10 => kernel_rfl
  case hrx10 => kernel_rfl
  case hyx10 =>
    refine Or.inl ⟨by rfl, ?_⟩
    intro w hSw
    (try dsimp only at hSw)
    go_simp
    try with_reducible rfl
  case hQx10 => exact fun _ _ _ h => h
  case hSx10 => assumption
  try simp only [Act.put, List.setIfInBounds_toArray, List.set_cons_zero, List.set_cons_succ]
  refine wpAnyH_take (i := 10) (oi := ?oix11) (v := ?vx11) ?hix11 ?hsx11 ?hfx11 ?hrx11 ?hQx11 ?hyx11 ?hSx11 ?hx11
  case hix11 =>
    simp only [List.getElem?_toArray, List.getElem?_cons_succ, List.getElem?_cons_zero]
    rfl
  case hsx11 => kernel_rfl
  case hfx11 => kernel_rfl
  case hrx11 => kernel_rfl
  case hyx11 =>
    refine Or.inl ⟨by rfl, ?_⟩
    intro w hSw
    (try dsimp only at hSw)
    go_simp
    try with_reducible rfl
  case hQx11 => exact fun _ _ _ h => h
  case hSx11 => assumption
  try simp only [Act.put, List.setIfInBounds_toArray, List.set_cons_zero, List.set_cons_succ]
  refine wpAnyH_take (i := 11) (oi := ?oix12) (v := ?vx12) ?hix12 ?hsx12 ?hfx12 ?hrx12 ?hQx12 ?hyx12 ?hSx12 ?hx12
  case hix12 =>
    simp only [List.getElem?_toArray, List.getElem?_cons_succ, List.getElem?_cons_zero]
    rfl
  case hsx12 => kernel_rfl
  case hfx12 => kernel_rfl
  case hrx12 => kernel_rfl
  case hyx12 =>
    refine Or.inl ⟨by rfl, ?_⟩
    intro w hSw
    (try dsimp only at hSw)
    go_simp
    try with_reducible rfl
  case hQx12 => exact fun _ _ _ h => h
  case hSx12 => assumption
  try simp only [Act.put, List.setIfInBounds_toArray, List.set_cons_zero, List.set_cons_succ]
  refine wpAnyH_take (i := 12) (oi := ?oix13) (v := ?vx13) ?hix13 ?hsx13 ?hfx13 ?hrx13 ?hQx13 ?hyx13 ?hSx13 ?hx13
  case hix13 =>
    simp only [List.getElem?_toArray, List.getElem?_cons_succ, List.getElem?_cons_zero]
    rfl
  case hsx13 => kernel_rfl
  case hfx13 => kernel_rfl
  case hrx13 => kernel_rfl
  case hyx13 =>
    refine Or.inl ⟨by rfl, ?_⟩
    intro w hSw
    (try dsimp only at hSw)
    go_simp
    try with_reducible rfl
  case hQx13 => exact fun _ _ _ h => h
  case hSx13 => assumption
  try simp only [Act.put, List.setIfInBounds_toArray, List.set_cons_zero, List.set_cons_succ]
  refine wpAnyH_take (i := 13) (oi := ?oix14) (v := ?vx14) ?hix14 ?hsx14 ?hfx14 ?hrx14 ?hQx14 ?hyx14 ?hSx14 ?hx14
  case hix14 =>
    simp only [List.getElem?_toArray, List.getElem?_cons_succ, List.getElem?_cons_zero]
    rfl
  case hsx14 => kernel_rfl
  case hfx14 => kernel_rfl
  case hrx14 => kernel_rfl
  case hyx14 =>
    refine Or.inl ⟨by rfl, ?_⟩
    intro w hSw
    (try dsimp only at hSw)
    go_simp
    try with_reducible rfl
  case hQx14 => exact fun _ _ _ h => h
  case hSx14 => assumption
  try simp only [Act.put, List.setIfInBounds_toArray, List.set_cons_zero, List.set_cons_succ]
  refine wpAnyH_take (i := 14) (oi := ?oix15) (v := ?vx15) ?hix15 ?hsx15 ?hfx15 ?hrx15 ?hQx15 ?hyx15 ?hSx15 ?hx15
  case hix15 =>
    simp only [List.getElem?_toArray, List.getElem?_cons_succ, List.getElem?_cons_zero]
    rfl
  case hsx15 => kernel_rfl
  case hfx15 => kernel_rfl
  case hrx15 => kernel_rfl
  case hyx15 =>
    refine Or.inl ⟨by rfl, ?_⟩
    intro w hSw
    (try dsimp only at hSw)
    go_simp
    try with_reducible rfl
  case hQx15 => exact fun _ _ _ h => h
  case hSx15 => assumption
  try simp only [Act.put, List.setIfInBounds_toArray, List.set_cons_zero, List.set_cons_succ]
  refine wpAnyH_take (i := 15) (oi := ?oix16) (v := ?vx16) ?hix16 ?hsx16 ?hfx16 ?hrx16 ?hQx16 ?hyx16 ?hSx16 ?hx16
  case hix16 =>
    simp only [List.getElem?_toArray, List.getElem?_cons_succ, List.getElem?_cons_zero]
    rfl
  case hsx16 => kernel_rfl
  case hfx16 => kernel_rfl
  case hrx16 => kernel_rfl
  case hyx16 =>
    refine Or.inl ⟨by rfl, ?_⟩
    intro w hSw
    (try dsimp only at hSw)
    go_simp
    try with_reducible rfl
  case hQx16 => exact fun _ _ _ h => h
  case hSx16 => assumption
  try simp only [Act.put, List.setIfInBounds_toArray, List.set_cons_zero, List.set_cons_succ]
  refine wpAnyH_take (i := 16) (oi := ?oix17) (v := ?vx17) ?hix17 ?hsx17 ?hfx17 ?hrx17 ?hQx17 ?hyx17 ?hSx17 ?hx17
  case hix17 =>
    simp only [List.getElem?_toArray, List.getElem?_cons_succ, List.getElem?_cons_zero]
    rfl
  case hsx17 => kernel_rfl
  case hfx17 => kernel_rfl
  case hrx17 => kernel_rfl
  case hyx17 =>
    refine Or.inl ⟨by rfl, ?_⟩
    intro w hSw
    (try dsimp only at hSw)
    go_simp
    try with_reducible rfl
  case hQx17 => exact fun _ _ _ h => h
  case hSx17 => assumption
  try simp only [Act.put, List.setIfInBounds_toArray, List.set_cons_zero, List.set_cons_succ]
  refine wpAnyH_take (i := 17) (oi := ?oix18) (v := ?vx18) ?hix18 ?hsx18 ?hfx18 ?hrx18 ?hQx18 ?hyx18 ?hSx18 ?hx18
  case hix18 =>
    simp only [List.getElem?_toArray, List.getElem?_cons_succ, List.getElem?_cons_zero]
    rfl
  case hsx18 => kernel_rfl
  case hfx18 => kernel_rfl
  case hrx18 => kernel_rfl
  case hyx18 =>
    refine Or.inl ⟨by rfl, ?_⟩
    intro w hSw
    (try dsimp only at hSw)
    go_simp
    try with_reducible rfl
  case hQx18 => exact fun _ _ _ h => h
  case hSx18 => assumption
  try simp only [Act.put, List.setIfInBounds_toArray, List.set_cons_zero, List.set_cons_succ]
  refine wpAnyH_take (i := 18) (oi := ?oix19) (v := ?vx19) ?hix19 ?hsx19 ?hfx19 ?hrx19 ?hQx19 ?hyx19 ?hSx19 ?hx19
  case hix19 =>
    simp only [List.getElem?_toArray, List.getElem?_cons_succ, List.getElem?_cons_zero]
    rfl
  case hsx19 => kernel_rfl
  case hfx19 => kernel_rfl
  case hrx19 => kernel_rfl
  case hyx19 =>
    refine Or.inl ⟨by rfl, ?_⟩
    intro w hSw
    (try dsimp only at hSw)
    go_simp
    try with_reducible rfl
  case hQx19 => exact fun _ _ _ h => h
  case hSx19 => assumption
  try simp only [Act.put, List.setIfInBounds_toArray, List.set_cons_zero, List.set_cons_succ]
  refine wpAnyH_take (i := 19) (oi := ?oix20) (v := ?vx20) ?hix20 ?hsx20 ?hfx20 ?hrx20 ?hQx20 ?hyx20 ?hSx20 ?hx20
  case hix20 =>
    simp only [List.getElem?_toArray, List.getElem?_cons_succ, List.getElem?_cons_zero]
    rfl
  case hsx20 => kernel_rfl
  case hfx20 => kernel_rfl
  case hrx20 => kernel_rfl
  case hyx20 =>
    refine Or.inl ⟨by rfl, ?_⟩
    intro w hSw
    (try dsimp only at hSw)
    go_simp
    try with_reducible rfl
  case hQx20 => exact fun _ _ _ h => h
  case hSx20 => assumption
  try simp only [Act.put, List.setIfInBounds_toArray, List.set_cons_zero, List.set_cons_succ]
  refine wpAnyH_take (i := 20) (oi := ?oix21) (v := ?vx21) ?hix21 ?hsx21 ?hfx21 ?hrx21 ?hQx21 ?hyx21 ?hSx21 ?hx21
  case hix21 =>
    simp only [List.getElem?_toArray, List.getElem?_cons_succ, List.getElem?_cons_zero]
    rfl
  case hsx21 => kernel_rfl
  case hfx21 => kernel_rfl
  case hrx21 => kernel_rfl
  case hyx21 =>
    refine Or.inl ⟨by rfl, ?_⟩
    intro w hSw
    (try dsimp only at hSw)
    go_simp
    try with_reducible rfl
  case hQx21 => exact fun _ _ _ h => h
  case hSx21 => assumption
  try simp only [Act.put, List.setIfInBounds_toArray, List.set_cons_zero, List.set_cons_succ]
  refine wpAnyH_take (i := 21) (oi := ?oix22) (v := ?vx22) ?hix22 ?hsx22 ?hfx22 ?hrx22 ?hQx22 ?hyx22 ?hSx22 ?hx22
  case hix22 =>
    simp only [List.getElem?_toArray, List.getElem?_cons_succ, List.getElem?_cons_zero]
    rfl
  case hsx22 => kernel_rfl
  case hfx22 => kernel_rfl
  case hrx22 => kernel_rfl
  case hyx22 =>
    refine Or.inl ⟨by rfl, ?_⟩
    intro w hSw
    (try dsimp only at hSw)
    go_simp
    try with_reducible rfl
  case hQx22 => exact fun _ _ _ h => h
  case hSx22 => assumption
  try simp only [Act.put, List.setIfInBounds_toArray, List.set_cons_zero, List.set_cons_succ]
  refine wpAnyH_done (by kernel_rfl) ?_ _
  have B4 := Lib.hid (BC.out.trans (P2.out.mono BC.out.size))
  have L1 := Lib.hid (LB.out.below P2.out LB.out.lt)
  have L2 := Lib.hid (LC.out.below P2.out LC.out.lt)
  clear hd1 hd2 hbb1 hbb2 hHeld q0 q1 q2 q3
  cases b1
  case false =>
    go_wp2_with (go_at_call 54; refine (AW.out _).mono ?_; rintro e w5 ⟨rfl, hb5⟩; have B5 := Lib.hid (B4.out.trans (hb5.mono B4.out.size)); clear hb5)
    go_ret
    exact ⟨rfl, B5.out⟩
  case true =>
  cases b2
  case false =>
    go_wp2_with (go_at_call 54; refine (AW.out _).mono ?_; rintro e w5 ⟨rfl, hb5⟩; have B5 := Lib.hid (B4.out.trans (hb5.mono B4.out.size)); clear hb5)
    go_ret
    exact ⟨rfl, B5.out⟩
  case true =>
  have hn0 : 0 < n := of_decide_eq_true HB1.out
  have hm0 : 0 < m := of_decide_eq_true HB2.out
  have HEQ : zAny (zapp n x y) (n + m) = zV (wrap64 (c1 + c2)) (if l2 < l1 then l2 else l1) (if h1 < h2 then h2 else h1) (wrap64 (s1 + s2)) := by
    have a1 := E1.out
    have a2 := E2.out
    unfold zAny at a1 a2 ⊢
    rw [if_neg (by omega)] at a1 a2 ⊢
    rw [← zOf_app n m x y hn0 hm0 HN.out.1 HN.out.2]
    simp only [zOf, zV, Array.mk.injEq, List.cons.injEq, Value.int.injEq, true_and, and_true] at a1 a2
    obtain ⟨rfl, rfl, rfl, rfl⟩ := a1
    obtain ⟨rfl, rfl, rfl, rfl⟩ := a2
    rfl
  have JN := zone_join c1 l1 h1 s1 c2 l2 h2 s2
  have RB := fun a' c' W' => rof_any a' (n + m) c' (zapp n x y) (by have := HN.out; omega) W'
  rw [HEQ] at RB
  generalize wrap64 (c1 + c2) = c3 at JN RB
  generalize (if l2 < l1 then l2 else l1) = l3 at JN RB
  generalize (if h1 < h2 then h2 else h1) = h3 at JN RB
  generalize wrap64 (s1 + s2) = s3 at JN RB
  unfold zV at JN RB
  have JN := Lib.hid JN
  have RB := Lib.hid RB
  obtain ⟨v1, W1, a', c', W2, r1, r2, hr3, hb3⟩ := append_two a a2 n cap m cap2 x y (by have := HN.out; omega) (by have := HN.out; omega) w4 (H.out.below (B4.out.alloc B4.out.size _)) (fun W' hb => H2.out.below (B4.out.trans (hb.mono B4.out.size)))
  have HRUN1 := Lib.hid r1
  have HRUN2 := Lib.hid r2
  have HR3 := Lib.hid hr3
  have B5 := Lib.hid (B4.out.trans (hb3.mono B4.out.size))
  have M1 := Lib.hid (L1.out.below hb3 L1.out.lt)
  have M2 := Lib.hid (L2.out.below hb3 L2.out.lt)
  clear r1 r2 hr3 hb3 HEQ hn0 hm0
  go_wp2_with (first
    | (at_builtin; go_must (first | (refine wpList_append_ran _ _ rfl _ _ 50 rfl _ _ _ rfl rfl HRUN1.out ?_) | (refine wpList_append_ran _ _ rfl _ _ 50 rfl _ _ _ rfl rfl HRUN2.out ?_)))
    | (refine wpList_load_row rfl 79 (.tmp 5) rfl g1 rfl 79 #[.int .i64 c1, .int .i64 l1, .int .i64 h1, .int .i64 s1] (0, 0) _ M1.out Try.underlying79 rfl zone_info ?_)
    | (refine wpList_load_row rfl 79 (.tmp 7) rfl g2 rfl 79 #[.int .i64 c2, .int .i64 l2, .int .i64 h2, .int .i64 s2] (0, 0) _ M2.out Try.underlying79 rfl zone_info ?_)
    | (go_at_call 55; refine (JN.out _).mono ?_; rintro e w6 ⟨rfl, hb6⟩; have B6 := Lib.hid hb6; clear hb6)
    | (go_at_call 53; refine (RB.out _ _ _ (HR3.out.below B6.out)).mono ?_; rintro e w7 ⟨rfl, hb7⟩; have B7 := Lib.hid (B6.out.trans (hb7.mono B6.out.size)); clear hb7)
    | (go_at_call 52; refine (own_one w7.heap.size c3 l3 h3 s3 _ (Lies.new w7 84 #[.int .i64 c3, .int .i64 l3, .int .i64 h3, .int .i64 s3])).mono ?_; rintro e w8 ⟨g8, k8, rfl, hg8, hz8, hb8⟩; have B8 := Lib.hid (B5.out.trans (((B7.out.alloc B7.out.size (.cells #[.int .i64 c3, .int .i64 l3, .int .i64 h3, .int .i64 s3] 84)).trans (hb8.mono (by have := B7.out.size; simp; omega))).mono B5.out.size)); have q0 : w8.cell? ⟨g8, 0, none⟩ = some (.int .i64 c3) := hz8 0 _ rfl; have q1 : w8.cell? ⟨g8, 1, none⟩ = some (.int .i64 l3) := hz8 1 _ rfl; have q2 : w8.cell? ⟨g8, 2, none⟩ = some (.int .i64 h3) := hz8 2 _ rfl; have q3 : w8.cell? ⟨g8, 3, none⟩ = some (.int .i64 s3) := hz8 3 _ rfl; clear hb8 hz8)
    | (go_at_call 54; refine (AW.out _).mono ?_; rintro e w9 ⟨rfl, hb9⟩; have B9 := Lib.hid (B8.out.trans (hb9.mono B8.out.size)); clear hb9))
  go_ret
  exact ⟨rfl, B9.out⟩
theorem walk (a : Option Addr) (n cap : Nat) (xs : List Int) (a2 : Option Addr) (m cap2 : Nat) (ys : List Int) (W : World) (b : IsRow .i64 W a n cap xs) (d : IsRow .i64 W a2 m cap2 ys) :
    Calls Try.prog 14 #[.slice a n cap, .slice a2 m cap2] W fun e w' => e = .returned (.bool true) ∧ Below W.heap.size W w' := by
  obtain ⟨b1, b2, b3, b4, b5⟩ := b
  obtain ⟨d1, d2, d3, d4, d5⟩ := d
  by_cases hl : 300 < n ∨ 300 < m
  · exact long a a2 n cap m cap2 W hl
  have hr1 : RowOf W a n (fun i => .int .i64 (xs.getD i 0)) := by
    rcases b5 with b5 | ⟨b, off, rfl, hb, hc⟩
    · exact .inl (by omega)
    · exact .inr ⟨b, off, rfl, fun i hi => hc i (by omega)⟩
  have hr2 : RowOf W a2 m (fun i => .int .i64 (ys.getD i 0)) := by
    rcases d5 with d5 | ⟨b, off, rfl, hb, hc⟩
    · exact .inl (by omega)
    · exact .inr ⟨b, off, rfl, fun i hi => hc i (by omega)⟩
  exact main a a2 n cap m cap2 _ _ (by omega) (by omega) b1 b2 d1 d2 (fun i hi => bounds_i64 (b4 (xs.getD i 0) (by rw [List.getD_eq_getElem?_getD, List.getElem?_eq_getElem (by omega)]; simp)))
    (fun i hi => bounds_i64 (d4 (ys.getD i 0) (by rw [List.getD_eq_getElem?_getD, List.getElem?_eq_getElem (by omega)]; simp))) W hr1 hr2
theorem own : ownKnob Try.prog.godebug = none := by kernel_rfl
set_option maxRecDepth 100000 in
theorem contract (H : Type) (enc : TypeId × Value → H) (W : World) (base : Nat) (args : Array Value) (ds gs : List (DataW H)) (before : List MemPlace)
    (hval : ∀ (j : Nat) t v, Try.f14.params[j]? = some t → args[j]? = some v → Value.okWide Try.prog W .any base t v)
    (hW : DataW.Whole enc Try.prog Try.f14.params.toList Rows.zoneTellsSpec.vars false W args.toList ds gs before) :
    Calls Try.prog 14 args W fun e W' => ∃ v, e = .returned v ∧ Rows.zoneTellsSpec.post enc Try.prog Try.f14 false true false false W args v W' := by
  have hW' := hW
  obtain ⟨p, q, hA0, hV, rfl, hfz, hnd⟩ := hW
  have hA : DataW.TrodAll enc Try.prog W 0 (fun _ => true) true Try.f14.params.toList args.toList ds p := hA0
  rw [Try.params14] at hA hval
  obtain ⟨v0, vs0, d0, ds0, p0, q0, hargs, rfl, rfl, h0, r0⟩ := trodAll_cons hA
  obtain ⟨v1, vs1, d1, ds1, p1, q1, rfl, rfl, rfl, h1, r1⟩ := trodAll_cons r0
  obtain ⟨rfl, rfl, rfl⟩ := trodAll_nil r1
  obtain rfl : args = #[v0, v1] := by cases args; simp_all
  obtain ⟨rfl, rfl⟩ := trodVars_none hV
  have hWhole := hW'
  obtain ⟨a0, len0, cap0, rfl⟩ := okWide_slice Try.underlying50 (hval 0 50 v0 rfl rfl)
  have k0 := h0
  have lt0 : ∀ x ∈ p0, x.block < W.heap.size := by obtain ⟨m, hm⟩ := k0; exact DataW.trod_lt m _ _ _ hm
  obtain ⟨z0, b0⟩ : ∃ zs, IsRow .i64 W a0 len0 cap0 zs := by
    obtain ⟨fuel, hf⟩ := h0
    rcases open_ints Try.underlying50 Try.underlying2 (by kernel_rfl) hf with ⟨hcs, _⟩ | ⟨x, l, c, zs, hcs, _, hl, hm, hz, _, hcell, hwz⟩
    · simp [Value.cells] at hcs
      obtain ⟨rfl, rfl, rfl⟩ := hcs
      exact ⟨[], isRow_nil _ _⟩
    · simp [Value.cells] at hcs
      obtain ⟨rfl, rfl, rfl⟩ := hcs
      exact ⟨zs, isRow_of hl hm (by simpa using hz) hcell hwz⟩
  obtain ⟨a1, len1, cap1, rfl⟩ := okWide_slice Try.underlying50 (hval 1 50 v1 rfl rfl)
  have k1 := h1
  have lt1 : ∀ x ∈ p1, x.block < W.heap.size := by obtain ⟨m, hm⟩ := k1; exact DataW.trod_lt m _ _ _ hm
  obtain ⟨z1, b1⟩ : ∃ zs, IsRow .i64 W a1 len1 cap1 zs := by
    obtain ⟨fuel, hf⟩ := h1
    rcases open_ints Try.underlying50 Try.underlying2 (by kernel_rfl) hf with ⟨hcs, _⟩ | ⟨x, l, c, zs, hcs, _, hl, hm, hz, _, hcell, hwz⟩
    · simp [Value.cells] at hcs
      obtain ⟨rfl, rfl, rfl⟩ := hcs
      exact ⟨[], isRow_nil _ _⟩
    · simp [Value.cells] at hcs
      obtain ⟨rfl, rfl, rfl⟩ := hcs
      exact ⟨zs, isRow_of hl hm (by simpa using hz) hcell hwz⟩
  clear hA0
  refine (walk a0 len0 cap0 z0 a1 len1 cap1 z1 W b0 b1).mono fun e W' ⟨he, hg⟩ => ?_
  subst he
  exact ⟨_, rfl, _, _, _, [], _, [], hW', trodAll_mk1 (shut_bool Try.underlying4 _), (trodAll_cons_mk (Below.trod laidOut (by kernel_rfl) (of_decide_eq_true (by kernel_rfl)) k0 hg lt0) (trodAll_cons_mk (Below.trod laidOut (by kernel_rfl) (of_decide_eq_true (by kernel_rfl)) k1 hg lt1) trodAll_mk0)), rfl, hg.frame _, fun h => by cases h⟩

set_option maxRecDepth 100000 in
theorem lifted (os : Os) (started : os.Started) (H : Type) (enc : TypeId × Value → H) :
    ReturnsInHanded {} Try.checked os 14 .any (Rows.zoneTellsSpec.pre6 enc Try.prog Try.f14 Rows.zoneTellsRow.domain false) (Rows.zoneTellsSpec.post enc Try.prog Try.f14 false true false false) := by
  refine returnsInHanded_of_change (C := Try.checked) own started (by kernel_rfl) Try.func14
    (ChangeSpec.witness6 (enc := enc) (C := Try.checked) false ⟨#[], #[.slice none 0 0, .slice none 0 0], []⟩ 8 (by kernel_rfl) (by kernel_rfl) (by kernel_rfl) (by kernel_rfl)) ?_
  intro W base args ds gs before hval hW _ _
  exact contract H enc W base args ds gs before hval hW

/-- ████ THE STATEMENT ████ -/
theorem proved : Rows.ZoneTellsSaid :=
  OpenClaim.holds_of_wide 14 Try.f14 rfl rfl rfl rfl rfl rfl rfl ⟨rfl, rfl, rfl, rfl, rfl⟩ rfl rfl rfl rfl rfl (by kernel_rfl) Try.func14 (by kernel_rfl)
    (of_decide_eq_true (by kernel_rfl)) (by unfold Func.isWrapper; first | (rw [if_pos (by decide +kernel)]; kernel_rfl) | (rw [if_neg (by decide +kernel)]; exact ⟨rfl, rfl⟩))
    (fun os started H enc _ => lifted os started H enc)
end Go.Proofs.Ytknpekpigiclkaa.zoneTells
