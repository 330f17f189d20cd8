/-
  THE STATEMENT corduroylaw21.StatParts: for any three rows of bits the call returns true and leaves its arguments as they were. No condition.
-/
import Derived.Test.YtjdcafeljdnfeaaStatE
import Derived.Test.YtjdcafeljdnfeaaStatF
namespace Go.Proofs.Ytjdcafeljdnfeaa.statParts
open Go.ChangeShapes Go.WideShapes Go.ChangeAt Go.RowKit
set_option linter.unusedVariables false
theorem long (a0 a1 a2 : Option Addr) (n cap m cap1 o cap2 : Nat) (w : World) (h : 100 < n ∨ 100 < m ∨ 100 < o) :
    Calls Try.prog 11 #[.slice a0 n cap, .slice a1 m cap1, .slice a2 o cap2] w fun e w' => e = .returned (.bool true) ∧ Below w.heap.size w w' := by
  by_cases h1 : 100 < n
  · have h' : (100 : Int) < n := by omega
    go_enter Try.func11, Try.ntmps11
    go_wp2
    go_ret
    exact ⟨rfl, Below.refl _ _⟩
  · have h' : ¬ (100 : Int) < n := by omega
    by_cases h2 : 100 < m
    · have h'' : (100 : Int) < m := by omega
      go_enter Try.func11, Try.ntmps11
      go_wp2
      go_ret
      exact ⟨rfl, Below.refl _ _⟩
    · have h'' : ¬ (100 : Int) < m := by omega
      have h3 : (100 : Int) < o := by omega
      go_enter Try.func11, Try.ntmps11
      go_wp2
      go_ret
      exact ⟨rfl, Below.refl _ _⟩
theorem rowV_app (n m : Nat) (l r : Nat → Nat) : rowV (fun i => Value.int .u64 (l i : Nat)) n ++ rowV (fun i => Value.int .u64 (r i : Nat)) m = rowV (fun i => .int .u64 (app n l r i : Nat)) (n + m) := by
  apply List.ext_getElem?
  intro i
  by_cases h1 : i < n
  · rw [List.getElem?_append_left (by rw [rowV_length]; exact h1), rowV_get _ h1, rowV_get _ (by omega)]
    unfold app; rw [if_pos h1]
  · rw [List.getElem?_append_right (by rw [rowV_length]; omega), rowV_length]
    by_cases h2 : i < n + m
    · rw [rowV_get _ (by omega), rowV_get _ h2]
      unfold app; rw [if_neg h1]
    · rw [rowV_ge _ (by omega), rowV_ge _ (by omega)]
/-- Three rows appended to an empty one of one's own. -/
theorem append_three (a0 a1 a2 : Option Addr) (n cap m cap1 o cap2 : Nat) (l r c : Nat → Nat) (hn : n ≤ 500) (hm : m ≤ 500) (ho' : o ≤ 500) (w : World) (H0 : ∀ W, Below w.heap.size w W → RowOf W a0 n (fun i => .int .u64 (l i : Nat))) (H1 : ∀ W, Below w.heap.size w W → RowOf W a1 m (fun i => .int .u64 (r i : Nat))) (H2 : ∀ W, Below w.heap.size w W → RowOf W a2 o (fun i => .int .u64 (c i : Nat))) :
    ∃ v1 W1 v2 W2 a' c' W3, (Builtin.append_ #[61, 61] 61 #[.slice (some ⟨w.heap.size, 0, none⟩) 0 0, .slice a0 n cap]).run Try.prog (w.alloc (.cells #[] 50)) = .ok v1 W1 ∧
      (Builtin.append_ #[61, 61] 61 #[v1, .slice a1 m cap1]).run Try.prog W1 = .ok v2 W2 ∧
      (Builtin.append_ #[61, 61] 61 #[v2, .slice a2 o cap2]).run Try.prog W2 = .ok (.slice a' (n + m + o) c') W3 ∧ RowOf W3 a' (n + m + o) (fun i => .int .u64 (app (n + m) (app n l r) c i : Nat)) ∧ Below w.heap.size w W3 := by
  obtain ⟨i0, hi, hz0, hz1, hz2⟩ := info_parts u64Info
  have ho : (w.alloc (.cells #[] 50)).ownsRow w.heap.size 50 1 (.slice (some ⟨w.heap.size, 0, none⟩) 0 0) 0 [] := World.ownsRow_lit w #[] 0 (Nat.le_refl _) (by decide) rfl
  have hb0 : Below w.heap.size w (w.alloc (.cells #[] 50)) := (Below.refl _ _).alloc (Nat.le_refl _) _
  obtain ⟨v1, W1, r1, o1, g1, _⟩ := run_append_row (P := Try.prog) (w.alloc (.cells #[] 50)) w.heap.size 61 61 50 i0 (.int .u64 0) 8 Try.underlying61 hi hz0 hz1 hz2 rfl _ 0 [] ho a0 n cap _ (H0 _ hb0) (fun i _ => rfl) (by unfold maxLen; omega) (by omega) (by simp)
  have hb1 : Below w.heap.size w W1 := hb0.grown g1 (by simp) (fun i hi => (ho.lt i hi).1)
  obtain ⟨v2, W2, r2, o2, g2, _⟩ := run_append_row (P := Try.prog) W1 w.heap.size 61 61 50 i0 (.int .u64 0) 8 Try.underlying61 hi hz0 hz1 hz2 rfl v1 _ _ o1 a1 m cap1 _ (H1 W1 hb1) (fun i _ => rfl) (by unfold maxLen; omega) (by omega) hb1.size
  have hb2 : Below w.heap.size w W2 := hb1.grown g2 hb1.size (fun i hi => (o1.lt i hi).1)
  rw [Nat.zero_add, List.nil_append, rowV_app] at o2
  obtain ⟨v3, W3, r3, o3, g3, _⟩ := run_append_row (P := Try.prog) W2 w.heap.size 61 61 50 i0 (.int .u64 0) 8 Try.underlying61 hi hz0 hz1 hz2 rfl v2 _ _ o2 a2 o cap2 _ (H2 W2 hb2) (fun i _ => rfl) (by unfold maxLen; omega) (by omega) hb2.size
  have hb3 : Below w.heap.size w W3 := hb2.grown g3 hb2.size (fun i hi => (o2.lt i hi).1)
  rw [rowV_app] at o3
  obtain ⟨a', c', rfl, hr, _⟩ := own_reads' o3
  exact ⟨v1, W1, v2, W2, a', c', W3, r1, r2, r3, hr, hb3⟩
theorem three_new (w W0 : World) (t1 : TypeId) (z1 : Array Value) (h : ((w.alloc (.cells z1 t1)).alloc (.cells z1 t1)).alloc (.cells z1 t1) = W0) : Lies W0 w.heap.size t1 z1 ∧ Lies W0 (w.heap.size + 1) t1 z1 ∧ Lies W0 (w.heap.size + 2) t1 z1 ∧ Below w.heap.size w W0 := by
  obtain ⟨a1, a2, a3⟩ := two_new w _ t1 t1 z1 z1 rfl
  subst h
  refine ⟨a1.alloc _, a2.alloc _, ?_, a3.alloc a3.size _⟩
  have := Lies.new ((w.alloc (.cells z1 t1)).alloc (.cells z1 t1)) t1 z1
  simpa using this
theorem small_up (l : Nat → Nat) (n : Nat) (hn : n ≤ 1000) (hl : ∀ i, i < n → l i < 18446744073709551616) : Small 1000 (fold l n) := by
  obtain ⟨⟨p1, p2⟩, p3, ⟨p4, p5⟩, p6, p7⟩ := small_fold l n hl
  exact ⟨⟨p1, by omega⟩, fun i => ⟨(p3 i).1, by have := (p3 i).2; omega⟩, ⟨p4, by omega⟩, p6, p7⟩
theorem app_lt (n m : Nat) (l r : Nat → Nat) (hl : ∀ i, i < n → l i < 18446744073709551616) (hr : ∀ i, i < m → r i < 18446744073709551616) : ∀ i, i < n + m → app n l r i < 18446744073709551616 := fun i hi => by
  unfold app
  split
  · exact hl i (by assumption)
  · exact hr _ (by omega)
set_option maxRecDepth 100000 in
set_option maxHeartbeats 4000000 in
theorem main (a0 a1 a2 : Option Addr) (n cap m cap1 o cap2 : Nat) (l r c : Nat → Nat) (hn : n ≤ 100) (hm : m ≤ 100) (ho : o ≤ 100) (hl : ∀ i, i < n → l i < 18446744073709551616) (hr : ∀ i, i < m → r i < 18446744073709551616) (hc : ∀ i, i < o → c i < 18446744073709551616) (w : World) (H0 : RowOf w a0 n (fun i => .int .u64 (l i : Nat))) (H1 : RowOf w a1 m (fun i => .int .u64 (r i : Nat))) (H2 : RowOf w a2 o (fun i => .int .u64 (c i : Nat))) :
    Calls Try.prog 11 #[.slice a0 n cap, .slice a1 m cap1, .slice a2 o cap2] w fun e w' => e = .returned (.bool true) ∧ Below w.heap.size w w' := by
  have h' : ¬ (100 : Int) < n := by omega
  have h'' : ¬ (100 : Int) < m := by omega
  have h3' : ¬ (100 : Int) < o := by omega
  obtain ⟨i0, hi, hz0, hz1, hz2⟩ := info_parts u64Info
  have hal := app_lt (n + m) o (app n l r) c (app_lt n m l r hl hr) hc
  have hrev : ∀ i, i < n + m + o → rev (app (n + m) (app n l r) c) (n + m + o) i < 18446744073709551616 := fun i hi => by unfold rev; exact hal _ (by omega)
  have hx := small_up l n (by omega) hl
  have hy := small_up r m (by omega) hr
  have hz := small_up c o (by omega) hc
  have vx := valid_fold l n hl
  have vy := valid_fold r m hr
  have vz := valid_fold c o hc
  have exy : fold (app n l r) (n + m) = joi (fold l n) (fold r m) := fold_app n m l r
  have ezx : fold (app o c l) (o + n) = joi (fold c o) (fold l n) := fold_app o n c l
  have hxy := small_up (app n l r) (n + m) (by omega) (app_lt n m l r hl hr)
  have hzx := small_up (app o c l) (o + n) (by omega) (app_lt o n c l hc hl)
  have vxy := valid_fold (app n l r) (n + m) (app_lt n m l r hl hr)
  have vzx := valid_fold (app o c l) (o + n) (app_lt o n c l hc hl)
  rw [exy] at hxy vxy
  rw [ezx] at hzx vzx
  have eF : fold (app (n + m) (app n l r) c) (n + m + o) = joi (joi (fold l n) (fold r m)) (fold c o) := by rw [fold_app, exy]
  have eR : fold (rev (app (n + m) (app n l r) c) (n + m + o)) (n + m + o) = fold (app (n + m) (app n l r) c) (n + m + o) := fold_rev _ _ hal
  have J3 : joi (fold c o) (joi (fold l n) (fold r m)) = fold (app (n + m) (app n l r) c) (n + m + o) := by rw [eF, joi_comm _ _ vz vxy]
  have J5 : joi (fold r m) (joi (fold c o) (fold l n)) = fold (app (n + m) (app n l r) c) (n + m + o) := by
    rw [joi_comm _ _ vy vzx, ← ezx, ← fold_app, ← J3, ← exy, ← fold_app]
    have e : o + n + m = o + (n + m) := by omega
    rw [e]
    refine fold_congr _ (fun i hi => ?_)
    unfold app
    by_cases q1 : i < o
    · rw [if_pos (by omega), if_pos q1, if_pos q1]
    · rw [if_neg q1, if_neg q1]
      by_cases q2 : i < o + n
      · rw [if_pos q2, if_pos (by omega)]
      · rw [if_neg q2, if_neg (by omega)]; congr 1; omega
  have RE := Lib.hid (told_reals a0 n cap l (by omega) w H0)
  have RE2 := Lib.hid (fun W h => told_reals a1 m cap1 r (by omega) W h)
  have RE3 := Lib.hid (fun W h => told_reals a2 o cap2 c (by omega) W h)
  have OF := Lib.hid (fun a q W => of_any a n q l hl (by omega) W)
  have OF2 := Lib.hid (fun a q W => of_any a m q r hr (by omega) W)
  have OF3 := Lib.hid (fun a q W => of_any a o q c hc (by omega) W)
  have JO1 := fun W => join_any (fold l n) (fold r m) hx hy W
  have JO2 := fun W => join_any (joi (fold l n) (fold r m)) (fold c o) hxy hz W
  have JO3 := fun W => join_any (fold c o) (joi (fold l n) (fold r m)) hz hxy W
  have JO4 := fun W => join_any (fold c o) (fold l n) hz hx W
  have JO5 := fun W => join_any (fold r m) (joi (fold c o) (fold l n)) hy hzx W
  rw [← eF] at JO2
  rw [J3] at JO3
  rw [J5] at JO5
  have RO := Lib.hid (fun a q W h => rof_any a (n + m + o) q (app (n + m) (app n l r) c) hal (by omega) W h)
  have RE4 := Lib.hid (fun a q W h => told_reals a (n + m + o) q (rev (app (n + m) (app n l r) c) (n + m + o)) (by omega) W h)
  have OF4 := fun a q W h => of_any a (n + m + o) q (rev (app (n + m) (app n l r) c) (n + m + o)) hrev (by omega) W h
  rw [eR] at OF4
  have LI := fun W => like_same (fold (app (n + m) (app n l r) c) (n + m + o)) W
  have A3 := Lib.hid (fun W h0 h1 h2 => append_three a0 a1 a2 n cap m cap1 o cap2 l r c (by omega) (by omega) (by omega) W h0 h1 h2)
  have H0 := Lib.hid H0
  have H1 := Lib.hid H1
  have H2 := Lib.hid H2
  have N1 := Lib.hid (stV_one (fold l n))
  have N2 := Lib.hid (stV_one (fold r m))
  have N3 := Lib.hid (stV_one (fold c o))
  have NF := Lib.hid (stR_one (fold (app (n + m) (app n l r) c) (n + m + o)))
  clear hx hy hz vx vy vz exy ezx hxy hzx vxy vzx eF eR J3 J5 hal hrev
  have hN : n + m + o ≤ 300 := by omega
  generalize fold (app (n + m) (app n l r) c) (n + m + o) = f at *
  generalize app (n + m) (app n l r) c = al at *
  generalize stV (joi (fold l n) (fold r m)) = cxy at *
  generalize stV (joi (fold c o) (fold l n)) = czx at *
  generalize fold l n = x at *
  generalize fold r m = y at *
  generalize fold c o = z at *
  have VF := Lib.hid (show stV f = #[.int .i64 f.cnt, .int .i64 (f.k 0), .int .i64 (f.k 1), .int .i64 (f.k 2), .int .i64 (f.k 3), .int .i64 (f.k 4), .int .i64 (f.k 5), .int .i64 (f.k 6), .int .i64 (f.k 7), .int .i64 (f.k 8), .int .i64 f.whole, .bool f.any, .float .f64 f.mn, .float .f64 f.mx] from rfl)
  generalize hvf : stV f = vf at *
  dsimp only [stV] at JO1 JO2 JO3 JO4 JO5
  dsimp only [stR] at LI
  have HVF := Lib.hid hvf
  clear hvf
  have JO1 := Lib.hid JO1
  have JO2 := Lib.hid JO2
  have JO3 := Lib.hid JO3
  have JO4 := Lib.hid JO4
  have JO5 := Lib.hid JO5
  have LI := Lib.hid LI
  have OF4 := Lib.hid OF4
  go_enter Try.func11, Try.ntmps11
  go_wp2_with fail
  refine RE.out.mono ?_
  rintro e w1 ⟨x1, c1, rfl, r1, hb1⟩
  have OF := Lib.hid (OF.out x1 c1 w1 r1)
  have B1 := Lib.hid hb1
  clear r1 hb1
  go_wp2_with fail
  refine OF.out.mono ?_
  rintro e w2 ⟨rfl, hb2⟩
  have B2 := Lib.hid (B1.out.trans (hb2.mono B1.out.size))
  have RE2 := Lib.hid (RE2.out w2 (H1.out.below B2.out))
  clear hb2
  go_wp2_with fail
  refine RE2.out.mono ?_
  rintro e w3 ⟨x3, c3, rfl, r3, hb3⟩
  have B3 := Lib.hid (B2.out.trans (hb3.mono B2.out.size))
  have OF2 := Lib.hid (OF2.out x3 c3 w3 r3)
  clear r3 hb3
  go_wp2_with fail
  refine OF2.out.mono ?_
  rintro e w4 ⟨rfl, hb4⟩
  have B4 := Lib.hid (B3.out.trans (hb4.mono B3.out.size))
  have RE3 := Lib.hid (RE3.out w4 (H2.out.below B4.out))
  clear hb4
  go_wp2_with fail
  refine RE3.out.mono ?_
  rintro e w5 ⟨x5, c5, rfl, r5, hb5⟩
  have B5 := Lib.hid (B4.out.trans (hb5.mono B4.out.size))
  have OF3 := Lib.hid (OF3.out x5 c5 w5 r5)
  clear r5 hb5
  go_wp2_with fail
  refine OF3.out.mono ?_
  rintro e w6 ⟨rfl, hb6⟩
  have B6 := Lib.hid (B5.out.trans (hb6.mono B5.out.size))
  clear hb6
  obtain ⟨W0, hW0⟩ : ∃ W0, ((w6.alloc (.cells #[.int .i64 0, .int .i64 0, .int .i64 0, .int .i64 0, .int .i64 0, .int .i64 0, .int .i64 0, .int .i64 0, .int .i64 0, .int .i64 0, .int .i64 0, .bool false, .float .f64 0, .float .f64 0] 81)).alloc (.cells #[.int .i64 0, .int .i64 0, .int .i64 0, .int .i64 0, .int .i64 0, .int .i64 0, .int .i64 0, .int .i64 0, .int .i64 0, .int .i64 0, .int .i64 0, .bool false, .float .f64 0, .float .f64 0] 81)).alloc (.cells #[.int .i64 0, .int .i64 0, .int .i64 0, .int .i64 0, .int .i64 0, .int .i64 0, .int .i64 0, .int .i64 0, .int .i64 0, .int .i64 0, .int .i64 0, .bool false, .float .f64 0, .float .f64 0] 81) = W0 := ⟨_, rfl⟩
  obtain ⟨l1, l2, l3, l4⟩ := three_new _ _ _ _ hW0
  obtain ⟨W1, hW1⟩ : ∃ W1, W0.setRow w6.heap.size (stV x) = W1 := ⟨_, rfl⟩
  have m1 := lies_row l1 hW1
  have m2 := lies_rowFar l2 (by omega) hW1
  have m3 := lies_rowFar l3 (by omega) hW1
  have m4 := below_row l4 (Nat.le_refl _) hW1
  obtain ⟨W2, hW2⟩ : ∃ W2, W1.setRow (w6.heap.size + 1) (stV y) = W2 := ⟨_, rfl⟩
  have n1 := lies_rowFar m1 (by omega) hW2
  have n2 := lies_row m2 hW2
  have n3 := lies_rowFar m3 (by omega) hW2
  have n4 := below_row m4 (by omega) hW2
  obtain ⟨W3, hW3⟩ : ∃ W3, W2.setRow (w6.heap.size + 2) (stV z) = W3 := ⟨_, rfl⟩
  have L1 := Lib.hid l1
  have M2 := Lib.hid m2
  have N3' := Lib.hid n3
  have o1 := lies_rowFar n1 (by omega) hW3
  have o2 := lies_rowFar n2 (by omega) hW3
  have o3 := lies_row n3 hW3
  have B7 := Lib.hid (B6.out.trans ((below_row n4 (by omega) hW3).mono B6.out.size))
  obtain ⟨v1, X1, v2, X2, a9, c9, X3, r1, r2, r3, R9, b9⟩ := A3.out W3 (fun W hW => (H0.out.below B7.out).below hW) (fun W hW => (H1.out.below B7.out).below hW) (fun W hW => (H2.out.below B7.out).below hW)
  have P7 := Lib.hid (o1.below b9 o1.lt)
  have P8 := Lib.hid (o2.below b9 o2.lt)
  have P9 := Lib.hid (o3.below b9 o3.lt)
  have B8 := Lib.hid (B7.out.trans (b9.mono B7.out.size))
  have R9 := Lib.hid R9
  clear l1 l2 l3 l4 m1 m2 m3 m4 n1 n2 n3 n4 o1 o2 o3 b9
  go_wp2_with (first | (refine wpList_store_row rfl 81 (.tmp 7) (.tmp 29) rfl w6.heap.size (stV x) rfl rfl 81 _ L1.out stat_info rfl N1.out ?_; rw [hW1]) | (refine wpList_store_row rfl 81 (.tmp 8) (.tmp 32) rfl (w6.heap.size + 1) (stV y) rfl rfl 81 _ M2.out stat_info rfl N2.out ?_; rw [hW2]) | (refine wpList_store_row rfl 81 (.tmp 9) (.tmp 35) rfl (w6.heap.size + 2) (stV z) rfl rfl 81 _ N3'.out stat_info rfl N3.out ?_; rw [hW3]) | (refine wpList_append_ran _ _ rfl (.tmp 36) (.tmp 37) 61 rfl _ _ _ rfl rfl r1 ?_) | (refine wpList_append_ran _ _ rfl (.tmp 38) (.tmp 39) 61 rfl _ _ _ rfl rfl r2 ?_) | (refine wpList_append_ran _ _ rfl (.tmp 40) (.tmp 41) 61 rfl _ _ _ rfl rfl r3 ?_))
  clear r1 r2 r3
  generalize hK : n + m + o = K at *
  have HK := Lib.hid hK
  clear hK
  go_loopw [11, 12] (fun v i wr => ∃ d : Nat, d ≤ K ∧ i = .int .i64 ((d : Int) - 1) ∧ wr.ownsRow X3.heap.size 50 1 v (K - d) (rowV (fun i => .int .u64 (rev al K i : Nat)) (K - d)) ∧ Below X3.heap.size X3 wr) (fun _ i _ => ((intOf i) + 1).toNat)
  case atStart => exact ⟨K, Nat.le_refl _, congrArg (Value.int .i64) (by have := HK.out; omega), by rw [Nat.sub_self]; exact World.ownsRow_nil _ _ _ _, Below.refl _ _⟩
  case round =>
    obtain ⟨d, hd, rfl, ho, hb⟩ := hrel
    have hsz := hb.size
    by_cases hd0 : 0 < d
    · obtain ⟨j, rfl⟩ : ∃ j, d = j + 1 := ⟨d - 1, by omega⟩
      rw [show (((j + 1 : Nat) : Int) - 1) = (j : Int) from by omega]
      have j0 : (0 : Int) ≤ j := by omega
      have j1 : (j : Int) < K := by omega
      obtain ⟨b, off, rfl, hblt, hcc⟩ := (R9.out.below hb).at_ (i := j) (by omega)
      have c0 := hcc j (by omega)
      have ek : K - j = (K - (j + 1)) + 1 := by omega
      have RS := Lib.hid (rowV_succ (fun i => Value.int .u64 (rev al K i : Nat)) (K - (j + 1)))
      have er : rev al K (K - (j + 1)) = al j := by unfold rev; congr 1; omega
      rw [er] at RS
      have HOW := Lib.hid ho
      have HBW := Lib.hid hb
      have EK := Lib.hid ek
      have hkd : K - (j + 1) ≤ 300 := by omega
      clear ho hb hcc er ek
      generalize al j = yy at *
      go_wp2_with (first | (at_builtin; go_must (refine wpList_append_own_at _ rfl _ _ 61 rfl X3.heap.size 50 i0 (.int .u64 0) 1 8 Try.underlying61 hi hz0 hz1 hz2 rfl (by decide) _ _ _ rfl (HOW.out.alloc _) ⟨wr.heap.size, 0, none⟩ 1 1 [.int .u64 (yy : Nat)] rfl rfl (cell_one_new _ _ _) (by simp [Value.oneCell']) (by unfold maxLen; omega) (by omega) (by simp; omega) ?_); intro v5 w9 hown2 hgrow2 _ _; have HO2 := Lib.hid hown2; have HG2 := Lib.hid hgrow2; clear hown2 hgrow2))
      go_roundw
      case rel => exact ⟨j, by omega, rfl, by rw [EK.out, RS.out]; exact HO2.out, (HBW.out.alloc hsz _).grown HG2.out (by simp; omega) (fun j hj => (HOW.out.lt j hj).1)⟩
      case measure => simp [intOf] <;> omega
    · obtain rfl : d = 0 := by omega
      rw [Nat.sub_zero] at ho
      obtain ⟨a10, c10, rfl, R10, _⟩ := own_reads' ho
      have B9 := Lib.hid (B8.out.trans (hb.mono B8.out.size))
      have RO := Lib.hid (RO.out a9 c9 wr (R9.out.below hb))
      have P7 := Lib.hid (P7.out.below hb P7.out.lt)
      have P8 := Lib.hid (P8.out.below hb P8.out.lt)
      have P9 := Lib.hid (P9.out.below hb P9.out.lt)
      have R10 := Lib.hid R10
      clear ho hb
      go_wp2_with fail
      refine RO.out.mono ?_
      rintro e X4 ⟨rfl, hb4⟩
      have B10 := Lib.hid (B9.out.trans (hb4.mono B9.out.size))
      have P7 := Lib.hid (P7.out.below hb4 P7.out.lt)
      have P8 := Lib.hid (P8.out.below hb4 P8.out.lt)
      have P9 := Lib.hid (P9.out.below hb4 P9.out.lt)
      have R10 := Lib.hid (R10.out.below hb4)
      clear hb4
      obtain ⟨Y0, hY0⟩ : ∃ Y0, X4.alloc (.cells #[.int .i64 0, .int .i64 0, .int .i64 0, .int .i64 0, .int .i64 0, .int .i64 0, .int .i64 0, .int .i64 0, .int .i64 0, .int .i64 0, .int .i64 0, .bool false, .int .u64 0, .int .u64 0] 86) = Y0 := ⟨_, rfl⟩
      have l1 := Lies.new X4 86 #[.int .i64 0, .int .i64 0, .int .i64 0, .int .i64 0, .int .i64 0, .int .i64 0, .int .i64 0, .int .i64 0, .int .i64 0, .int .i64 0, .int .i64 0, .bool false, .int .u64 0, .int .u64 0]
      rw [hY0] at l1
      have l3 : Below X4.heap.size X4 Y0 := by rw [← hY0]; exact (Below.refl _ _).alloc (Nat.le_refl _) _
      obtain ⟨Y1, hY1⟩ : ∃ Y1, Y0.setRow X4.heap.size (stR f) = Y1 := ⟨_, rfl⟩
      have LR := Lib.hid l1
      have PR := Lib.hid (lies_row l1 hY1)
      have hb5 := below_row l3 (Nat.le_refl _) hY1
      have B11 := Lib.hid (B10.out.trans (hb5.mono B10.out.size))
      have P7 := Lib.hid (P7.out.below hb5 P7.out.lt)
      have P8 := Lib.hid (P8.out.below hb5 P8.out.lt)
      have P9 := Lib.hid (P9.out.below hb5 P9.out.lt)
      have R10 := Lib.hid (R10.out.below hb5)
      clear l1 l3 hb5
      go_wp2_with (first | (refine wpList_store_row rfl 86 (.tmp 13) (.tmp 58) rfl X4.heap.size (stR f) rfl rfl 86 _ LR.out stR_info rfl NF.out ?_; rw [hY1]))
      have D := Lib.hid ((Below.refl Y1.heap.size Y1).drew)
      have z7 := P7.out.lt
      have z8 := P8.out.lt
      have z9 := P9.out.lt
      have zr := PR.out.lt
      have q := (fun (W : World) (h1 : Lies W w6.heap.size 81 (stV x)) (h2 : Lies W (w6.heap.size + 1) 81 (stV y)) (h3 : Lies W (w6.heap.size + 2) 81 (stV z)) (h4 : Lies W X4.heap.size 86 (stR f)) => (show (W.cell? ⟨w6.heap.size, 0, none⟩ = some (.int .i64 x.cnt) ∧ W.cell? ⟨w6.heap.size, 1, none⟩ = some (.int .i64 (x.k 0)) ∧ W.cell? ⟨w6.heap.size, 2, none⟩ = some (.int .i64 (x.k 1)) ∧ W.cell? ⟨w6.heap.size, 3, none⟩ = some (.int .i64 (x.k 2)) ∧ W.cell? ⟨w6.heap.size, 4, none⟩ = some (.int .i64 (x.k 3)) ∧ W.cell? ⟨w6.heap.size, 5, none⟩ = some (.int .i64 (x.k 4)) ∧ W.cell? ⟨w6.heap.size, 6, none⟩ = some (.int .i64 (x.k 5)) ∧ W.cell? ⟨w6.heap.size, 7, none⟩ = some (.int .i64 (x.k 6)) ∧ W.cell? ⟨w6.heap.size, 8, none⟩ = some (.int .i64 (x.k 7)) ∧ W.cell? ⟨w6.heap.size, 9, none⟩ = some (.int .i64 (x.k 8)) ∧ W.cell? ⟨w6.heap.size, 10, none⟩ = some (.int .i64 x.whole) ∧ W.cell? ⟨w6.heap.size, 11, none⟩ = some (.bool x.any) ∧ W.cell? ⟨w6.heap.size, 12, none⟩ = some (.float .f64 x.mn) ∧ W.cell? ⟨w6.heap.size, 13, none⟩ = some (.float .f64 x.mx)) ∧ (W.cell? ⟨w6.heap.size + 1, 0, none⟩ = some (.int .i64 y.cnt) ∧ W.cell? ⟨w6.heap.size + 1, 1, none⟩ = some (.int .i64 (y.k 0)) ∧ W.cell? ⟨w6.heap.size + 1, 2, none⟩ = some (.int .i64 (y.k 1)) ∧ W.cell? ⟨w6.heap.size + 1, 3, none⟩ = some (.int .i64 (y.k 2)) ∧ W.cell? ⟨w6.heap.size + 1, 4, none⟩ = some (.int .i64 (y.k 3)) ∧ W.cell? ⟨w6.heap.size + 1, 5, none⟩ = some (.int .i64 (y.k 4)) ∧ W.cell? ⟨w6.heap.size + 1, 6, none⟩ = some (.int .i64 (y.k 5)) ∧ W.cell? ⟨w6.heap.size + 1, 7, none⟩ = some (.int .i64 (y.k 6)) ∧ W.cell? ⟨w6.heap.size + 1, 8, none⟩ = some (.int .i64 (y.k 7)) ∧ W.cell? ⟨w6.heap.size + 1, 9, none⟩ = some (.int .i64 (y.k 8)) ∧ W.cell? ⟨w6.heap.size + 1, 10, none⟩ = some (.int .i64 y.whole) ∧ W.cell? ⟨w6.heap.size + 1, 11, none⟩ = some (.bool y.any) ∧ W.cell? ⟨w6.heap.size + 1, 12, none⟩ = some (.float .f64 y.mn) ∧ W.cell? ⟨w6.heap.size + 1, 13, none⟩ = some (.float .f64 y.mx)) ∧ (W.cell? ⟨w6.heap.size + 2, 0, none⟩ = some (.int .i64 z.cnt) ∧ W.cell? ⟨w6.heap.size + 2, 1, none⟩ = some (.int .i64 (z.k 0)) ∧ W.cell? ⟨w6.heap.size + 2, 2, none⟩ = some (.int .i64 (z.k 1)) ∧ W.cell? ⟨w6.heap.size + 2, 3, none⟩ = some (.int .i64 (z.k 2)) ∧ W.cell? ⟨w6.heap.size + 2, 4, none⟩ = some (.int .i64 (z.k 3)) ∧ W.cell? ⟨w6.heap.size + 2, 5, none⟩ = some (.int .i64 (z.k 4)) ∧ W.cell? ⟨w6.heap.size + 2, 6, none⟩ = some (.int .i64 (z.k 5)) ∧ W.cell? ⟨w6.heap.size + 2, 7, none⟩ = some (.int .i64 (z.k 6)) ∧ W.cell? ⟨w6.heap.size + 2, 8, none⟩ = some (.int .i64 (z.k 7)) ∧ W.cell? ⟨w6.heap.size + 2, 9, none⟩ = some (.int .i64 (z.k 8)) ∧ W.cell? ⟨w6.heap.size + 2, 10, none⟩ = some (.int .i64 z.whole) ∧ W.cell? ⟨w6.heap.size + 2, 11, none⟩ = some (.bool z.any) ∧ W.cell? ⟨w6.heap.size + 2, 12, none⟩ = some (.float .f64 z.mn) ∧ W.cell? ⟨w6.heap.size + 2, 13, none⟩ = some (.float .f64 z.mx)) ∧ (W.cell? ⟨X4.heap.size, 0, none⟩ = some (.int .i64 f.cnt) ∧ W.cell? ⟨X4.heap.size, 1, none⟩ = some (.int .i64 (f.k 0)) ∧ W.cell? ⟨X4.heap.size, 2, none⟩ = some (.int .i64 (f.k 1)) ∧ W.cell? ⟨X4.heap.size, 3, none⟩ = some (.int .i64 (f.k 2)) ∧ W.cell? ⟨X4.heap.size, 4, none⟩ = some (.int .i64 (f.k 3)) ∧ W.cell? ⟨X4.heap.size, 5, none⟩ = some (.int .i64 (f.k 4)) ∧ W.cell? ⟨X4.heap.size, 6, none⟩ = some (.int .i64 (f.k 5)) ∧ W.cell? ⟨X4.heap.size, 7, none⟩ = some (.int .i64 (f.k 6)) ∧ W.cell? ⟨X4.heap.size, 8, none⟩ = some (.int .i64 (f.k 7)) ∧ W.cell? ⟨X4.heap.size, 9, none⟩ = some (.int .i64 (f.k 8)) ∧ W.cell? ⟨X4.heap.size, 10, none⟩ = some (.int .i64 f.whole) ∧ W.cell? ⟨X4.heap.size, 11, none⟩ = some (.bool f.any) ∧ W.cell? ⟨X4.heap.size, 12, none⟩ = some (.int .u64 (f.mn : Nat)) ∧ W.cell? ⟨X4.heap.size, 13, none⟩ = some (.int .u64 (f.mx : Nat))) from ⟨⟨h1.cell 0, h1.cell 1, h1.cell 2, h1.cell 3, h1.cell 4, h1.cell 5, h1.cell 6, h1.cell 7, h1.cell 8, h1.cell 9, h1.cell 10, h1.cell 11, h1.cell 12, h1.cell 13⟩, ⟨h2.cell 0, h2.cell 1, h2.cell 2, h2.cell 3, h2.cell 4, h2.cell 5, h2.cell 6, h2.cell 7, h2.cell 8, h2.cell 9, h2.cell 10, h2.cell 11, h2.cell 12, h2.cell 13⟩, ⟨h3.cell 0, h3.cell 1, h3.cell 2, h3.cell 3, h3.cell 4, h3.cell 5, h3.cell 6, h3.cell 7, h3.cell 8, h3.cell 9, h3.cell 10, h3.cell 11, h3.cell 12, h3.cell 13⟩, ⟨h4.cell 0, h4.cell 1, h4.cell 2, h4.cell 3, h4.cell 4, h4.cell 5, h4.cell 6, h4.cell 7, h4.cell 8, h4.cell 9, h4.cell 10, h4.cell 11, h4.cell 12, h4.cell 13⟩⟩))
      have Q := Lib.hid q
      clear q
      have q := Q.out _ P7.out.drew P8.out.drew P9.out.drew PR.out.drew
      have RE4 := Lib.hid (fun W h => RE4.out a10 c10 W (R10.out.below h))
      go_region_held3 (fun w' => (w'.cell? ⟨w6.heap.size, 0, none⟩ = some (.int .i64 x.cnt) ∧ w'.cell? ⟨w6.heap.size, 1, none⟩ = some (.int .i64 (x.k 0)) ∧ w'.cell? ⟨w6.heap.size, 2, none⟩ = some (.int .i64 (x.k 1)) ∧ w'.cell? ⟨w6.heap.size, 3, none⟩ = some (.int .i64 (x.k 2)) ∧ w'.cell? ⟨w6.heap.size, 4, none⟩ = some (.int .i64 (x.k 3)) ∧ w'.cell? ⟨w6.heap.size, 5, none⟩ = some (.int .i64 (x.k 4)) ∧ w'.cell? ⟨w6.heap.size, 6, none⟩ = some (.int .i64 (x.k 5)) ∧ w'.cell? ⟨w6.heap.size, 7, none⟩ = some (.int .i64 (x.k 6)) ∧ w'.cell? ⟨w6.heap.size, 8, none⟩ = some (.int .i64 (x.k 7)) ∧ w'.cell? ⟨w6.heap.size, 9, none⟩ = some (.int .i64 (x.k 8)) ∧ w'.cell? ⟨w6.heap.size, 10, none⟩ = some (.int .i64 x.whole) ∧ w'.cell? ⟨w6.heap.size, 11, none⟩ = some (.bool x.any) ∧ w'.cell? ⟨w6.heap.size, 12, none⟩ = some (.float .f64 x.mn) ∧ w'.cell? ⟨w6.heap.size, 13, none⟩ = some (.float .f64 x.mx)) ∧ (w'.cell? ⟨w6.heap.size + 1, 0, none⟩ = some (.int .i64 y.cnt) ∧ w'.cell? ⟨w6.heap.size + 1, 1, none⟩ = some (.int .i64 (y.k 0)) ∧ w'.cell? ⟨w6.heap.size + 1, 2, none⟩ = some (.int .i64 (y.k 1)) ∧ w'.cell? ⟨w6.heap.size + 1, 3, none⟩ = some (.int .i64 (y.k 2)) ∧ w'.cell? ⟨w6.heap.size + 1, 4, none⟩ = some (.int .i64 (y.k 3)) ∧ w'.cell? ⟨w6.heap.size + 1, 5, none⟩ = some (.int .i64 (y.k 4)) ∧ w'.cell? ⟨w6.heap.size + 1, 6, none⟩ = some (.int .i64 (y.k 5)) ∧ w'.cell? ⟨w6.heap.size + 1, 7, none⟩ = some (.int .i64 (y.k 6)) ∧ w'.cell? ⟨w6.heap.size + 1, 8, none⟩ = some (.int .i64 (y.k 7)) ∧ w'.cell? ⟨w6.heap.size + 1, 9, none⟩ = some (.int .i64 (y.k 8)) ∧ w'.cell? ⟨w6.heap.size + 1, 10, none⟩ = some (.int .i64 y.whole) ∧ w'.cell? ⟨w6.heap.size + 1, 11, none⟩ = some (.bool y.any) ∧ w'.cell? ⟨w6.heap.size + 1, 12, none⟩ = some (.float .f64 y.mn) ∧ w'.cell? ⟨w6.heap.size + 1, 13, none⟩ = some (.float .f64 y.mx)) ∧ (w'.cell? ⟨w6.heap.size + 2, 0, none⟩ = some (.int .i64 z.cnt) ∧ w'.cell? ⟨w6.heap.size + 2, 1, none⟩ = some (.int .i64 (z.k 0)) ∧ w'.cell? ⟨w6.heap.size + 2, 2, none⟩ = some (.int .i64 (z.k 1)) ∧ w'.cell? ⟨w6.heap.size + 2, 3, none⟩ = some (.int .i64 (z.k 2)) ∧ w'.cell? ⟨w6.heap.size + 2, 4, none⟩ = some (.int .i64 (z.k 3)) ∧ w'.cell? ⟨w6.heap.size + 2, 5, none⟩ = some (.int .i64 (z.k 4)) ∧ w'.cell? ⟨w6.heap.size + 2, 6, none⟩ = some (.int .i64 (z.k 5)) ∧ w'.cell? ⟨w6.heap.size + 2, 7, none⟩ = some (.int .i64 (z.k 6)) ∧ w'.cell? ⟨w6.heap.size + 2, 8, none⟩ = some (.int .i64 (z.k 7)) ∧ w'.cell? ⟨w6.heap.size + 2, 9, none⟩ = some (.int .i64 (z.k 8)) ∧ w'.cell? ⟨w6.heap.size + 2, 10, none⟩ = some (.int .i64 z.whole) ∧ w'.cell? ⟨w6.heap.size + 2, 11, none⟩ = some (.bool z.any) ∧ w'.cell? ⟨w6.heap.size + 2, 12, none⟩ = some (.float .f64 z.mn) ∧ w'.cell? ⟨w6.heap.size + 2, 13, none⟩ = some (.float .f64 z.mx)) ∧ (w'.cell? ⟨X4.heap.size, 0, none⟩ = some (.int .i64 f.cnt) ∧ w'.cell? ⟨X4.heap.size, 1, none⟩ = some (.int .i64 (f.k 0)) ∧ w'.cell? ⟨X4.heap.size, 2, none⟩ = some (.int .i64 (f.k 1)) ∧ w'.cell? ⟨X4.heap.size, 3, none⟩ = some (.int .i64 (f.k 2)) ∧ w'.cell? ⟨X4.heap.size, 4, none⟩ = some (.int .i64 (f.k 3)) ∧ w'.cell? ⟨X4.heap.size, 5, none⟩ = some (.int .i64 (f.k 4)) ∧ w'.cell? ⟨X4.heap.size, 6, none⟩ = some (.int .i64 (f.k 5)) ∧ w'.cell? ⟨X4.heap.size, 7, none⟩ = some (.int .i64 (f.k 6)) ∧ w'.cell? ⟨X4.heap.size, 8, none⟩ = some (.int .i64 (f.k 7)) ∧ w'.cell? ⟨X4.heap.size, 9, none⟩ = some (.int .i64 (f.k 8)) ∧ w'.cell? ⟨X4.heap.size, 10, none⟩ = some (.int .i64 f.whole) ∧ w'.cell? ⟨X4.heap.size, 11, none⟩ = some (.bool f.any) ∧ w'.cell? ⟨X4.heap.size, 12, none⟩ = some (.int .u64 (f.mn : Nat)) ∧ w'.cell? ⟨X4.heap.size, 13, none⟩ = some (.int .u64 (f.mx : Nat)))) (first | (exact q) | go_keep)
        (first
          | (go_at_call 54; ((with_reducible refine (JO1.out _).mono ?_); rintro e y1 ⟨rfl, hd⟩; have D := Lib.hid (D.out.trans (hd.mono D.out.size)); have q := Q.out _ (P7.out.below D.out z7) (P8.out.below D.out z8) (P9.out.below D.out z9) (PR.out.below D.out zr); clear hd))
          | (go_at_call 54; ((with_reducible refine (JO2.out _).mono ?_); rintro e y2 ⟨rfl, hd⟩; have D := Lib.hid (D.out.trans (hd.mono D.out.size)); have q := Q.out _ (P7.out.below D.out z7) (P8.out.below D.out z8) (P9.out.below D.out z9) (PR.out.below D.out zr); clear hd))
          | (go_at_call 54; ((with_reducible refine (JO3.out _).mono ?_); rintro e y3 ⟨rfl, hd⟩; have D := Lib.hid (D.out.trans (hd.mono D.out.size)); have q := Q.out _ (P7.out.below D.out z7) (P8.out.below D.out z8) (P9.out.below D.out z9) (PR.out.below D.out zr); clear hd))
          | (go_at_call 54; ((with_reducible refine (JO4.out _).mono ?_); rintro e y4 ⟨rfl, hd⟩; have D := Lib.hid (D.out.trans (hd.mono D.out.size)); have q := Q.out _ (P7.out.below D.out z7) (P8.out.below D.out z8) (P9.out.below D.out z9) (PR.out.below D.out zr); clear hd))
          | (go_at_call 54; ((with_reducible refine (JO5.out _).mono ?_); rintro e y5 ⟨rfl, hd⟩; have D := Lib.hid (D.out.trans (hd.mono D.out.size)); have q := Q.out _ (P7.out.below D.out z7) (P8.out.below D.out z8) (P9.out.below D.out z9) (PR.out.below D.out zr); clear hd))
          | (go_at_call 49; ((with_reducible refine (LI.out _).mono ?_); rintro e y6 ⟨rfl, hd⟩; have D := Lib.hid (D.out.trans (hd.mono D.out.size)); have q := Q.out _ (P7.out.below D.out z7) (P8.out.below D.out z8) (P9.out.below D.out z9) (PR.out.below D.out zr); clear hd))
          | (go_at_call 47; ((with_reducible refine (RE4.out _ D.out).mono ?_); rintro e y8 ⟨xx, cc, rfl, rr, hd⟩; have OF4 := Lib.hid (OF4.out xx cc y8 rr); have D := Lib.hid (D.out.trans (hd.mono D.out.size)); have q := Q.out _ (P7.out.below D.out z7) (P8.out.below D.out z8) (P9.out.below D.out z9) (PR.out.below D.out zr); clear hd rr))
          | (go_at_call 46; ((with_reducible refine (OF4.out).mono ?_); rintro e y9 ⟨rfl, hd⟩; have D := Lib.hid (D.out.trans (hd.mono D.out.size)); have q := Q.out _ (P7.out.below D.out z7) (P8.out.below D.out z8) (P9.out.below D.out z9) (PR.out.below D.out zr); clear hd))
          | (go_at_call 53; ((with_reducible refine (awake21_any _).mono ?_); rintro e y7 ⟨rfl, hd⟩; have D := Lib.hid (D.out.trans (hd.mono D.out.size)); have q := Q.out _ (P7.out.below D.out z7) (P8.out.below D.out z8) (P9.out.below D.out z9) (PR.out.below D.out zr); clear hd)))
      all_goals
        go_wp2
        go_ret
        exact ⟨rfl, B11.out.trans (D.out.mono B11.out.size)⟩
theorem walk (a0 : Option Addr) (len0 cap0 : Nat) (z0 : List Int) (a1 : Option Addr) (len1 cap1 : Nat) (z1 : List Int) (a2 : Option Addr) (len2 cap2 : Nat) (z2 : List Int) (w : World) (b0 : IsRow .u64 w a0 len0 cap0 z0) (b1 : IsRow .u64 w a1 len1 cap1 z1) (b2 : IsRow .u64 w a2 len2 cap2 z2) :
    Calls Try.prog 11 #[.slice a0 len0 cap0, .slice a1 len1 cap1, .slice a2 len2 cap2] w fun e w' => e = .returned (.bool true) ∧ Below w.heap.size w w' := by
  by_cases h : 100 < len0 ∨ 100 < len1 ∨ 100 < len2
  · exact long a0 a1 a2 len0 cap0 len1 cap1 len2 cap2 w h
  · exact main a0 a1 a2 len0 cap0 len1 cap1 len2 cap2 _ _ _ (by omega) (by omega) (by omega) (isrow_u64 b0).2 (isrow_u64 b1).2 (isrow_u64 b2).2 w (isrow_u64 b0).1 (isrow_u64 b1).1 (isrow_u64 b2).1
theorem own : ownKnob Try.prog.godebug = none := by kernel_rfl
set_option maxRecDepth 100000 in
theorem contract (H : Type) (enc : TypeId × Value → H) (W : World) (base : Nat) (args : Array Value) (ds gs : List (DataW H)) (before : List MemPlace)
    (hval : ∀ (j : Nat) t v, Try.f11.params[j]? = some t → args[j]? = some v → Value.okWide Try.prog W .any base t v)
    (hW : DataW.Whole enc Try.prog Try.f11.params.toList Rows.statPartsSpec.vars false W args.toList ds gs before) :
    Calls Try.prog 11 args W fun e W' => ∃ v, e = .returned v ∧ Rows.statPartsSpec.post enc Try.prog Try.f11 false true false false W args v W' := by
  have hW' := hW
  obtain ⟨p, q, hA0, hV, rfl, hfz, hnd⟩ := hW
  have hA : DataW.TrodAll enc Try.prog W 0 (fun _ => true) true Try.f11.params.toList args.toList ds p := hA0
  rw [Try.params11] at hA hval
  obtain ⟨v0, vs0, d0, ds0, p0, q0, hargs, rfl, rfl, h0, r0⟩ := trodAll_cons hA
  obtain ⟨v1, vs1, d1, ds1, p1, q1, rfl, rfl, rfl, h1, r1⟩ := trodAll_cons r0
  obtain ⟨v2, vs2, d2, ds2, p2, q2, rfl, rfl, rfl, h2, r2⟩ := trodAll_cons r1
  obtain ⟨rfl, rfl, rfl⟩ := trodAll_nil r2
  obtain rfl : args = #[v0, v1, v2] := by cases args; simp_all
  obtain ⟨rfl, rfl⟩ := trodVars_none hV
  have hWhole := hW'
  obtain ⟨a0, len0, cap0, rfl⟩ := okWide_slice Try.underlying61 (hval 0 61 v0 rfl rfl)
  have k0 := h0
  have lt0 : ∀ x ∈ p0, x.block < W.heap.size := by obtain ⟨m, hm⟩ := k0; exact DataW.trod_lt m _ _ _ hm
  obtain ⟨z0, b0⟩ : ∃ zs, IsRow .u64 W a0 len0 cap0 zs := by
    obtain ⟨fuel, hf⟩ := h0
    rcases open_ints Try.underlying61 Try.underlying50 (by kernel_rfl) hf with ⟨hcs, _⟩ | ⟨x, l, c, zs, hcs, _, hl, hm, hz, _, hcell, hwz⟩
    · simp [Value.cells] at hcs
      obtain ⟨rfl, rfl, rfl⟩ := hcs
      exact ⟨[], isRow_nil _ _⟩
    · simp [Value.cells] at hcs
      obtain ⟨rfl, rfl, rfl⟩ := hcs
      exact ⟨zs, isRow_of hl hm (by simpa using hz) hcell hwz⟩
  obtain ⟨a1, len1, cap1, rfl⟩ := okWide_slice Try.underlying61 (hval 1 61 v1 rfl rfl)
  have k1 := h1
  have lt1 : ∀ x ∈ p1, x.block < W.heap.size := by obtain ⟨m, hm⟩ := k1; exact DataW.trod_lt m _ _ _ hm
  obtain ⟨z1, b1⟩ : ∃ zs, IsRow .u64 W a1 len1 cap1 zs := by
    obtain ⟨fuel, hf⟩ := h1
    rcases open_ints Try.underlying61 Try.underlying50 (by kernel_rfl) hf with ⟨hcs, _⟩ | ⟨x, l, c, zs, hcs, _, hl, hm, hz, _, hcell, hwz⟩
    · simp [Value.cells] at hcs
      obtain ⟨rfl, rfl, rfl⟩ := hcs
      exact ⟨[], isRow_nil _ _⟩
    · simp [Value.cells] at hcs
      obtain ⟨rfl, rfl, rfl⟩ := hcs
      exact ⟨zs, isRow_of hl hm (by simpa using hz) hcell hwz⟩
  obtain ⟨a2, len2, cap2, rfl⟩ := okWide_slice Try.underlying61 (hval 2 61 v2 rfl rfl)
  have k2 := h2
  have lt2 : ∀ x ∈ p2, x.block < W.heap.size := by obtain ⟨m, hm⟩ := k2; exact DataW.trod_lt m _ _ _ hm
  obtain ⟨z2, b2⟩ : ∃ zs, IsRow .u64 W a2 len2 cap2 zs := by
    obtain ⟨fuel, hf⟩ := h2
    rcases open_ints Try.underlying61 Try.underlying50 (by kernel_rfl) hf with ⟨hcs, _⟩ | ⟨x, l, c, zs, hcs, _, hl, hm, hz, _, hcell, hwz⟩
    · simp [Value.cells] at hcs
      obtain ⟨rfl, rfl, rfl⟩ := hcs
      exact ⟨[], isRow_nil _ _⟩
    · simp [Value.cells] at hcs
      obtain ⟨rfl, rfl, rfl⟩ := hcs
      exact ⟨zs, isRow_of hl hm (by simpa using hz) hcell hwz⟩
  clear hA0
  refine (walk a0 len0 cap0 z0 a1 len1 cap1 z1 a2 len2 cap2 z2 W b0 b1 b2).mono fun e W' ⟨he, hg⟩ => ?_
  subst he
  exact ⟨_, rfl, _, _, _, [], _, [], hW', trodAll_mk1 (shut_bool Try.underlying4 _), (trodAll_cons_mk (Below.trod laidOut (by kernel_rfl) (of_decide_eq_true (by kernel_rfl)) k0 hg lt0) (trodAll_cons_mk (Below.trod laidOut (by kernel_rfl) (of_decide_eq_true (by kernel_rfl)) k1 hg lt1) (trodAll_cons_mk (Below.trod laidOut (by kernel_rfl) (of_decide_eq_true (by kernel_rfl)) k2 hg lt2) trodAll_mk0))), rfl, hg.frame _, fun h => by cases h⟩

set_option maxRecDepth 100000 in
theorem lifted (os : Os) (started : os.Started) (H : Type) (enc : TypeId × Value → H) :
    ReturnsInHanded {} Try.checked os 11 .any (Rows.statPartsSpec.pre6 enc Try.prog Try.f11 Rows.statPartsRow.domain false) (Rows.statPartsSpec.post enc Try.prog Try.f11 false true false false) := by
  refine returnsInHanded_of_change (C := Try.checked) own started (by kernel_rfl) Try.func11
    (ChangeSpec.witness6 (enc := enc) (C := Try.checked) false ⟨#[], #[.slice none 0 0, .slice none 0 0, .slice none 0 0], []⟩ 8 (by kernel_rfl) (by kernel_rfl) (by kernel_rfl) (by kernel_rfl)) ?_
  intro W base args ds gs before hval hW _ _
  exact contract H enc W base args ds gs before hval hW

/-- ████ THE STATEMENT ████ -/
theorem proved : Rows.StatPartsSaid :=
  OpenClaim.holds_of_wide 11 Try.f11 rfl rfl rfl rfl rfl rfl rfl ⟨rfl, rfl, rfl, rfl, rfl⟩ rfl rfl rfl rfl rfl (by kernel_rfl) Try.func11 (by kernel_rfl)
    (of_decide_eq_true (by kernel_rfl)) (by unfold Func.isWrapper; first | (rw [if_pos (by decide +kernel)]; kernel_rfl) | (rw [if_neg (by decide +kernel)]; exact ⟨rfl, rfl⟩))
    (fun os started H enc _ => lifted os started H enc)
end Go.Proofs.Ytjdcafeljdnfeaa.statParts
