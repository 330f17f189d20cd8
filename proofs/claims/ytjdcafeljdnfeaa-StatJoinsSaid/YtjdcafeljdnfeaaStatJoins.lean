/-
  THE STATEMENT corduroylaw21.StatJoins: for any two rows of bits and any bits the call returns true and leaves its arguments as they were. No condition.
-/
import Derived.Test.YtjdcafeljdnfeaaStatE
import Derived.Test.YtjdcafeljdnfeaaStatF
namespace Go.Proofs.Ytjdcafeljdnfeaa.statJoins
open Go.ChangeShapes Go.WideShapes Go.ChangeAt Go.RowKit
set_option linter.unusedVariables false
theorem long (a0 a1 : Option Addr) (n cap m cap1 : Nat) (v : Int) (w : World) (h : 200 < n ∨ 200 < m) :
    Calls Try.prog 10 #[.slice a0 n cap, .slice a1 m cap1, .int .u64 v] w fun e w' => e = .returned (.bool true) ∧ Below w.heap.size w w' := by
  by_cases h1 : 200 < n
  · have h' : (200 : Int) < n := by omega
    go_enter Try.func10, Try.ntmps10
    go_wp2
    go_ret
    exact ⟨rfl, Below.refl _ _⟩
  · have h' : ¬ (200 : Int) < n := by omega
    have h'' : (200 : Int) < m := by omega
    go_enter Try.func10, Try.ntmps10
    go_wp2
    go_ret
    exact ⟨rfl, Below.refl _ _⟩
theorem rowV_app (n m : Nat) (l r : Nat → Nat) : rowV (fun i => Value.int .u64 (l i : Nat)) n ++ rowV (fun i => Value.int .u64 (r i : Nat)) m = rowV (fun i => .int .u64 (app n l r i : Nat)) (n + m) := by
  apply List.ext_getElem?
  intro i
  by_cases h1 : i < n
  · rw [List.getElem?_append_left (by rw [rowV_length]; exact h1), rowV_get _ h1, rowV_get _ (by omega)]
    unfold app; rw [if_pos h1]
  · rw [List.getElem?_append_right (by rw [rowV_length]; omega), rowV_length]
    by_cases h2 : i < n + m
    · rw [rowV_get _ (by omega), rowV_get _ h2]
      unfold app; rw [if_neg h1]
    · rw [rowV_ge _ (by omega), rowV_ge _ (by omega)]
/-- Two rows appended to an empty one of one's own. -/
theorem append_two (a0 a1 : Option Addr) (n cap m cap1 : Nat) (l r : Nat → Nat) (hn : n ≤ 500) (hm : m ≤ 500) (w : World) (H0 : RowOf (w.alloc (.cells #[] 50)) a0 n (fun i => .int .u64 (l i : Nat))) (H1 : ∀ W, Below w.heap.size w W → RowOf W a1 m (fun i => .int .u64 (r i : Nat))) :
    ∃ v1 W1 a' c' W2, (Builtin.append_ #[61, 61] 61 #[.slice (some ⟨w.heap.size, 0, none⟩) 0 0, .slice a0 n cap]).run Try.prog (w.alloc (.cells #[] 50)) = .ok v1 W1 ∧
      (Builtin.append_ #[61, 61] 61 #[v1, .slice a1 m cap1]).run Try.prog W1 = .ok (.slice a' (n + m) c') W2 ∧ RowOf W2 a' (n + m) (fun i => .int .u64 (app n l r i : Nat)) ∧ Below w.heap.size w W2 := by
  obtain ⟨i0, hi, hz0, hz1, hz2⟩ := info_parts u64Info
  have ho : (w.alloc (.cells #[] 50)).ownsRow w.heap.size 50 1 (.slice (some ⟨w.heap.size, 0, none⟩) 0 0) 0 [] := World.ownsRow_lit w #[] 0 (Nat.le_refl _) (by decide) rfl
  have hb0 : Below w.heap.size w (w.alloc (.cells #[] 50)) := (Below.refl _ _).alloc (Nat.le_refl _) _
  obtain ⟨v1, W1, r1, o1, g1, _⟩ := run_append_row (P := Try.prog) (w.alloc (.cells #[] 50)) w.heap.size 61 61 50 i0 (.int .u64 0) 8 Try.underlying61 hi hz0 hz1 hz2 rfl _ 0 [] ho a0 n cap _ H0 (fun i _ => rfl) (by unfold maxLen; omega) (by omega) (by simp)
  have hb1 : Below w.heap.size w W1 := hb0.grown g1 (by simp) (fun i hi => (ho.lt i hi).1)
  obtain ⟨v2, W2, r2, o2, g2, _⟩ := run_append_row (P := Try.prog) W1 w.heap.size 61 61 50 i0 (.int .u64 0) 8 Try.underlying61 hi hz0 hz1 hz2 rfl v1 _ _ o1 a1 m cap1 _ (H1 W1 hb1) (fun i _ => rfl) (by unfold maxLen; omega) (by omega) hb1.size
  have hb2 : Below w.heap.size w W2 := hb1.grown g2 hb1.size (fun i hi => (o1.lt i hi).1)
  rw [Nat.zero_add, List.nil_append, rowV_app] at o2
  obtain ⟨a', c', rfl, hr, _⟩ := own_reads' o2
  exact ⟨v1, W1, a', c', W2, r1, r2, hr, hb2⟩
/-- A row and one more appended to an empty one of one's own. -/
theorem append_one (a0 : Option Addr) (n cap : Nat) (l : Nat → Nat) (f : Nat) (hn : n ≤ 500) (w : World) (H0 : RowOf (w.alloc (.cells #[] 50)) a0 n (fun i => .int .u64 (l i : Nat))) :
    ∃ v1 W1 a' c' W2, (Builtin.append_ #[61, 61] 61 #[.slice (some ⟨w.heap.size, 0, none⟩) 0 0, .slice a0 n cap]).run Try.prog (w.alloc (.cells #[] 50)) = .ok v1 W1 ∧
      (Builtin.append_ #[61, 61] 61 #[v1, .slice (some ⟨W1.heap.size, 0, none⟩) 1 1]).run Try.prog (W1.alloc (.cells #[.int .u64 (f : Nat)] 50)) = .ok (.slice a' (n + 1) c') W2 ∧ RowOf W2 a' (n + 1) (fun i => .int .u64 (app n l (fun _ => f) i : Nat)) ∧ Below w.heap.size w W2 := by
  obtain ⟨i0, hi, hz0, hz1, hz2⟩ := info_parts u64Info
  have ho : (w.alloc (.cells #[] 50)).ownsRow w.heap.size 50 1 (.slice (some ⟨w.heap.size, 0, none⟩) 0 0) 0 [] := World.ownsRow_lit w #[] 0 (Nat.le_refl _) (by decide) rfl
  have hb0 : Below w.heap.size w (w.alloc (.cells #[] 50)) := (Below.refl _ _).alloc (Nat.le_refl _) _
  obtain ⟨v1, W1, r1, o1, g1, _⟩ := run_append_row (P := Try.prog) (w.alloc (.cells #[] 50)) w.heap.size 61 61 50 i0 (.int .u64 0) 8 Try.underlying61 hi hz0 hz1 hz2 rfl _ 0 [] ho a0 n cap _ H0 (fun i _ => rfl) (by unfold maxLen; omega) (by omega) (by simp)
  have hb1 : Below w.heap.size w W1 := hb0.grown g1 (by simp) (fun i hi => (ho.lt i hi).1)
  have hb1' : Below w.heap.size w (W1.alloc (.cells #[.int .u64 (f : Nat)] 50)) := hb1.alloc hb1.size _
  obtain ⟨v2, W2, r2, o2, g2, _⟩ := run_append_row (P := Try.prog) (W1.alloc (.cells #[.int .u64 (f : Nat)] 50)) w.heap.size 61 61 50 i0 (.int .u64 0) 8 Try.underlying61 hi hz0 hz1 hz2 rfl v1 _ _ (o1.alloc _) (some ⟨W1.heap.size, 0, none⟩) 1 1 (fun i => .int .u64 ((fun _ => f) i : Nat)) (RowOf.lit W1 _ _ _ 1 rfl (by intro i hi; match i, hi with | 0, _ => rfl)) (fun i _ => rfl) (by unfold maxLen; omega) (by omega) hb1'.size
  have hb2 : Below w.heap.size w W2 := hb1'.grown g2 hb1'.size (fun i hi => (o1.lt i hi).1)
  rw [Nat.zero_add, List.nil_append, rowV_app] at o2
  obtain ⟨a', c', rfl, hr, _⟩ := own_reads' o2
  exact ⟨v1, W1, a', c', W2, r1, r2, hr, hb2⟩
set_option maxRecDepth 100000 in
set_option maxHeartbeats 4000000 in
theorem main (a0 a1 : Option Addr) (n cap m cap1 : Nat) (l r : Nat → Nat) (f : Nat) (hn : n ≤ 200) (hm : m ≤ 200) (hl : ∀ i, i < n → l i < 18446744073709551616) (hr : ∀ i, i < m → r i < 18446744073709551616) (hf : f < 18446744073709551616) (w : World) (H0 : RowOf w a0 n (fun i => .int .u64 (l i : Nat))) (H1 : RowOf w a1 m (fun i => .int .u64 (r i : Nat))) :
    Calls Try.prog 10 #[.slice a0 n cap, .slice a1 m cap1, .int .u64 (f : Nat)] w fun e w' => e = .returned (.bool true) ∧ Below w.heap.size w w' := by
  have h' : ¬ (200 : Int) < n := by omega
  have h'' : ¬ (200 : Int) < m := by omega
  have hfb := call_frombits
  have hs : Small 1000 (fold l n) := by
    obtain ⟨⟨p1, p2⟩, p3, ⟨p4, p5⟩, p6, p7⟩ := small_fold l n hl
    exact ⟨⟨p1, by omega⟩, fun i => ⟨(p3 i).1, by have := (p3 i).2; omega⟩, ⟨p4, by omega⟩, p6, p7⟩
  have ht : Small 1000 (fold r m) := by
    obtain ⟨⟨p1, p2⟩, p3, ⟨p4, p5⟩, p6, p7⟩ := small_fold r m hr
    exact ⟨⟨p1, by omega⟩, fun i => ⟨(p3 i).1, by have := (p3 i).2; omega⟩, ⟨p4, by omega⟩, p6, p7⟩
  have hal : ∀ i, i < n + m → app n l r i < 18446744073709551616 := fun i hi => by
    unfold app
    split
    · exact hl i (by assumption)
    · exact hr _ (by omega)
  have ham : ∀ i, i < n + 1 → app n l (fun _ => f) i < 18446744073709551616 := fun i hi => by
    unfold app
    split
    · exact hl i (by assumption)
    · exact hf
  have RE := Lib.hid (told_reals a0 n cap l (by omega) w H0)
  have RE2 := Lib.hid (fun W h => told_reals a1 m cap1 r (by omega) W h)
  have OF := Lib.hid (fun a c W => of_any a n c l hl (by omega) W)
  have OF2 := Lib.hid (fun a c W => of_any a m c r hr (by omega) W)
  have JO := fun W => join_any (fold l n) (fold r m) hs ht W
  have AD := fun W => add_any (fold l n) f hs hf W
  have RO1 := Lib.hid (fun a c W h => rof_any a (n + m) c (app n l r) hal (by omega) W h)
  have RO2 := Lib.hid (fun a c W h => rof_any a (n + 1) c (app n l (fun _ => f)) ham (by omega) W h)
  have e1 : fold (app n l r) (n + m) = joi (fold l n) (fold r m) := fold_app n m l r
  have e2 : fold (app n l (fun _ => f)) (n + 1) = stp (fold l n) f := by
    rw [fold_app]
    show joi (fold l n) (stp st0 f) = _
    rw [joi_stp, joi_zero]
  rw [e1] at RO1
  rw [e2] at RO2
  have LI1 := Lib.hid (fun W => like_same (joi (fold l n) (fold r m)) W)
  have LI2 := Lib.hid (fun W => like_same (stp (fold l n) f) W)
  have A1 := Lib.hid (fun W h0 h1 => append_two a0 a1 n cap m cap1 l r (by omega) (by omega) W h0 h1)
  have A2 := Lib.hid (fun W h0 => append_one a0 n cap l f (by omega) W h0)
  have H0 := Lib.hid H0
  have H1 := Lib.hid H1
  have N1 := Lib.hid (stV_one (fold l n))
  have N2 := Lib.hid (stV_one (fold r m))
  clear hs ht e1 e2
  generalize stV (joi (fold l n) (fold r m)) = cu at *
  generalize stR (joi (fold l n) (fold r m)) = du at *
  generalize stV (stp (fold l n) f) = cv at *
  generalize stR (stp (fold l n) f) = dv at *
  generalize fold l n = s at *
  generalize fold r m = t at *
  dsimp only [stV] at JO AD
  have JO := Lib.hid JO
  have AD := Lib.hid AD
  go_enter Try.func10, Try.ntmps10
  go_wp2_with fail
  refine RE.out.mono ?_
  rintro e w1 ⟨x1, c1, rfl, r1, hb1⟩
  have OF := Lib.hid (OF.out x1 c1 w1 r1)
  have B1 := Lib.hid hb1
  clear r1 hb1
  go_wp2_with fail
  refine OF.out.mono ?_
  rintro e w2 ⟨rfl, hb2⟩
  have B2 := Lib.hid (B1.out.trans (hb2.mono B1.out.size))
  have RE2 := Lib.hid (RE2.out w2 (H1.out.below B2.out))
  clear hb2
  go_wp2_with fail
  refine RE2.out.mono ?_
  rintro e w3 ⟨x3, c3, rfl, r3, hb3⟩
  have B3 := Lib.hid (B2.out.trans (hb3.mono B2.out.size))
  have OF2 := Lib.hid (OF2.out x3 c3 w3 r3)
  clear r3 hb3
  go_wp2_with fail
  refine OF2.out.mono ?_
  rintro e w4 ⟨rfl, hb4⟩
  have B4 := Lib.hid (B3.out.trans (hb4.mono B3.out.size))
  clear hb4
  obtain ⟨W0, hW0⟩ : ∃ W0, (w4.alloc (.cells #[.int .i64 0, .int .i64 0, .int .i64 0, .int .i64 0, .int .i64 0, .int .i64 0, .int .i64 0, .int .i64 0, .int .i64 0, .int .i64 0, .int .i64 0, .bool false, .float .f64 0, .float .f64 0] 81)).alloc (.cells #[.int .i64 0, .int .i64 0, .int .i64 0, .int .i64 0, .int .i64 0, .int .i64 0, .int .i64 0, .int .i64 0, .int .i64 0, .int .i64 0, .int .i64 0, .bool false, .float .f64 0, .float .f64 0] 81) = W0 := ⟨_, rfl⟩
  obtain ⟨l1, l2, l3⟩ := two_new _ _ _ _ _ _ hW0
  obtain ⟨W1, hW1⟩ : ∃ W1, W0.setRow w4.heap.size (stV s) = W1 := ⟨_, rfl⟩
  have m1 := lies_row l1 hW1
  have m2 := lies_rowFar l2 (by omega) hW1
  have m3 := below_row l3 (Nat.le_refl _) hW1
  obtain ⟨W2, hW2⟩ : ∃ W2, W1.setRow (w4.heap.size + 1) (stV t) = W2 := ⟨_, rfl⟩
  have L1 := Lib.hid l1
  have M2 := Lib.hid m2
  have n1 := lies_rowFar m1 (by omega) hW2
  have n2 := lies_row m2 hW2
  have B5 := Lib.hid (B4.out.trans ((below_row m3 (by omega) hW2).mono B4.out.size))
  obtain ⟨v1, X1, a9, c9, X2, r1, r2, R9, b9⟩ := A1.out W2 ((H0.out.below B5.out).below ((Below.refl _ _).alloc (Nat.le_refl _) _)) (fun W hW => (H1.out.below B5.out).below hW)
  have B6 := Lib.hid (B5.out.trans (b9.mono B5.out.size))
  have hz1 := n1.lt
  have hz2 := n2.lt
  obtain ⟨v3, X3, a10, c10, X4, r3, r4, R10, b10⟩ := A2.out X2 ((H0.out.below B6.out).below ((Below.refl _ _).alloc (Nat.le_refl _) _))
  have B7 := Lib.hid (B6.out.trans (b10.mono B6.out.size))
  have s9 := b9.size
  have p1 := n1.below b9 hz1
  have p2 := n2.below b9 hz2
  have P7 := Lib.hid (p1.below b10 p1.lt)
  have P8 := Lib.hid (p2.below b10 p2.lt)
  have R9' := Lib.hid (R9.below b10)
  have R10' := Lib.hid R10
  clear l1 l2 l3 m1 m2 m3 n1 n2 b9 b10 hz1 hz2 p1 p2 R9 R10 s9
  go_wp2_with (first | (refine wpList_store_row rfl 81 (.tmp 7) (.tmp 21) rfl w4.heap.size (stV s) rfl rfl 81 _ L1.out stat_info rfl N1.out ?_; rw [hW1]) | (refine wpList_store_row rfl 81 (.tmp 8) (.tmp 24) rfl (w4.heap.size + 1) (stV t) rfl rfl 81 _ M2.out stat_info rfl N2.out ?_; rw [hW2]) | (refine wpList_append_ran _ _ rfl (.tmp 25) (.tmp 26) 61 rfl _ _ _ rfl rfl r1 ?_) | (refine wpList_append_ran _ _ rfl (.tmp 27) (.tmp 28) 61 rfl _ _ _ rfl rfl r2 ?_) | (refine wpList_append_ran _ _ rfl (.tmp 30) (.tmp 31) 61 rfl _ _ _ rfl rfl r3 ?_) | (refine wpList_append_ran _ _ rfl (.tmp 32) (.tmp 34) 61 rfl _ _ _ rfl rfl r4 ?_))
  have D := Lib.hid ((Below.refl X4.heap.size X4).drew)
  have z7 := P7.out.lt
  have z8 := P8.out.lt
  have q := (fun (W : World) (h1 : Lies W w4.heap.size 81 (stV s)) (h2 : Lies W (w4.heap.size + 1) 81 (stV t)) => (show (W.cell? ⟨w4.heap.size, 0, none⟩ = some (.int .i64 s.cnt) ∧ W.cell? ⟨w4.heap.size, 1, none⟩ = some (.int .i64 (s.k 0)) ∧ W.cell? ⟨w4.heap.size, 2, none⟩ = some (.int .i64 (s.k 1)) ∧ W.cell? ⟨w4.heap.size, 3, none⟩ = some (.int .i64 (s.k 2)) ∧ W.cell? ⟨w4.heap.size, 4, none⟩ = some (.int .i64 (s.k 3)) ∧ W.cell? ⟨w4.heap.size, 5, none⟩ = some (.int .i64 (s.k 4)) ∧ W.cell? ⟨w4.heap.size, 6, none⟩ = some (.int .i64 (s.k 5)) ∧ W.cell? ⟨w4.heap.size, 7, none⟩ = some (.int .i64 (s.k 6)) ∧ W.cell? ⟨w4.heap.size, 8, none⟩ = some (.int .i64 (s.k 7)) ∧ W.cell? ⟨w4.heap.size, 9, none⟩ = some (.int .i64 (s.k 8)) ∧ W.cell? ⟨w4.heap.size, 10, none⟩ = some (.int .i64 s.whole) ∧ W.cell? ⟨w4.heap.size, 11, none⟩ = some (.bool s.any) ∧ W.cell? ⟨w4.heap.size, 12, none⟩ = some (.float .f64 s.mn) ∧ W.cell? ⟨w4.heap.size, 13, none⟩ = some (.float .f64 s.mx)) ∧ (W.cell? ⟨w4.heap.size + 1, 0, none⟩ = some (.int .i64 t.cnt) ∧ W.cell? ⟨w4.heap.size + 1, 1, none⟩ = some (.int .i64 (t.k 0)) ∧ W.cell? ⟨w4.heap.size + 1, 2, none⟩ = some (.int .i64 (t.k 1)) ∧ W.cell? ⟨w4.heap.size + 1, 3, none⟩ = some (.int .i64 (t.k 2)) ∧ W.cell? ⟨w4.heap.size + 1, 4, none⟩ = some (.int .i64 (t.k 3)) ∧ W.cell? ⟨w4.heap.size + 1, 5, none⟩ = some (.int .i64 (t.k 4)) ∧ W.cell? ⟨w4.heap.size + 1, 6, none⟩ = some (.int .i64 (t.k 5)) ∧ W.cell? ⟨w4.heap.size + 1, 7, none⟩ = some (.int .i64 (t.k 6)) ∧ W.cell? ⟨w4.heap.size + 1, 8, none⟩ = some (.int .i64 (t.k 7)) ∧ W.cell? ⟨w4.heap.size + 1, 9, none⟩ = some (.int .i64 (t.k 8)) ∧ W.cell? ⟨w4.heap.size + 1, 10, none⟩ = some (.int .i64 t.whole) ∧ W.cell? ⟨w4.heap.size + 1, 11, none⟩ = some (.bool t.any) ∧ W.cell? ⟨w4.heap.size + 1, 12, none⟩ = some (.float .f64 t.mn) ∧ W.cell? ⟨w4.heap.size + 1, 13, none⟩ = some (.float .f64 t.mx)) from ⟨⟨h1.cell 0, h1.cell 1, h1.cell 2, h1.cell 3, h1.cell 4, h1.cell 5, h1.cell 6, h1.cell 7, h1.cell 8, h1.cell 9, h1.cell 10, h1.cell 11, h1.cell 12, h1.cell 13⟩, ⟨h2.cell 0, h2.cell 1, h2.cell 2, h2.cell 3, h2.cell 4, h2.cell 5, h2.cell 6, h2.cell 7, h2.cell 8, h2.cell 9, h2.cell 10, h2.cell 11, h2.cell 12, h2.cell 13⟩⟩))
  have Q := Lib.hid q
  clear q r1 r2 r3 r4
  have q := Q.out _ P7.out.drew P8.out.drew
  have RO1 := Lib.hid (fun W h => RO1.out a9 c9 W (R9'.out.below h))
  have RO2 := Lib.hid (fun W h => RO2.out a10 c10 W (R10'.out.below h))
  go_region_held3 (fun w' => (w'.cell? ⟨w4.heap.size, 0, none⟩ = some (.int .i64 s.cnt) ∧ w'.cell? ⟨w4.heap.size, 1, none⟩ = some (.int .i64 (s.k 0)) ∧ w'.cell? ⟨w4.heap.size, 2, none⟩ = some (.int .i64 (s.k 1)) ∧ w'.cell? ⟨w4.heap.size, 3, none⟩ = some (.int .i64 (s.k 2)) ∧ w'.cell? ⟨w4.heap.size, 4, none⟩ = some (.int .i64 (s.k 3)) ∧ w'.cell? ⟨w4.heap.size, 5, none⟩ = some (.int .i64 (s.k 4)) ∧ w'.cell? ⟨w4.heap.size, 6, none⟩ = some (.int .i64 (s.k 5)) ∧ w'.cell? ⟨w4.heap.size, 7, none⟩ = some (.int .i64 (s.k 6)) ∧ w'.cell? ⟨w4.heap.size, 8, none⟩ = some (.int .i64 (s.k 7)) ∧ w'.cell? ⟨w4.heap.size, 9, none⟩ = some (.int .i64 (s.k 8)) ∧ w'.cell? ⟨w4.heap.size, 10, none⟩ = some (.int .i64 s.whole) ∧ w'.cell? ⟨w4.heap.size, 11, none⟩ = some (.bool s.any) ∧ w'.cell? ⟨w4.heap.size, 12, none⟩ = some (.float .f64 s.mn) ∧ w'.cell? ⟨w4.heap.size, 13, none⟩ = some (.float .f64 s.mx)) ∧ (w'.cell? ⟨w4.heap.size + 1, 0, none⟩ = some (.int .i64 t.cnt) ∧ w'.cell? ⟨w4.heap.size + 1, 1, none⟩ = some (.int .i64 (t.k 0)) ∧ w'.cell? ⟨w4.heap.size + 1, 2, none⟩ = some (.int .i64 (t.k 1)) ∧ w'.cell? ⟨w4.heap.size + 1, 3, none⟩ = some (.int .i64 (t.k 2)) ∧ w'.cell? ⟨w4.heap.size + 1, 4, none⟩ = some (.int .i64 (t.k 3)) ∧ w'.cell? ⟨w4.heap.size + 1, 5, none⟩ = some (.int .i64 (t.k 4)) ∧ w'.cell? ⟨w4.heap.size + 1, 6, none⟩ = some (.int .i64 (t.k 5)) ∧ w'.cell? ⟨w4.heap.size + 1, 7, none⟩ = some (.int .i64 (t.k 6)) ∧ w'.cell? ⟨w4.heap.size + 1, 8, none⟩ = some (.int .i64 (t.k 7)) ∧ w'.cell? ⟨w4.heap.size + 1, 9, none⟩ = some (.int .i64 (t.k 8)) ∧ w'.cell? ⟨w4.heap.size + 1, 10, none⟩ = some (.int .i64 t.whole) ∧ w'.cell? ⟨w4.heap.size + 1, 11, none⟩ = some (.bool t.any) ∧ w'.cell? ⟨w4.heap.size + 1, 12, none⟩ = some (.float .f64 t.mn) ∧ w'.cell? ⟨w4.heap.size + 1, 13, none⟩ = some (.float .f64 t.mx))) (first | (exact q) | go_keep)
    (first
      | (go_at_call 54; ((with_reducible refine (JO.out _).mono ?_); rintro e y1 ⟨rfl, hd⟩; have D := Lib.hid (D.out.trans (hd.mono D.out.size)); have q := Q.out _ (P7.out.below D.out z7) (P8.out.below D.out z8); clear hd))
      | (go_at_call 48; ((with_reducible refine (RO1.out _ D.out).mono ?_); rintro e y2 ⟨rfl, hd⟩; have D := Lib.hid (D.out.trans (hd.mono D.out.size)); have q := Q.out _ (P7.out.below D.out z7) (P8.out.below D.out z8); clear hd))
      | (go_at_call 48; ((with_reducible refine (RO2.out _ D.out).mono ?_); rintro e y3 ⟨rfl, hd⟩; have D := Lib.hid (D.out.trans (hd.mono D.out.size)); have q := Q.out _ (P7.out.below D.out z7) (P8.out.below D.out z8); clear hd))
      | (go_at_call 49; ((with_reducible refine (LI1.out _).mono ?_); rintro e y4 ⟨rfl, hd⟩; have D := Lib.hid (D.out.trans (hd.mono D.out.size)); have q := Q.out _ (P7.out.below D.out z7) (P8.out.below D.out z8); clear hd))
      | (go_at_call 49; ((with_reducible refine (LI2.out _).mono ?_); rintro e y5 ⟨rfl, hd⟩; have D := Lib.hid (D.out.trans (hd.mono D.out.size)); have q := Q.out _ (P7.out.below D.out z7) (P8.out.below D.out z8); clear hd))
      | (go_at_call 55; ((with_reducible refine (AD.out _).mono ?_); rintro e y6 ⟨rfl, hd⟩; have D := Lib.hid (D.out.trans (hd.mono D.out.size)); have q := Q.out _ (P7.out.below D.out z7) (P8.out.below D.out z8); clear hd))
      | (go_at_call 53; ((with_reducible refine (awake21_any _).mono ?_); rintro e y7 ⟨rfl, hd⟩; have D := Lib.hid (D.out.trans (hd.mono D.out.size)); have q := Q.out _ (P7.out.below D.out z7) (P8.out.below D.out z8); clear hd)))
  all_goals
    go_wp2
    go_ret
    exact ⟨rfl, B7.out.trans (D.out.mono B7.out.size)⟩
theorem walk (a0 : Option Addr) (len0 cap0 : Nat) (z0 : List Int) (a1 : Option Addr) (len1 cap1 : Nat) (z1 : List Int) (v : Int) (w : World) (b0 : IsRow .u64 w a0 len0 cap0 z0) (b1 : IsRow .u64 w a1 len1 cap1 z1) (b2 : 0 ≤ v ∧ v ≤ 18446744073709551615) :
    Calls Try.prog 10 #[.slice a0 len0 cap0, .slice a1 len1 cap1, .int .u64 v] w fun e w' => e = .returned (.bool true) ∧ Below w.heap.size w w' := by
  by_cases h : 200 < len0 ∨ 200 < len1
  · exact long a0 a1 len0 cap0 len1 cap1 v w h
  · obtain ⟨b, rfl⟩ : ∃ b : Nat, v = b := ⟨v.toNat, by omega⟩
    exact main a0 a1 len0 cap0 len1 cap1 _ _ b (by omega) (by omega) (isrow_u64 b0).2 (isrow_u64 b1).2 (by omega) w (isrow_u64 b0).1 (isrow_u64 b1).1
theorem own : ownKnob Try.prog.godebug = none := by kernel_rfl
set_option maxRecDepth 100000 in
theorem contract (H : Type) (enc : TypeId × Value → H) (W : World) (base : Nat) (args : Array Value) (ds gs : List (DataW H)) (before : List MemPlace)
    (hval : ∀ (j : Nat) t v, Try.f10.params[j]? = some t → args[j]? = some v → Value.okWide Try.prog W .any base t v)
    (hW : DataW.Whole enc Try.prog Try.f10.params.toList Rows.statJoinsSpec.vars false W args.toList ds gs before) :
    Calls Try.prog 10 args W fun e W' => ∃ v, e = .returned v ∧ Rows.statJoinsSpec.post enc Try.prog Try.f10 false true false false W args v W' := by
  have hW' := hW
  obtain ⟨p, q, hA0, hV, rfl, hfz, hnd⟩ := hW
  have hA : DataW.TrodAll enc Try.prog W 0 (fun _ => true) true Try.f10.params.toList args.toList ds p := hA0
  rw [Try.params10] at hA hval
  obtain ⟨v0, vs0, d0, ds0, p0, q0, hargs, rfl, rfl, h0, r0⟩ := trodAll_cons hA
  obtain ⟨v1, vs1, d1, ds1, p1, q1, rfl, rfl, rfl, h1, r1⟩ := trodAll_cons r0
  obtain ⟨v2, vs2, d2, ds2, p2, q2, rfl, rfl, rfl, h2, r2⟩ := trodAll_cons r1
  obtain ⟨rfl, rfl, rfl⟩ := trodAll_nil r2
  obtain rfl : args = #[v0, v1, v2] := by cases args; simp_all
  obtain ⟨rfl, rfl⟩ := trodVars_none hV
  have hWhole := hW'
  obtain ⟨a0, len0, cap0, rfl⟩ := okWide_slice Try.underlying61 (hval 0 61 v0 rfl rfl)
  have k0 := h0
  have lt0 : ∀ x ∈ p0, x.block < W.heap.size := by obtain ⟨m, hm⟩ := k0; exact DataW.trod_lt m _ _ _ hm
  obtain ⟨z0, b0⟩ : ∃ zs, IsRow .u64 W a0 len0 cap0 zs := by
    obtain ⟨fuel, hf⟩ := h0
    rcases open_ints Try.underlying61 Try.underlying50 (by kernel_rfl) hf with ⟨hcs, _⟩ | ⟨x, l, c, zs, hcs, _, hl, hm, hz, _, hcell, hwz⟩
    · simp [Value.cells] at hcs
      obtain ⟨rfl, rfl, rfl⟩ := hcs
      exact ⟨[], isRow_nil _ _⟩
    · simp [Value.cells] at hcs
      obtain ⟨rfl, rfl, rfl⟩ := hcs
      exact ⟨zs, isRow_of hl hm (by simpa using hz) hcell hwz⟩
  obtain ⟨a1, len1, cap1, rfl⟩ := okWide_slice Try.underlying61 (hval 1 61 v1 rfl rfl)
  have k1 := h1
  have lt1 : ∀ x ∈ p1, x.block < W.heap.size := by obtain ⟨m, hm⟩ := k1; exact DataW.trod_lt m _ _ _ hm
  obtain ⟨z1, b1⟩ : ∃ zs, IsRow .u64 W a1 len1 cap1 zs := by
    obtain ⟨fuel, hf⟩ := h1
    rcases open_ints Try.underlying61 Try.underlying50 (by kernel_rfl) hf with ⟨hcs, _⟩ | ⟨x, l, c, zs, hcs, _, hl, hm, hz, _, hcell, hwz⟩
    · simp [Value.cells] at hcs
      obtain ⟨rfl, rfl, rfl⟩ := hcs
      exact ⟨[], isRow_nil _ _⟩
    · simp [Value.cells] at hcs
      obtain ⟨rfl, rfl, rfl⟩ := hcs
      exact ⟨zs, isRow_of hl hm (by simpa using hz) hcell hwz⟩
  obtain ⟨a2, rfl, rfl, rfl, w2⟩ := open_int Try.underlying50 (hval 2 50 v2 rfl rfl) h2
  have b2 := bounds_u64 w2
  clear hA0
  refine (walk a0 len0 cap0 z0 a1 len1 cap1 z1 a2 W b0 b1 b2).mono fun e W' ⟨he, hg⟩ => ?_
  subst he
  exact ⟨_, rfl, _, _, _, [], _, [], hW', trodAll_mk1 (shut_bool Try.underlying4 _), (trodAll_cons_mk (Below.trod laidOut (by kernel_rfl) (of_decide_eq_true (by kernel_rfl)) k0 hg lt0) (trodAll_cons_mk (Below.trod laidOut (by kernel_rfl) (of_decide_eq_true (by kernel_rfl)) k1 hg lt1) (trodAll_cons_mk (shut_int Try.underlying50 w2) trodAll_mk0))), rfl, hg.frame _, fun h => by cases h⟩

set_option maxRecDepth 100000 in
theorem lifted (os : Os) (started : os.Started) (H : Type) (enc : TypeId × Value → H) :
    ReturnsInHanded {} Try.checked os 10 .any (Rows.statJoinsSpec.pre6 enc Try.prog Try.f10 Rows.statJoinsRow.domain false) (Rows.statJoinsSpec.post enc Try.prog Try.f10 false true false false) := by
  refine returnsInHanded_of_change (C := Try.checked) own started (by kernel_rfl) Try.func10
    (ChangeSpec.witness6 (enc := enc) (C := Try.checked) false ⟨#[], #[.slice none 0 0, .slice none 0 0, .int .u64 0], []⟩ 8 (by kernel_rfl) (by kernel_rfl) (by kernel_rfl) (by kernel_rfl)) ?_
  intro W base args ds gs before hval hW _ _
  exact contract H enc W base args ds gs before hval hW

/-- ████ THE STATEMENT ████ -/
theorem proved : Rows.StatJoinsSaid :=
  OpenClaim.holds_of_wide 10 Try.f10 rfl rfl rfl rfl rfl rfl rfl ⟨rfl, rfl, rfl, rfl, rfl⟩ rfl rfl rfl rfl rfl (by kernel_rfl) Try.func10 (by kernel_rfl)
    (of_decide_eq_true (by kernel_rfl)) (by unfold Func.isWrapper; first | (rw [if_pos (by decide +kernel)]; kernel_rfl) | (rw [if_neg (by decide +kernel)]; exact ⟨rfl, rfl⟩))
    (fun os started H enc _ => lifted os started H enc)
end Go.Proofs.Ytjdcafeljdnfeaa.statJoins
