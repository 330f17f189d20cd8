/-
  THE STATEMENT corduroylaw06.WidthJoins: for any two rows of numbers the call returns true and leaves its arguments as they were. No condition.
-/
import Derived.Test.YtjdcafeljdnfeaaWidD
import Derived.Test.YtjdcafeljdnfeaaIsRow
import Derived.Deep.QuietTactic
import Derived.BigQuiet
namespace Go.Proofs.Ytjdcafeljdnfeaa.widthJoins
open Go.ChangeShapes Go.WideShapes Go.ChangeAt Go.RowKit
set_option linter.unusedVariables false
/-- Two rows, one behind the other. -/
def app (n : Nat) (l r : Nat → Nat) : Nat → Nat := fun i => if i < n then l i else r (i - n)
theorem isrow_u64 {w : World} {a : Option Addr} {len cap : Nat} {z : List Int} (h : IsRow .u64 w a len cap z) : RowOf w a len (fun i => .int .u64 ((z.getD i 0).toNat : Nat)) ∧ ∀ i, i < len → (z.getD i 0).toNat < 18446744073709551616 := by
  obtain ⟨hl, hm, hz, hw, h0⟩ := h
  have hb : ∀ i, i < len → 0 ≤ z.getD i 0 ∧ z.getD i 0 < 18446744073709551616 := fun i hi => by
    have hm : z.getD i 0 ∈ z := by simp [List.getD, (by omega : i < z.length)]
    have := bounds_u64 (hw _ hm)
    omega
  refine ⟨?_, fun i hi => by have := hb i hi; show (z.getD i 0).toNat < _; omega⟩
  rcases h0 with h0 | ⟨b, off, rfl, _, hc⟩
  · exact .inl (by omega)
  · exact .inr ⟨b, off, rfl, fun i hi => by rw [hc i (by omega)]; show some (Value.int .u64 _) = some (Value.int .u64 ((z.getD i 0).toNat : Int)); rw [Int.toNat_of_nonneg (hb i hi).1]⟩
theorem rowV_app (n m : Nat) (l r : Nat → Nat) : rowV (fun i => Value.int .u64 (l i : Nat)) n ++ rowV (fun i => Value.int .u64 (r i : Nat)) m = rowV (fun i => .int .u64 (app n l r i : Nat)) (n + m) := by
  apply List.ext_getElem?
  intro i
  by_cases h1 : i < n
  · rw [List.getElem?_append_left (by rw [rowV_length]; exact h1), rowV_get _ h1, rowV_get _ (by omega)]
    unfold app; rw [if_pos h1]
  · rw [List.getElem?_append_right (by rw [rowV_length]; omega), rowV_length]
    by_cases h2 : i < n + m
    · rw [rowV_get _ (by omega), rowV_get _ h2]
      unfold app; rw [if_neg h1]
    · rw [rowV_ge _ (by omega), rowV_ge _ (by omega)]
/-- Two rows appended to an empty one of one's own. -/
theorem append_two (a0 a1 : Option Addr) (n cap m cap1 : Nat) (l r : Nat → Nat) (hn : n ≤ 500) (hm : m ≤ 500) (w : World) (H0 : RowOf (w.alloc (.cells #[] 50)) a0 n (fun i => .int .u64 (l i : Nat))) (H1 : ∀ W, Below w.heap.size w W → RowOf W a1 m (fun i => .int .u64 (r i : Nat))) :
    ∃ v1 W1 a' c' W2, (Builtin.append_ #[61, 61] 61 #[.slice (some ⟨w.heap.size, 0, none⟩) 0 0, .slice a0 n cap]).run Try.prog (w.alloc (.cells #[] 50)) = .ok v1 W1 ∧
      (Builtin.append_ #[61, 61] 61 #[v1, .slice a1 m cap1]).run Try.prog W1 = .ok (.slice a' (n + m) c') W2 ∧ RowOf W2 a' (n + m) (fun i => .int .u64 (app n l r i : Nat)) ∧ Below w.heap.size w W2 := by
  obtain ⟨i0, hi, hz0, hz1, hz2⟩ := info_parts u64Info
  have ho : (w.alloc (.cells #[] 50)).ownsRow w.heap.size 50 1 (.slice (some ⟨w.heap.size, 0, none⟩) 0 0) 0 [] := World.ownsRow_lit w #[] 0 (Nat.le_refl _) (by decide) rfl
  have hb0 : Below w.heap.size w (w.alloc (.cells #[] 50)) := (Below.refl _ _).alloc (Nat.le_refl _) _
  obtain ⟨v1, W1, r1, o1, g1, _⟩ := run_append_row (P := Try.prog) (w.alloc (.cells #[] 50)) w.heap.size 61 61 50 i0 (.int .u64 0) 8 Try.underlying61 hi hz0 hz1 hz2 rfl _ 0 [] ho a0 n cap _ H0 (fun i _ => rfl) (by unfold maxLen; omega) (by omega) (by simp)
  have hb1 : Below w.heap.size w W1 := hb0.grown g1 (by simp) (fun i hi => (ho.lt i hi).1)
  obtain ⟨v2, W2, r2, o2, g2, _⟩ := run_append_row (P := Try.prog) W1 w.heap.size 61 61 50 i0 (.int .u64 0) 8 Try.underlying61 hi hz0 hz1 hz2 rfl v1 _ _ o1 a1 m cap1 _ (H1 W1 hb1) (fun i _ => rfl) (by unfold maxLen; omega) (by omega) hb1.size
  have hb2 : Below w.heap.size w W2 := hb1.grown g2 hb1.size (fun i hi => (o1.lt i hi).1)
  rw [Nat.zero_add, List.nil_append, rowV_app] at o2
  obtain ⟨a', c', rfl, hr, _⟩ := own_reads' o2
  exact ⟨v1, W1, a', c', W2, r1, r2, hr, hb2⟩
theorem app_lt (n m : Nat) (l r : Nat → Nat) (hl : ∀ i, i < n → l i < 18446744073709551616) (hr : ∀ i, i < m → r i < 18446744073709551616) : ∀ i, i < n + m → app n l r i < 18446744073709551616 := fun i hi => by
  unfold app
  split
  · exact hl i (by assumption)
  · exact hr _ (by omega)
theorem app_left (n : Nat) (l r : Nat → Nat) {i : Nat} (h : i < n) : app n l r i = l i := by unfold app; rw [if_pos h]
theorem app_right (n i : Nat) (l r : Nat → Nat) : app n l r (n + i) = r i := by unfold app; rw [if_neg (by omega), Nat.add_sub_cancel_left]
theorem cnt_congr (l r : Nat → Nat) : ∀ n, (∀ i, i < n → l i = r i) → cnt l n = cnt r n
  | 0, _ => rfl
  | n + 1, h => by simp only [cnt]; rw [cnt_congr l r n (fun i hi => h i (by omega)), h n (by omega)]
theorem cnt_app (n : Nat) (l r : Nat → Nat) : ∀ m i, cnt (app n l r) (n + m) i = cnt l n i + cnt r m i
  | 0, i => by
    show cnt (app n l r) n i = cnt l n i + 0
    rw [cnt_congr (app n l r) l n (fun i hi => app_left n l r hi)]; omega
  | m + 1, i => by
    show (if i = bl (app n l r (n + m)) then cnt (app n l r) (n + m) (bl (app n l r (n + m))) + 1 else cnt (app n l r) (n + m) i) = cnt l n i + (if i = bl (r m) then cnt r m (bl (r m)) + 1 else cnt r m i)
    rw [app_right, cnt_app n l r m, cnt_app n l r m]
    split
    · rename_i h; subst h; omega
    · rfl
theorem most_congr (l r : Nat → Nat) : ∀ n, (∀ i, i < n → l i = r i) → most l n = most r n
  | 0, _ => rfl
  | n + 1, h => by simp only [most]; rw [most_congr l r n (fun i hi => h i (by omega)), h n (by omega)]
theorem most_app (n : Nat) (l r : Nat → Nat) : ∀ m, most (app n l r) (n + m) = max (most l n) (most r m)
  | 0 => by
    show most (app n l r) n = max (most l n) 0
    rw [most_congr (app n l r) l n (fun i hi => app_left n l r hi)]; omega
  | m + 1 => by
    show max (most (app n l r) (n + m)) (bl (app n l r (n + m))) = max (most l n) (max (most r m) (bl (r m)))
    rw [app_right, most_app n l r m]; omega
/-- The least of n numbers: it is one of them, and none is below it. -/
theorem lmin_spec (x : Nat → Int) : ∀ n, (∀ i, i < n → lmin x n ≤ x i) ∧ (0 < n → ∃ i, i < n ∧ lmin x n = x i) ∧ (n = 0 → lmin x n = x 0) ∧ lmin x n ≤ x 0
  | 0 => ⟨fun i hi => by omega, fun h => by omega, fun _ => rfl, Int.le_refl _⟩
  | n + 1 => by
    obtain ⟨h1, h2, h3, h4⟩ := lmin_spec x n
    have e : lmin x (n + 1) = if x n < lmin x n then x n else lmin x n := rfl
    refine ⟨fun i hi => ?_, fun _ => ?_, fun h => by omega, by rw [e]; split <;> omega⟩
    · rw [e]
      by_cases c : i = n
      · subst c; split <;> omega
      · have := h1 i (by omega); split <;> omega
    · rw [e]
      split
      · exact ⟨n, by omega, rfl⟩
      · rcases Nat.eq_zero_or_pos n with h0 | h0
        · subst h0; exact ⟨0, by omega, rfl⟩
        · obtain ⟨i, hi, hx⟩ := h2 h0
          exact ⟨i, by omega, hx⟩
/-- What the least of any numbers is told as. -/
def lv (x : Nat → Int) (n : Nat) : Int := if n = 0 then 0 else lmin x n
theorem least_any (a : Option Addr) (n cap : Nat) (x : Nat → Int) (hn : n ≤ 1000) (w : World) (h : RowOf w a n (fun i => .int .i64 (x i))) :
    Calls Try.prog 45 #[.slice a n cap] w fun e w' => e = .returned (.tuple #[.int .i64 (lv x n), .bool (decide (0 < n))]) ∧ w = w' := by
  rcases Nat.eq_zero_or_pos n with h0 | h0
  · subst h0; exact least_none a cap w
  · have e : lv x n = lmin x n := by unfold lv; rw [if_neg (by omega)]
    rw [e, decide_eq_true h0]
    exact least_some a n cap x h0 hn w h
/-- How the leasts of two rows and of both stand. -/
def Stand (is so an : Bool) (p q c : Int) : Prop := (is = false ∧ so = false ∧ an = false) ∨ (is = true ∧ so = false ∧ an = true ∧ c = p) ∨ (is = false ∧ so = true ∧ an = true ∧ c = q) ∨ (is = true ∧ so = true ∧ an = true ∧ c = p ∧ ¬ q < p) ∨ (is = true ∧ so = true ∧ an = true ∧ c = q ∧ (q == p) = false ∧ ¬ p < q)
theorem stand (n m : Nat) (x y z : Nat → Int) (h1 : ∀ i, i < n → z i = x i) (h2 : ∀ i, i < m → z (n + i) = y i) : Stand (decide (0 < n)) (decide (0 < m)) (decide (0 < n + m)) (lv x n) (lv y m) (lv z (n + m)) := by
  obtain ⟨a1, a2, _⟩ := lmin_spec x n
  obtain ⟨b1, b2, _⟩ := lmin_spec y m
  obtain ⟨c1, c2, _⟩ := lmin_spec z (n + m)
  by_cases hn : n = 0
  · subst hn
    by_cases hm : m = 0
    · subst hm; exact .inl ⟨rfl, rfl, rfl⟩
    · refine .inr (.inr (.inl ⟨rfl, decide_eq_true (by omega), decide_eq_true (by omega), ?_⟩))
      unfold lv
      rw [if_neg (by omega), if_neg hm]
      obtain ⟨i, hi, e⟩ := c2 (by omega)
      obtain ⟨j, hj, e'⟩ := b2 (by omega)
      have q1 := c1 (0 + j) (by omega)
      rw [h2 j hj] at q1
      have q2 := b1 i (by omega)
      have q3 := h2 i (by omega)
      rw [Nat.zero_add] at q3
      omega
  · by_cases hm : m = 0
    · subst hm
      refine .inr (.inl ⟨decide_eq_true (by omega), rfl, decide_eq_true (by omega), ?_⟩)
      unfold lv
      rw [if_neg (by omega), if_neg hn]
      obtain ⟨i, hi, e⟩ := c2 (by omega)
      obtain ⟨j, hj, e'⟩ := a2 (by omega)
      have q1 := c1 j (by omega)
      rw [h1 j hj] at q1
      have q2 := a1 i (by omega)
      have q3 := h1 i (by omega)
      omega
    · have e1 : lv x n = lmin x n := by unfold lv; rw [if_neg hn]
      have e2 : lv y m = lmin y m := by unfold lv; rw [if_neg hm]
      have e3 : lv z (n + m) = lmin z (n + m) := by unfold lv; rw [if_neg (by omega)]
      rw [e1, e2, e3]
      obtain ⟨i, hi, ex⟩ := a2 (by omega)
      obtain ⟨j, hj, ey⟩ := b2 (by omega)
      obtain ⟨k, hk, ez⟩ := c2 (by omega)
      have q1 := c1 i (by omega)
      rw [h1 i hi] at q1
      have q2 := c1 (n + j) (by omega)
      rw [h2 j hj] at q2
      have q3 : lmin x n ≤ lmin z (n + m) ∨ lmin y m ≤ lmin z (n + m) := by
        by_cases hkn : k < n
        · have := a1 k hkn; have := h1 k hkn; left; omega
        · have := b1 (k - n) (by omega)
          have h := h2 (k - n) (by omega)
          rw [show n + (k - n) = k from by omega] at h
          right; omega
      by_cases hpq : lmin y m < lmin x n
      · exact .inr (.inr (.inr (.inr ⟨decide_eq_true (by omega), decide_eq_true (by omega), decide_eq_true (by omega), by omega, by simp; omega, by omega⟩)))
      · exact .inr (.inr (.inr (.inl ⟨decide_eq_true (by omega), decide_eq_true (by omega), decide_eq_true (by omega), by omega, hpq⟩)))
theorem three_new (w W0 : World) (t1 : TypeId) (z1 : Array Value) (h : ((w.alloc (.cells z1 t1)).alloc (.cells z1 t1)).alloc (.cells z1 t1) = W0) : Lies W0 w.heap.size t1 z1 ∧ Lies W0 (w.heap.size + 1) t1 z1 ∧ Lies W0 (w.heap.size + 2) t1 z1 ∧ Below w.heap.size w W0 := by
  obtain ⟨a1, a2, a3⟩ := two_new' w _ t1 t1 z1 z1 rfl
  subst h
  refine ⟨a1.alloc _, a2.alloc _, ?_, a3.alloc a3.size _⟩
  have := Lies.new ((w.alloc (.cells z1 t1)).alloc (.cells z1 t1)) t1 z1
  simpa using this
theorem long (a0 a1 : Option Addr) (n cap m cap1 : Nat) (w : World) (h : 200 < n ∨ 200 < m) :
    Calls Try.prog 8 #[.slice a0 n cap, .slice a1 m cap1] w fun e w' => e = .returned (.bool true) ∧ Below w.heap.size w w' := by
  by_cases h1 : 200 < n
  · have h' : (200 : Int) < n := by omega
    go_enter Try.func8, Try.ntmps8
    go_wp2
    go_ret
    exact ⟨rfl, Below.refl _ _⟩
  · have h' : ¬ (200 : Int) < n := by omega
    have h'' : (200 : Int) < m := by omega
    go_enter Try.func8, Try.ntmps8
    go_wp2
    go_ret
    exact ⟨rfl, Below.refl _ _⟩
set_option maxRecDepth 100000 in
set_option maxHeartbeats 4000000 in
theorem main (a0 a1 : Option Addr) (n cap m cap1 : Nat) (l r : Nat → Nat) (hn : n ≤ 200) (hm : m ≤ 200) (hl : ∀ i, i < n → l i < 18446744073709551616) (hr : ∀ i, i < m → r i < 18446744073709551616) (w : World) (H0 : RowOf w a0 n (fun i => .int .u64 (l i : Nat))) (H1 : RowOf w a1 m (fun i => .int .u64 (r i : Nat))) :
    Calls Try.prog 8 #[.slice a0 n cap, .slice a1 m cap1] w fun e w' => e = .returned (.bool true) ∧ Below w.heap.size w w' := by
  have h' : ¬ (200 : Int) < n := by omega
  have h'' : ¬ (200 : Int) < m := by omega
  have hal := app_lt n m l r hl hr
  have CA := Lib.hid (cnt_app n l r m)
  have B0 := Lib.hid (cnt_bd l n)
  have B1 := Lib.hid (cnt_bd r m)
  have ST := stand n m (fun i => bk (l i : Nat) 0) (fun i => bk (r i : Nat) 0) (fun i => bk (app n l r i : Nat) 0) (fun i hi => by simp only [app_left n l r hi]) (fun i hi => by simp only [app_right])
  have MA := Lib.hid (most_app n l r m)
  obtain ⟨v1, X1, a9, c9, X2, r1, r2, R9, b9⟩ := append_two a0 a1 n cap m cap1 l r (by omega) (by omega) w (H0.below ((Below.refl _ _).alloc (Nat.le_refl _) _)) (fun W hW => H1.below hW)
  have C0 := Lib.hid (fun W h => count_any a0 n cap l hl (by omega) W h)
  have C1 := Lib.hid (fun W h => count_any a1 m cap1 r hr (by omega) W h)
  have C2 := Lib.hid (fun W h => count_any a9 (n + m) c9 (app n l r) hal (by omega) W h)
  have K0 := Lib.hid (fun W h => back_any a0 n cap (fun i => (l i : Nat)) 0 (by omega) W h)
  have K1 := Lib.hid (fun W h => back_any a1 m cap1 (fun i => (r i : Nat)) 0 (by omega) W h)
  have K2 := Lib.hid (fun W h => back_any a9 (n + m) c9 (fun i => (app n l r i : Nat)) 0 (by omega) W h)
  have L0 := Lib.hid (fun a c W h => least_any a n c (fun i => bk (l i : Nat) 0) (by omega) W h)
  have L1 := Lib.hid (fun a c W h => least_any a m c (fun i => bk (r i : Nat) 0) (by omega) W h)
  have L2 := Lib.hid (fun a c W h => least_any a (n + m) c (fun i => bk (app n l r i : Nat) 0) (by omega) W h)
  have M0 := Lib.hid (fun W h => most_any a0 n cap l hl (by omega) W h)
  have M1 := Lib.hid (fun W h => most_any a1 m cap1 r hr (by omega) W h)
  have M2 := Lib.hid (fun W h => most_any a9 (n + m) c9 (app n l r) hal (by omega) W h)
  have H0 := Lib.hid H0
  have H1 := Lib.hid H1
  have R9 := Lib.hid R9
  have B9 := Lib.hid b9
  have N0 := Lib.hid (cntV_one (cnt l n))
  have N1 := Lib.hid (cntV_one (cnt r m))
  have N2 := Lib.hid (cntV_one (cnt (app n l r) (n + m)))
  have S0 := Lib.hid (cntV_size (cnt l n))
  have S1 := Lib.hid (cntV_size (cnt r m))
  have S2 := Lib.hid (cntV_size (cnt (app n l r) (n + m)))
  have T0 := Lib.hid (cntV_at (cnt l n))
  have T1 := Lib.hid (cntV_at (cnt r m))
  have T2 := Lib.hid (cntV_at (cnt (app n l r) (n + m)))
  clear hl hr hal b9
  generalize lv (fun i => bk (l i : Nat) 0) n = p at *
  generalize lv (fun i => bk (r i : Nat) 0) m = q at *
  generalize lv (fun i => bk (app n l r i : Nat) 0) (n + m) = c at *
  generalize decide (0 < n) = is at *
  generalize decide (0 < m) = so at *
  generalize decide (0 < n + m) = an at *
  generalize most (app n l r) (n + m) = mm at *
  have HMM := MA
  clear MA
  generalize most l n = m0 at *
  generalize most r m = m1 at *
  generalize cnt (app n l r) (n + m) = f2 at *
  generalize cnt l n = f0 at *
  generalize cnt r m = f1 at *
  have ST := Lib.hid ST
  go_enter Try.func8, Try.ntmps8
  go_wp2_with (first | (refine wpList_append_ran _ _ rfl (.tmp 24) (.tmp 25) 61 rfl _ _ _ rfl rfl r1 ?_) | (refine wpList_append_ran _ _ rfl (.tmp 26) (.tmp 27) 61 rfl _ _ _ rfl rfl r2 ?_))
  refine (C0.out _ (H0.out.below B9.out)).mono ?_
  rintro e w1 ⟨rfl, hb1⟩
  have D1 := Lib.hid (B9.out.trans (hb1.mono B9.out.size))
  have R1 := Lib.hid (R9.out.below hb1)
  clear r1 r2 hb1
  go_wp2_with fail
  refine (C1.out _ (H1.out.below D1.out)).mono ?_
  rintro e w2 ⟨rfl, hb2⟩
  have D2 := Lib.hid (D1.out.trans (hb2.mono D1.out.size))
  have R2 := Lib.hid (R1.out.below hb2)
  clear hb2
  go_wp2_with fail
  refine (C2.out _ R2.out).mono ?_
  rintro e w3 ⟨rfl, hb3⟩
  have D3 := Lib.hid (D2.out.trans (hb3.mono D2.out.size))
  have R3 := Lib.hid (R2.out.below hb3)
  clear hb3
  obtain ⟨W0, hW0⟩ : ∃ W0, ((w3.alloc (.cells Try.zeroCells62 62)).alloc (.cells Try.zeroCells62 62)).alloc (.cells Try.zeroCells62 62) = W0 := ⟨_, rfl⟩
  obtain ⟨l1, l2, l3, l4⟩ := three_new _ _ _ _ hW0
  obtain ⟨W1, hW1⟩ : ∃ W1, W0.setRow w3.heap.size (cntV f0) = W1 := ⟨_, rfl⟩
  have m1' := lies_row l1 hW1
  have m2' := lies_rowFar l2 (by omega) hW1
  have m3' := lies_rowFar l3 (by omega) hW1
  have m4' := below_row l4 (Nat.le_refl _) hW1
  obtain ⟨W2, hW2⟩ : ∃ W2, W1.setRow (w3.heap.size + 1) (cntV f1) = W2 := ⟨_, rfl⟩
  have n1 := lies_rowFar m1' (by omega) hW2
  have n2 := lies_row m2' hW2
  have n3 := lies_rowFar m3' (by omega) hW2
  have n4 := below_row m4' (by omega) hW2
  obtain ⟨W3, hW3⟩ : ∃ W3, W2.setRow (w3.heap.size + 2) (cntV f2) = W3 := ⟨_, rfl⟩
  have E1 := Lib.hid l1
  have E2 := Lib.hid m2'
  have E3 := Lib.hid n3
  have P0 := Lib.hid (lies_rowFar n1 (by omega) hW3)
  have P1 := Lib.hid (lies_rowFar n2 (by omega) hW3)
  have P2 := Lib.hid (lies_row n3 hW3)
  have hb4 := below_row n4 (by omega) hW3
  have D4 := Lib.hid (D3.out.trans (hb4.mono D3.out.size))
  have R4 := Lib.hid (R3.out.below hb4)
  clear l1 l2 l3 l4 m1' m2' m3' m4' n1 n2 n3 n4 hb4
  go_wp2_with (first | (refine wpList_store_row rfl 62 (.tmp 6) (.tmp 30) rfl w3.heap.size (cntV f0) rfl rfl 62 _ E1.out (cnt_info.trans (congrArg some S0.out.symm)) (by rw [S0.out]; exact zero_size) N0.out ?_; rw [hW1]) | (refine wpList_store_row rfl 62 (.tmp 7) (.tmp 32) rfl (w3.heap.size + 1) (cntV f1) rfl rfl 62 _ E2.out (cnt_info.trans (congrArg some S1.out.symm)) (by rw [S1.out]; exact zero_size) N1.out ?_; rw [hW2]) | (refine wpList_store_row rfl 62 (.tmp 8) (.tmp 34) rfl (w3.heap.size + 2) (cntV f2) rfl rfl 62 _ E3.out (cnt_info.trans (congrArg some S2.out.symm)) (by rw [S2.out]; exact zero_size) N2.out ?_; rw [hW3]))
  go_loopw [9] (fun i wr => ∃ k : Nat, k ≤ 65 ∧ i = .int .i64 k ∧ ∃ q, wr = W3.drewN q) (fun i _ => 65 - (intOf i).toNat)
  case atStart => exact ⟨0, by omega, rfl, 0, rfl⟩
  case round =>
    obtain ⟨k, hk, rfl, qd, rfl⟩ := hrel
    have hd := below_drawn D4.out qd
    have hR := RowOf.drawn R4.out qd
    have hP0 := P0.out.drawn qd
    have hP1 := P1.out.drawn qd
    have hP2 := P2.out.drawn qd
    have HW := Lib.hid (show ∀ m, (W3.drewN qd).drewN m = W3.drewN (qd + m) from fun m => World.drewN_drewN ..)
    generalize W3.drewN qd = V at *
    by_cases hk65 : k < 65
    · have k1 : (k : Int) < 65 := by omega
      have k0 : (0 : Int) ≤ k := by omega
      have kn : ((k : Nat) : Int).toNat = k := by omega
      have c0 : V.cell? ⟨w3.heap.size, k, none⟩ = some (.int .i64 (f0 k)) := (hP0.cell k).trans (T0.out k hk65)
      have c1 : V.cell? ⟨w3.heap.size + 1, k, none⟩ = some (.int .i64 (f1 k)) := (hP1.cell k).trans (T1.out k hk65)
      have c2 : V.cell? ⟨w3.heap.size + 2, k, none⟩ = some (.int .i64 (f2 k)) := (hP2.cell k).trans (T2.out k hk65)
      rw [CA.out k] at c2
      obtain ⟨u0, u1⟩ := B0.out k
      obtain ⟨u2, u3⟩ := B1.out k
      have u4 : IntKind.i64.wrap (f0 k + f1 k) = f0 k + f1 k := IntWalk.i64_in _ (by omega)
      clear hd hR hP0 hP1 hP2
      generalize f0 k = g0 at *
      generalize f1 k = g1 at *
      have en : ((g0 + g1) != (g0 + g1)) = false := by simp
      go_wp2
      go_quiet (fail)
      go_wp2
      go_roundw
      case rel => exact ⟨k + 1, by omega, by go_num, _, HW.out _⟩
      case measure => simp [intOf]; omega
    · obtain rfl : k = 65 := by omega
      have D5 := Lib.hid hd
      have R5 := Lib.hid hR
      clear hP0 hP1 hP2 hd hR
      go_wp2_with fail
      refine (K0.out _ (H0.out.below D5.out)).mono ?_
      rintro e w4 ⟨v4, rfl, ho, hb⟩
      obtain ⟨x4, c4, rfl, r4, _⟩ := own_reads' ho
      have L0 := Lib.hid (L0.out x4 c4 w4 r4)
      have D6 := Lib.hid (D5.out.trans (hb.mono D5.out.size))
      have R6 := Lib.hid (R5.out.below hb)
      clear ho hb r4
      go_wp2_with (go_at_call 45; refine L0.out.mono ?_; rintro e w5 ⟨rfl, rfl⟩)
      refine (K1.out _ (H1.out.below D6.out)).mono ?_
      rintro e w5 ⟨v5, rfl, ho, hb⟩
      obtain ⟨x5, c5, rfl, r5, _⟩ := own_reads' ho
      have L1 := Lib.hid (L1.out x5 c5 w5 r5)
      have D7 := Lib.hid (D6.out.trans (hb.mono D6.out.size))
      have R7 := Lib.hid (R6.out.below hb)
      clear ho hb r5
      go_wp2_with (go_at_call 45; refine L1.out.mono ?_; rintro e w6 ⟨rfl, rfl⟩)
      refine (K2.out _ R7.out).mono ?_
      rintro e w6 ⟨v6, rfl, ho, hb⟩
      obtain ⟨x6, c6, rfl, r6, _⟩ := own_reads' ho
      have L2 := Lib.hid (L2.out x6 c6 w6 r6)
      have D8 := Lib.hid (D7.out.trans (hb.mono D7.out.size))
      have R8 := Lib.hid (R7.out.below hb)
      clear ho hb r6
      have M0 := Lib.hid (M0.out w6 (H0.out.below D8.out))
      have M1 := Lib.hid (M1.out w6 (H1.out.below D8.out))
      have M2 := Lib.hid (M2.out w6 R8.out)
      rw [HMM.out] at M2
      clear HMM
      rcases ST.out with ⟨rfl, rfl, rfl⟩ | ⟨rfl, rfl, rfl, rfl⟩ | ⟨rfl, rfl, rfl, rfl⟩ | ⟨rfl, rfl, rfl, rfl, hs1⟩ | ⟨rfl, rfl, rfl, rfl, hs1, hs2⟩
      all_goals
        clear ST hk hk65 hW0 hW1 hW2 hW3
        have hmx : ((max m0 m1 : Nat) : Int) = max (m0 : Int) (m1 : Int) := by omega
        go_wp2_with (first | rw [if_pos hmx] | (go_at_call 45; refine L2.out.mono ?_; rintro e w7 ⟨rfl, rfl⟩) | (go_at_call 36; ((with_reducible refine M2.out.mono ?_); rintro e w7 ⟨rfl, rfl⟩)) | (go_at_call 36; ((with_reducible refine M0.out.mono ?_); rintro e w7 ⟨rfl, rfl⟩)) | (go_at_call 36; ((with_reducible refine M1.out.mono ?_); rintro e w7 ⟨rfl, rfl⟩)) | (go_at_call 39; refine (awake6_any _).mono ?_; rintro e w7 ⟨rfl, hb⟩; have D9 := Lib.hid (D8.out.trans (hb.mono D8.out.size)); clear hb))
      all_goals
        go_ret
        exact ⟨rfl, D9.out⟩
theorem walk (a0 : Option Addr) (len0 cap0 : Nat) (z0 : List Int) (a1 : Option Addr) (len1 cap1 : Nat) (z1 : List Int) (w : World) (b0 : IsRow .u64 w a0 len0 cap0 z0) (b1 : IsRow .u64 w a1 len1 cap1 z1) :
    Calls Try.prog 8 #[.slice a0 len0 cap0, .slice a1 len1 cap1] w fun e w' => e = .returned (.bool true) ∧ Below w.heap.size w w' := by
  by_cases h : 200 < len0 ∨ 200 < len1
  · exact long a0 a1 len0 cap0 len1 cap1 w h
  · exact main a0 a1 len0 cap0 len1 cap1 _ _ (by omega) (by omega) (isrow_u64 b0).2 (isrow_u64 b1).2 w (isrow_u64 b0).1 (isrow_u64 b1).1
theorem own : ownKnob Try.prog.godebug = none := by kernel_rfl
set_option maxRecDepth 100000 in
theorem contract (H : Type) (enc : TypeId × Value → H) (W : World) (base : Nat) (args : Array Value) (ds gs : List (DataW H)) (before : List MemPlace)
    (hval : ∀ (j : Nat) t v, Try.f8.params[j]? = some t → args[j]? = some v → Value.okWide Try.prog W .any base t v)
    (hW : DataW.Whole enc Try.prog Try.f8.params.toList Rows.widthJoinsSpec.vars false W args.toList ds gs before) :
    Calls Try.prog 8 args W fun e W' => ∃ v, e = .returned v ∧ Rows.widthJoinsSpec.post enc Try.prog Try.f8 false true false false W args v W' := by
  have hW' := hW
  obtain ⟨p, q, hA0, hV, rfl, hfz, hnd⟩ := hW
  have hA : DataW.TrodAll enc Try.prog W 0 (fun _ => true) true Try.f8.params.toList args.toList ds p := hA0
  rw [Try.params8] at hA hval
  obtain ⟨v0, vs0, d0, ds0, p0, q0, hargs, rfl, rfl, h0, r0⟩ := trodAll_cons hA
  obtain ⟨v1, vs1, d1, ds1, p1, q1, rfl, rfl, rfl, h1, r1⟩ := trodAll_cons r0
  obtain ⟨rfl, rfl, rfl⟩ := trodAll_nil r1
  obtain rfl : args = #[v0, v1] := by cases args; simp_all
  obtain ⟨rfl, rfl⟩ := trodVars_none hV
  have hWhole := hW'
  obtain ⟨a0, len0, cap0, rfl⟩ := okWide_slice Try.underlying61 (hval 0 61 v0 rfl rfl)
  have k0 := h0
  have lt0 : ∀ x ∈ p0, x.block < W.heap.size := by obtain ⟨m, hm⟩ := k0; exact DataW.trod_lt m _ _ _ hm
  obtain ⟨z0, b0⟩ : ∃ zs, IsRow .u64 W a0 len0 cap0 zs := by
    obtain ⟨fuel, hf⟩ := h0
    rcases open_ints Try.underlying61 Try.underlying50 (by kernel_rfl) hf with ⟨hcs, _⟩ | ⟨x, l, c, zs, hcs, _, hl, hm, hz, _, hcell, hwz⟩
    · simp [Value.cells] at hcs
      obtain ⟨rfl, rfl, rfl⟩ := hcs
      exact ⟨[], isRow_nil _ _⟩
    · simp [Value.cells] at hcs
      obtain ⟨rfl, rfl, rfl⟩ := hcs
      exact ⟨zs, isRow_of hl hm (by simpa using hz) hcell hwz⟩
  obtain ⟨a1, len1, cap1, rfl⟩ := okWide_slice Try.underlying61 (hval 1 61 v1 rfl rfl)
  have k1 := h1
  have lt1 : ∀ x ∈ p1, x.block < W.heap.size := by obtain ⟨m, hm⟩ := k1; exact DataW.trod_lt m _ _ _ hm
  obtain ⟨z1, b1⟩ : ∃ zs, IsRow .u64 W a1 len1 cap1 zs := by
    obtain ⟨fuel, hf⟩ := h1
    rcases open_ints Try.underlying61 Try.underlying50 (by kernel_rfl) hf with ⟨hcs, _⟩ | ⟨x, l, c, zs, hcs, _, hl, hm, hz, _, hcell, hwz⟩
    · simp [Value.cells] at hcs
      obtain ⟨rfl, rfl, rfl⟩ := hcs
      exact ⟨[], isRow_nil _ _⟩
    · simp [Value.cells] at hcs
      obtain ⟨rfl, rfl, rfl⟩ := hcs
      exact ⟨zs, isRow_of hl hm (by simpa using hz) hcell hwz⟩
  clear hA0
  refine (walk a0 len0 cap0 z0 a1 len1 cap1 z1 W b0 b1).mono fun e W' ⟨he, hg⟩ => ?_
  subst he
  exact ⟨_, rfl, _, _, _, [], _, [], hW', trodAll_mk1 (shut_bool Try.underlying4 _), (trodAll_cons_mk (Below.trod laidOut (by kernel_rfl) (of_decide_eq_true (by kernel_rfl)) k0 hg lt0) (trodAll_cons_mk (Below.trod laidOut (by kernel_rfl) (of_decide_eq_true (by kernel_rfl)) k1 hg lt1) trodAll_mk0)), rfl, hg.frame _, fun h => by cases h⟩

set_option maxRecDepth 100000 in
theorem lifted (os : Os) (started : os.Started) (H : Type) (enc : TypeId × Value → H) :
    ReturnsInHanded {} Try.checked os 8 .any (Rows.widthJoinsSpec.pre6 enc Try.prog Try.f8 Rows.widthJoinsRow.domain false) (Rows.widthJoinsSpec.post enc Try.prog Try.f8 false true false false) := by
  refine returnsInHanded_of_change (C := Try.checked) own started (by kernel_rfl) Try.func8
    (ChangeSpec.witness6 (enc := enc) (C := Try.checked) false ⟨#[], #[.slice none 0 0, .slice none 0 0], []⟩ 8 (by kernel_rfl) (by kernel_rfl) (by kernel_rfl) (by kernel_rfl)) ?_
  intro W base args ds gs before hval hW _ _
  exact contract H enc W base args ds gs before hval hW

/-- ████ THE STATEMENT ████ -/
theorem proved : Rows.WidthJoinsSaid :=
  OpenClaim.holds_of_wide 8 Try.f8 rfl rfl rfl rfl rfl rfl rfl ⟨rfl, rfl, rfl, rfl, rfl⟩ rfl rfl rfl rfl rfl (by kernel_rfl) Try.func8 (by kernel_rfl)
    (of_decide_eq_true (by kernel_rfl)) (by unfold Func.isWrapper; first | (rw [if_pos (by decide +kernel)]; kernel_rfl) | (rw [if_neg (by decide +kernel)]; exact ⟨rfl, rfl⟩))
    (fun os started H enc _ => lifted os started H enc)
end Go.Proofs.Ytjdcafeljdnfeaa.widthJoins
