/-
  THE STATEMENT corduroylaw09.SimpleBound: for any numbers and one more the call returns true and leaves its argument as it was. Condition: the table of shapes reads as its initialiser laid it (the card ties it).
-/
import Derived.Test.YtelcaejiipibpaaDoorCards
import Derived.Test.YtelcaejiipibpaaDoorTie
import Derived.Test.YtelcaejiipibpaaDoorSimpleG
import Derived.Test.YtelcaejiipibpaaDoorSimpleH
import Derived.Test.YtelcaejiipibpaaDoorSimpleL
import Derived.Test.YtelcaejiipibpaaDoorWidA
import Derived.Test.YtelcaejiipibpaaDoorIsRow
namespace Go.Proofs.YtelcaejiipibpaaDoor.simpleBound
open Go.ChangeShapes Go.WideShapes Go.ChangeAt Go.RowKit
set_option linter.unusedVariables false
set_option linter.unusedSimpArgs false
theorem out_any (a : Option Addr) (n cap : Nat) (y : Int) (hn : ¬ (1 ≤ n ∧ n ≤ 1023)) (w : World) :
    Calls Tryd.prog 7 #[.slice a n cap, .int .i64 y] w fun e w' => e = .returned (.bool true) ∧ Below w.heap.size w w' := by
  by_cases h1 : 1023 < n
  · have h' : (1023 : Int) < n := by omega
    go_enter Tryd.func7, Tryd.ntmps7
    go_wp2
    go_ret
    exact ⟨rfl, Below.refl _ _⟩
  · obtain rfl : n = 0 := by omega
    go_enter Tryd.func7, Tryd.ntmps7
    go_wp2
    go_ret
    exact ⟨rfl, Below.refl _ _⟩
/-- The numbers, and one more. -/
def xmore (n : Nat) (x : Nat → Int) (y : Int) (i : Nat) : Int := if i < n then x i else y
theorem rowV_more (n : Nat) (x : Nat → Int) (y : Int) : rowV (fun i => Value.int .i64 (x i)) n ++ [.int .i64 y] = rowV (fun i => .int .i64 (xmore n x y i)) (n + 1) := by
  rw [rowV_succ]
  congr 1
  · exact rowV_congr fun i hi => by unfold xmore; rw [if_pos hi]
  · unfold xmore; rw [if_neg (by omega)]
/-- A row appended to an empty one of one's own, and one number more. -/
theorem append_more (a0 : Option Addr) (n cap : Nat) (x : Nat → Int) (y : Int) (hn : n ≤ 2000) (w : World) (H0 : RowOf (w.alloc (.cells #[] 2)) a0 n (fun i => .int .i64 (x i))) :
    ∃ v1 W1 a' c' W2, (Builtin.append_ #[22, 22] 22 #[.slice (some ⟨w.heap.size, 0, none⟩) 0 0, .slice a0 n cap]).run Tryd.prog (w.alloc (.cells #[] 2)) = .ok v1 W1 ∧
      (Builtin.append_ #[22, 22] 22 #[v1, .slice (some ⟨W1.heap.size, 0, none⟩) 1 1]).run Tryd.prog (W1.alloc (.cells #[.int .i64 y] 2)) = .ok (.slice a' (n + 1) c') W2 ∧ RowOf W2 a' (n + 1) (fun i => .int .i64 (xmore n x y i)) ∧ Below w.heap.size w W2 := by
  obtain ⟨i0, hi, hz0, hz1, hz2⟩ := info_parts i64Info
  have ho : (w.alloc (.cells #[] 2)).ownsRow w.heap.size 2 1 (.slice (some ⟨w.heap.size, 0, none⟩) 0 0) 0 [] := World.ownsRow_lit w #[] 0 (Nat.le_refl _) (by decide) rfl
  have hb0 : Below w.heap.size w (w.alloc (.cells #[] 2)) := (Below.refl _ _).alloc (Nat.le_refl _) _
  obtain ⟨v1, W1, r1, o1, g1, _⟩ := run_append_row (P := Tryd.prog) (w.alloc (.cells #[] 2)) w.heap.size 22 22 2 i0 (.int .i64 0) 8 Tryd.underlying22 hi hz0 hz1 hz2 rfl _ 0 [] ho a0 n cap _ H0 (fun i _ => rfl) (by unfold maxLen; omega) (by omega) (by simp)
  have hb1 : Below w.heap.size w W1 := hb0.grown g1 (by simp) (fun i hi => (ho.lt i hi).1)
  obtain ⟨v2, W2, r2, o2, g2, _⟩ := run_append_row (P := Tryd.prog) (W1.alloc (.cells #[.int .i64 y] 2)) w.heap.size 22 22 2 i0 (.int .i64 0) 8 Tryd.underlying22 hi hz0 hz1 hz2 rfl v1 _ _ (World.ownsRow.alloc o1 _) (some ⟨W1.heap.size, 0, none⟩) 1 1 (fun _ => .int .i64 y) (RowOf.lit W1 _ _ _ 1 rfl (fun i hi => by
    match i, hi with
    | 0, _ => rfl)) (fun i _ => rfl) (by unfold maxLen; omega) (by omega) (by have := hb1.size; simp; omega)
  have hb2 : Below w.heap.size w W2 := (hb1.alloc hb1.size _).grown g2 (by have := hb1.size; simp; omega) (fun i hi => (o1.lt i hi).1)
  rw [Nat.zero_add, List.nil_append, show rowV (fun _ => Value.int .i64 y) 1 = [.int .i64 y] from rfl, rowV_more] at o2
  obtain ⟨a', c', rfl, hr, _⟩ := own_reads' o2
  exact ⟨v1, W1, a', c', W2, r1, r2, hr, hb2⟩
theorem sFits_congr {z z' : Nat → Nat} {n : Nat} (s : Nat) (h : ∀ i, i < n → z i = z' i) : sFits z n s = sFits z' n s := by
  rw [Bool.eq_iff_iff, sFits_iff, sFits_iff]
  constructor <;> rintro ⟨h1, h2⟩ <;> refine ⟨h1, fun i hi => ?_⟩
  · rw [← h i (by omega)]; exact h2 i hi
  · rw [h i (by omega)]; exact h2 i hi
theorem sFrom_congr {z z' : Nat → Nat} {n : Nat} (h : ∀ i, i < n → z i = z' i) : ∀ f s, sFrom z n f s = sFrom z' n f s
  | 0, s => rfl
  | f + 1, s => by unfold sFrom; rw [sFits_congr s h, sFrom_congr h f (s + 1)]
theorem sAt_congr {z z' : Nat → Nat} (n : Nat) (h : ∀ i, i < n → z i = z' i) : ∀ k, sAt z n k = sAt z' n k
  | 0 => rfl
  | k + 1 => by
    have e := sAt_congr n h k
    show (if sAt z n k < n then _ else _) = (if sAt z' n k < n then _ else _)
    rw [e]
    by_cases hk : sAt z' n k < n
    · rw [if_pos hk, if_pos hk]
      unfold sSel
      rw [sFrom_congr (z := fun i => z (sAt z' n k + i)) (z' := fun i => z' (sAt z' n k + i)) (fun i hi => h _ (by omega))]
    · rw [if_neg hk, if_neg hk]
section
variable (a : Option Addr) (n cap : Nat) (y : Int) (x x' : Nat → Int) (L1 L2 : Int) (w : World) (hn1 : 1 ≤ n) (hn2 : n ≤ 1023)
  (AW : RowKit.Hid (∀ W : World, Below w.heap.size w W → Calls Tryd.prog 12 #[] W fun e w' => e = .returned (.bool true) ∧ Below W.heap.size W w'))
  (S0 : RowKit.Hid (∀ W : World, Below w.heap.size w W → Calls Tryd.prog 19 #[.agg #[], .slice a n cap] W fun e w' => e = .returned (.int .i64 L1) ∧ Below W.heap.size W w'))
  (S1 : RowKit.Hid (∀ a' c' W, RowOf W a' (n + 1) (fun i => .int .i64 (x' i)) → Below w.heap.size w W → Calls Tryd.prog 19 #[.agg #[], .slice a' (n + 1) c'] W fun e w' => e = .returned (.int .i64 L2) ∧ Below W.heap.size W w'))
  (AP : RowKit.Hid (∀ W : World, Below w.heap.size w W → ∃ v1 W1 a' c' W2, (Builtin.append_ #[22, 22] 22 #[.slice (some ⟨W.heap.size, 0, none⟩) 0 0, .slice a n cap]).run Tryd.prog (W.alloc (.cells #[] 2)) = .ok v1 W1 ∧
      (Builtin.append_ #[22, 22] 22 #[v1, .slice (some ⟨W1.heap.size, 0, none⟩) 1 1]).run Tryd.prog (W1.alloc (.cells #[.int .i64 y] 2)) = .ok (.slice a' (n + 1) c') W2 ∧ RowOf W2 a' (n + 1) (fun i => .int .i64 (x' i)) ∧ Below W.heap.size W W2))
include hn1 hn2 AW S0
set_option maxRecDepth 100000 in
set_option maxHeartbeats 2000000 in
theorem none_ (T1 : RowKit.Hid (∀ W : World, Below w.heap.size w W → Calls Tryd.prog 9 #[.slice a n cap] W fun e w' => e = .returned (.bool false) ∧ Below W.heap.size W w')) (h0 : L1 = 0) :
    Calls Tryd.prog 7 #[.slice a n cap, .int .i64 y] w fun e w' => e = .returned (.bool true) ∧ Below w.heap.size w w' := by
  have h1 : ¬ (1023 : Int) < n := by omega
  have h2 : ¬ (n : Int) = 0 := by omega
  subst h0
  go_enter Tryd.func7, Tryd.ntmps7
  go_wp2_with (first
    | (go_at_call 19; refine (S0.out _ (Below.refl _ _)).mono ?_; clear S0; rintro e w1 ⟨rfl, hb⟩; have HB1 := Lib.hid hb; clear hb)
    | (go_at_call 9; refine (T1.out _ HB1.out).mono ?_; clear T1; rintro e w2 ⟨rfl, hb⟩;  have HB2 := Lib.hid (HB1.out.trans (hb.mono HB1.out.size)); clear hb)
    | (go_at_call 12; refine (AW.out _ HB2.out).mono ?_; rintro e w9 ⟨rfl, hb⟩; have HB9 := Lib.hid (HB2.out.trans (hb.mono HB2.out.size)); clear hb))
  go_ret
  exact ⟨rfl, HB9.out⟩
include S1 AP
set_option maxRecDepth 100000 in
set_option maxHeartbeats 2000000 in
theorem one_ (T1 : RowKit.Hid (∀ W : World, Below w.heap.size w W → Calls Tryd.prog 9 #[.slice a n cap] W fun e w' => e = .returned (.bool true) ∧ Below W.heap.size W w'))
    (T2 : RowKit.Hid (∀ W : World, Calls Tryd.prog 9 #[.slice (some ⟨W.heap.size, 0, none⟩) 1 1] (W.alloc (.cells #[.int .i64 y] 2)) fun e w' => e = .returned (.bool false) ∧ Below (W.alloc (.cells #[.int .i64 y] 2)).heap.size (W.alloc (.cells #[.int .i64 y] 2)) w')) (h0 : 0 < L1) (h3 : L2 = 0) :
    Calls Tryd.prog 7 #[.slice a n cap, .int .i64 y] w fun e w' => e = .returned (.bool true) ∧ Below w.heap.size w w' := by
  have h1 : ¬ (1023 : Int) < n := by omega
  have h2 : ¬ (n : Int) = 0 := by omega
  subst h3
  go_enter Tryd.func7, Tryd.ntmps7
  go_wp2_with (first
    | (go_at_call 19; refine (S0.out _ (Below.refl _ _)).mono ?_; clear S0; rintro e w1 ⟨rfl, hb⟩; have HB1 := Lib.hid hb; clear hb)
    | (go_at_call 9; refine (T1.out _ HB1.out).mono ?_; clear T1; rintro e w2 ⟨rfl, hb⟩; obtain ⟨v1, W1, a', c', W2, r1, r2, hr8, hb8⟩ := AP.out w2 (HB1.out.trans (hb.mono HB1.out.size)); have HRUN1 := Lib.hid r1; have HRUN2 := Lib.hid r2; have HR8 := Lib.hid hr8; have HB8 := Lib.hid ((HB1.out.trans (hb.mono HB1.out.size)).trans (hb8.mono (HB1.out.trans (hb.mono HB1.out.size)).size)); clear r1 r2 hr8 hb8; have HB2 := Lib.hid (HB1.out.trans (hb.mono HB1.out.size)); clear hb)
    | (at_builtin; go_must (first | (refine wpList_append_ran _ _ rfl _ _ 22 rfl _ _ _ rfl rfl HRUN1.out ?_) | (refine wpList_append_ran _ _ rfl _ _ 22 rfl _ _ _ rfl rfl HRUN2.out ?_)))
    | (go_at_call 19; refine (S1.out _ _ _ HR8.out HB8.out).mono ?_; clear S1; rintro e w3 ⟨rfl, hb⟩; have HB3 := Lib.hid (HB8.out.trans (hb.mono HB8.out.size)); have HA3 := Lib.hid (HB3.out.alloc HB3.out.size (.cells #[.int .i64 y] 2)); have TW := Lib.hid (T2.out w3); clear hb)
    | (go_at_call 9; refine TW.out.mono ?_; rintro e w4 ⟨rfl, hb⟩; have HB4 := Lib.hid (HA3.out.trans (hb.mono HA3.out.size)); clear hb)
    | (go_at_call 12; refine (AW.out _ HB4.out).mono ?_; rintro e w9 ⟨rfl, hb⟩; have HB9 := Lib.hid (HB4.out.trans (hb.mono HB4.out.size)); clear hb))
  go_ret
  exact ⟨rfl, HB9.out⟩
set_option maxRecDepth 100000 in
set_option maxHeartbeats 2000000 in
theorem both (T1 : RowKit.Hid (∀ W : World, Below w.heap.size w W → Calls Tryd.prog 9 #[.slice a n cap] W fun e w' => e = .returned (.bool true) ∧ Below W.heap.size W w'))
    (T2 : RowKit.Hid (∀ W : World, Calls Tryd.prog 9 #[.slice (some ⟨W.heap.size, 0, none⟩) 1 1] (W.alloc (.cells #[.int .i64 y] 2)) fun e w' => e = .returned (.bool true) ∧ Below (W.alloc (.cells #[.int .i64 y] 2)).heap.size (W.alloc (.cells #[.int .i64 y] 2)) w'))
    (r1 : L1 % 8 = 0) (r2 : L2 % 8 = 0) (g1 : 8 ≤ L1) (g2 : 8 ≤ L2) (l1 : L1 ≤ 8 * (n : Int)) (l2 : L2 ≤ L1 + 8) :
    Calls Tryd.prog 7 #[.slice a n cap, .int .i64 y] w fun e w' => e = .returned (.bool true) ∧ Below w.heap.size w w' := by
  have h1 : ¬ (1023 : Int) < n := by omega
  have h2 : ¬ (n : Int) = 0 := by omega
  have p1 : L1.tmod 8 = 0 := by rw [Int.tmod_eq_emod_of_nonneg (by omega)]; exact r1
  have p2 : L2.tmod 8 = 0 := by rw [Int.tmod_eq_emod_of_nonneg (by omega)]; exact r2
  have k1 : L1 ≤ 8184 := by omega
  go_enter Tryd.func7, Tryd.ntmps7
  go_wp2_with (first
    | (go_at_call 19; refine (S0.out _ (Below.refl _ _)).mono ?_; clear S0; rintro e w1 ⟨rfl, hb⟩; have HB1 := Lib.hid hb; clear hb)
    | (go_at_call 9; refine (T1.out _ HB1.out).mono ?_; clear T1; rintro e w2 ⟨rfl, hb⟩; obtain ⟨v1, W1, a', c', W2, r1, r2, hr8, hb8⟩ := AP.out w2 (HB1.out.trans (hb.mono HB1.out.size)); have HRUN1 := Lib.hid r1; have HRUN2 := Lib.hid r2; have HR8 := Lib.hid hr8; have HB8 := Lib.hid ((HB1.out.trans (hb.mono HB1.out.size)).trans (hb8.mono (HB1.out.trans (hb.mono HB1.out.size)).size)); clear r1 r2 hr8 hb8; have HB2 := Lib.hid (HB1.out.trans (hb.mono HB1.out.size)); clear hb)
    | (at_builtin; go_must (first | (refine wpList_append_ran _ _ rfl _ _ 22 rfl _ _ _ rfl rfl HRUN1.out ?_) | (refine wpList_append_ran _ _ rfl _ _ 22 rfl _ _ _ rfl rfl HRUN2.out ?_)))
    | (go_at_call 19; refine (S1.out _ _ _ HR8.out HB8.out).mono ?_; clear S1; rintro e w3 ⟨rfl, hb⟩; have HB3 := Lib.hid (HB8.out.trans (hb.mono HB8.out.size)); have HA3 := Lib.hid (HB3.out.alloc HB3.out.size (.cells #[.int .i64 y] 2)); have TW := Lib.hid (T2.out w3); clear hb)
    | (go_at_call 9; refine TW.out.mono ?_; rintro e w4 ⟨rfl, hb⟩; have HB4 := Lib.hid (HA3.out.trans (hb.mono HA3.out.size)); clear hb)
    | (go_at_call 12; refine (AW.out _ HB4.out).mono ?_; rintro e w9 ⟨rfl, hb⟩; have HB9 := Lib.hid (HB4.out.trans (hb.mono HB4.out.size)); clear hb))
  go_ret
  exact ⟨rfl, HB9.out⟩
end
theorem main (a : Option Addr) (n cap : Nat) (y : Int) (x : Nat → Int) (hx : ∀ i, i < n → -9223372036854775808 ≤ x i ∧ x i ≤ 9223372036854775807) (hy : -9223372036854775808 ≤ y ∧ y ≤ 9223372036854775807) (hn1 : 1 ≤ n) (hn2 : n ≤ 1023) (w : World) (h : RowOf w a n (fun i => .int .i64 (x i))) (hT : SW w) :
    Calls Tryd.prog 7 #[.slice a n cap, .int .i64 y] w fun e w' => e = .returned (.bool true) ∧ Below w.heap.size w w' := by
  have hb1 : blk n = true := decide_eq_true ⟨by omega, by omega⟩
  have hb2 : blk ((n + 1 : Nat) : Int) = true := decide_eq_true ⟨by omega, by omega⟩
  have hx' : ∀ i, i < n + 1 → -9223372036854775808 ≤ xmore n x y i ∧ xmore n x y i ≤ 9223372036854775807 := fun i hi => by
    unfold xmore
    split
    · exact hx i (by assumption)
    · exact hy
  have AW := Lib.hid (fun W (hb : Below w.heap.size w W) => awake09_any W (hT.below hb))
  have AP := Lib.hid (fun W (hb : Below w.heap.size w W) => append_more a n cap x y (by omega) W (h.below (hb.alloc hb.size _)))
  have T1 := fun W (hb : Below w.heap.size w W) => rstakes_any a n cap x (by omega) hx W (h.below hb)
  have T2 := fun W : World => rstakes_any (some ⟨W.heap.size, 0, none⟩) 1 1 (fun _ => y) (by omega) (fun _ _ => hy) (W.alloc (.cells #[.int .i64 y] 2)) (RowOf.lit W _ _ _ 1 rfl (fun i hi => by
    match i, hi with
    | 0, _ => rfl))
  cases ho : sOk x n
  · rw [ho] at T1
    exact none_ a n cap y 0 w hn1 hn2 AW (Lib.hid fun W hb => ssize_out a n cap x hx (by rw [hb1, ho]; rfl) W (h.below hb)) (Lib.hid T1) rfl
  · rw [ho] at T1
    have z1 := (sOk_iff x n).1 ho
    obtain ⟨P, hP1, hP2, hP3⟩ := words_of x n ho
    have hP0 : 1 ≤ P := by
      rcases Nat.eq_zero_or_pos P with e | e
      · subst e; have : sAt (hz x) n 0 = 0 := rfl; omega
      · exact e
    have S0 := Lib.hid (fun W (hb : Below w.heap.size w W) => ssize_in a n cap P x hx hb1 ho hP1 hP2 hP3 W (h.below hb) (hT.below hb))
    cases hy1 : sOk (fun _ => y) 1
    · rw [hy1] at T2
      have ho' : sOk (xmore n x y) (n + 1) = false := by
        cases e : sOk (xmore n x y) (n + 1)
        · rfl
        · have := (sOk_iff _ _).1 e n (by omega)
          have hq : sOk (fun _ => y) 1 = true := (sOk_iff _ _).2 fun i hi => by
            have e2 : hz (xmore n x y) n = hz (fun _ => y) i := by unfold hz xmore; rw [if_neg (by omega)]
            rw [← e2]; exact this
          rw [hy1] at hq; cases hq
      exact one_ a n cap y (xmore n x y) _ 0 w hn1 hn2 AW S0 (Lib.hid fun a' c' W hr hb => ssize_out a' (n + 1) c' _ hx' (by rw [hb2, ho']; rfl) W hr) AP (Lib.hid T1) (Lib.hid T2) (by omega) rfl
    · rw [hy1] at T2
      have z2 := (sOk_iff _ _).1 hy1 0 (by omega)
      have hz2 : ∀ i, i < n + 1 → hz (xmore n x y) i < 2 ^ 60 := fun i hi => by
        by_cases hin : i < n
        · have e2 : hz (xmore n x y) i = hz x i := by unfold hz xmore; rw [if_pos hin]
          rw [e2]; exact z1 i hin
        · have e2 : hz (xmore n x y) i = hz (fun _ => y) 0 := by unfold hz xmore; rw [if_neg hin]
          rw [e2]; exact z2
      have ho' : sOk (xmore n x y) (n + 1) = true := (sOk_iff _ _).2 hz2
      obtain ⟨Q, hQ1, hQ2, hQ3⟩ := words_of (xmore n x y) (n + 1) ho'
      have hQ0 : 1 ≤ Q := by
        rcases Nat.eq_zero_or_pos Q with e | e
        · subst e; have : sAt (hz (xmore n x y)) (n + 1) 0 = 0 := rfl; omega
        · exact e
      have hcg : ∀ k, sAt (hz (xmore n x y)) n k = sAt (hz x) n k := sAt_congr n fun i hi => by unfold hz xmore; rw [if_pos hi]
      have hQP := s_more hz2 ((hcg P).trans hP2) (fun k hk => by rw [hcg]; exact hP3 k hk) hQ3
      exact both a n cap y (xmore n x y) _ _ w hn1 hn2 AW S0 (Lib.hid fun a' c' W hr hb => ssize_in a' (n + 1) c' Q _ hx' hb2 ho' hQ1 hQ2 hQ3 W hr (hT.below hb)) AP (Lib.hid T1) (Lib.hid T2) (by omega) (by omega) (by omega) (by omega) (by omega) (by omega)
theorem walk (a : Option Addr) (n cap : Nat) (zs : List Int) (a1 : Int) (W : World) (b : IsRow .i64 W a n cap zs) (b1 : -9223372036854775808 ≤ a1 ∧ a1 ≤ 9223372036854775807) (h5 : SW W) :
    Calls Tryd.prog 7 #[.slice a n cap, .int .i64 a1] W fun e w' => e = .returned (.bool true) ∧ Below W.heap.size W w' := by
  obtain ⟨d1, d2, d3, d4, d5⟩ := b
  by_cases hn : 1 ≤ n ∧ n ≤ 1023
  · refine main a n cap a1 (fun i => zs.getD i 0) (fun i hi => bounds_i64 (d4 (zs.getD i 0) (by rw [List.getD_eq_getElem?_getD, List.getElem?_eq_getElem (by omega)]; simp))) b1 hn.1 hn.2 W ?_ h5
    rcases d5 with d5 | ⟨b, off, rfl, hb, hc⟩
    · exact .inl (by omega)
    · exact .inr ⟨b, off, rfl, fun i hi => hc i (by omega)⟩
  · exact out_any a n cap a1 hn W
theorem own : ownKnob Tryd.prog.godebug = none := by kernel_rfl
set_option maxRecDepth 100000 in
theorem contract (H : Type) (enc : TypeId × Value → H) (W : World) (base : Nat) (args : Array Value) (ds gs : List (DataW H)) (before : List MemPlace)
    (hval : ∀ (j : Nat) t v, Tryd.f7.params[j]? = some t → args[j]? = some v → Value.okWide Tryd.prog W .any base t v)
    (hW : DataW.Whole enc Tryd.prog Tryd.f7.params.toList Rows.simpleBoundSpec.vars false W args.toList ds gs before) (hL : laidMetH Tryd.prog Rows.simpleBoundRow.laid W) :
    Calls Tryd.prog 7 args W fun e W' => ∃ v, e = .returned v ∧ Rows.simpleBoundSpec.post enc Tryd.prog Tryd.f7 false true false false W args v W' := by
  have hW' := hW
  obtain ⟨p, q, hA0, hV, rfl, hfz, hnd⟩ := hW
  have hA : DataW.TrodAll enc Tryd.prog W 0 (fun _ => true) true Tryd.f7.params.toList args.toList ds p := hA0
  rw [Tryd.params7] at hA hval
  obtain ⟨v0, vs0, d0, ds0, p0, q0, hargs, rfl, rfl, h0, r0⟩ := trodAll_cons hA
  obtain ⟨v1, vs1, d1, ds1, p1, q1, rfl, rfl, rfl, h1, r1⟩ := trodAll_cons r0
  obtain ⟨rfl, rfl, rfl⟩ := trodAll_nil r1
  obtain rfl : args = #[v0, v1] := by cases args; simp_all
  obtain ⟨rfl, rfl⟩ := trodVars_none hV
  have hWhole := hW'
  obtain ⟨a0, len0, cap0, rfl⟩ := okWide_slice Tryd.underlying22 (hval 0 22 v0 rfl rfl)
  have k0 := h0
  have lt0 : ∀ x ∈ p0, x.block < W.heap.size := by obtain ⟨m, hm⟩ := k0; exact DataW.trod_lt m _ _ _ hm
  obtain ⟨z0, b0⟩ : ∃ zs, IsRow .i64 W a0 len0 cap0 zs := by
    obtain ⟨fuel, hf⟩ := h0
    rcases open_ints Tryd.underlying22 Tryd.underlying2 (by kernel_rfl) hf with ⟨hcs, _⟩ | ⟨x, l, c, zs, hcs, _, hl, hm, hz, _, hcell, hwz⟩
    · simp [Value.cells] at hcs
      obtain ⟨rfl, rfl, rfl⟩ := hcs
      exact ⟨[], isRow_nil _ _⟩
    · simp [Value.cells] at hcs
      obtain ⟨rfl, rfl, rfl⟩ := hcs
      exact ⟨zs, isRow_of hl hm (by simpa using hz) hcell hwz⟩
  obtain ⟨a1, rfl, rfl, rfl, w1⟩ := open_int Tryd.underlying2 (hval 1 2 v1 rfl rfl) h1
  have b1 := bounds_i64 w1
  clear hA0
  have h5 : SW W := words_of_laid hL
  refine (walk a0 len0 cap0 z0 a1 W b0 b1 h5).mono fun e W' ⟨he, hg⟩ => ?_
  subst he
  exact ⟨_, rfl, _, _, _, [], _, [], hW', trodAll_mk1 (shut_bool Tryd.underlying4 _), (trodAll_cons_mk (Below.trod laidOut (by kernel_rfl) (of_decide_eq_true (by kernel_rfl)) k0 hg lt0) (trodAll_cons_mk (shut_int Tryd.underlying2 w1) trodAll_mk0)), rfl, hg.frame _, fun h => by cases h⟩

theorem laid_met (os : Os) : laidMet Tryd.prog Rows.simpleBoundRow.laid ((laidWorld os).forCall (fun _ _ => 0) ⟨#[], #[.slice none 0 0, .int .i64 0], []⟩).memory :=
  laidMet_of_run' 8 (by kernel_rfl) (by kernel_rfl)
theorem reads (os : Os) {H : Type} (enc : TypeId × Value → H) : ∃ places, DataW.whole enc Tryd.prog ((laidWorld os).forCall (fun _ _ => 0) ⟨#[], #[.slice none 0 0, .int .i64 0], []⟩).memory Tryd.f7.params.toList Rows.simpleBoundSpec.vars false (#[.slice none 0 0, .int .i64 0] : Array Value).toList 8 = some ([.nil, .lit (.int .i64 0)], [], places) :=
  ⟨[], by kernel_rfl⟩

set_option maxRecDepth 100000 in
theorem lifted (os : Os) (started : os.Started) (H : Type) (enc : TypeId × Value → H) (F : Stop.Interp) :
    ReturnsInHanded {} Tryd.checked os 7 .any ((OpenSpec.ofChange Rows.simpleBoundSpec).preRow enc Tryd.prog Tryd.f7 Rows.simpleBoundRow.domain false Rows.simpleBoundRow.laid) (((OpenSpec.ofChange Rows.simpleBoundSpec).at F).post enc Tryd.prog Tryd.f7 false true false false) := by
  obtain ⟨places, hx⟩ := reads os enc
  refine returnsInHanded_of_row (C := Tryd.checked) (s := OpenSpec.ofChange Rows.simpleBoundSpec) own started (by kernel_rfl) Tryd.func7
    (witness_row_at (enc := enc) (C := Tryd.checked) false (laidWorld os) #[.slice none 0 0, .int .i64 0] rfl (by kernel_rfl) (by kernel_rfl) (by kernel_rfl)
      (OpenSpec.preRow_of_cond 8 hx (by kernel_rfl) (fun k hk => by cases hk) (by kernel_rfl) (laid_met os))) ?_
  intro W base args ds gs before hval hW _ _ _ hL _ _
  exact contract H enc W base args ds gs before hval hW hL

theorem said : Rows.SimpleBoundSaid :=
  OpenClaim.holds_of_cond 7 Tryd.f7 rfl rfl rfl rfl rfl rfl rfl ⟨rfl, rfl, rfl, rfl, rfl⟩ rfl rfl rfl rfl rfl (by kernel_rfl) Tryd.func7 (by kernel_rfl)
    (of_decide_eq_true (by kernel_rfl)) (by unfold Func.isWrapper; first | (rw [if_pos (by decide +kernel)]; kernel_rfl) | (rw [if_neg (by decide +kernel)]; exact ⟨rfl, rfl⟩))
    (fun os started H enc _ F => by rw [OpenClaim.pre_eq_preRow]; exact lifted os started H enc F)

theorem plain (f : FuncId) (fn : Func) (hf : Tryd.pinned.checked.prog.funcNamed "corduroy/corduroylaw09.SimpleBound" = some f) (hfn : Tryd.pinned.checked.prog.funcs[f]? = some fn) :
    true = Tryd.pinned.checked.prog.looks [] ∧ ∀ (j : Nat) t, fn.params[j]? = some t → Tryd.pinned.checked.prog.wantsStandIn t = false := by
  obtain rfl : f = 7 := Option.some.inj ((show Tryd.prog.funcNamed "corduroy/corduroylaw09.SimpleBound" = some 7 by kernel_rfl).symm.trans hf) |>.symm
  obtain rfl : fn = Tryd.f7 := (Option.some.inj (Tryd.func7.symm.trans hfn)).symm
  refine ⟨by kernel_rfl, fun j t ht => ?_⟩
  rw [Tryd.params7] at ht
  have hm : t = 22 ∨ t = 2 := by simpa [or_assoc] using Array.mem_of_getElem? ht
  rcases hm with rfl | rfl
  · exact (show Tryd.prog.wantsStandIn 22 = false by kernel_rfl)
  · exact (show Tryd.prog.wantsStandIn 2 = false by kernel_rfl)

/-- ████ THE CARD ████ -/
theorem card : Rows.SimpleBoundCardSaid :=
  Claim7.holds_tied_plain_at .later [] _ _ _ _ said (fun _ h => by cases h) (by kernel_rfl) (fun _ h => by cases h) simpleBound_row_tie rfl ⟨rfl, rfl⟩ (by kernel_rfl) rfl plain (by kernel_rfl)
end Go.Proofs.YtelcaejiipibpaaDoor.simpleBound
