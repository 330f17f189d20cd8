/-
  CONTRACTS OF the document's own Deltas and of Same (of both kinds), of width.Of at 255, and of corduroylaw06.awake, in any world. Conditions: those that each names.
-/
import Derived.Test.YtjdcafeljdnfeaaWidB
import Derived.Test.YtjdcafeljdnfeaaShelf
import Derived.RegionTactic
namespace Go.Proofs.Ytjdcafeljdnfeaa
open Go.RowKit
set_option maxRecDepth 100000 in
theorem sameu (a b : Option Addr) (n m ca cb : Nat) (l r : Nat → Int) (hn : n ≤ 100000) (w : World) (h1 : RowOf w a n (fun i => .int .u64 (l i))) (h2 : RowOf w b m (fun i => .int .u64 (r i))) (x : Bool) (hx : decide (n = m ∧ ∀ i, i < n → l i = r i) = x) :
    Calls Try.prog 80 #[.slice a n ca, .slice b m cb] w fun e w' => e = .returned (.bool x) ∧ Below w.heap.size w w' := by
  by_cases hnm : n = m
  · subst hnm
    have hx : decide (∀ i, i < n → l i = r i) = x := by rw [← hx]; simp
    have hb0 : ((n : Int) != (n : Int)) = false := by simp
    have H1 := Lib.hid h1
    have H2 := Lib.hid h2
    have HX := Lib.hid hx
    clear h1 h2 hx
    go_enter Try.func80, Try.ntmps80
    go_wp2
    go_loopw [5] (fun k wr => ∃ i : Nat, i ≤ n ∧ k = .int .i64 i ∧ (∀ j, j < i → l j = r j) ∧ Below w.heap.size w wr) (fun k _ => n - (intOf k).toNat)
    case atStart => exact ⟨0, by omega, rfl, fun j hj => by omega, Below.refl _ _⟩
    case round =>
      obtain ⟨i, hi, rfl, hs, hb⟩ := hrel
      by_cases hin : i < n
      · have i1 : (i : Int) < n := by omega
        obtain ⟨b1, o1, rfl, _, hc1⟩ := (H1.out.below hb).at_ hin
        obtain ⟨b2, o2, rfl, _, hc2⟩ := (H2.out.below hb).at_ hin
        have c1 := hc1 i hin
        have c2 := hc2 i hin
        have HS := Lib.hid hs
        have HB := Lib.hid hb
        clear hc1 hc2 hs hb
        by_cases e : l i = r i
        · have e1 : (l i != r i) = false := by rw [e]; simp
          have E := Lib.hid e
          clear e
          have HEQ := Lib.hid (show l i = r i from E.out)
          generalize hl : l i = p at c1 e1
          generalize hr : r i = q at c2 e1
          clear hl hr E
          go_wp2
          go_region
          go_wp2
          go_roundw
          case rel => exact ⟨i + 1, by omega, by go_num, fun j hj => by
            by_cases h : j = i
            · subst h; exact HEQ.out
            · exact HS.out j (by omega), HB.out.drew⟩
          case measure => simp [intOf]; omega
        · have e1 : (l i != r i) = true := by rw [bne_iff_ne]; exact e
          have E := Lib.hid e
          clear e
          have HE := Lib.hid (show ¬ ∀ i, i < n → l i = r i from fun h => E.out (h i hin))
          generalize l i = p at *
          generalize r i = q at *
          go_wp2
          go_region
          go_wp2
          go_ret
          refine ⟨?_, HB.out.drew⟩
          rw [← HX.out, decide_eq_false HE.out]
          rfl
      · obtain rfl : i = n := by omega
        have HS := Lib.hid hs
        have HB := Lib.hid hb
        clear hs hb
        go_wp2
        go_ret
        refine ⟨?_, HB.out⟩
        rw [← HX.out, decide_eq_true HS.out]
        rfl
  · have hb0 : ((n : Int) != (m : Int)) = true := by rw [bne_iff_ne]; omega
    have hx : x = false := by rw [← hx]; simp [hnm]
    clear hnm
    subst hx
    clear h1 h2
    go_enter Try.func80, Try.ntmps80
    go_wp2
    go_ret
    exact ⟨rfl, Below.refl _ _⟩
set_option maxRecDepth 100000 in
theorem samei (a b : Option Addr) (n m ca cb : Nat) (l r : Nat → Int) (hn : n ≤ 100000) (w : World) (h1 : RowOf w a n (fun i => .int .i64 (l i))) (h2 : RowOf w b m (fun i => .int .i64 (r i))) (x : Bool) (hx : decide (n = m ∧ ∀ i, i < n → l i = r i) = x) :
    Calls Try.prog 40 #[.slice a n ca, .slice b m cb] w fun e w' => e = .returned (.bool x) ∧ Below w.heap.size w w' := by
  by_cases hnm : n = m
  · subst hnm
    have hx : decide (∀ i, i < n → l i = r i) = x := by rw [← hx]; simp
    have hb0 : ((n : Int) != (n : Int)) = false := by simp
    have H1 := Lib.hid h1
    have H2 := Lib.hid h2
    have HX := Lib.hid hx
    clear h1 h2 hx
    go_enter Try.func40, Try.ntmps40
    go_wp2
    go_loopw [5] (fun k wr => ∃ i : Nat, i ≤ n ∧ k = .int .i64 i ∧ (∀ j, j < i → l j = r j) ∧ Below w.heap.size w wr) (fun k _ => n - (intOf k).toNat)
    case atStart => exact ⟨0, by omega, rfl, fun j hj => by omega, Below.refl _ _⟩
    case round =>
      obtain ⟨i, hi, rfl, hs, hb⟩ := hrel
      by_cases hin : i < n
      · have i1 : (i : Int) < n := by omega
        obtain ⟨b1, o1, rfl, _, hc1⟩ := (H1.out.below hb).at_ hin
        obtain ⟨b2, o2, rfl, _, hc2⟩ := (H2.out.below hb).at_ hin
        have c1 := hc1 i hin
        have c2 := hc2 i hin
        have HS := Lib.hid hs
        have HB := Lib.hid hb
        clear hc1 hc2 hs hb
        by_cases e : l i = r i
        · have e1 : (l i != r i) = false := by rw [e]; simp
          have E := Lib.hid e
          clear e
          have HEQ := Lib.hid (show l i = r i from E.out)
          generalize hl : l i = p at c1 e1
          generalize hr : r i = q at c2 e1
          clear hl hr E
          go_wp2
          go_region
          go_wp2
          go_roundw
          case rel => exact ⟨i + 1, by omega, by go_num, fun j hj => by
            by_cases h : j = i
            · subst h; exact HEQ.out
            · exact HS.out j (by omega), HB.out.drew⟩
          case measure => simp [intOf]; omega
        · have e1 : (l i != r i) = true := by rw [bne_iff_ne]; exact e
          have E := Lib.hid e
          clear e
          have HE := Lib.hid (show ¬ ∀ i, i < n → l i = r i from fun h => E.out (h i hin))
          generalize l i = p at *
          generalize r i = q at *
          go_wp2
          go_region
          go_wp2
          go_ret
          refine ⟨?_, HB.out.drew⟩
          rw [← HX.out, decide_eq_false HE.out]
          rfl
      · obtain rfl : i = n := by omega
        have HS := Lib.hid hs
        have HB := Lib.hid hb
        clear hs hb
        go_wp2
        go_ret
        refine ⟨?_, HB.out⟩
        rw [← HX.out, decide_eq_true HS.out]
        rfl
  · have hb0 : ((n : Int) != (m : Int)) = true := by rw [bne_iff_ne]; omega
    have hx : x = false := by rw [← hx]; simp [hnm]
    clear hnm
    subst hx
    clear h1 h2
    go_enter Try.func40, Try.ntmps40
    go_wp2
    go_ret
    exact ⟨rfl, Below.refl _ _⟩
theorem of_255 (w : World) : Calls Try.prog 34 #[.int .u64 255] w fun e w' => e = .returned (.int .i64 8) ∧ w = w' := by
  have LN := Lib.hid (Try.bits_Len64 255 w (by decide) (by decide))
  go_enter Try.func34, Try.ntmps34
  go_wp2_with (go_at_call 75; refine LN.out.mono ?_; rintro e w' ⟨rfl, rfl⟩)
  go_ret
  refine ⟨ret_int (by decide), rfl⟩
set_option maxRecDepth 100000 in
set_option maxHeartbeats 1000000 in
theorem awake6_any (w : World) :
    Calls Try.prog 39 #[] w fun e w' => e = .returned (.bool true) ∧ Below w.heap.size w w' := by
  have O1 := fun W : World => offsets_any (some ⟨W.heap.size, 0, none⟩) 2 2 (fun i => [-1, 3].getD i 0) (-1) (by decide) (W.alloc (.cells #[.int .i64 (-1), .int .i64 3] 2)) (RowOf.lit W _ _ _ 2 rfl (by intro i hi; match i, hi with | 0, _ => rfl | 1, _ => rfl))
  have D1 := fun W : World => deltas_any (some ⟨W.heap.size, 0, none⟩) 2 2 (fun i => [9223372036854775807, -9223372036854775808].getD i 0) (by decide) (by decide) (by decide) (W.alloc (.cells #[.int .i64 9223372036854775807, .int .i64 (-9223372036854775808)] 2)) (RowOf.lit W _ _ _ 2 rfl (by intro i hi; match i, hi with | 0, _ => rfl | 1, _ => rfl))
  have O1 := Lib.hid O1
  have D1 := Lib.hid D1
  have OF := Lib.hid of_255
  go_enter Try.func39, Try.ntmps39
  go_wp2_with fail
  refine (O1.out _).mono ?_
  rintro e w1 ⟨v1, rfl, ho1, hb1⟩
  obtain ⟨a1, c1, rfl, hr1, _⟩ := own_reads' ho1
  have HR1 := Lib.hid hr1
  have t1 : Below w.heap.size w w1 := ((Below.refl _ w).alloc (Nat.le_refl _) _).trans (hb1.mono (by simp))
  have T1 := Lib.hid t1
  clear ho1 hr1 hb1 t1
  go_wp2_with fail
  refine (D1.out _).mono ?_
  rintro e w2 ⟨v2, rfl, ho2, hb2⟩
  obtain ⟨a2, c2, rfl, hr2, _⟩ := own_reads' ho2
  have HR2 := Lib.hid hr2
  have h12 : Below w1.heap.size w1 w2 := ((Below.refl _ w1).alloc (Nat.le_refl _) _).trans (hb2.mono (by simp))
  have H12 := Lib.hid h12
  have T2 := Lib.hid (T1.out.trans (h12.mono T1.out.size))
  have HR12 := Lib.hid (HR1.out.below h12)
  have S1 := Lib.hid (fun W : World => RowOf.lit W #[.int .u64 0, .int .u64 4] 50 (fun i => .int .u64 ([0, 4].getD i 0)) 2 rfl (by intro i hi; match i, hi with | 0, _ => rfl | 1, _ => rfl))
  have S2 := Lib.hid (fun W : World => RowOf.lit W #[.int .i64 1] 2 (fun i => .int .i64 ([1].getD i 0)) 1 rfl (by intro i hi; match i, hi with | 0, _ => rfl))
  clear ho2 hr2 hb2 h12
  go_wp2_with (go_at_call 34; refine (OF.out _).mono ?_; rintro e w' ⟨rfl, rfl⟩)
  refine (sameu a1 (some ⟨w2.heap.size, 0, none⟩) 2 2 c1 2 _ (fun i => [0, 4].getD i 0) (by decide) _ (HR12.out.below ((Below.refl _ _).alloc (Nat.le_refl _) _)) (S1.out w2) true (by decide +kernel)).mono ?_
  rintro e w3 ⟨rfl, hb3⟩
  have h23 := ((Below.refl w2.heap.size w2).alloc (Nat.le_refl _) (.cells #[.int .u64 0, .int .u64 4] 50)).trans (hb3.mono (by simp))
  have H23 := Lib.hid h23
  have T3 := Lib.hid (T2.out.trans (h23.mono T2.out.size))
  have HR23 := Lib.hid (HR2.out.below h23)
  clear hb3 h23
  go_wp2_with fail
  refine (samei a2 (some ⟨w3.heap.size, 0, none⟩) 1 1 c2 1 _ (fun i => [1].getD i 0) (by decide) _ (HR23.out.below ((Below.refl _ _).alloc (Nat.le_refl _) _)) (S2.out w3) true (by decide +kernel)).mono ?_
  rintro e w4 ⟨rfl, hb4⟩
  have T4 := Lib.hid (T3.out.trans ((((Below.refl w3.heap.size w3).alloc (Nat.le_refl _) (.cells #[.int .i64 1] 2)).trans (hb4.mono (by simp))).mono T3.out.size))
  clear hb4
  go_wp2
  go_ret
  exact ⟨rfl, T4.out⟩
end Go.Proofs.Ytjdcafeljdnfeaa
