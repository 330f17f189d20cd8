/-
  CONTRACTS OF the document's own Deltas and of Same (of both kinds), of width.Of at 255, and of corduroylaw06.awake, in any world. Conditions: those that each names.
-/
import Derived.Test.YtehjjoejaigpaaaWidB
import Derived.Test.YtehjjoejaigpaaaShelf
import Derived.RegionTactic
namespace Go.Proofs.Ytehjjoejaigpaaa
open Go.RowKit
set_option linter.unusedVariables false
theorem wrap64_eq (n : Int) : IntKind.i64.wrap n = wrap64 n := by
  simp [IntKind.wrap, IntKind.bits, IntKind.signed, wrap64]
  split <;> omega
set_option maxRecDepth 100000 in
set_option maxHeartbeats 2000000 in
theorem rdeltas_any (a : Option Addr) (n cap : Nat) (x : Nat → Int) (hn : n ≤ 1000) (w : World) (h : RowOf w a n (fun i => .int .i64 (x i))) :
    Calls Try.prog 25 #[.slice a n cap] w fun e w' => ∃ v, e = .returned v ∧ w'.ownsRow w.heap.size 2 1 v (n - 1) (rowV (fun i => .int .i64 (dl (x (i + 1)) (x i))) (n - 1)) ∧ Below w.heap.size w w' := by
  obtain ⟨i0, hi, hz0, hz1, hz2⟩ := info_parts i64Info
  have H := Lib.hid h
  clear h
  go_enter Try.func25, Try.ntmps25
  go_wp2
  go_loopw [3, 4] (fun v i wr => ∃ k : Nat, k ≤ n - 1 ∧ i = .int .i64 k ∧ wr.ownsRow w.heap.size 2 1 v k (rowV (fun i => .int .i64 (dl (x (i + 1)) (x i))) k) ∧ Below w.heap.size w wr) (fun _ i _ => n - (intOf i).toNat)
  case atStart => exact ⟨0, by omega, rfl, World.ownsRow_nil _ _ _ _, Below.refl _ _⟩
  case round =>
    obtain ⟨k, hk, rfl, ho, hb⟩ := hrel
    have hsz := hb.size
    by_cases hkn : k < n - 1
    · have k1 : (k : Int) + 1 < n := by omega
      have k2 : (k : Int) < n := by omega
      have k0 : (0 : Int) ≤ k := by omega
      have k00 : (0 : Int) ≤ (k : Int) + 1 := by omega
      have k3 : IntKind.i64.wrap ((k : Int) + 1) = (k : Int) + 1 := IntWalk.i64_in _ (by omega)
      have k4 : ((k : Int) + 1).toNat = k + 1 := by omega
      obtain ⟨b, off, rfl, hblt, hc⟩ := H.out.at_ (i := 0) (by omega)
      have c0 := (hb.cell (p := ⟨b, off + k, none⟩) hblt).trans (hc k (by omega))
      have c1 := (hb.cell (p := ⟨b, off + (k + 1), none⟩) hblt).trans (hc (k + 1) (by omega))
      have RS := Lib.hid (rowV_succ (fun i => Value.int .i64 (dl (x (i + 1)) (x i))) k)
      have hv := dl_ref (x (k + 1)) (x k)
      rw [← wrap64_eq] at hv
      clear hc
      generalize hu : dl (x (k + 1)) (x k) = u at *
      clear hu
      generalize x (k + 1) = y1 at *
      generalize x k = y0 at *
      obtain ⟨v', w2, hrun, ho2, hg2, _⟩ := run_append_own_at (P := Try.prog) ((wr.alloc (.cells #[.int .i64 u] 2)).drew) w.heap.size 31 31 2 i0 (.int .i64 0) 1 8 Try.underlying31 hi hz0 hz1 hz2 rfl (by decide) _ k _ (ho.alloc (.cells #[.int .i64 u] 2)) ⟨wr.heap.size, 0, none⟩ 1 1 [.int .i64 u] rfl (cell_one_new _ _ _) (by simp [Value.oneCell']) (by unfold maxLen; omega) (by omega) (by simp; omega)
      have HR := Lib.hid hrun
      have HO2 := Lib.hid ho2
      have HB2 := Lib.hid (((hb.alloc hsz (.cells #[.int .i64 u] 2)).drew).grown hg2 (by simp; omega) (fun j hj => (ho.lt j hj).1))
      have d0 : w2.cell? ⟨b, off + k, none⟩ = some (.int .i64 y0) := (hg2.cell_far _ (by simp; omega) (fun e => absurd (ho.lt b e.symm).1 (by omega))).trans ((World.cell?_alloc_lt wr _ _ (Nat.lt_of_lt_of_le hblt hsz)).trans c0)
      have d1 : w2.cell? ⟨b, off + (k + 1), none⟩ = some (.int .i64 y1) := (hg2.cell_far _ (by simp; omega) (fun e => absurd (ho.lt b e.symm).1 (by omega))).trans ((World.cell?_alloc_lt wr _ _ (Nat.lt_of_lt_of_le hblt hsz)).trans c1)
      clear ho hb hrun ho2 hg2
      go_wp2
      go_region_held3 (fun w' => w'.cell? ⟨b, off + k, none⟩ = some (.int .i64 y0) ∧ w'.cell? ⟨b, off + (k + 1), none⟩ = some (.int .i64 y1)) (first | (exact ⟨d0, d1⟩) | go_keep)
        ((go_loud (refine step_append_ran _ _ (by rfl) _ _ 31 (by rfl) _ _ _ (by rfl) (by rfl) HR.out ?_)))
      go_wp2
      go_roundw
      case rel => exact ⟨k + 1, by omega, by go_num, by rw [RS.out]; exact HO2.out, HB2.out⟩
      case measure => simp [intOf]; omega
    · have hke : n - 1 = k := by omega
      have k1 : ¬ (k : Int) + 1 < n := by omega
      have HKE := Lib.hid hke
      have HO2 := Lib.hid ho
      have HB2 := Lib.hid hb
      have hk0 : (k : Int) ≤ 1000 := by omega
      clear ho hb hke
      go_wp2
      go_ret
      rw [HKE.out]
      exact ⟨_, rfl, HO2.out, HB2.out⟩
set_option maxRecDepth 100000 in
theorem sameu (a b : Option Addr) (n m ca cb : Nat) (l r : Nat → Int) (hn : n ≤ 100000) (w : World) (h1 : RowOf w a n (fun i => .int .u64 (l i))) (h2 : RowOf w b m (fun i => .int .u64 (r i))) (x : Bool) (hx : decide (n = m ∧ ∀ i, i < n → l i = r i) = x) :
    Calls Try.prog 20 #[.slice a n ca, .slice b m cb] w fun e w' => e = .returned (.bool x) ∧ Below w.heap.size w w' := by
  by_cases hnm : n = m
  · subst hnm
    have hx : decide (∀ i, i < n → l i = r i) = x := by rw [← hx]; simp
    have hb0 : ((n : Int) != (n : Int)) = false := by simp
    have H1 := Lib.hid h1
    have H2 := Lib.hid h2
    have HX := Lib.hid hx
    clear h1 h2 hx
    go_enter Try.func20, Try.ntmps20
    go_wp2
    go_loopw [5] (fun k wr => ∃ i : Nat, i ≤ n ∧ k = .int .i64 i ∧ (∀ j, j < i → l j = r j) ∧ Below w.heap.size w wr) (fun k _ => n - (intOf k).toNat)
    case atStart => exact ⟨0, by omega, rfl, fun j hj => by omega, Below.refl _ _⟩
    case round =>
      obtain ⟨i, hi, rfl, hs, hb⟩ := hrel
      by_cases hin : i < n
      · have i1 : (i : Int) < n := by omega
        obtain ⟨b1, o1, rfl, _, hc1⟩ := (H1.out.below hb).at_ hin
        obtain ⟨b2, o2, rfl, _, hc2⟩ := (H2.out.below hb).at_ hin
        have c1 := hc1 i hin
        have c2 := hc2 i hin
        have HS := Lib.hid hs
        have HB := Lib.hid hb
        clear hc1 hc2 hs hb
        by_cases e : l i = r i
        · have e1 : (l i != r i) = false := by rw [e]; simp
          have E := Lib.hid e
          clear e
          have HEQ := Lib.hid (show l i = r i from E.out)
          generalize hl : l i = p at c1 e1
          generalize hr : r i = q at c2 e1
          clear hl hr E
          go_wp2
          go_region
          go_wp2
          go_roundw
          case rel => exact ⟨i + 1, by omega, by go_num, fun j hj => by
            by_cases h : j = i
            · subst h; exact HEQ.out
            · exact HS.out j (by omega), HB.out.drew⟩
          case measure => simp [intOf]; omega
        · have e1 : (l i != r i) = true := by rw [bne_iff_ne]; exact e
          have E := Lib.hid e
          clear e
          have HE := Lib.hid (show ¬ ∀ i, i < n → l i = r i from fun h => E.out (h i hin))
          generalize l i = p at *
          generalize r i = q at *
          go_wp2
          go_region
          go_wp2
          go_ret
          refine ⟨?_, HB.out.drew⟩
          rw [← HX.out, decide_eq_false HE.out]
          rfl
      · obtain rfl : i = n := by omega
        have HS := Lib.hid hs
        have HB := Lib.hid hb
        clear hs hb
        go_wp2
        go_ret
        refine ⟨?_, HB.out⟩
        rw [← HX.out, decide_eq_true HS.out]
        rfl
  · have hb0 : ((n : Int) != (m : Int)) = true := by rw [bne_iff_ne]; omega
    have hx : x = false := by rw [← hx]; simp [hnm]
    clear hnm
    subst hx
    clear h1 h2
    go_enter Try.func20, Try.ntmps20
    go_wp2
    go_ret
    exact ⟨rfl, Below.refl _ _⟩
set_option maxRecDepth 100000 in
theorem samei (a b : Option Addr) (n m ca cb : Nat) (l r : Nat → Int) (hn : n ≤ 100000) (w : World) (h1 : RowOf w a n (fun i => .int .i64 (l i))) (h2 : RowOf w b m (fun i => .int .i64 (r i))) (x : Bool) (hx : decide (n = m ∧ ∀ i, i < n → l i = r i) = x) :
    Calls Try.prog 23 #[.slice a n ca, .slice b m cb] w fun e w' => e = .returned (.bool x) ∧ Below w.heap.size w w' := by
  by_cases hnm : n = m
  · subst hnm
    have hx : decide (∀ i, i < n → l i = r i) = x := by rw [← hx]; simp
    have hb0 : ((n : Int) != (n : Int)) = false := by simp
    have H1 := Lib.hid h1
    have H2 := Lib.hid h2
    have HX := Lib.hid hx
    clear h1 h2 hx
    go_enter Try.func23, Try.ntmps23
    go_wp2
    go_loopw [5] (fun k wr => ∃ i : Nat, i ≤ n ∧ k = .int .i64 i ∧ (∀ j, j < i → l j = r j) ∧ Below w.heap.size w wr) (fun k _ => n - (intOf k).toNat)
    case atStart => exact ⟨0, by omega, rfl, fun j hj => by omega, Below.refl _ _⟩
    case round =>
      obtain ⟨i, hi, rfl, hs, hb⟩ := hrel
      by_cases hin : i < n
      · have i1 : (i : Int) < n := by omega
        obtain ⟨b1, o1, rfl, _, hc1⟩ := (H1.out.below hb).at_ hin
        obtain ⟨b2, o2, rfl, _, hc2⟩ := (H2.out.below hb).at_ hin
        have c1 := hc1 i hin
        have c2 := hc2 i hin
        have HS := Lib.hid hs
        have HB := Lib.hid hb
        clear hc1 hc2 hs hb
        by_cases e : l i = r i
        · have e1 : (l i != r i) = false := by rw [e]; simp
          have E := Lib.hid e
          clear e
          have HEQ := Lib.hid (show l i = r i from E.out)
          generalize hl : l i = p at c1 e1
          generalize hr : r i = q at c2 e1
          clear hl hr E
          go_wp2
          go_region
          go_wp2
          go_roundw
          case rel => exact ⟨i + 1, by omega, by go_num, fun j hj => by
            by_cases h : j = i
            · subst h; exact HEQ.out
            · exact HS.out j (by omega), HB.out.drew⟩
          case measure => simp [intOf]; omega
        · have e1 : (l i != r i) = true := by rw [bne_iff_ne]; exact e
          have E := Lib.hid e
          clear e
          have HE := Lib.hid (show ¬ ∀ i, i < n → l i = r i from fun h => E.out (h i hin))
          generalize l i = p at *
          generalize r i = q at *
          go_wp2
          go_region
          go_wp2
          go_ret
          refine ⟨?_, HB.out.drew⟩
          rw [← HX.out, decide_eq_false HE.out]
          rfl
      · obtain rfl : i = n := by omega
        have HS := Lib.hid hs
        have HB := Lib.hid hb
        clear hs hb
        go_wp2
        go_ret
        refine ⟨?_, HB.out⟩
        rw [← HX.out, decide_eq_true HS.out]
        rfl
  · have hb0 : ((n : Int) != (m : Int)) = true := by rw [bne_iff_ne]; omega
    have hx : x = false := by rw [← hx]; simp [hnm]
    clear hnm
    subst hx
    clear h1 h2
    go_enter Try.func23, Try.ntmps23
    go_wp2
    go_ret
    exact ⟨rfl, Below.refl _ _⟩
theorem of_255 (w : World) : Calls Try.prog 12 #[.int .u64 255] w fun e w' => e = .returned (.int .i64 8) ∧ w = w' := by
  have LN := Lib.hid (Try.bits_Len64 255 w (by decide) (by decide))
  go_enter Try.func12, Try.ntmps12
  go_wp2_with (go_at_call 38; refine LN.out.mono ?_; rintro e w' ⟨rfl, rfl⟩)
  go_ret
  refine ⟨ret_int (by decide), rfl⟩
theorem RowOf.lit (w : World) (cs : Array Value) (t : TypeId) (f : Nat → Value) (n : Nat) (hn : cs.size = n) (hf : ∀ i, i < n → cs[i]? = some (f i)) : RowOf (w.alloc (.cells cs t)) (some ⟨w.heap.size, 0, none⟩) n f :=
  .inr ⟨_, 0, rfl, fun i hi => by rw [Nat.zero_add, (Lies.new w t cs).cell i]; exact hf i hi⟩
set_option maxRecDepth 100000 in
set_option maxHeartbeats 1000000 in
theorem awake_any (w : World) :
    Calls Try.prog 17 #[] w fun e w' => e = .returned (.bool true) ∧ Below w.heap.size w w' := by
  have O1 := fun W : World => offsets_any (some ⟨W.heap.size, 0, none⟩) 2 2 (fun i => [-1, 3].getD i 0) (-1) (by decide) (W.alloc (.cells #[.int .i64 (-1), .int .i64 3] 2)) (RowOf.lit W _ _ _ 2 rfl (by intro i hi; match i, hi with | 0, _ => rfl | 1, _ => rfl))
  have D1 := fun W : World => deltas_any (some ⟨W.heap.size, 0, none⟩) 2 2 (fun i => [9223372036854775807, -9223372036854775808].getD i 0) (by decide) (by decide) (by decide) (W.alloc (.cells #[.int .i64 9223372036854775807, .int .i64 (-9223372036854775808)] 2)) (RowOf.lit W _ _ _ 2 rfl (by intro i hi; match i, hi with | 0, _ => rfl | 1, _ => rfl))
  have O1 := Lib.hid O1
  have D1 := Lib.hid D1
  have OF := Lib.hid of_255
  go_enter Try.func17, Try.ntmps17
  go_wp2_with fail
  refine (O1.out _).mono ?_
  rintro e w1 ⟨v1, rfl, ho1, hb1⟩
  obtain ⟨a1, c1, rfl, hr1, _⟩ := own_reads' ho1
  have HR1 := Lib.hid hr1
  have t1 : Below w.heap.size w w1 := ((Below.refl _ w).alloc (Nat.le_refl _) _).trans (hb1.mono (by simp))
  have T1 := Lib.hid t1
  clear ho1 hr1 hb1 t1
  go_wp2_with fail
  refine (D1.out _).mono ?_
  rintro e w2 ⟨v2, rfl, ho2, hb2⟩
  obtain ⟨a2, c2, rfl, hr2, _⟩ := own_reads' ho2
  have HR2 := Lib.hid hr2
  have h12 : Below w1.heap.size w1 w2 := ((Below.refl _ w1).alloc (Nat.le_refl _) _).trans (hb2.mono (by simp))
  have H12 := Lib.hid h12
  have T2 := Lib.hid (T1.out.trans (h12.mono T1.out.size))
  have HR12 := Lib.hid (HR1.out.below h12)
  have S1 := Lib.hid (fun W : World => RowOf.lit W #[.int .u64 0, .int .u64 4] 25 (fun i => .int .u64 ([0, 4].getD i 0)) 2 rfl (by intro i hi; match i, hi with | 0, _ => rfl | 1, _ => rfl))
  have S2 := Lib.hid (fun W : World => RowOf.lit W #[.int .i64 1] 2 (fun i => .int .i64 ([1].getD i 0)) 1 rfl (by intro i hi; match i, hi with | 0, _ => rfl))
  clear ho2 hr2 hb2 h12
  go_wp2_with (go_at_call 12; refine (OF.out _).mono ?_; rintro e w' ⟨rfl, rfl⟩)
  refine (sameu a1 (some ⟨w2.heap.size, 0, none⟩) 2 2 c1 2 _ (fun i => [0, 4].getD i 0) (by decide) _ (HR12.out.below ((Below.refl _ _).alloc (Nat.le_refl _) _)) (S1.out w2) true (by decide +kernel)).mono ?_
  rintro e w3 ⟨rfl, hb3⟩
  have h23 := ((Below.refl w2.heap.size w2).alloc (Nat.le_refl _) (.cells #[.int .u64 0, .int .u64 4] 25)).trans (hb3.mono (by simp))
  have H23 := Lib.hid h23
  have T3 := Lib.hid (T2.out.trans (h23.mono T2.out.size))
  have HR23 := Lib.hid (HR2.out.below h23)
  clear hb3 h23
  go_wp2_with fail
  refine (samei a2 (some ⟨w3.heap.size, 0, none⟩) 1 1 c2 1 _ (fun i => [1].getD i 0) (by decide) _ (HR23.out.below ((Below.refl _ _).alloc (Nat.le_refl _) _)) (S2.out w3) true (by decide +kernel)).mono ?_
  rintro e w4 ⟨rfl, hb4⟩
  have T4 := Lib.hid (T3.out.trans ((((Below.refl w3.heap.size w3).alloc (Nat.le_refl _) (.cells #[.int .i64 1] 2)).trans (hb4.mono (by simp))).mono T3.out.size))
  clear hb4
  go_wp2
  go_ret
  exact ⟨rfl, T4.out⟩
end Go.Proofs.Ytehjjoejaigpaaa
