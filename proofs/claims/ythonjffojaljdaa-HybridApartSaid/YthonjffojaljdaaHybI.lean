/-
  CONTRACTS OF corduroylaw07.Told of Hybrid and of corduroylaw10.awake, in any world. Conditions: at most 1100 numbers, and the bytes that are wanted, which lie in memory as told.
-/
import Derived.Test.YthonjffojaljdaaHybM3
import Derived.Test.YthonjffojaljdaaText
import Derived.Laws.EntriesVeiled
namespace Go.Proofs.Ythonjffojaljdaa
open Go.ChangeShapes Go.WideShapes Go.ChangeAt Go.RowKit
set_option linter.unusedVariables false
theorem hsize_any (a : Option Addr) (n cap : Nat) (x : Nat → Int) (hx : ∀ i, i < n → -9223372036854775808 ≤ x i ∧ x i ≤ 9223372036854775807) (w : World) (h : RowOf w a n (fun i => .int .i64 (x i))) :
    Calls Try.prog 20 #[.agg #[], .slice a n cap] w fun e w' => e = .returned (.int .i64 (if blk n then hln x n else 0 : Nat)) ∧ Below w.heap.size w w' := by
  cases hbk : blk n
  · exact hsize_out a n cap hbk w
  · exact hsize_in a n cap x hx hbk w h
theorem hln_le (x : Nat → Int) (n : Nat) : 1 ≤ hln x n := by rw [hl_eq]; omega
set_option maxRecDepth 100000 in
set_option maxHeartbeats 1000000 in
theorem htold_out (a aw : Option Addr) (n cap lw cw : Nat) (x : Nat → Int) (hx : ∀ i, i < n → -9223372036854775808 ≤ x i ∧ x i ≤ 9223372036854775807) (hb : blk n = false) (w : World) (h : RowOf w a n (fun i => .int .i64 (x i))) :
    Calls Try.prog 11 #[.iface 25 (.agg #[]), .slice a n cap, .bool true, .slice aw lw cw] w fun e w' => e = .returned (.bool true) ∧ Below w.heap.size w w' := by
  have EN := Lib.hid (fun W => hencode_out a n cap hb W)
  have WR := hwrong_any a n cap
  rw [show wrg n = 7 by simp [wrg, hb]] at WR
  have WR := Lib.hid WR
  have TK := fun W => htakes_any a n cap W
  have SZ := fun W hW => hsize_any a n cap x hx W hW
  have RB := fun W => rblock_any n W
  simp only [hb] at TK SZ RB
  have TK := Lib.hid TK
  have SZ := Lib.hid SZ
  have RB := Lib.hid RB
  have H := Lib.hid h
  have m1 := hm_encode
  have m2 := hm_takes
  have m3 := hm_size
  clear hb h
  go_enter Try.func11, Try.ntmps11
  go_wp2_with (first
    | (go_at_call 23; refine (EN.out _).mono ?_; rintro e w1 ⟨rfl, hb⟩; have HB1 := Lib.hid hb; clear hb)
    | (go_at_call 32; refine (RB.out _).mono ?_; rintro e w2 ⟨rfl, rfl⟩)
    | (go_at_call 33; refine (WR.out _).mono ?_; rintro e w2 ⟨rfl, hb⟩; have HB2 := Lib.hid hb; clear hb)
    | (go_at_call 24; refine (TK.out _).mono ?_; rintro e w3 ⟨rfl, hb⟩; have HB3 := Lib.hid hb; clear hb)
    | (go_at_call 20; refine (SZ.out _ (((H.out.below HB1.out).below HB2.out).below HB3.out)).mono ?_; rintro e w4 ⟨rfl, hb⟩; have HB4 := Lib.hid hb; clear hb))
  go_ret
  have s1 := HB1.out.size
  have s2 := HB2.out.size
  have s3 := HB3.out.size
  exact ⟨rfl, ((HB1.out.trans (HB2.out.mono (by omega))).trans (HB3.out.mono (by omega))).trans (HB4.out.mono (by omega))⟩
set_option maxRecDepth 100000 in
set_option maxHeartbeats 1000000 in
theorem htold_in (a aw : Option Addr) (n cap cw : Nat) (x : Nat → Int) (hx : ∀ i, i < n → -9223372036854775808 ≤ x i ∧ x i ≤ 9223372036854775807) (hb : blk n = true) (w : World) (h : RowOf w a n (fun i => .int .i64 (x i))) (hw : RowOf w aw (hln x n) (fun i => .int .u8 ((hfm x n).getD i 0))) :
    Calls Try.prog 11 #[.iface 25 (.agg #[]), .slice a n cap, .bool true, .slice aw (hln x n) cw] w fun e w' => e = .returned (.bool true) ∧ Below w.heap.size w w' := by
  have hn : 1 ≤ n ∧ n ≤ 1024 := by have := of_decide_eq_true hb; omega
  have EN := Lib.hid (hencode_in a n cap x hx hb w h)
  have WR := hwrong_any a n cap
  rw [show wrg n = 0 by simp [wrg, hb]] at WR
  have WR := Lib.hid WR
  have TK := fun W => htakes_any a n cap W
  have SZ := fun W hW => hsize_any a n cap x hx W hW
  have RB := fun W => rblock_any n W
  simp only [hb, if_true] at TK SZ RB
  have TK := Lib.hid TK
  have SZ := Lib.hid SZ
  have RB := Lib.hid RB
  have H := Lib.hid h
  have m1 := hm_encode
  have m2 := hm_takes
  have m3 := hm_size
  have HW := Lib.hid hw
  have hpl : (hfm x n).length = hln x n := rfl
  have hzn0 := hln_le x n
  clear hb h hw hx
  obtain ⟨L, hL⟩ : ∃ L, hln x n = L := ⟨_, rfl⟩
  rw [hL] at EN SZ HW hpl hzn0 ⊢
  have HPL := Lib.hid hpl
  clear hL hpl
  generalize hfm x n = xs at *
  go_enter Try.func11, Try.ntmps11
  go_wp2_with (first
    | (go_at_call 23; refine EN.out.mono ?_; rintro e w1 ⟨v1, rfl, ho, hb⟩; obtain ⟨a1, c1, rfl, hr1, _⟩ := own_bytes ho; have HR1 := Lib.hid hr1; have HB1 := Lib.hid hb; clear hb ho hr1)
    | (go_at_call 32; refine (RB.out _).mono ?_; rintro e w2 ⟨rfl, rfl⟩)
    | (go_at_call 33; refine (WR.out _).mono ?_; rintro e w2 ⟨rfl, hb⟩; have HB2 := Lib.hid hb; clear hb)
    | (go_at_call 24; refine (TK.out _).mono ?_; rintro e w3 ⟨rfl, hb⟩; have HB3 := Lib.hid hb; have cv1 := conv_list a1 L c1 xs HPL.out w3 ((HR1.out.below HB2.out).below hb); have cv2 := conv_list aw L cw xs HPL.out w3 (((HW.out.below HB1.out).below HB2.out).below hb); clear hb)
    | (go_at_call 20; refine (SZ.out _ (((H.out.below HB1.out).below HB2.out).below HB3.out)).mono ?_; rintro e w4 ⟨rfl, hb⟩; have HB4 := Lib.hid hb; clear hb))
  go_ret
  have s1 := HB1.out.size
  have s2 := HB2.out.size
  have s3 := HB3.out.size
  exact ⟨rfl, ((HB1.out.trans (HB2.out.mono (by omega))).trans (HB3.out.mono (by omega))).trans (HB4.out.mono (by omega))⟩
theorem str_awk1 : (strOfNums [3, 20, 6]).toList = [3, 20, 6] := by decide +kernel
theorem str_awk2 : (strOfNums [2, 3, 8, 0]).toList = [2, 3, 8, 0] := by decide +kernel
set_option maxRecDepth 100000 in
set_option maxHeartbeats 1000000 in
theorem awake10_any (w : World) : Calls Try.prog 14 #[] w fun e w' => e = .returned (.bool true) ∧ Below w.heap.size w w' := by
  have f1 : hfm (fun i => [(3 : Int), 3, 3, 3, 3, 3, 3, 3, 3, 3].getD i 0) 10 = [3, 20, 6] := by decide +kernel
  have f2 : hfm (fun i => [(0 : Int), 1].getD i 0) 2 = [2, 3, 8, 0] := by decide +kernel
  have g1 : hln (fun i => [(3 : Int), 3, 3, 3, 3, 3, 3, 3, 3, 3].getD i 0) 10 = 3 := by unfold hln; rw [f1]; rfl
  have g2 : hln (fun i => [(0 : Int), 1].getD i 0) 2 = 4 := by unfold hln; rw [f2]; rfl
  have E1 := fun W : World => hencode_in (some ⟨W.heap.size, 0, none⟩) 10 10 (fun i => [(3 : Int), 3, 3, 3, 3, 3, 3, 3, 3, 3].getD i 0) (by intro i hi; match i, hi with | 0, _ => decide | 1, _ => decide | 2, _ => decide | 3, _ => decide | 4, _ => decide | 5, _ => decide | 6, _ => decide | 7, _ => decide | 8, _ => decide | 9, _ => decide) (by decide) (W.alloc (.cells #[.int .i64 3, .int .i64 3, .int .i64 3, .int .i64 3, .int .i64 3, .int .i64 3, .int .i64 3, .int .i64 3, .int .i64 3, .int .i64 3] 2)) (RowOf.lit W _ _ _ 10 rfl (by intro i hi; match i, hi with | 0, _ => rfl | 1, _ => rfl | 2, _ => rfl | 3, _ => rfl | 4, _ => rfl | 5, _ => rfl | 6, _ => rfl | 7, _ => rfl | 8, _ => rfl | 9, _ => rfl))
  have E2 := fun W : World => hencode_in (some ⟨W.heap.size, 0, none⟩) 2 2 (fun i => [(0 : Int), 1].getD i 0) (by intro i hi; match i, hi with | 0, _ => decide | 1, _ => decide) (by decide) (W.alloc (.cells #[.int .i64 0, .int .i64 1] 2)) (RowOf.lit W _ _ _ 2 rfl (by intro i hi; match i, hi with | 0, _ => rfl | 1, _ => rfl))
  rw [f1, g1] at E1
  rw [f2, g2] at E2
  have EA := Lib.hid E1
  have EB := Lib.hid E2
  have s1 := str_awk1
  have s2 := str_awk2
  clear f1 f2 g1 g2 E1 E2
  have HB := Lib.hid ((Below.refl w.heap.size w).alloc (Nat.le_refl _) (.cells #[.int .i64 3, .int .i64 3, .int .i64 3, .int .i64 3, .int .i64 3, .int .i64 3, .int .i64 3, .int .i64 3, .int .i64 3, .int .i64 3] 2))
  go_enter Try.func14, Try.ntmps14
  go_wp2_with (first
    | (go_at_call 23; refine (EA.out _).mono ?_; clear EA; rintro e w1 ⟨v1, rfl, ho, hb⟩; obtain ⟨a1, c1, rfl, hr1, _⟩ := own_bytes ho; have HR1 := Lib.hid hr1; have HB1 := Lib.hid (HB.out.trans (hb.mono HB.out.size)); clear hb ho hr1)
    | (go_at_call 23; refine (EB.out _).mono ?_; rintro e w2 ⟨v2, rfl, ho, hb⟩; obtain ⟨a2, c2, rfl, hr2, _⟩ := own_bytes ho; have HB2 := Lib.hid hb
       have hr12 := (HR1.out.below ((Below.refl w1.heap.size w1).alloc (Nat.le_refl _) (.cells #[.int .i64 0, .int .i64 1] 2))).below hb
       have hA := (Below.refl w2.heap.size w2).alloc (Nat.le_refl _) (.cells #[.int .u8 3, .int .u8 20, .int .u8 6] 5)
       have cv1 := conv_list a1 3 c1 [3, 20, 6] rfl w2 hr12
       have cv2 := conv_list (some ⟨w2.heap.size, 0, none⟩) 3 3 [3, 20, 6] rfl (w2.alloc (.cells #[.int .u8 3, .int .u8 20, .int .u8 6] 5)) (RowOf.lit w2 _ _ _ 3 rfl (by intro i hi; match i, hi with | 0, _ => rfl | 1, _ => rfl | 2, _ => rfl))
       have cv3 := conv_list a2 4 c2 [2, 3, 8, 0] rfl (w2.alloc (.cells #[.int .u8 3, .int .u8 20, .int .u8 6] 5)) (hr2.below hA)
       have cv4 := conv_list (some ⟨(w2.alloc (.cells #[.int .u8 3, .int .u8 20, .int .u8 6] 5)).heap.size, 0, none⟩) 4 4 [2, 3, 8, 0] rfl ((w2.alloc (.cells #[.int .u8 3, .int .u8 20, .int .u8 6] 5)).alloc (.cells #[.int .u8 2, .int .u8 3, .int .u8 8, .int .u8 0] 5)) (RowOf.lit (w2.alloc (.cells #[.int .u8 3, .int .u8 20, .int .u8 6] 5)) _ _ _ 4 rfl (by intro i hi; match i, hi with | 0, _ => rfl | 1, _ => rfl | 2, _ => rfl | 3, _ => rfl))
       rw [World.size_alloc] at cv4
       clear hb ho hr2 hr12 hA))
  go_ret
  have b1 := HB1.out.alloc HB1.out.size (.cells #[.int .i64 0, .int .i64 1] 2)
  have b2 := b1.trans (HB2.out.mono b1.size)
  have b3 := b2.alloc b2.size (.cells #[.int .u8 3, .int .u8 20, .int .u8 6] 5)
  exact ⟨rfl, b3.alloc b3.size _⟩
end Go.Proofs.Ythonjffojaljdaa
