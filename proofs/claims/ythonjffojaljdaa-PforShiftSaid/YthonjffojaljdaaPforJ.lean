/-
  CONTRACTS OF corduroylaw07.Told of Pfor and of corduroylaw11.awake, in any world. Conditions: at most 1100 numbers, and the bytes that are wanted, which lie in memory as told.
-/
import Derived.Test.YthonjffojaljdaaPforI
import Derived.Test.YthonjffojaljdaaText
import Derived.Laws.EntriesVeiled
namespace Go.Proofs.Ythonjffojaljdaa
open Go.ChangeShapes Go.WideShapes Go.ChangeAt Go.RowKit
set_option linter.unusedVariables false
set_option maxRecDepth 100000 in
set_option maxHeartbeats 1000000 in
theorem ftold_out (a aw : Option Addr) (n cap lw cw : Nat) (x : Nat → Int) (hb : blk n = false) (w : World) (h : RowOf w a n (fun i => .int .i64 (x i))) :
    Calls Try.prog 11 #[.iface 51 (.agg #[]), .slice a n cap, .bool true, .slice aw lw cw] w fun e w' => e = .returned (.bool true) ∧ Below w.heap.size w w' := by
  have EN := Lib.hid (fun W => fencode_out a n cap hb W)
  have WR := fwrong_any a n cap
  rw [show wrg n = 7 by simp [wrg, hb]] at WR
  have WR := Lib.hid WR
  have TK := fun W => ftakes_any a n cap W
  have SZ := fun W hW => fsz_any a n cap x W hW
  have RB := fun W => rblock_any n W
  simp only [hb] at TK SZ RB
  have TK := Lib.hid TK
  have SZ := Lib.hid SZ
  have RB := Lib.hid RB
  have H := Lib.hid h
  have m1 := fm_encode
  have m2 := fm_takes
  have m3 := fm_size
  clear hb h
  go_enter Try.func11, Try.ntmps11
  go_wp2_with (first
    | (go_at_call 74; refine (EN.out _).mono ?_; rintro e w1 ⟨rfl, hb⟩; have HB1 := Lib.hid hb; clear hb)
    | (go_at_call 32; refine (RB.out _).mono ?_; rintro e w2 ⟨rfl, rfl⟩)
    | (go_at_call 33; refine (WR.out _).mono ?_; rintro e w2 ⟨rfl, hb⟩; have HB2 := Lib.hid hb; clear hb)
    | (go_at_call 70; refine (TK.out _).mono ?_; rintro e w3 ⟨rfl, hb⟩; have HB3 := Lib.hid hb; clear hb)
    | (go_at_call 29; refine (SZ.out _ (((H.out.below HB1.out).below HB2.out).below HB3.out)).mono ?_; rintro e w4 ⟨rfl, hb⟩; have HB4 := Lib.hid hb; clear hb))
  go_ret
  have s1 := HB1.out.size
  have s2 := HB2.out.size
  have s3 := HB3.out.size
  exact ⟨rfl, ((HB1.out.trans (HB2.out.mono (by omega))).trans (HB3.out.mono (by omega))).trans (HB4.out.mono (by omega))⟩
set_option maxRecDepth 100000 in
set_option maxHeartbeats 1000000 in
theorem ftold_in (a aw : Option Addr) (n cap cw : Nat) (x : Nat → Int) (hb : blk n = true) (w : World) (h : RowOf w a n (fun i => .int .i64 (x i))) (hw : RowOf w aw (fl x n) (fun i => .int .u8 ((fb x n).getD i 0))) :
    Calls Try.prog 11 #[.iface 51 (.agg #[]), .slice a n cap, .bool true, .slice aw (fl x n) cw] w fun e w' => e = .returned (.bool true) ∧ Below w.heap.size w w' := by
  have hn : 1 ≤ n ∧ n ≤ 1024 := by have := of_decide_eq_true hb; omega
  have EN := Lib.hid (fencode_in a n cap x hb w h)
  have WR := fwrong_any a n cap
  rw [show wrg n = 0 by simp [wrg, hb]] at WR
  have WR := Lib.hid WR
  have TK := fun W => ftakes_any a n cap W
  have SZ := fun W hW => fsz_any a n cap x W hW
  have RB := fun W => rblock_any n W
  simp only [hb, if_true] at TK SZ RB
  have TK := Lib.hid TK
  have SZ := Lib.hid SZ
  have RB := Lib.hid RB
  have H := Lib.hid h
  have m1 := fm_encode
  have m2 := fm_takes
  have m3 := fm_size
  have HW := Lib.hid hw
  have hpl : (fb x n).length = fl x n := fb_length x n
  have hzn0 := fl_le x n
  clear hb h hw
  obtain ⟨L, hL⟩ : ∃ L, fl x n = L := ⟨_, rfl⟩
  rw [hL] at EN SZ HW hpl hzn0 ⊢
  have HPL := Lib.hid hpl
  clear hL hpl
  generalize fb x n = xs at *
  go_enter Try.func11, Try.ntmps11
  go_wp2_with (first
    | (go_at_call 74; refine EN.out.mono ?_; rintro e w1 ⟨v1, rfl, ho, hb⟩; obtain ⟨a1, c1, rfl, hr1, _⟩ := own_bytes ho; have HR1 := Lib.hid hr1; have HB1 := Lib.hid hb; clear hb ho hr1)
    | (go_at_call 32; refine (RB.out _).mono ?_; rintro e w2 ⟨rfl, rfl⟩)
    | (go_at_call 33; refine (WR.out _).mono ?_; rintro e w2 ⟨rfl, hb⟩; have HB2 := Lib.hid hb; clear hb)
    | (go_at_call 70; refine (TK.out _).mono ?_; rintro e w3 ⟨rfl, hb⟩; have HB3 := Lib.hid hb; have cv1 := conv_list a1 L c1 xs HPL.out w3 ((HR1.out.below HB2.out).below hb); have cv2 := conv_list aw L cw xs HPL.out w3 (((HW.out.below HB1.out).below HB2.out).below hb); clear hb)
    | (go_at_call 29; refine (SZ.out _ (((H.out.below HB1.out).below HB2.out).below HB3.out)).mono ?_; rintro e w4 ⟨rfl, hb⟩; have HB4 := Lib.hid hb; clear hb))
  go_ret
  have s1 := HB1.out.size
  have s2 := HB2.out.size
  have s3 := HB3.out.size
  exact ⟨rfl, ((HB1.out.trans (HB2.out.mono (by omega))).trans (HB3.out.mono (by omega))).trans (HB4.out.mono (by omega))⟩
theorem str_awk : (strOfNums [7, 0, 0, 0, 0, 0, 0, 0, 0, 0]).toList = [7, 0, 0, 0, 0, 0, 0, 0, 0, 0] := by decide +kernel
set_option maxRecDepth 100000 in
set_option maxHeartbeats 1000000 in
theorem awake11_any (w : World) : Calls Try.prog 30 #[] w fun e w' => e = .returned (.bool true) ∧ Below w.heap.size w w' := by
  have hfb : fb (fun i => [(7 : Int), 7, 7].getD i 0) 3 = [7, 0, 0, 0, 0, 0, 0, 0, 0, 0] := by decide +kernel
  have hfl : fl (fun i => [(7 : Int), 7, 7].getD i 0) 3 = 10 := by rw [← fb_length, hfb]; rfl
  have EN := fun W : World => fencode_in (some ⟨W.heap.size, 0, none⟩) 3 3 (fun i => [(7 : Int), 7, 7].getD i 0) (by decide) (W.alloc (.cells #[.int .i64 7, .int .i64 7, .int .i64 7] 2)) (RowOf.lit W _ _ _ 3 rfl (by intro i hi; match i, hi with | 0, _ => rfl | 1, _ => rfl | 2, _ => rfl))
  rw [hfb, hfl] at EN
  have EN := Lib.hid EN
  have HB := Lib.hid ((Below.refl w.heap.size w).alloc (Nat.le_refl _) (.cells #[.int .i64 7, .int .i64 7, .int .i64 7] 2))
  have sf := str_awk
  clear hfb hfl
  go_enter Try.func30, Try.ntmps30
  go_wp2_with (go_at_call 74; refine (EN.out _).mono ?_; rintro e w1 ⟨v1, rfl, ho, hb⟩; obtain ⟨a1, c1, rfl, hr1, _⟩ := own_bytes ho; have cv1 := conv_list a1 10 c1 [7, 0, 0, 0, 0, 0, 0, 0, 0, 0] rfl w1 hr1; have cv2 := conv_list (some ⟨w1.heap.size, 0, none⟩) 10 10 [7, 0, 0, 0, 0, 0, 0, 0, 0, 0] rfl (w1.alloc (.cells #[.int .u8 7, .int .u8 0, .int .u8 0, .int .u8 0, .int .u8 0, .int .u8 0, .int .u8 0, .int .u8 0, .int .u8 0, .int .u8 0] 5)) (RowOf.lit w1 _ _ _ 10 rfl (by intro i hi; match i, hi with | 0, _ => rfl | 1, _ => rfl | 2, _ => rfl | 3, _ => rfl | 4, _ => rfl | 5, _ => rfl | 6, _ => rfl | 7, _ => rfl | 8, _ => rfl | 9, _ => rfl)); have HB1 := Lib.hid hb; clear hb ho hr1)
  go_ret
  exact ⟨rfl, (HB.out.trans (HB1.out.mono HB.out.size)).alloc (by have := HB.out.size; have := HB1.out.size; omega) _⟩
end Go.Proofs.Ythonjffojaljdaa
