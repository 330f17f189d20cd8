/-
  CONTRACTS OF corduroylaw07.Told of Zvar and of corduroylaw08.awake, in any world. Conditions: at most 1100 numbers, and the bytes that are wanted, which lie in memory as told.
-/
import Derived.Test.YtknpekpigiclkaaZvarB
import Derived.Test.YtknpekpigiclkaaText
import Derived.Laws.EntriesVeiled
namespace Go.Proofs.Ytknpekpigiclkaa
open Go.ChangeShapes Go.WideShapes Go.ChangeAt Go.RowKit
set_option linter.unusedVariables false
set_option maxRecDepth 100000 in
set_option maxHeartbeats 1000000 in
theorem ztold_out (a aw : Option Addr) (n cap lw cw : Nat) (x : Nat → Int) (hx : ∀ i, i < n → -9223372036854775808 ≤ x i ∧ x i ≤ 9223372036854775807) (hb : blk n = false) (w : World) (h : RowOf w a n (fun i => .int .i64 (x i))) :
    Calls Try.prog 27 #[.iface 75 (.agg #[]), .slice a n cap, .bool true, .slice aw lw cw] w fun e w' => e = .returned (.bool true) ∧ Below w.heap.size w w' := by
  have EN := Lib.hid (fun W => zencode_out a n cap hb W)
  have WR := zwrong_any a n cap
  rw [show wrg n = 7 by simp [wrg, hb]] at WR
  have WR := Lib.hid WR
  have TK := fun W => ztakes_any a n cap W
  have SZ := fun W hW => zsize_any a n cap x hx W hW
  have RB := fun W => rblock_any n W
  simp only [hb] at TK SZ RB
  have TK := Lib.hid TK
  have SZ := Lib.hid SZ
  have RB := Lib.hid RB
  have H := Lib.hid h
  have m1 := zm_encode
  have m2 := zm_takes
  have m3 := zm_size
  clear hb h
  go_enter Try.func27, Try.ntmps27
  go_wp2_with (first
    | (go_at_call 48; refine (EN.out _).mono ?_; rintro e w1 ⟨rfl, hb⟩; have HB1 := Lib.hid hb; clear hb)
    | (go_at_call 35; refine (RB.out _).mono ?_; rintro e w2 ⟨rfl, rfl⟩)
    | (go_at_call 71; refine (WR.out _).mono ?_; rintro e w2 ⟨rfl, hb⟩; have HB2 := Lib.hid hb; clear hb)
    | (go_at_call 49; refine (TK.out _).mono ?_; rintro e w3 ⟨rfl, hb⟩; have HB3 := Lib.hid hb; clear hb)
    | (go_at_call 50; refine (SZ.out _ (((H.out.below HB1.out).below HB2.out).below HB3.out)).mono ?_; rintro e w4 ⟨rfl, hb⟩; have HB4 := Lib.hid hb; clear hb))
  go_ret
  have s1 := HB1.out.size
  have s2 := HB2.out.size
  have s3 := HB3.out.size
  exact ⟨rfl, ((HB1.out.trans (HB2.out.mono (by omega))).trans (HB3.out.mono (by omega))).trans (HB4.out.mono (by omega))⟩
set_option maxRecDepth 100000 in
set_option maxHeartbeats 1000000 in
theorem ztold_in (a aw : Option Addr) (n cap cw : Nat) (x : Nat → Int) (hx : ∀ i, i < n → -9223372036854775808 ≤ x i ∧ x i ≤ 9223372036854775807) (hb : blk n = true) (w : World) (h : RowOf w a n (fun i => .int .i64 (x i))) (hw : RowOf w aw (zl x n) (fun i => .int .u8 ((zb x n).getD i 0))) :
    Calls Try.prog 27 #[.iface 75 (.agg #[]), .slice a n cap, .bool true, .slice aw (zl x n) cw] w fun e w' => e = .returned (.bool true) ∧ Below w.heap.size w w' := by
  have hn : 1 ≤ n ∧ n ≤ 1024 := by have := of_decide_eq_true hb; omega
  have EN := Lib.hid (zencode_in a n cap x hx hb w h)
  have WR := zwrong_any a n cap
  rw [show wrg n = 0 by simp [wrg, hb]] at WR
  have WR := Lib.hid WR
  have TK := fun W => ztakes_any a n cap W
  have SZ := fun W hW => zsize_any a n cap x hx W hW
  have RB := fun W => rblock_any n W
  simp only [hb, if_true] at TK SZ RB
  have TK := Lib.hid TK
  have SZ := Lib.hid SZ
  have RB := Lib.hid RB
  have H := Lib.hid h
  have m1 := zm_encode
  have m2 := zm_takes
  have m3 := zm_size
  have HW := Lib.hid hw
  have hpl : (zb x n).length = zl x n := rfl
  have hzn0 := zl_le x n
  clear hb h hw hx
  obtain ⟨L, hL⟩ : ∃ L, zl x n = L := ⟨_, rfl⟩
  rw [hL] at EN SZ HW hpl hzn0 ⊢
  have HPL := Lib.hid hpl
  clear hL hpl
  generalize zb x n = xs at *
  go_enter Try.func27, Try.ntmps27
  go_wp2_with (first
    | (go_at_call 48; refine EN.out.mono ?_; rintro e w1 ⟨v1, rfl, ho, hb⟩; obtain ⟨a1, c1, rfl, hr1, _⟩ := own_bytes ho; have HR1 := Lib.hid hr1; have HB1 := Lib.hid hb; clear hb ho hr1)
    | (go_at_call 35; refine (RB.out _).mono ?_; rintro e w2 ⟨rfl, rfl⟩)
    | (go_at_call 71; refine (WR.out _).mono ?_; rintro e w2 ⟨rfl, hb⟩; have HB2 := Lib.hid hb; clear hb)
    | (go_at_call 49; refine (TK.out _).mono ?_; rintro e w3 ⟨rfl, hb⟩; have HB3 := Lib.hid hb; have cv1 := conv_list a1 L c1 xs HPL.out w3 ((HR1.out.below HB2.out).below hb); have cv2 := conv_list aw L cw xs HPL.out w3 (((HW.out.below HB1.out).below HB2.out).below hb); clear hb)
    | (go_at_call 50; refine (SZ.out _ (((H.out.below HB1.out).below HB2.out).below HB3.out)).mono ?_; rintro e w4 ⟨rfl, hb⟩; have HB4 := Lib.hid hb; clear hb))
  go_ret
  have s1 := HB1.out.size
  have s2 := HB2.out.size
  have s3 := HB3.out.size
  exact ⟨rfl, ((HB1.out.trans (HB2.out.mono (by omega))).trans (HB3.out.mono (by omega))).trans (HB4.out.mono (by omega))⟩
theorem str_awk : (strOfNums [0, 1, 128, 1]).toList = [0, 1, 128, 1] := by decide +kernel
set_option maxRecDepth 100000 in
set_option maxHeartbeats 1000000 in
theorem awake8_any (w : World) : Calls Try.prog 45 #[] w fun e w' => e = .returned (.bool true) ∧ Below w.heap.size w w' := by
  have EN := Lib.hid (fun W : World => zencode_in (some ⟨W.heap.size, 0, none⟩) 3 3 (fun i => [(0 : Int), -1, 64].getD i 0) (by intro i hi; match i, hi with | 0, _ => decide | 1, _ => decide | 2, _ => decide) (by decide) (W.alloc (.cells #[.int .i64 0, .int .i64 (-1), .int .i64 64] 2)) (RowOf.lit W _ _ _ 3 rfl (by intro i hi; match i, hi with | 0, _ => rfl | 1, _ => rfl | 2, _ => rfl)))
  have HB := Lib.hid ((Below.refl w.heap.size w).alloc (Nat.le_refl _) (.cells #[.int .i64 0, .int .i64 (-1), .int .i64 64] 2))
  have hzb : zb (fun i => [(0 : Int), -1, 64].getD i 0) 3 = [0, 1, 128, 1] := by decide
  have hzl : zl (fun i => [(0 : Int), -1, 64].getD i 0) 3 = 4 := by unfold zl; rw [hzb]; rfl
  rw [hzb, hzl] at EN
  have sf := str_awk
  clear hzb hzl
  go_enter Try.func45, Try.ntmps45
  go_wp2_with (go_at_call 48; refine (EN.out _).mono ?_; rintro e w1 ⟨v1, rfl, ho, hb⟩; obtain ⟨a1, c1, rfl, hr1, _⟩ := own_bytes ho; have cv1 := conv_list a1 4 c1 [0, 1, 128, 1] rfl w1 hr1; have cv2 := conv_list (some ⟨w1.heap.size, 0, none⟩) 4 4 [0, 1, 128, 1] rfl (w1.alloc (.cells #[.int .u8 0, .int .u8 1, .int .u8 128, .int .u8 1] 5)) (RowOf.lit w1 _ _ _ 4 rfl (by intro i hi; match i, hi with | 0, _ => rfl | 1, _ => rfl | 2, _ => rfl | 3, _ => rfl)); have HB1 := Lib.hid hb; clear hb ho hr1)
  go_ret
  exact ⟨rfl, (HB.out.trans (HB1.out.mono HB.out.size)).alloc (by have := HB.out.size; have := HB1.out.size; omega) _⟩
end Go.Proofs.Ytknpekpigiclkaa
