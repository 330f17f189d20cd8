/-
  CONTRACTS OF corduroylaw07.Told of Plain and of corduroylaw07.awake, in any world. Conditions: at most 1100 numbers, and the bytes that are wanted, which lie in memory as told.
-/
import Derived.Test.YtknpekpigiclkaaPlainB
import Derived.Laws.EntriesVeiled
namespace Go.Proofs.Ytknpekpigiclkaa
open Go.ChangeShapes Go.WideShapes Go.ChangeAt Go.RowKit
set_option linter.unusedVariables false
set_option maxRecDepth 100000 in
set_option maxHeartbeats 1000000 in
theorem told_out (a aw : Option Addr) (n cap lw cw : Nat) (hn : n ≤ 1100) (hb : blk n = false) (w : World) :
    Calls Try.prog 27 #[.iface 53 (.agg #[]), .slice a n cap, .bool true, .slice aw lw cw] w fun e w' => e = .returned (.bool true) ∧ Below w.heap.size w w' := by
  have EN := Lib.hid (fun W => pencode_out a n cap hb W)
  have WR := pwrong_any a n cap
  rw [show wrg n = 7 by simp [wrg, hb]] at WR
  have WR := Lib.hid WR
  have TK := fun W => ptakes_any a n cap W
  have SZ := fun W => psize_any a n cap (by omega) W
  have RB := fun W => rblock_any n W
  simp only [hb] at TK SZ RB
  have TK := Lib.hid TK
  have SZ := Lib.hid SZ
  have RB := Lib.hid RB
  have m1 := pm_encode
  have m2 := pm_takes
  have m3 := pm_size
  clear hb
  go_enter Try.func27, Try.ntmps27
  go_wp2_with (first
    | (go_at_call 41; refine (EN.out _).mono ?_; rintro e w1 ⟨rfl, hb⟩; have HB1 := Lib.hid hb; clear hb)
    | (go_at_call 35; refine (RB.out _).mono ?_; rintro e w2 ⟨rfl, rfl⟩)
    | (go_at_call 71; refine (WR.out _).mono ?_; rintro e w2 ⟨rfl, hb⟩; have HB2 := Lib.hid hb; clear hb)
    | (go_at_call 99; refine (TK.out _).mono ?_; rintro e w3 ⟨rfl, hb⟩; have HB3 := Lib.hid hb; clear hb)
    | (go_at_call 77; refine (SZ.out _).mono ?_; rintro e w4 ⟨rfl, hb⟩; have HB4 := Lib.hid hb; clear hb))
  go_ret
  have s1 := HB1.out.size
  have s2 := HB2.out.size
  have s3 := HB3.out.size
  exact ⟨rfl, ((HB1.out.trans (HB2.out.mono (by omega))).trans (HB3.out.mono (by omega))).trans (HB4.out.mono (by omega))⟩
set_option maxRecDepth 100000 in
set_option maxHeartbeats 1000000 in
theorem told_in (a aw : Option Addr) (n cap cw : Nat) (x : Nat → Int) (hb : blk n = true) (w : World) (h : RowOf w a n (fun i => .int .i64 (x i))) (hw : RowOf w aw (8 * n) (fun i => .int .u8 ((pb x n).getD i 0))) :
    Calls Try.prog 27 #[.iface 53 (.agg #[]), .slice a n cap, .bool true, .slice aw (8 * n) cw] w fun e w' => e = .returned (.bool true) ∧ Below w.heap.size w w' := by
  have hn : 1 ≤ n ∧ n ≤ 1024 := by have := of_decide_eq_true hb; omega
  have EN := Lib.hid (pencode_in a n cap x hb w h)
  have WR := pwrong_any a n cap
  rw [show wrg n = 0 by simp [wrg, hb]] at WR
  have WR := Lib.hid WR
  have TK := fun W => ptakes_any a n cap W
  have SZ := fun W => psize_any a n cap (by omega) W
  have RB := fun W => rblock_any n W
  simp only [hb, if_true] at TK SZ RB
  have TK := Lib.hid TK
  have SZ := Lib.hid SZ
  have RB := Lib.hid RB
  have m1 := pm_encode
  have m2 := pm_takes
  have m3 := pm_size
  have HW := Lib.hid hw
  have HPL := Lib.hid (pb_length x n)
  clear hb h hw hn
  generalize pb x n = xs at *
  go_enter Try.func27, Try.ntmps27
  go_wp2_with (first
    | (go_at_call 41; refine EN.out.mono ?_; rintro e w1 ⟨v1, rfl, ho, hb⟩; obtain ⟨a1, c1, rfl, hr1, _⟩ := own_bytes ho; have HR1 := Lib.hid hr1; have HB1 := Lib.hid hb; clear hb ho hr1)
    | (go_at_call 35; refine (RB.out _).mono ?_; rintro e w2 ⟨rfl, rfl⟩)
    | (go_at_call 71; refine (WR.out _).mono ?_; rintro e w2 ⟨rfl, hb⟩; have HB2 := Lib.hid hb; clear hb)
    | (go_at_call 99; refine (TK.out _).mono ?_; rintro e w3 ⟨rfl, hb⟩; have HB3 := Lib.hid hb; have cv1 := conv_list a1 (8 * n) c1 xs HPL.out w3 ((HR1.out.below HB2.out).below hb); have cv2 := conv_list aw (8 * n) cw xs HPL.out w3 (((HW.out.below HB1.out).below HB2.out).below hb); clear hb)
    | (go_at_call 77; refine (SZ.out _).mono ?_; rintro e w4 ⟨rfl, hb⟩; have HB4 := Lib.hid hb; clear hb))
  go_ret
  have s1 := HB1.out.size
  have s2 := HB2.out.size
  have s3 := HB3.out.size
  exact ⟨rfl, ((HB1.out.trans (HB2.out.mono (by omega))).trans (HB3.out.mono (by omega))).trans (HB4.out.mono (by omega))⟩
theorem str_ff : (strOfNums [255, 255, 255, 255, 255, 255, 255, 255]).toList = [255, 255, 255, 255, 255, 255, 255, 255] := by decide +kernel
set_option maxRecDepth 100000 in
theorem awake7_any (w : World) : Calls Try.prog 30 #[] w fun e w' => e = .returned (.bool true) ∧ Below w.heap.size w w' := by
  have EN := Lib.hid (fun W : World => pencode_in (some ⟨W.heap.size, 0, none⟩) 1 1 (fun _ => -1) (by decide) (W.alloc (.cells #[.int .i64 (-1)] 2)) (RowOf.lit W _ _ _ 1 rfl (fun i hi => by obtain rfl : i = 0 := (by omega); rfl)))
  have HB := Lib.hid ((Below.refl w.heap.size w).alloc (Nat.le_refl _) (.cells #[.int .i64 (-1)] 2))
  have hpb : pb (fun _ => -1) 1 = [255, 255, 255, 255, 255, 255, 255, 255] := by decide
  rw [hpb] at EN
  have sf := str_ff
  clear hpb
  go_enter Try.func30, Try.ntmps30
  go_wp2_with (go_at_call 41; refine (EN.out _).mono ?_; rintro e w1 ⟨v1, rfl, ho, hb⟩; obtain ⟨a1, c1, rfl, hr1, _⟩ := own_bytes ho; have cv1 := conv_list a1 (8 * 1) c1 _ rfl w1 hr1; have HB1 := Lib.hid hb; clear hb ho hr1)
  go_ret
  exact ⟨rfl, HB.out.trans (HB1.out.mono (by simp))⟩
end Go.Proofs.Ytknpekpigiclkaa
