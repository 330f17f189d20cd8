/-
  CONTRACTS OF corduroylaw07.Told of Simple and of corduroylaw09.awake, in any world where the table of shapes lies. Conditions: numbers of 64 bits, and the bytes that are wanted, which lie in memory as told.
-/
import Derived.Test.YtelcaejiipibpaaDoorSimpleE
import Derived.Test.YtelcaejiipibpaaDoorText
import Derived.Laws.EntriesVeiled
namespace Go.Proofs.YtelcaejiipibpaaDoor
open Go.ChangeShapes Go.WideShapes Go.ChangeAt Go.RowKit
set_option linter.unusedVariables false
set_option maxRecDepth 100000 in
set_option maxHeartbeats 1000000 in
theorem stold_out (a aw : Option Addr) (n cap lw cw : Nat) (x : Nat → Int) (hx : ∀ i, i < n → -9223372036854775808 ≤ x i ∧ x i ≤ 9223372036854775807) (hb : (blk n && sOk x n) = false) (w : World) (h : RowOf w a n (fun i => .int .i64 (x i))) :
    Calls Tryd.prog 8 #[.iface 25 (.agg #[]), .slice a n cap, .bool (sOk x n), .slice aw lw cw] w fun e w' => e = .returned (.bool true) ∧ Below w.heap.size w w' := by
  have EN := Lib.hid (sencode_out a n cap x hx hb w h)
  have WR0 := fun (W : World) hW => swrong_any a n cap x hx W hW
  have TK0 := fun (W : World) hW => stakes_any a n cap x hx W hW
  have SZ := Lib.hid (fun (W : World) hW => ssize_out a n cap x hx hb W hW)
  have RB0 := fun W => rblock_any n W
  have H := Lib.hid h
  have m1 := sm_encode
  have m2 := sm_takes
  have m3 := sm_size
  unfold sErr at EN WR0
  clear h hx
  generalize sOk x n = u at *
  generalize blk n = t at *
  have WR := Lib.hid WR0
  have TK := Lib.hid TK0
  have RB := Lib.hid RB0
  clear WR0 TK0 RB0
  cases t
  · have hv : (if false = true then (if u = true then (0 : Int) else 10) else 7) = 7 := rfl
    rw [hv] at EN WR
    rw [Bool.false_and] at TK
    clear hb hv
    go_enter Tryd.func8, Tryd.ntmps8
    go_wp2_with (first
      | (go_at_call 17; refine EN.out.mono ?_; rintro e w1 ⟨rfl, hb⟩; have HB1 := Lib.hid hb; clear hb)
      | (go_at_call 20; refine (RB.out _).mono ?_; rintro e w2 ⟨rfl, rfl⟩)
      | (go_at_call 21; refine (WR.out _ (H.out.below HB1.out)).mono ?_; rintro e w2 ⟨rfl, hb⟩; have HB2 := Lib.hid hb; clear hb)
      | (go_at_call 18; refine (TK.out _ ((H.out.below HB1.out).below HB2.out)).mono ?_; rintro e w3 ⟨rfl, hb⟩; have HB3 := Lib.hid hb; clear hb)
      | (go_at_call 19; refine (SZ.out _ (((H.out.below HB1.out).below HB2.out).below HB3.out)).mono ?_; rintro e w4 ⟨rfl, hb⟩; have HB4 := Lib.hid hb; clear hb))
    go_ret
    have s1 := HB1.out.size
    have s2 := HB2.out.size
    have s3 := HB3.out.size
    exact ⟨rfl, ((HB1.out.trans (HB2.out.mono (by omega))).trans (HB3.out.mono (by omega))).trans (HB4.out.mono (by omega))⟩
  · rw [Bool.true_and] at hb
    subst hb
    have hv : (if true = true then (if false = true then (0 : Int) else 10) else 7) = 10 := rfl
    rw [hv] at EN WR
    rw [Bool.and_false] at TK
    clear hv
    go_enter Tryd.func8, Tryd.ntmps8
    go_wp2_with (first
      | (go_at_call 17; refine EN.out.mono ?_; rintro e w1 ⟨rfl, hb⟩; have HB1 := Lib.hid hb; clear hb)
      | (go_at_call 20; refine (RB.out _).mono ?_; rintro e w2 ⟨rfl, rfl⟩)
      | (go_at_call 21; refine (WR.out _ (H.out.below HB1.out)).mono ?_; rintro e w2 ⟨rfl, hb⟩; have HB2 := Lib.hid hb; clear hb)
      | (go_at_call 18; refine (TK.out _ ((H.out.below HB1.out).below HB2.out)).mono ?_; rintro e w3 ⟨rfl, hb⟩; have HB3 := Lib.hid hb; clear hb)
      | (go_at_call 19; refine (SZ.out _ (((H.out.below HB1.out).below HB2.out).below HB3.out)).mono ?_; rintro e w4 ⟨rfl, hb⟩; have HB4 := Lib.hid hb; clear hb))
    go_ret
    have s1 := HB1.out.size
    have s2 := HB2.out.size
    have s3 := HB3.out.size
    exact ⟨rfl, ((HB1.out.trans (HB2.out.mono (by omega))).trans (HB3.out.mono (by omega))).trans (HB4.out.mono (by omega))⟩
set_option maxRecDepth 100000 in
set_option maxHeartbeats 1000000 in
theorem stold_in (a aw : Option Addr) (n cap P cw : Nat) (x : Nat → Int) (hx : ∀ i, i < n → -9223372036854775808 ≤ x i ∧ x i ≤ 9223372036854775807) (hbk : blk n = true) (hok : sOk x n = true) (hPn : P ≤ n) (hP : sAt (hz x) n P = n) (hPl : ∀ k, k < P → sAt (hz x) n k < n)
    (w : World) (h : RowOf w a n (fun i => .int .i64 (x i))) (hT : SW w) (hw : RowOf w aw (8 * P) (fun i => .int .u8 ((sF (hz x) n P).getD i 0))) :
    Calls Tryd.prog 8 #[.iface 25 (.agg #[]), .slice a n cap, .bool true, .slice aw (8 * P) cw] w fun e w' => e = .returned (.bool true) ∧ Below w.heap.size w w' := by
  have hn : 1 ≤ n ∧ n ≤ 1024 := by have := of_decide_eq_true hbk; omega
  have EN := Lib.hid (sencode_in a n cap P x hx hbk hok hPn hP hPl w h hT)
  have WR := fun (W : World) hW => swrong_any a n cap x hx W hW
  rw [show sErr x n = 0 by simp [sErr, hbk, hok]] at WR
  have WR := Lib.hid WR
  have TK := fun (W : World) hW => stakes_any a n cap x hx W hW
  have SZ := Lib.hid (fun (W : World) hW hT => ssize_in a n cap P x hx hbk hok hPn hP hPl W hW hT)
  have RB := fun W => rblock_any n W
  simp only [hbk, hok, Bool.and_true] at TK RB
  have TK := Lib.hid TK
  have RB := Lib.hid RB
  have H := Lib.hid h
  have HT := Lib.hid hT
  have m1 := sm_encode
  have m2 := sm_takes
  have m3 := sm_size
  have HW := Lib.hid hw
  have HPL := Lib.hid (sF_length (hz x) n P)
  have hl1 : 8 * P ≤ 9000 := by omega
  clear hbk hok hP hPl h hw hx hT hPn
  obtain ⟨L, hL⟩ : ∃ L, 8 * P = L := ⟨_, rfl⟩
  rw [hL] at EN SZ HW HPL hl1 ⊢
  clear hL
  generalize sF (hz x) n P = xs at *
  go_enter Tryd.func8, Tryd.ntmps8
  go_wp2_with (first
    | (go_at_call 17; refine EN.out.mono ?_; rintro e w1 ⟨v1, rfl, ho, hb⟩; obtain ⟨a1, c1, rfl, hr1, _⟩ := own_bytes ho; have HR1 := Lib.hid hr1; have HB1 := Lib.hid hb; clear hb ho hr1)
    | (go_at_call 20; refine (RB.out _).mono ?_; rintro e w2 ⟨rfl, rfl⟩)
    | (go_at_call 21; refine (WR.out _ (H.out.below HB1.out)).mono ?_; rintro e w2 ⟨rfl, hb⟩; have HB2 := Lib.hid hb; clear hb)
    | (go_at_call 18; refine (TK.out _ ((H.out.below HB1.out).below HB2.out)).mono ?_; rintro e w3 ⟨rfl, hb⟩; have HB3 := Lib.hid hb; have cv1 := conv_list a1 L c1 xs HPL.out w3 ((HR1.out.below HB2.out).below hb); have cv2 := conv_list aw L cw xs HPL.out w3 (((HW.out.below HB1.out).below HB2.out).below hb); clear hb)
    | (go_at_call 19; refine (SZ.out _ (((H.out.below HB1.out).below HB2.out).below HB3.out) (((HT.out.below HB1.out).below HB2.out).below HB3.out)).mono ?_; rintro e w4 ⟨rfl, hb⟩; have HB4 := Lib.hid hb; clear hb))
  go_ret
  have s1 := HB1.out.size
  have s2 := HB2.out.size
  have s3 := HB3.out.size
  exact ⟨rfl, ((HB1.out.trans (HB2.out.mono (by omega))).trans (HB3.out.mono (by omega))).trans (HB4.out.mono (by omega))⟩
theorem str_awk9 : (strOfNums [1, 0, 0, 64, 0, 0, 0, 224]).toList = [1, 0, 0, 64, 0, 0, 0, 224] := by decide +kernel
theorem awk_form : sF (hz fun i => [(-1 : Int), -1].getD i 0) 2 1 = [1, 0, 0, 64, 0, 0, 0, 224] := by decide +kernel
theorem awk_at : sAt (hz fun i => [(-1 : Int), -1].getD i 0) 2 1 = 2 := by decide +kernel
set_option maxRecDepth 100000 in
set_option maxHeartbeats 1000000 in
theorem awake09_any (w : World) (hT : SW w) : Calls Tryd.prog 12 #[] w fun e w' => e = .returned (.bool true) ∧ Below w.heap.size w w' := by
  have hb0 := (Below.refl w.heap.size w).alloc (Nat.le_refl _) (.cells #[.int .i64 (-1), .int .i64 (-1)] 2)
  have E1 := sencode_in (some ⟨w.heap.size, 0, none⟩) 2 2 1 (fun i => [(-1 : Int), -1].getD i 0) (by intro i hi; match i, hi with | 0, _ => decide | 1, _ => decide) (by decide) (by decide +kernel) (by decide) awk_at (by intro k hk; match k, hk with | 0, _ => decide) (w.alloc (.cells #[.int .i64 (-1), .int .i64 (-1)] 2)) (RowOf.lit w _ _ _ 2 rfl (by intro i hi; match i, hi with | 0, _ => rfl | 1, _ => rfl)) (hT.below hb0)
  rw [awk_form] at E1
  have EA := Lib.hid E1
  have s1 := str_awk9
  have HB := Lib.hid hb0
  clear E1 hT hb0
  go_enter Tryd.func12, Tryd.ntmps12
  go_wp2_with (first
    | (go_at_call 17; refine EA.out.mono ?_; clear EA; rintro e w2 ⟨v1, rfl, ho, hb⟩; obtain ⟨a1, c1, rfl, hr1, _⟩ := own_bytes ho; have HB1 := Lib.hid (HB.out.trans (hb.mono HB.out.size))
       have cv1 := conv_list a1 (8 * 1) c1 [1, 0, 0, 64, 0, 0, 0, 224] rfl w2 hr1
       have cv2 := conv_list (some ⟨w2.heap.size, 0, none⟩) 8 8 [1, 0, 0, 64, 0, 0, 0, 224] rfl (w2.alloc (.cells #[.int .u8 1, .int .u8 0, .int .u8 0, .int .u8 64, .int .u8 0, .int .u8 0, .int .u8 0, .int .u8 224] 5)) (RowOf.lit w2 _ _ _ 8 rfl (by intro i hi; match i, hi with | 0, _ => rfl | 1, _ => rfl | 2, _ => rfl | 3, _ => rfl | 4, _ => rfl | 5, _ => rfl | 6, _ => rfl | 7, _ => rfl))
       clear hb ho hr1))
  go_ret
  exact ⟨rfl, HB1.out.alloc HB1.out.size _⟩
end Go.Proofs.YtelcaejiipibpaaDoor
