/-
  CONTRACTS OF Plain's Takes, Size, Name, Encode and of plain.Wrong of Plain, in any world. Conditions: at most 1100 numbers, which lie in memory as told.
-/
import Derived.Test.YtknpekpigiclkaaPlainA
namespace Go.Proofs.Ytknpekpigiclkaa
open Go.RowKit
set_option linter.unusedVariables false
/-- What is wrong with a block of so many numbers, that is taken. -/
def wrg (n : Nat) : Int := if blk n then 0 else 7
theorem ptakes_any (a : Option Addr) (n cap : Nat) (w : World) : Calls Try.prog 99 #[.agg #[], .slice a n cap] w fun e w' => e = .returned (.bool (blk n)) ∧ Below w.heap.size w w' := by
  have BK := Lib.hid (fun W => block_any n W)
  have HB := Lib.hid ((Below.refl w.heap.size w).alloc (Nat.le_refl _) (.cells #[] 53))
  generalize blk n = t at *
  go_enter Try.func99, Try.ntmps99
  go_wp2_with (go_at_call 34; refine (BK.out _).mono ?_; rintro e w1 ⟨rfl, rfl⟩)
  go_ret
  exact ⟨rfl, HB.out⟩
theorem pname_any (w : World) : Calls Try.prog 29 #[.agg #[]] w fun e w' => e = .returned (.string ⟨#[112, 108, 97, 105, 110]⟩) ∧ Below w.heap.size w w' := by
  have HB := Lib.hid ((Below.refl w.heap.size w).alloc (Nat.le_refl _) (.cells #[] 53))
  go_enter Try.func29, Try.ntmps29
  go_wp2
  go_ret
  exact ⟨rfl, HB.out⟩
theorem psize_any (a : Option Addr) (n cap : Nat) (hn : n ≤ 100000) (w : World) : Calls Try.prog 77 #[.agg #[], .slice a n cap] w fun e w' => e = .returned (.int .i64 (if blk n then 8 * n else 0 : Nat)) ∧ Below w.heap.size w w' := by
  have HB := Lib.hid ((Below.refl w.heap.size w).alloc (Nat.le_refl _) (.cells #[] 53))
  have TK := Lib.hid (fun W => ptakes_any a n cap W)
  have hs : IntKind.i64.wrap (8 * (n : Int)) = 8 * (n : Int) := IntWalk.i64_in _ (by omega)
  generalize blk n = t at *
  cases t
  · go_enter Try.func77, Try.ntmps77
    go_wp2_with (go_at_call 99; refine (TK.out _).mono ?_; rintro e w1 ⟨rfl, hb⟩; have HB1 := Lib.hid hb; clear hb)
    go_ret
    exact ⟨rfl, HB.out.trans (HB1.out.mono (by simp))⟩
  · go_enter Try.func77, Try.ntmps77
    go_wp2_with (go_at_call 99; refine (TK.out _).mono ?_; rintro e w1 ⟨rfl, hb⟩; have HB1 := Lib.hid hb; clear hb)
    go_ret
    refine ⟨?_, HB.out.trans (HB1.out.mono (by simp))⟩
    simp
theorem pm_takes (w : World) : (method 255 53 (.agg #[]) "Takes").run Try.prog w = .ok (99, .agg #[]) w := by kernel_rfl
theorem pm_size (w : World) : (method 255 53 (.agg #[]) "Size").run Try.prog w = .ok (77, .agg #[]) w := by kernel_rfl
theorem pm_encode (w : World) : (method 255 53 (.agg #[]) "Encode").run Try.prog w = .ok (41, .agg #[]) w := by kernel_rfl
theorem pm_decode (w : World) : (method 255 53 (.agg #[]) "Decode").run Try.prog w = .ok (31, .agg #[]) w := by kernel_rfl
theorem pwrong_any (a : Option Addr) (n cap : Nat) (w : World) : Calls Try.prog 71 #[.iface 53 (.agg #[]), .slice a n cap] w fun e w' => e = .returned (.int .i64 (wrg n)) ∧ Below w.heap.size w w' := by
  have BK := Lib.hid (fun W => block_any n W)
  have TK := Lib.hid (fun W => ptakes_any a n cap W)
  have mt := pm_takes
  unfold wrg
  generalize blk n = t at *
  cases t
  · have hv : (if false = true then (0 : Int) else 7) = 7 := rfl
    rw [hv]
    go_enter Try.func71, Try.ntmps71
    go_wp2_with (go_at_call 34; refine (BK.out _).mono ?_; rintro e w1 ⟨rfl, rfl⟩)
    go_ret
    exact ⟨rfl, Below.refl _ _⟩
  · have hv : (if true = true then (0 : Int) else 7) = 0 := rfl
    rw [hv]
    go_enter Try.func71, Try.ntmps71
    go_wp2_with (first | (go_at_call 34; refine (BK.out _).mono ?_; rintro e w1 ⟨rfl, rfl⟩) | (go_at_call 99; refine (TK.out _).mono ?_; rintro e w1 ⟨rfl, hb⟩; have HB1 := Lib.hid hb; clear hb))
    go_ret
    exact ⟨rfl, HB1.out⟩
theorem bytes8_row (u : Nat) : rowV (fun i => Value.int .u8 ((bytesOf 8 u).getD i 0)) 8 = cellsOf (bytesOf 8 u) := by
  have := bytesOf_length 8 u
  apply List.ext_getElem?
  intro i
  by_cases hi : i < 8
  · rw [rowV_get _ hi]; simp [cellsOf, (by omega : i < (bytesOf 8 u).length)]
  · rw [rowV_ge _ (by omega), List.getElem?_eq_none (by simp [cellsOf]; omega)]
theorem pencode_out (a : Option Addr) (n cap : Nat) (hb : blk n = false) (w : World) :
    Calls Try.prog 41 #[.agg #[], .slice a n cap] w fun e w' => e = .returned (.tuple #[.slice none 0 0, .int .i64 7]) ∧ Below w.heap.size w w' := by
  have WR := pwrong_any a n cap
  rw [show wrg n = 7 by simp [wrg, hb]] at WR
  have WR := Lib.hid WR
  have HB := Lib.hid ((Below.refl w.heap.size w).alloc (Nat.le_refl _) (.cells #[] 53))
  clear hb
  go_enter Try.func41, Try.ntmps41
  go_wp2_with (go_at_call 71; refine (WR.out _).mono ?_; rintro e w1 ⟨rfl, hb⟩; have HB1 := Lib.hid hb; clear hb)
  go_ret2
  exact ⟨rfl, HB.out.trans (HB1.out.mono (by simp))⟩
set_option maxRecDepth 100000 in
set_option maxHeartbeats 2000000 in
theorem pencode_in (a : Option Addr) (n cap : Nat) (x : Nat → Int) (hb : blk n = true) (w : World) (h : RowOf w a n (fun i => .int .i64 (x i))) :
    Calls Try.prog 41 #[.agg #[], .slice a n cap] w fun e w' => ∃ v, e = .returned (.tuple #[v, .int .i64 0]) ∧ w'.ownsRow w.heap.size 5 1 v (8 * n) (cellsOf (pb x n)) ∧ Below w.heap.size w w' := by
  obtain ⟨i0, hi, hz0, hz1, hz2⟩ := info_parts byteInfo
  have hn : 1 ≤ n ∧ n ≤ 1024 := by have := of_decide_eq_true hb; omega
  obtain ⟨hn1, hn2⟩ := hn
  have WR := pwrong_any a n cap
  rw [show wrg n = 0 by simp [wrg, hb]] at WR
  have WR := Lib.hid WR
  have SZ := fun W => psize_any a n cap (by omega) W
  simp only [hb, if_true] at SZ
  have SZ := Lib.hid SZ
  have H := Lib.hid h
  have HB := Lib.hid ((Below.refl w.heap.size w).alloc (Nat.le_refl _) (.cells #[] 53))
  have LB := Lib.hid (Lies.new w 53 #[])
  clear hb h
  go_enter Try.func41, Try.ntmps41
  go_wp2_with (first
    | (go_at_call 71; refine (WR.out _).mono ?_; rintro e w1 ⟨rfl, hb⟩; have HB1 := Lib.hid hb; clear hb)
    | (go_at_call 77; refine (SZ.out _).mono ?_; rintro e w2 ⟨rfl, hb⟩; have HB2 := Lib.hid hb; clear hb)
    | (at_make; go_must (refine wpList_make_own _ rfl _ _ 34 rfl w.heap.size 5 i0 (.int .u8 0) 1 Try.underlying34 hi hz0 hz1 _ _ _ (8 * n) rfl rfl rfl (by rw [hz2]; omega) (by unfold maxLen; omega) (Nat.le_trans HB.out.size (Nat.le_trans HB1.out.size HB2.out.size)) ?_); intro w3 hown hg; have HB3 := Lib.hid ((Below.refl w2.heap.size w2).grown hg (Nat.le_refl _) (fun k hk => by cases hk)); have HO3 := Lib.hid hown; clear hown hg))
  have hbw : Below w.heap.size w w3 := ((HB.out.trans (HB1.out.mono (by simp))).trans (HB2.out.mono (Nat.le_trans HB.out.size HB1.out.size))).trans (HB3.out.mono (Nat.le_trans HB.out.size (Nat.le_trans HB1.out.size HB2.out.size)))
  have HBW := Lib.hid hbw
  clear hbw
  go_loopw [7, 23] (fun v i wr => ∃ k : Nat, k ≤ n ∧ i = .int .i64 k ∧ wr.ownsRow w.heap.size 5 1 v (8 * k) (cellsOf (pb x k)) ∧ Below w.heap.size w wr) (fun _ i _ => n - (intOf i).toNat)
  case atStart => exact ⟨0, by omega, rfl, by simpa [pb, cellsOf] using HO3.out, HBW.out⟩
  case round =>
    obtain ⟨k, hk, rfl, ho, hb⟩ := hrel
    have hsz := hb.size
    by_cases hkn : k < n
    · have k1 : (k : Int) < n := by omega
      have k0 : (0 : Int) ≤ k := by omega
      obtain ⟨b, off, rfl, hblt, hc⟩ := (H.out.below hb).at_ hkn
      have c0 := hc k hkn
      have RS := Lib.hid (show cellsOf (pb x (k + 1)) = cellsOf (pb x k) ++ cellsOf (bytesOf 8 (un (x k))) from by rw [pb, cellsOf_append])
      have HOW := Lib.hid ho
      have HBR := Lib.hid hb
      clear ho hb hc HO3
      generalize x k = y at *
      have hv := un_wrap y
      have hul := un_lt y
      generalize un y = u at *
      have RP := Put64_any none 0 0 (fun _ => 0) u hul (by decide) wr (.inl rfl)
      simp only [Nat.zero_add, List.range_zero, List.map_nil, List.nil_append] at RP
      have RP := Lib.hid RP
      clear hul
      go_wp2_with (first
        | (go_at_call 78; refine RP.out.mono ?_; rintro e w4 ⟨v4, rfl, ho4, hb4⟩
           obtain ⟨a4, c4, rfl, hr4, _⟩ := own_bytes ho4
           have hown := HOW.out
           obtain ⟨v5, w5, hrun, ho5, hg5, _⟩ := run_append_row (P := Try.prog) w4 w.heap.size 34 34 5 i0 (.int .u8 0) 1 Try.underlying34 hi hz0 hz1 hz2 rfl _ (8 * k) _ (owns_turned hown (S := fun i => wr.heap.size ≤ i) (Turned.of_below hb4 (fun i _ hi => by omega)) (fun i hi hs => by have := (hown.lt i hi).2; omega)) a4 8 c4 _ hr4 (fun i _ => rfl) (by unfold maxLen; omega) (by omega) (by have := hb4.size; omega)
           rw [bytes8_row u, ← RS.out] at ho5
           have ho5 : w5.ownsRow w.heap.size 5 1 v5 (8 * (k + 1)) (cellsOf (pb x (k + 1))) := ho5
           have hb5 := (HBR.out.trans (hb4.mono hsz)).grown hg5 (by have := hb4.size; omega) (fun j hj => (hown.lt j hj).1)
           have HRUN := Lib.hid hrun; have HO5 := Lib.hid ho5; have HB5 := Lib.hid hb5
           clear hown ho4 hb4 hr4 hrun ho5 hg5 hb5)
        | (at_builtin; go_must (refine wpList_append_ran _ _ rfl _ _ 34 rfl _ _ _ rfl rfl HRUN.out ?_)))
      go_roundw
      case rel => exact ⟨k + 1, by omega, by go_num, HO5.out, HB5.out⟩
      case measure => simp [intOf]; omega
    · obtain rfl : k = n := by omega
      have HOW := Lib.hid ho
      have HBR := Lib.hid hb
      clear ho hb HO3
      go_wp2
      go_ret2
      exact ⟨_, rfl, HOW.out, HBR.out⟩
end Go.Proofs.Ytknpekpigiclkaa
