/-
  CONTRACTS OF Zvar's Takes, Size, Name, Encode and of plain.Wrong of Zvar, in any world. Conditions: at most 1100 numbers, which lie in memory as told.
-/
import Derived.Test.YtknpekpigiclkaaZvarA
import Derived.Test.YtknpekpigiclkaaPlainB
namespace Go.Proofs.Ytknpekpigiclkaa
open Go.RowKit
set_option linter.unusedVariables false
theorem ztakes_any (a : Option Addr) (n cap : Nat) (w : World) : Calls Try.prog 49 #[.agg #[], .slice a n cap] w fun e w' => e = .returned (.bool (blk n)) ∧ Below w.heap.size w w' := by
  have BK := Lib.hid (fun W => block_any n W)
  have HB := Lib.hid ((Below.refl w.heap.size w).alloc (Nat.le_refl _) (.cells #[] 75))
  generalize blk n = t at *
  go_enter Try.func49, Try.ntmps49
  go_wp2_with (go_at_call 34; refine (BK.out _).mono ?_; rintro e w1 ⟨rfl, rfl⟩)
  go_ret
  exact ⟨rfl, HB.out⟩
theorem zname_any (w : World) : Calls Try.prog 44 #[.agg #[]] w fun e w' => e = .returned (.string ⟨#[122, 118, 97, 114]⟩) ∧ Below w.heap.size w w' := by
  have HB := Lib.hid ((Below.refl w.heap.size w).alloc (Nat.le_refl _) (.cells #[] 75))
  go_enter Try.func44, Try.ntmps44
  go_wp2
  go_ret
  exact ⟨rfl, HB.out⟩
set_option maxRecDepth 100000 in
set_option maxHeartbeats 1000000 in
theorem zsize_any (a : Option Addr) (n cap : Nat) (x : Nat → Int) (hx : ∀ i, i < n → -9223372036854775808 ≤ x i ∧ x i ≤ 9223372036854775807) (w : World) (h : RowOf w a n (fun i => .int .i64 (x i))) :
    Calls Try.prog 50 #[.agg #[], .slice a n cap] w fun e w' => e = .returned (.int .i64 (if blk n then zl x n else 0 : Nat)) ∧ Below w.heap.size w w' := by
  have HB := Lib.hid ((Below.refl w.heap.size w).alloc (Nat.le_refl _) (.cells #[] 75))
  have TK := fun W => ztakes_any a n cap W
  cases hb : blk n
  · rw [hb] at TK
    have TK := Lib.hid TK
    clear hb h hx
    go_enter Try.func50, Try.ntmps50
    go_wp2_with (go_at_call 49; refine (TK.out _).mono ?_; rintro e w1 ⟨rfl, hb⟩; have HB1 := Lib.hid hb; clear hb)
    go_ret
    exact ⟨rfl, HB.out.trans (HB1.out.mono (by simp))⟩
  · have hn : n ≤ 1024 := by have := of_decide_eq_true hb; omega
    rw [hb] at TK
    have TK := Lib.hid TK
    have H := Lib.hid h
    have HX := Lib.hid hx
    clear hb h hx
    rw [show (if true = true then zl x n else 0 : Nat) = zl x n from rfl]
    go_enter Try.func50, Try.ntmps50
    go_wp2_with (go_at_call 49; refine (TK.out _).mono ?_; rintro e w1 ⟨rfl, hb⟩; have HB1 := Lib.hid (HB.out.trans (hb.mono HB.out.size)); clear hb)
    go_loop [5, 14] (fun s i => ∃ k : Nat, k ≤ n ∧ i = .int .i64 k ∧ s = .int .i64 (zl x k : Nat)) (fun _ i => n - (intOf i).toNat)
    case atStart => exact ⟨0, by omega, rfl, rfl⟩
    case round =>
      obtain ⟨k, hk, rfl, rfl⟩ := hrel
      by_cases hkn : k < n
      · have k1 : (k : Int) < n := by omega
        have k0 : (0 : Int) ≤ k := by omega
        obtain ⟨b, off, rfl, _, hc⟩ := (H.out.below HB1.out).at_ hkn
        have c0 := hc k hkn
        have hyk := HX.out k hkn
        have RL := zl_succ x k
        have hzk := (zl_le x k).2
        generalize x k = y at *
        have ZG := Lib.hid (zig_any y hyk.1 hyk.2)
        have hzn := zg_nat hyk.1 hyk.2
        have SZ := size_any (zg y) hzn.1 hzn.2
        have hd := digs_len 9 (zg y).toNat
        generalize (digs 9 (zg y).toNat).length = q at *
        have SZ := Lib.hid SZ
        have hw : IntKind.i64.wrap ((zl x k : Nat) + (q : Nat) : Int) = ((zl x k + q : Nat) : Int) := by rw [IntWalk.i64_in _ (by omega)]; omega
        have HRL := Lib.hid RL
        clear RL
        generalize zl x k = r at *
        clear hzn hyk hc
        go_wp2_with (first
          | (go_at_call 87; refine (ZG.out _).mono ?_; rintro e w1 ⟨rfl, rfl⟩)
          | (go_at_call 88; refine (SZ.out _).mono ?_; rintro e w1 ⟨rfl, rfl⟩))
        go_round
        case rel => exact ⟨k + 1, by omega, by go_num, by rw [HRL.out]; simp⟩
        case measure => simp [intOf]; omega
      · obtain rfl : k = n := by omega
        go_wp2
        go_ret
        exact ⟨rfl, HB1.out⟩
theorem zm_takes (w : World) : (method 255 75 (.agg #[]) "Takes").run Try.prog w = .ok (49, .agg #[]) w := by kernel_rfl
theorem zm_size (w : World) : (method 255 75 (.agg #[]) "Size").run Try.prog w = .ok (50, .agg #[]) w := by kernel_rfl
theorem zm_encode (w : World) : (method 255 75 (.agg #[]) "Encode").run Try.prog w = .ok (48, .agg #[]) w := by kernel_rfl
theorem zm_decode (w : World) : (method 255 75 (.agg #[]) "Decode").run Try.prog w = .ok (46, .agg #[]) w := by kernel_rfl
theorem zwrong_any (a : Option Addr) (n cap : Nat) (w : World) : Calls Try.prog 71 #[.iface 75 (.agg #[]), .slice a n cap] w fun e w' => e = .returned (.int .i64 (wrg n)) ∧ Below w.heap.size w w' := by
  have BK := Lib.hid (fun W => block_any n W)
  have TK := Lib.hid (fun W => ztakes_any a n cap W)
  have mt := zm_takes
  unfold wrg
  generalize blk n = t at *
  cases t
  · have hv : (if false = true then (0 : Int) else 7) = 7 := rfl
    rw [hv]
    go_enter Try.func71, Try.ntmps71
    go_wp2_with (go_at_call 34; refine (BK.out _).mono ?_; rintro e w1 ⟨rfl, rfl⟩)
    go_ret
    exact ⟨rfl, Below.refl _ _⟩
  · have hv : (if true = true then (0 : Int) else 7) = 0 := rfl
    rw [hv]
    go_enter Try.func71, Try.ntmps71
    go_wp2_with (first | (go_at_call 34; refine (BK.out _).mono ?_; rintro e w1 ⟨rfl, rfl⟩) | (go_at_call 49; refine (TK.out _).mono ?_; rintro e w1 ⟨rfl, hb⟩; have HB1 := Lib.hid hb; clear hb))
    go_ret
    exact ⟨rfl, HB1.out⟩
theorem zencode_out (a : Option Addr) (n cap : Nat) (hb : blk n = false) (w : World) :
    Calls Try.prog 48 #[.agg #[], .slice a n cap] w fun e w' => e = .returned (.tuple #[.slice none 0 0, .int .i64 7]) ∧ Below w.heap.size w w' := by
  have WR := zwrong_any a n cap
  rw [show wrg n = 7 by simp [wrg, hb]] at WR
  have WR := Lib.hid WR
  have HB := Lib.hid ((Below.refl w.heap.size w).alloc (Nat.le_refl _) (.cells #[] 75))
  clear hb
  go_enter Try.func48, Try.ntmps48
  go_wp2_with (go_at_call 71; refine (WR.out _).mono ?_; rintro e w1 ⟨rfl, hb⟩; have HB1 := Lib.hid hb; clear hb)
  go_ret2
  exact ⟨rfl, HB.out.trans (HB1.out.mono (by simp))⟩
set_option maxRecDepth 100000 in
set_option maxHeartbeats 2000000 in
theorem zencode_in (a : Option Addr) (n cap : Nat) (x : Nat → Int) (hx : ∀ i, i < n → -9223372036854775808 ≤ x i ∧ x i ≤ 9223372036854775807) (hb : blk n = true) (w : World) (h : RowOf w a n (fun i => .int .i64 (x i))) :
    Calls Try.prog 48 #[.agg #[], .slice a n cap] w fun e w' => ∃ v, e = .returned (.tuple #[v, .int .i64 0]) ∧ w'.ownsRow w.heap.size 5 1 v (zl x n) (cellsOf (zb x n)) ∧ Below w.heap.size w w' := by
  obtain ⟨i0, hi, hz0, hz1, hz2⟩ := info_parts byteInfo
  have hn : 1 ≤ n ∧ n ≤ 1024 := by have := of_decide_eq_true hb; omega
  obtain ⟨hn1, hn2⟩ := hn
  have WR := zwrong_any a n cap
  rw [show wrg n = 0 by simp [wrg, hb]] at WR
  have WR := Lib.hid WR
  have SZ := fun W hW => zsize_any a n cap x hx W hW
  simp only [hb, if_true] at SZ
  have SZ := Lib.hid SZ
  have hzn0 := zl_le x n
  have H := Lib.hid h
  have HB := Lib.hid ((Below.refl w.heap.size w).alloc (Nat.le_refl _) (.cells #[] 75))
  have LB := Lib.hid (Lies.new w 75 #[])
  clear hb h
  go_enter Try.func48, Try.ntmps48
  go_wp2_with (first
    | (go_at_call 71; refine (WR.out _).mono ?_; rintro e w1 ⟨rfl, hb⟩; have HB1 := Lib.hid hb; clear hb)
    | (go_at_call 50; refine (SZ.out _ ((H.out.below HB.out).below HB1.out)).mono ?_; rintro e w2 ⟨rfl, hb⟩; have HB2 := Lib.hid hb; clear hb)
    | (at_make; go_must (refine wpList_make_own _ rfl _ _ 34 rfl w.heap.size 5 i0 (.int .u8 0) 1 Try.underlying34 hi hz0 hz1 _ _ _ (zl x n) rfl rfl rfl (by rw [hz2]; omega) (by unfold maxLen; omega) (Nat.le_trans HB.out.size (Nat.le_trans HB1.out.size HB2.out.size)) ?_); intro w3 hown hg; have HB3 := Lib.hid ((Below.refl w2.heap.size w2).grown hg (Nat.le_refl _) (fun k hk => by cases hk)); have HO3 := Lib.hid hown; clear hown hg))
  have hbw : Below w.heap.size w w3 := ((HB.out.trans (HB1.out.mono (by simp))).trans (HB2.out.mono (Nat.le_trans HB.out.size HB1.out.size))).trans (HB3.out.mono (Nat.le_trans HB.out.size (Nat.le_trans HB1.out.size HB2.out.size)))
  have HBW := Lib.hid hbw
  clear hbw
  go_loopw [7, 23] (fun v i wr => ∃ k : Nat, k ≤ n ∧ i = .int .i64 k ∧ wr.ownsRow w.heap.size 5 1 v (zl x k) (cellsOf (zb x k)) ∧ Below w.heap.size w wr) (fun _ i _ => n - (intOf i).toNat)
  case atStart => exact ⟨0, by omega, rfl, by simpa [zl, zb, cellsOf] using HO3.out, HBW.out⟩
  case round =>
    obtain ⟨k, hk, rfl, ho, hb⟩ := hrel
    have hsz := hb.size
    by_cases hkn : k < n
    · have k1 : (k : Int) < n := by omega
      have k0 : (0 : Int) ≤ k := by omega
      obtain ⟨b, off, rfl, hblt, hc⟩ := (H.out.below hb).at_ hkn
      have c0 := hc k hkn
      have RS := Lib.hid (show cellsOf (zb x (k + 1)) = cellsOf (zb x k) ++ cellsOf (digs 9 (zg (x k)).toNat) from by rw [zb, cellsOf_append])
      have RL := Lib.hid (zl_succ x k)
      have hzk := (zl_le x k).2
      have hyk := hx k hkn
      have HOW := Lib.hid ho
      have HBR := Lib.hid hb
      clear ho hb hc HO3
      generalize x k = y at *
      have ZG := Lib.hid (zig_any y hyk.1 hyk.2)
      have hzn := zg_nat hyk.1 hyk.2
      obtain ⟨u, hu⟩ : ∃ u : Nat, zg y = u := ⟨(zg y).toNat, by omega⟩
      rw [hu] at ZG RS RL hzn
      rw [Int.toNat_natCast] at RS RL
      have RP := Lib.hid (put_none u (by omega) wr)
      have hd := digs_len 9 u
      have DR := Lib.hid (digs_row u)
      clear hzn hyk hu
      generalize digs 9 u = ds at *
      go_wp2_with (first
        | (go_at_call 87; refine (ZG.out _).mono ?_; rintro e w4 ⟨rfl, rfl⟩)
        | (go_at_call 86; refine RP.out.mono ?_; rintro e w4 ⟨v4, rfl, ho4, hb4⟩
           obtain ⟨a4, c4, rfl, hr4, _⟩ := own_bytes ho4
           have hown := HOW.out
           obtain ⟨v5, w5, hrun, ho5, hg5, _⟩ := run_append_row (P := Try.prog) w4 w.heap.size 34 34 5 i0 (.int .u8 0) 1 Try.underlying34 hi hz0 hz1 hz2 rfl _ (zl x k) _ (owns_turned hown (S := fun i => wr.heap.size ≤ i) (Turned.of_below hb4 (fun i _ hi => by omega)) (fun i hi hs => by have := (hown.lt i hi).2; omega)) a4 ds.length c4 _ hr4 (fun i _ => rfl) (by unfold maxLen; omega) (by omega) (by have := hb4.size; omega)
           rw [DR.out, ← RS.out, ← RL.out] at ho5
           have hb5 := (HBR.out.trans (hb4.mono hsz)).grown hg5 (by have := hb4.size; omega) (fun j hj => (hown.lt j hj).1)
           have HRUN := Lib.hid hrun; have HO5 := Lib.hid ho5; have HB5 := Lib.hid hb5
           clear hown ho4 hb4 hr4 hrun ho5 hg5 hb5)
        | (at_builtin; go_must (refine wpList_append_ran _ _ rfl _ _ 34 rfl _ _ _ rfl rfl HRUN.out ?_)))
      go_roundw
      case rel => exact ⟨k + 1, by omega, by go_num, HO5.out, HB5.out⟩
      case measure => simp [intOf]; omega
    · obtain rfl : k = n := by omega
      have HOW := Lib.hid ho
      have HBR := Lib.hid hb
      clear ho hb HO3
      go_wp2
      go_ret2
      exact ⟨_, rfl, HOW.out, HBR.out⟩
end Go.Proofs.Ytknpekpigiclkaa
