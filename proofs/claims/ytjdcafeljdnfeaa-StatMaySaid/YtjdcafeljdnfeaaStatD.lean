/-
  CONTRACTS OF corduroylaw21.awake AND OF stat.Stat.Join, in any world. Conditions: the ranges that each names.
-/
import Derived.Test.YtjdcafeljdnfeaaStatB
namespace Go.Proofs.Ytjdcafeljdnfeaa
open Go.RowKit
set_option linter.unusedVariables false
attribute [local go_sem] run_store_float
theorem nan_any (w : World) : Calls Try.prog 98 #[] w fun e w' => e = .returned (.float .f64 9221120237041090561) ∧ w = w' := by
  have hf := call_frombits
  go_enter Try.func98, Try.ntmps98
  go_wp2
  go_ret
  exact ⟨rfl, rfl⟩
theorem signbit_minus (w : World) : Calls Try.prog 99 #[.float .f64 9223372036854775808] w fun e w' => e = .returned (.bool true) ∧ w = w' := by
  have hb := call_bits
  have e1 : wrap64 9223372036854775808 = -9223372036854775808 := by unfold wrap64; omega
  go_enter Try.func99, Try.ntmps99
  go_wp2
  go_ret
  exact ⟨rfl, rfl⟩
theorem signbit_plus (w : World) : Calls Try.prog 99 #[.float .f64 0] w fun e w' => e = .returned (.bool false) ∧ w = w' := by
  have hb := call_bits
  go_enter Try.func99, Try.ntmps99
  go_wp2
  go_ret
  exact ⟨rfl, rfl⟩
theorem two_told : (fold (fun i => [0, 9223372036854775808].getD i 0) 2).cnt = 2 ∧ (fold (fun i => [0, 9223372036854775808].getD i 0) 2).mn = 9223372036854775808 ∧ (fold (fun i => [0, 9223372036854775808].getD i 0) 2).mx = 0 := by decide +kernel
theorem nan_told : (fold (fun _ => 9221120237041090561) 1).cnt = 1 ∧ (fold (fun _ => 9221120237041090561) 1).any = false := by decide +kernel
set_option maxRecDepth 100000 in
set_option maxHeartbeats 1000000 in
theorem awake21_any (w : World) : Calls Try.prog 53 #[] w fun e w' => e = .returned (.bool true) ∧ Below w.heap.size w w' := by
  obtain ⟨x1, x2, x3⟩ := two_told
  obtain ⟨y1, y2⟩ := nan_told
  have O1 := Lib.hid (fun W : World => of_any (some ⟨W.heap.size, 0, none⟩) 2 2 (fun i => [0, 9223372036854775808].getD i 0) (by intro i hi; match i, hi with | 0, _ => decide | 1, _ => decide) (by decide) (W.alloc (.cells #[.float .f64 0, .float .f64 9223372036854775808] 79)) (RowOf.lit W _ _ _ 2 rfl (by intro i hi; match i, hi with | 0, _ => rfl | 1, _ => rfl)))
  have O2 := Lib.hid (fun W : World => of_any (some ⟨W.heap.size, 0, none⟩) 1 1 (fun _ => 9221120237041090561) (by intro i hi; decide) (by decide) (W.alloc (.cells #[.float .f64 9221120237041090561] 79)) (RowOf.lit W _ _ _ 1 rfl (by intro i hi; match i, hi with | 0, _ => rfl)))
  generalize fold (fun i => [0, 9223372036854775808].getD i 0) 2 = s at *
  generalize fold (fun _ => 9221120237041090561) 1 = u at *
  go_enter Try.func53, Try.ntmps53
  go_wp2_with fail
  refine (copysign_zero _).mono ?_
  rintro e w' ⟨rfl, rfl⟩
  go_wp2_with fail
  refine (O1.out _).mono ?_
  rintro e w1 ⟨rfl, hb1⟩
  have B1 : Below w.heap.size w w1 := ((Below.refl _ w).alloc (Nat.le_refl _) _).trans (hb1.mono (by simp))
  clear hb1
  go_wp2_with fail
  refine (nan_any _).mono ?_
  rintro e w' ⟨rfl, rfl⟩
  go_wp2_with fail
  refine (O2.out _).mono ?_
  rintro e w2 ⟨rfl, hb2⟩
  have B2 : Below w.heap.size w w2 := (B1.alloc B1.size _).trans (hb2.mono (by have := B1.size; simp; omega))
  have B2 := Lib.hid B2
  clear hb2 B1
  obtain ⟨W0, hW0⟩ : ∃ W0, (w2.alloc (.cells #[.int .i64 0, .int .i64 0, .int .i64 0, .int .i64 0, .int .i64 0, .int .i64 0, .int .i64 0, .int .i64 0, .int .i64 0, .int .i64 0, .int .i64 0, .bool false, .float .f64 0, .float .f64 0] 81)).alloc (.cells #[.int .i64 0, .int .i64 0, .int .i64 0, .int .i64 0, .int .i64 0, .int .i64 0, .int .i64 0, .int .i64 0, .int .i64 0, .int .i64 0, .int .i64 0, .bool false, .float .f64 0, .float .f64 0] 81) = W0 := ⟨_, rfl⟩
  obtain ⟨b1, b2, b3⟩ := two_blocks st0 w2 W0 _ hW0
  obtain ⟨W1, hW1⟩ : ∃ W1, W0.setRow w2.heap.size (stV s) = W1 := ⟨_, rfl⟩
  have c1 := lies_row b1 hW1
  have c2 := lies_rowFar b2 (by omega) hW1
  have c3 := below_row b3 (Nat.le_refl _) hW1
  obtain ⟨W2, hW2⟩ : ∃ W2, W1.setRow (w2.heap.size + 1) (stV u) = W2 := ⟨_, rfl⟩
  have d1 := lies_rowFar c1 (by omega) hW2
  have d2 := lies_row c2 hW2
  have d3 := below_row c3 (by omega) hW2
  have k0 : W2.cell? ⟨w2.heap.size, 0, none⟩ = some (.int .i64 s.cnt) := d1.cell 0
  have k1 : W2.cell? ⟨w2.heap.size, 12, none⟩ = some (.float .f64 s.mn) := d1.cell 12
  have k2 : W2.cell? ⟨w2.heap.size, 13, none⟩ = some (.float .f64 s.mx) := d1.cell 13
  have k3 : W2.cell? ⟨w2.heap.size + 1, 0, none⟩ = some (.int .i64 u.cnt) := d2.cell 0
  have k4 : W2.cell? ⟨w2.heap.size + 1, 11, none⟩ = some (.bool u.any) := d2.cell 11
  rw [x1] at k0
  rw [x2] at k1
  rw [x3] at k2
  rw [y1] at k3
  rw [y2] at k4
  have D3 := Lib.hid d3
  have E1 := Lib.hid b1
  have E2 := Lib.hid c2
  have H1 := Lib.hid (stV_one s)
  have H2 := Lib.hid (stV_one u)
  have S1 := Lib.hid (stV_size s)
  have S2 := Lib.hid (stV_size u)
  clear x1 x2 x3 y1 y2 b1 b2 b3 c1 c2 c3 d1 d2 d3
  generalize stV s = cs at *
  generalize stV u = ds at *
  go_wp2_with (first | (refine wpList_store_row rfl 81 (.tmp 1) (.tmp 5) rfl w2.heap.size cs rfl rfl 81 _ E1.out (stat_info.trans (congrArg some S1.out.symm)) (by rw [S1.out]; rfl) H1.out ?_; rw [hW1]) | (refine wpList_store_row rfl 81 (.tmp 2) (.tmp 8) rfl (w2.heap.size + 1) ds rfl rfl 81 _ E2.out (stat_info.trans (congrArg some S2.out.symm)) (by rw [S2.out]; rfl) H2.out ?_; rw [hW2]) | (go_at_call 99; ((with_reducible refine (signbit_minus _).mono ?_); rintro e w' ⟨rfl, rfl⟩)) | (go_at_call 99; ((with_reducible refine (signbit_plus _).mono ?_); rintro e w' ⟨rfl, rfl⟩)))
  go_ret
  exact ⟨rfl, B2.out.trans (D3.out.mono B2.out.size)⟩
/-- Both, the least and the greatest left aside. -/
def both (s o : St) (j : Nat) : St := { s with cnt := s.cnt + o.cnt, k := fun i => if i < j then s.k i + o.k i else s.k i }
/-- What is told of both. -/
def joi (s o : St) : St := if o.any = true then wid { both s o 9 with whole := s.whole + o.whole } o.mn o.mx else { both s o 9 with whole := s.whole + o.whole }
theorem both_zero (s o : St) : (stV s).setIfInBounds 0 (.int .i64 (s.cnt + o.cnt)) = stV (both s o 0) := by
  rw [stV_cnt]
  have : (fun i => if i < 0 then s.k i + o.k i else s.k i) = s.k := by funext i; simp
  unfold both
  rw [this]
theorem both_succ (s o : St) (j : Nat) (hj : j < 9) : (stV (both s o j)).setIfInBounds (1 + j) (.int .i64 (s.k j + o.k j)) = stV (both s o (j + 1)) := by
  rw [stV_k _ j hj]
  have : (fun i => if i = j then s.k j + o.k j else if i < j then s.k i + o.k i else s.k i) = (fun i => if i < j + 1 then s.k i + o.k i else s.k i) := by
    funext i
    by_cases h : i = j
    · subst h; simp
    · rw [if_neg h]
      by_cases h2 : i < j
      · rw [if_pos h2, if_pos (by omega)]
      · rw [if_neg h2, if_neg (by omega)]
  unfold both setK
  simp only
  rw [this]
theorem both_at (s o : St) (j : Nat) : (both s o j).k j = s.k j := by unfold both; simp
theorem run_index_nine (s : St) (j : Nat) (hj : j < 9) (w : World) : (Instr.index 78 (.agg #[.int .i64 (s.k 0), .int .i64 (s.k 1), .int .i64 (s.k 2), .int .i64 (s.k 3), .int .i64 (s.k 4), .int .i64 (s.k 5), .int .i64 (s.k 6), .int .i64 (s.k 7), .int .i64 (s.k 8)]) (.int .i64 (j : Nat))).run Try.prog w = .ok (.int .i64 (s.k j)) w := by
  obtain rfl | rfl | rfl | rfl | rfl | rfl | rfl | rfl | rfl : j = 0 ∨ j = 1 ∨ j = 2 ∨ j = 3 ∨ j = 4 ∨ j = 5 ∨ j = 6 ∨ j = 7 ∨ j = 8 := by omega
  all_goals kernel_rfl
set_option maxRecDepth 100000 in
set_option maxHeartbeats 1000000 in
theorem join_any (s o : St) (hs : Small 1000 s) (ho : Small 1000 o) (w : World) :
    Calls Try.prog 54 #[.agg (stV s), .agg (stV o)] w fun e w' => e = .returned (.agg (stV (joi s o))) ∧ Below w.heap.size w w' := by
  obtain ⟨⟨a1, a2⟩, a3, ⟨a4, a5⟩, a6, a7⟩ := hs
  obtain ⟨⟨b1, b2⟩, b3, ⟨b4, b5⟩, b6, b7⟩ := ho
  have HA := Lib.hid a3
  have HB := Lib.hid b3
  have WD := Lib.hid (fun W => widened_any { both s o 9 with whole := s.whole + o.whole } o.mn o.mx b6 b7 a6 a7 W)
  have HI := Lib.hid (run_index_nine o)
  clear a3 b3 a6 a7
  obtain ⟨W0, hW0⟩ : ∃ W0, ((w.alloc (.cells (stV s) 81)).alloc (.cells (stV o) 81)).alloc (.cells #[.int .i64 0, .int .i64 0, .int .i64 0, .int .i64 0, .int .i64 0, .int .i64 0, .int .i64 0, .int .i64 0, .int .i64 0, .int .i64 0, .int .i64 0, .bool false, .float .f64 0, .float .f64 0] 81) = W0 := ⟨_, rfl⟩
  have l1 : Lies W0 w.heap.size 81 (stV s) := by rw [← hW0]; exact ((Lies.new _ _ _).alloc _).alloc _
  have l2 : Lies W0 (w.heap.size + 1) 81 (stV o) := by rw [← hW0]; have := (Lies.new (w.alloc (.cells (stV s) 81)) 81 (stV o)).alloc (.cells #[.int .i64 0, .int .i64 0, .int .i64 0, .int .i64 0, .int .i64 0, .int .i64 0, .int .i64 0, .int .i64 0, .int .i64 0, .int .i64 0, .int .i64 0, .bool false, .float .f64 0, .float .f64 0] 81); rw [show (w.alloc (.cells (stV s) 81)).heap.size = w.heap.size + 1 from by simp] at this; exact this
  have l3 : Lies W0 (w.heap.size + 2) 81 #[.int .i64 0, .int .i64 0, .int .i64 0, .int .i64 0, .int .i64 0, .int .i64 0, .int .i64 0, .int .i64 0, .int .i64 0, .int .i64 0, .int .i64 0, .bool false, .float .f64 0, .float .f64 0] := by rw [← hW0]; have := Lies.new ((w.alloc (.cells (stV s) 81)).alloc (.cells (stV o) 81)) 81 #[.int .i64 0, .int .i64 0, .int .i64 0, .int .i64 0, .int .i64 0, .int .i64 0, .int .i64 0, .int .i64 0, .int .i64 0, .int .i64 0, .int .i64 0, .bool false, .float .f64 0, .float .f64 0]; rw [show ((w.alloc (.cells (stV s) 81)).alloc (.cells (stV o) 81)).heap.size = w.heap.size + 2 from by simp] at this; exact this
  have l4 : Below w.heap.size w W0 := by rw [← hW0]; exact (((Below.refl _ _).alloc (Nat.le_refl _) _).alloc (by simp) _).alloc (by simp; omega) _
  have c0 : W0.cell? ⟨w.heap.size, 0, none⟩ = some (.int .i64 s.cnt) := l1.cell 0
  have f0 := l1.frozen 0
  have e0 : W0.cell? ⟨w.heap.size + 1, 0, none⟩ = some (.int .i64 o.cnt) := l2.cell 0
  obtain ⟨W1, hW1⟩ : ∃ W1, W0.setCell ⟨w.heap.size, 0, none⟩ (.int .i64 (s.cnt + o.cnt)) = W1 := ⟨_, rfl⟩
  have m1 := lies_set l1 hW1 (both_zero s o)
  have m2 := lies_far l2 (by omega) hW1
  have m3 := lies_far l3 (by omega) hW1
  have m4 := below_set l4 (Nat.le_refl _) hW1
  have g1 : ∀ i v, i < 9 → (stV o)[1 + i]? = some v → W1.cell? ⟨w.heap.size + 1, 1 + i, none⟩ = some v := fun i v _ h => (m2.cell (1 + i)).trans h
  have g10 : W1.cell? ⟨w.heap.size + 1, 1, none⟩ = some (.int .i64 (o.k 0)) := m2.cell 1
  have g11 : W1.cell? ⟨w.heap.size + 1, 2, none⟩ = some (.int .i64 (o.k 1)) := m2.cell 2
  have g12 : W1.cell? ⟨w.heap.size + 1, 3, none⟩ = some (.int .i64 (o.k 2)) := m2.cell 3
  have g13 : W1.cell? ⟨w.heap.size + 1, 4, none⟩ = some (.int .i64 (o.k 3)) := m2.cell 4
  have g14 : W1.cell? ⟨w.heap.size + 1, 5, none⟩ = some (.int .i64 (o.k 4)) := m2.cell 5
  have g15 : W1.cell? ⟨w.heap.size + 1, 6, none⟩ = some (.int .i64 (o.k 5)) := m2.cell 6
  have g16 : W1.cell? ⟨w.heap.size + 1, 7, none⟩ = some (.int .i64 (o.k 6)) := m2.cell 7
  have g17 : W1.cell? ⟨w.heap.size + 1, 8, none⟩ = some (.int .i64 (o.k 7)) := m2.cell 8
  have g18 : W1.cell? ⟨w.heap.size + 1, 9, none⟩ = some (.int .i64 (o.k 8)) := m2.cell 9
  have M1 := Lib.hid m1
  have M2 := Lib.hid m2
  have M3 := Lib.hid m3
  have M4 := Lib.hid m4
  clear l1 l2 l3 l4 m1 m2 m3 m4 g1
  have KL := Lib.hid (show ∀ j, (stV (both s o j)).size = 14 from fun j => rfl)
  go_enter Try.func54, Try.ntmps54
  go_wp2
  clear c0 f0 e0 g10 g11 g12 g13 g14 g15 g16 g17 g18
  go_loopw [15] (fun i wr => ∃ j : Nat, j ≤ 9 ∧ i = .int .i64 j ∧ Lies wr w.heap.size 81 (stV (both s o j)) ∧ Lies wr (w.heap.size + 1) 81 (stV o) ∧ Lies wr (w.heap.size + 2) 81 #[.int .i64 0, .int .i64 0, .int .i64 0, .int .i64 0, .int .i64 0, .int .i64 0, .int .i64 0, .int .i64 0, .int .i64 0, .int .i64 0, .int .i64 0, .bool false, .float .f64 0, .float .f64 0] ∧ Below w.heap.size w wr) (fun i _ => 9 - (intOf i).toNat)
  case atStart => exact ⟨0, by omega, rfl, M1.out, M2.out, M3.out, M4.out⟩
  case round =>
    obtain ⟨j, hj, rfl, l1, l2, l3, l4⟩ := hrel
    by_cases hlt : j < 9
    · have hlt' : ((j : Nat) : Int) < 9 := by omega
      have h0 : (0 : Int) ≤ (j : Nat) := by omega
      have cj : wr.cell? ⟨w.heap.size, 1 + j, none⟩ = some (.int .i64 (s.k j)) := by
        have := l1.cell (1 + j)
        rw [stV_at _ j hlt, both_at] at this
        exact this
      have fj := l1.frozen (1 + j)
      have hi := HI.out j hlt
      obtain ⟨p1, p2⟩ := HA.out j
      obtain ⟨p3, p4⟩ := HB.out j
      obtain ⟨W2, hW2⟩ : ∃ W2, wr.setCell ⟨w.heap.size, 1 + j, none⟩ (.int .i64 (s.k j + o.k j)) = W2 := ⟨_, rfl⟩
      have L1 := Lib.hid (lies_set l1 hW2 (both_succ s o j hlt))
      have L2 := Lib.hid (lies_far l2 (by omega) hW2)
      have L3 := Lib.hid (lies_far l3 (by omega) hW2)
      have L4 := Lib.hid (below_set l4 (Nat.le_refl _) hW2)
      have hn : ((j : Nat) : Int).toNat = j := by omega
      clear l1 l2 l3 l4
      go_wp2
      go_roundw
      case rel => exact ⟨j + 1, by omega, by go_num, L1.out, L2.out, L3.out, L4.out⟩
      case measure => simp [intOf]; omega
    · obtain rfl : j = 9 := by omega
      have cw : wr.cell? ⟨w.heap.size, 10, none⟩ = some (.int .i64 s.whole) := l1.cell 10
      have fw := l1.frozen 10
      have ow : wr.cell? ⟨w.heap.size + 1, 10, none⟩ = some (.int .i64 o.whole) := l2.cell 10
      obtain ⟨W2, hW2⟩ : ∃ W2, wr.setCell ⟨w.heap.size, 10, none⟩ (.int .i64 (s.whole + o.whole)) = W2 := ⟨_, rfl⟩
      have m1 := lies_set l1 hW2 (stV_whole (both s o 9) (s.whole + o.whole))
      have m2 := lies_far l2 (by omega) hW2
      have m3 := lies_far l3 (by omega) hW2
      have m4 := below_set l4 (Nat.le_refl _) hW2
      have oa : W2.cell? ⟨w.heap.size + 1, 11, none⟩ = some (.bool o.any) := m2.cell 11
      have om : W2.cell? ⟨w.heap.size + 1, 12, none⟩ = some (.float .f64 o.mn) := m2.cell 12
      have ox : W2.cell? ⟨w.heap.size + 1, 13, none⟩ = some (.float .f64 o.mx) := m2.cell 13
      have M1 := Lib.hid m1
      have M3 := Lib.hid m3
      have M4 := Lib.hid m4
      have S1 := Lib.hid (stV_size { both s o 9 with whole := s.whole + o.whole })
      have O1 := Lib.hid (stV_one { both s o 9 with whole := s.whole + o.whole })
      clear l1 l2 l3 l4 m1 m2 m3 m4
      cases ha : o.any with
      | false =>
        have HJ := Lib.hid (show joi s o = { both s o 9 with whole := s.whole + o.whole } from by unfold joi; rw [if_neg (by rw [ha]; decide)])
        rw [ha] at oa
        clear ha
        generalize hcs : stV { both s o 9 with whole := s.whole + o.whole } = cs at *
        have HC := Lib.hid hcs
        clear hcs
        go_wp2_with (first | (refine wpList_load_row rfl 81 (.tmp 2) rfl w.heap.size rfl 81 cs (0, 0) _ M1.out Try.underlying81 rfl (stat_info.trans (congrArg some S1.out.symm)) ?_) | (refine wpList_store_row rfl 81 (.tmp 4) (.tmp 42) rfl (w.heap.size + 2) cs rfl rfl 81 _ M3.out (stat_info.trans (congrArg some S1.out.symm)) (by rw [S1.out]; rfl) O1.out ?_))
        exact bodyPost_ret (v := .agg cs) (results_cell_row (by rfl) _ _ (w.heap.size + 2) 81 cs (0, 0) _ (by rfl) (M3.out.row cs) Try.underlying81 rfl (stat_info.trans (congrArg some S1.out.symm))) rfl ⟨by rw [HJ.out, HC.out], below_row M4.out (by omega) rfl⟩
      | true =>
        have HJ := Lib.hid (show joi s o = wid { both s o 9 with whole := s.whole + o.whole } o.mn o.mx from by unfold joi; rw [if_pos ha])
        rw [ha] at oa
        clear ha
        have S2 := Lib.hid (stV_size (wid { both s o 9 with whole := s.whole + o.whole } o.mn o.mx))
        have O2 := Lib.hid (stV_one (wid { both s o 9 with whole := s.whole + o.whole } o.mn o.mx))
        have WD := Lib.hid (fun W => WD.out W)
        generalize hds : stV (wid { both s o 9 with whole := s.whole + o.whole } o.mn o.mx) = ds at *
        have HD := Lib.hid hds
        clear hds
        generalize stV { both s o 9 with whole := s.whole + o.whole } = cs at *
        generalize o.mn = omn at *
        generalize o.mx = omx at *
        go_wp2_with (first | (refine wpList_load_row rfl 81 (.tmp 2) rfl w.heap.size rfl 81 cs (0, 0) _ M1.out Try.underlying81 rfl (stat_info.trans (congrArg some S1.out.symm)) ?_))
        refine (WD.out _).mono ?_
        rintro e W3 ⟨rfl, hb3⟩
        have N1 := Lib.hid (M1.out.below hb3 M1.out.lt)
        have N3 := Lib.hid (M3.out.below hb3 M3.out.lt)
        have N4 := Lib.hid (M4.out.trans (hb3.mono M4.out.size))
        clear hb3
        obtain ⟨W4, hW4⟩ : ∃ W4, W3.setRow w.heap.size ds = W4 := ⟨_, rfl⟩
        have P1 := Lib.hid (lies_row N1.out hW4)
        have P3 := Lib.hid (lies_rowFar N3.out (by omega) hW4)
        have P4 := Lib.hid (below_row N4.out (Nat.le_refl _) hW4)
        go_wp2_with (first | (refine wpList_store_row rfl 81 (.tmp 2) (.tmp 41) rfl w.heap.size ds rfl rfl 81 _ N1.out (stat_info.trans (congrArg some S2.out.symm)) (by rw [S1.out, S2.out]) O2.out ?_; rw [hW4]) | (refine wpList_load_row rfl 81 (.tmp 2) rfl w.heap.size rfl 81 ds (0, 0) _ P1.out Try.underlying81 rfl (stat_info.trans (congrArg some S2.out.symm)) ?_) | (refine wpList_store_row rfl 81 (.tmp 4) (.tmp 42) rfl (w.heap.size + 2) ds rfl rfl 81 _ P3.out (stat_info.trans (congrArg some S2.out.symm)) (by rw [S2.out]; rfl) O2.out ?_))
        exact bodyPost_ret (v := .agg ds) (results_cell_row (by rfl) _ _ (w.heap.size + 2) 81 ds (0, 0) _ (by rfl) (P3.out.row ds) Try.underlying81 rfl (stat_info.trans (congrArg some S2.out.symm))) rfl ⟨by rw [HJ.out, HD.out], below_row P4.out (by omega) rfl⟩
end Go.Proofs.Ytjdcafeljdnfeaa
