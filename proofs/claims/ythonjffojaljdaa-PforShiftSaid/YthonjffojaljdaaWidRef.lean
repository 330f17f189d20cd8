/-
  CONTRACTS OF the document's own Offsets, Deltas and Least (corduroyref06), in any world. Conditions: at most 1000 numbers, which lie in memory as told.
-/
import Derived.Test.YthonjffojaljdaaWidB
import Derived.RegionTactic
namespace Go.Proofs.Ythonjffojaljdaa
open Go.RowKit
set_option linter.unusedVariables false
set_option maxRecDepth 100000 in
set_option maxHeartbeats 1000000 in
theorem roffsets_any (a : Option Addr) (n cap : Nat) (x : Nat → Int) (f : Int) (hn : n ≤ 1100) (w : World) (h : RowOf w a n (fun i => .int .i64 (x i))) :
    Calls Try.prog 69 #[.int .i64 f, .slice a n cap] w fun e w' => ∃ v, e = .returned v ∧ w'.ownsRow w.heap.size 40 1 v n (rowV (fun i => .int .u64 (offs (x i) f)) n) ∧ Below w.heap.size w w' := by
  obtain ⟨i0, hi, hz0, hz1, hz2⟩ := info_parts u64Info
  have H := Lib.hid h
  clear h
  go_enter Try.func69, Try.ntmps69
  go_wp2
  go_loopw [5, 6] (fun v i wr => ∃ k : Nat, k ≤ n ∧ i = .int .i64 k ∧ wr.ownsRow w.heap.size 40 1 v k (rowV (fun i => .int .u64 (offs (x i) f)) k) ∧ Below w.heap.size w wr) (fun _ i _ => n - (intOf i).toNat)
  case atStart => exact ⟨0, by omega, rfl, World.ownsRow_nil _ _ _ _, Below.refl _ _⟩
  case round =>
    obtain ⟨k, hk, rfl, ho, hb⟩ := hrel
    have hsz := hb.size
    by_cases hkn : k < n
    · have k1 : (k : Int) < n := by omega
      obtain ⟨b, off, rfl, hblt, hc⟩ := (H.out.below hb).at_ hkn
      have c0 := hc k hkn
      have RS := Lib.hid (rowV_succ (fun i => Value.int .u64 (offs (x i) f)) k)
      have HOW := Lib.hid ho
      have HBW := Lib.hid hb
      clear ho hb hc
      generalize x k = y at *
      have hv := offs_ref y f
      generalize offs y f = u at *
      go_wp2_with (first | (at_builtin; go_must (refine wpList_append_own_at _ rfl _ _ 58 rfl w.heap.size 40 i0 (.int .u64 0) 1 8 Try.underlying58 hi hz0 hz1 hz2 rfl (by decide) _ _ _ rfl (HOW.out.alloc _) ⟨wr.heap.size, 0, none⟩ 1 1 [.int .u64 u] rfl rfl (cell_one_new _ _ _) (by simp [Value.oneCell']) (by unfold maxLen; omega) (by omega) (by simp; omega) ?_); intro v2 w2 hown2 hgrow2 _ _; have HO2 := Lib.hid hown2; have HG2 := Lib.hid hgrow2; clear hown2 hgrow2))
      go_roundw
      case rel => exact ⟨k + 1, by omega, by go_num, by rw [RS.out]; exact HO2.out, (HBW.out.alloc hsz _).grown HG2.out (by simp; omega) (fun j hj => (HOW.out.lt j hj).1)⟩
      case measure => simp [intOf]; omega
    · obtain rfl : k = n := by omega
      have HOW := Lib.hid ho
      have HBW := Lib.hid hb
      clear ho hb
      go_wp2
      go_ret
      exact ⟨_, rfl, HOW.out, HBW.out⟩
theorem rleast_none (a : Option Addr) (cap : Nat) (w : World) : Calls Try.prog 31 #[.slice a 0 cap] w fun e w' => e = .returned (.int .i64 0) ∧ w = w' := by
  go_enter Try.func31, Try.ntmps31
  go_wp2
  go_ret
  exact ⟨rfl, rfl⟩
theorem rleast_some (a : Option Addr) (n cap : Nat) (x : Nat → Int) (h0 : 0 < n) (hn : n ≤ 1100) (w : World) (h : RowOf w a n (fun i => .int .i64 (x i))) :
    Calls Try.prog 31 #[.slice a n cap] w fun e w' => e = .returned (.int .i64 (lmin x n)) ∧ w = w' := by
  obtain ⟨b, off, rfl, hblt, hc⟩ := h.at_ h0
  have c0 := hc 0 h0
  rw [Nat.add_zero] at c0
  have HC := Lib.hid hc
  have HM := Lib.hid (show lmin x 0 = x 0 from rfl)
  have n0 : ((n : Int) == 0) = false := by simp; omega
  have n1 : (0 : Int) < n := by omega
  clear h hc
  generalize x 0 = m0 at *
  go_enter Try.func31, Try.ntmps31
  go_wp2
  go_loop [3, 4] (fun v i => ∃ k : Nat, k ≤ n ∧ i = .int .i64 k ∧ v = .int .i64 (lmin x k)) (fun _ i => n - (intOf i).toNat)
  case atStart => exact ⟨0, by omega, rfl, by rw [HM.out]⟩
  case round =>
    obtain ⟨k, hk, rfl, rfl⟩ := hrel
    by_cases hkn : k < n
    · have k1 : (k : Int) < n := by omega
      have c1 := HC.out k hkn
      have HE := Lib.hid (show (if x k < lmin x k then x k else lmin x k) = lmin x (k + 1) from rfl)
      clear c0
      generalize x k = y at *
      generalize lmin x k = z at *
      by_cases hyz : y < z
      · have HYZ := Lib.hid hyz
        go_wp2
        go_round
        case rel => exact ⟨k + 1, by omega, by go_num, by rw [← HE.out, if_pos HYZ.out]⟩
        case measure => simp [intOf]; omega
      · have HYZ := Lib.hid hyz
        go_wp2
        go_round
        case rel => exact ⟨k + 1, by omega, by go_num, by rw [← HE.out, if_neg HYZ.out]⟩
        case measure => simp [intOf]; omega
    · obtain rfl : k = n := by omega
      go_wp2
      go_ret
      exact ⟨rfl, rfl⟩
set_option maxRecDepth 100000 in
set_option maxHeartbeats 2000000 in
theorem rdeltas_any (a : Option Addr) (n cap : Nat) (x : Nat → Int) (hn : n ≤ 1100) (w : World) (h : RowOf w a n (fun i => .int .i64 (x i))) :
    Calls Try.prog 67 #[.slice a n cap] w fun e w' => ∃ v, e = .returned v ∧ w'.ownsRow w.heap.size 2 1 v (n - 1) (rowV (fun i => .int .i64 (dl (x (i + 1)) (x i))) (n - 1)) ∧ Below w.heap.size w w' := by
  obtain ⟨i0, hi, hz0, hz1, hz2⟩ := info_parts i64Info
  have H := Lib.hid h
  clear h
  go_enter Try.func67, Try.ntmps67
  go_wp2
  go_loopw [3, 4] (fun v i wr => ∃ k : Nat, k ≤ n - 1 ∧ i = .int .i64 k ∧ wr.ownsRow w.heap.size 2 1 v k (rowV (fun i => .int .i64 (dl (x (i + 1)) (x i))) k) ∧ Below w.heap.size w wr) (fun _ i _ => n - (intOf i).toNat)
  case atStart => exact ⟨0, by omega, rfl, World.ownsRow_nil _ _ _ _, Below.refl _ _⟩
  case round =>
    obtain ⟨k, hk, rfl, ho, hb⟩ := hrel
    have hsz := hb.size
    by_cases hkn : k < n - 1
    · have k1 : (k : Int) + 1 < n := by omega
      have k2 : (k : Int) < n := by omega
      have k0 : (0 : Int) ≤ k := by omega
      have k00 : (0 : Int) ≤ (k : Int) + 1 := by omega
      have k3 : IntKind.i64.wrap ((k : Int) + 1) = (k : Int) + 1 := IntWalk.i64_in _ (by omega)
      have k4 : ((k : Int) + 1).toNat = k + 1 := by omega
      obtain ⟨b, off, rfl, hblt, hc⟩ := H.out.at_ (i := 0) (by omega)
      have c0 := (hb.cell (p := ⟨b, off + k, none⟩) hblt).trans (hc k (by omega))
      have c1 := (hb.cell (p := ⟨b, off + (k + 1), none⟩) hblt).trans (hc (k + 1) (by omega))
      have RS := Lib.hid (rowV_succ (fun i => Value.int .i64 (dl (x (i + 1)) (x i))) k)
      have hv := dl_ref (x (k + 1)) (x k)
      rw [← wrap64_eq] at hv
      clear hc
      generalize hu : dl (x (k + 1)) (x k) = u at *
      clear hu
      generalize x (k + 1) = y1 at *
      generalize x k = y0 at *
      obtain ⟨v', w2, hrun, ho2, hg2, _⟩ := run_append_own_at (P := Try.prog) ((wr.alloc (.cells #[.int .i64 u] 2)).drew) w.heap.size 22 22 2 i0 (.int .i64 0) 1 8 Try.underlying22 hi hz0 hz1 hz2 rfl (by decide) _ k _ (ho.alloc (.cells #[.int .i64 u] 2)) ⟨wr.heap.size, 0, none⟩ 1 1 [.int .i64 u] rfl (cell_one_new _ _ _) (by simp [Value.oneCell']) (by unfold maxLen; omega) (by omega) (by simp; omega)
      have HR := Lib.hid hrun
      have HO2 := Lib.hid ho2
      have HB2 := Lib.hid (((hb.alloc hsz (.cells #[.int .i64 u] 2)).drew).grown hg2 (by simp; omega) (fun j hj => (ho.lt j hj).1))
      have d0 : w2.cell? ⟨b, off + k, none⟩ = some (.int .i64 y0) := (hg2.cell_far _ (by simp; omega) (fun e => absurd (ho.lt b e.symm).1 (by omega))).trans ((World.cell?_alloc_lt wr _ _ (Nat.lt_of_lt_of_le hblt hsz)).trans c0)
      have d1 : w2.cell? ⟨b, off + (k + 1), none⟩ = some (.int .i64 y1) := (hg2.cell_far _ (by simp; omega) (fun e => absurd (ho.lt b e.symm).1 (by omega))).trans ((World.cell?_alloc_lt wr _ _ (Nat.lt_of_lt_of_le hblt hsz)).trans c1)
      clear ho hb hrun ho2 hg2
      go_wp2
      go_region_held3 (fun w' => w'.cell? ⟨b, off + k, none⟩ = some (.int .i64 y0) ∧ w'.cell? ⟨b, off + (k + 1), none⟩ = some (.int .i64 y1)) (first | (exact ⟨d0, d1⟩) | go_keep)
        ((go_loud (refine step_append_ran _ _ (by rfl) _ _ 22 (by rfl) _ _ _ (by rfl) (by rfl) HR.out ?_)))
      go_wp2
      go_roundw
      case rel => exact ⟨k + 1, by omega, by go_num, by rw [RS.out]; exact HO2.out, HB2.out⟩
      case measure => simp [intOf]; omega
    · have hke : n - 1 = k := by omega
      have k1 : ¬ (k : Int) + 1 < n := by omega
      have HKE := Lib.hid hke
      have HO2 := Lib.hid ho
      have HB2 := Lib.hid hb
      have hk0 : (k : Int) ≤ 1100 := by omega
      clear ho hb hke
      go_wp2
      go_ret
      rw [HKE.out]
      exact ⟨_, rfl, HO2.out, HB2.out⟩
end Go.Proofs.Ythonjffojaljdaa
