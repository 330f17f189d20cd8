/-
  CONTRACTS OF the document's own Encode of layer 8 (corduroyref08), in any world. Conditions: at most 1100 numbers of 64 bits, which lie in memory as told.
-/
import Derived.Test.YtknpekpigiclkaaPlainA
import Derived.Test.YtknpekpigiclkaaVarPutRow
import Derived.Test.YtknpekpigiclkaaVarZig
namespace Go.Proofs.Ytknpekpigiclkaa
open Go.RowKit
set_option linter.unusedVariables false
/-- The form of the first n numbers. -/
def zb (x : Nat → Int) : Nat → List Int
  | 0 => []
  | n + 1 => zb x n ++ digs 9 (zg (x n)).toNat
/-- How many bytes it has. -/
def zl (x : Nat → Int) (n : Nat) : Nat := (zb x n).length
theorem zl_succ (x : Nat → Int) (n : Nat) : zl x (n + 1) = zl x n + (digs 9 (zg (x n)).toNat).length := by simp [zl, zb]
theorem digs_some : ∀ k v, 1 ≤ (digs k v).length
  | 0, v => by simp [digs]
  | k + 1, v => by
    unfold digs
    split
    · simp
    · simp
theorem zl_le (x : Nat → Int) : ∀ n, n ≤ zl x n ∧ zl x n ≤ 10 * n
  | 0 => by simp [zl, zb]
  | n + 1 => by
    have := zl_le x n
    have h1 := digs_len 9 (zg (x n)).toNat
    have h2 := digs_some 9 (zg (x n)).toNat
    rw [zl_succ]
    omega
theorem zg_nat {v : Int} (h1 : -9223372036854775808 ≤ v) (h2 : v ≤ 9223372036854775807) : 0 ≤ zg v ∧ zg v ≤ 18446744073709551615 := by unfold zg; split <;> omega
theorem digs_row (u : Nat) : rowV (fun i => Value.int .u8 ((digs 9 u).getD i 0)) (digs 9 u).length = cellsOf (digs 9 u) := by
  apply List.ext_getElem?
  intro i
  by_cases hi : i < (digs 9 u).length
  · rw [rowV_get _ hi]; simp [cellsOf, hi]
  · rw [rowV_ge _ (by omega), List.getElem?_eq_none (by simp [cellsOf]; omega)]
set_option maxRecDepth 100000 in
set_option maxHeartbeats 1000000 in
theorem rzencode_any (a : Option Addr) (n cap : Nat) (x : Nat → Int) (hn : n ≤ 1100) (hx : ∀ i, i < n → -9223372036854775808 ≤ x i ∧ x i ≤ 9223372036854775807) (w : World) (h : RowOf w a n (fun i => .int .i64 (x i))) :
    Calls Try.prog 43 #[.slice a n cap] w fun e w' => ∃ v, e = .returned v ∧ w'.ownsRow w.heap.size 5 1 v (zl x n) (cellsOf (zb x n)) ∧ Below w.heap.size w w' := by
  obtain ⟨i0, hi, hz0, hz1, hz2⟩ := info_parts byteInfo
  have H := Lib.hid h
  have hzn0 := zl_le x n
  clear h
  go_enter Try.func43, Try.ntmps43
  go_wp2
  go_loopw [3, 4] (fun v i wr => ∃ k : Nat, k ≤ n ∧ i = .int .i64 k ∧ wr.ownsRow w.heap.size 5 1 v (zl x k) (cellsOf (zb x k)) ∧ Below w.heap.size w wr) (fun _ i _ => n - (intOf i).toNat)
  case atStart => exact ⟨0, by omega, rfl, World.ownsRow_nil _ _ _ _, Below.refl _ _⟩
  case round =>
    obtain ⟨k, hk, rfl, ho, hb⟩ := hrel
    have hsz := hb.size
    by_cases hkn : k < n
    · have k1 : (k : Int) < n := by omega
      have k0 : (0 : Int) ≤ k := by omega
      obtain ⟨b, off, rfl, hblt, hc⟩ := (H.out.below hb).at_ hkn
      have c0 := hc k hkn
      have RS := Lib.hid (show cellsOf (zb x (k + 1)) = cellsOf (zb x k) ++ cellsOf (digs 9 (zg (x k)).toNat) from by rw [zb, cellsOf_append])
      have RL := Lib.hid (zl_succ x k)
      have hzk := (zl_le x k).2
      have hyk := hx k hkn
      have HOW := Lib.hid ho
      have HBW := Lib.hid hb
      clear ho hb hc
      generalize x k = y at *
      have ZG := Lib.hid (rzig_any y hyk.1 hyk.2)
      have hzn := zg_nat hyk.1 hyk.2
      obtain ⟨u, hu⟩ : ∃ u : Nat, zg y = u := ⟨(zg y).toNat, by omega⟩
      rw [hu] at ZG RS RL hzn
      rw [Int.toNat_natCast] at RS RL
      have RP := Lib.hid (rput_any u (by omega) wr)
      have hd := digs_len 9 u
      have DR := Lib.hid (digs_row u)
      clear hzn hyk hu
      generalize digs 9 u = ds at *
      have hxn : True := trivial
      go_wp2_with (first
        | (go_at_call 80; refine (ZG.out _).mono ?_; rintro e w1 ⟨rfl, rfl⟩)
        | (go_at_call 79; refine RP.out.mono ?_; rintro e w1 ⟨v1, rfl, ho1, hb1⟩
           obtain ⟨a1, c1, rfl, hr1, _⟩ := own_bytes ho1
           have hown := HOW.out
           obtain ⟨v2, w2, hrun, ho2, hg2, _⟩ := run_append_row (P := Try.prog) w1 w.heap.size 34 34 5 i0 (.int .u8 0) 1 Try.underlying34 hi hz0 hz1 hz2 rfl _ (zl x k) _ (owns_turned hown (S := fun i => wr.heap.size ≤ i) (Turned.of_below hb1 (fun i _ hi => by omega)) (fun i hi hs => by have := (hown.lt i hi).2; omega)) a1 ds.length c1 _ hr1 (fun i _ => rfl) (by unfold maxLen; omega) (by omega) (by have := hb1.size; omega)
           rw [DR.out, ← RS.out, ← RL.out] at ho2
           have hb2 := (HBW.out.trans (hb1.mono hsz)).grown hg2 (by have := hb1.size; omega) (fun j hj => (hown.lt j hj).1)
           have HRUN := Lib.hid hrun; have HO2 := Lib.hid ho2; have HB2 := Lib.hid hb2
           clear hown ho1 hb1 hr1 hrun ho2 hg2 hb2)
        | (at_builtin; go_must (refine wpList_append_ran _ _ rfl _ _ 34 rfl _ _ _ rfl rfl HRUN.out ?_)))
      go_roundw
      case rel => exact ⟨k + 1, by omega, by go_num, HO2.out, HB2.out⟩
      case measure => simp [intOf]; omega
    · obtain rfl : k = n := by omega
      have HOW := Lib.hid ho
      have HBW := Lib.hid hb
      clear ho hb
      go_wp2
      go_ret
      exact ⟨_, rfl, HOW.out, HBW.out⟩
end Go.Proofs.Ytknpekpigiclkaa
