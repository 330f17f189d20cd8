/-
  CONTRACTS OF plain.Block, of the document's own Block and Encode (corduroyref07), of Plain's Takes, Size, Name, Encode and of plain.Wrong of Plain, in any world. Conditions: at most 1100 numbers, which lie in memory as told.
-/
import Derived.Test.YtknpekpigiclkaaRefPut
import Derived.Test.YtknpekpigiclkaaCurPut64
import Derived.Test.YtknpekpigiclkaaNumW
import Derived.WalkLawsBesides
import Derived.Deep.DeepMust
namespace Go.Proofs.Ytknpekpigiclkaa
open Go.RowKit
set_option linter.unusedVariables false
/-- May a block have so many numbers? -/
def blk (n : Int) : Bool := decide (1 ≤ n ∧ n ≤ 1024)
theorem blk_in {n : Int} (h1 : 1 ≤ n) (h2 : n ≤ 1024) : blk n = true := decide_eq_true ⟨h1, h2⟩
theorem blk_out {n : Int} (h : ¬ (1 ≤ n ∧ n ≤ 1024)) : blk n = false := decide_eq_false h
theorem block_any (n : Int) (w : World) : Calls Try.prog 34 #[.int .i64 n] w fun e w' => e = .returned (.bool (blk n)) ∧ w = w' := by
  by_cases h1 : 1 ≤ n
  · by_cases h2 : n ≤ 1024
    · rw [blk_in h1 h2]
      go_enter Try.func34, Try.ntmps34
      go_wp2
      go_ret
      exact ⟨rfl, rfl⟩
    · rw [blk_out (fun h => h2 h.2)]
      go_enter Try.func34, Try.ntmps34
      go_wp2
      go_ret
      exact ⟨rfl, rfl⟩
  · rw [blk_out (fun h => h1 h.1)]
    go_enter Try.func34, Try.ntmps34
    go_wp2
    go_ret
    exact ⟨rfl, rfl⟩
theorem rblock_any (n : Int) (w : World) : Calls Try.prog 35 #[.int .i64 n] w fun e w' => e = .returned (.bool (blk n)) ∧ w = w' := by
  by_cases h1 : 1 ≤ n
  · by_cases h2 : n ≤ 1024
    · rw [blk_in h1 h2]
      go_enter Try.func35, Try.ntmps35
      go_wp2
      go_ret
      exact ⟨rfl, rfl⟩
    · rw [blk_out (fun h => h2 h.2)]
      go_enter Try.func35, Try.ntmps35
      go_wp2
      go_ret
      exact ⟨rfl, rfl⟩
  · rw [blk_out (fun h => h1 h.1)]
    go_enter Try.func35, Try.ntmps35
    go_wp2
    go_ret
    exact ⟨rfl, rfl⟩
/-- A number's 64 bits, as a number. -/
def un (v : Int) : Nat := (v % 18446744073709551616).toNat
theorem un_lt (v : Int) : un v < 18446744073709551616 := by unfold un; omega
theorem un_wrap (v : Int) : IntKind.u64.wrap v = (un v : Int) := by rw [u64w]; unfold un; omega
/-- The plain form of the first n numbers. -/
def pb (x : Nat → Int) : Nat → List Int
  | 0 => []
  | n + 1 => pb x n ++ bytesOf 8 (un (x n))
theorem pb_length (x : Nat → Int) : ∀ n, (pb x n).length = 8 * n
  | 0 => rfl
  | n + 1 => by simp only [pb, List.length_append, pb_length x n, bytesOf_length]; omega
theorem cellsOf_append (a b : List Int) : cellsOf (a ++ b) = cellsOf a ++ cellsOf b := by simp [cellsOf]
/-- A row of one's own, read as bytes. -/
theorem own_bytes {w : World} {base n : Nat} {v : Value} {xs : List Int} (h : w.ownsRow base 5 1 v n (cellsOf xs)) : ∃ a c, v = .slice a n c ∧ RowOf w a n (fun i => .int .u8 (xs.getD i 0)) ∧ n ≤ c ∧ c ≤ maxLen ∧ (∀ p, a = some p → ∃ g, p = ⟨g, 0, none⟩ ∧ base ≤ g ∧ g < w.heap.size) := by
  have hl : xs.length = n := by have := h.1; simpa [cellsOf] using this
  obtain ⟨a, c, rfl, hr, h1, h2, h3⟩ := own_reads h
  refine ⟨a, c, rfl, hr.congr fun i hi => by simp [cellsOf, (by omega : i < xs.length)], h2, ?_, fun p hp => ?_⟩
  · rcases h.2 with ⟨hv, h0⟩ | ⟨g, cp, cur, hv, _, hg, h1, h2, _⟩
    · injection hv with ha hn hc
      omega
    · injection hv with ha hn hc
      omega
  · obtain ⟨g, hg⟩ := h3 p hp
    exact ⟨g, hg, by have := (h1 p hp).1; rw [hg] at this; exact this, by have := (h1 p hp).2; rw [hg] at this; exact this⟩
set_option maxRecDepth 100000 in
set_option maxHeartbeats 1000000 in
theorem rencode_any (a : Option Addr) (n cap : Nat) (x : Nat → Int) (hn : n ≤ 1100) (w : World) (h : RowOf w a n (fun i => .int .i64 (x i))) :
    Calls Try.prog 28 #[.slice a n cap] w fun e w' => ∃ v, e = .returned v ∧ w'.ownsRow w.heap.size 5 1 v (8 * n) (cellsOf (pb x n)) ∧ Below w.heap.size w w' := by
  obtain ⟨i0, hi, hz0, hz1, hz2⟩ := info_parts byteInfo
  have H := Lib.hid h
  clear h
  go_enter Try.func28, Try.ntmps28
  go_wp2
  go_loopw [3, 4] (fun v i wr => ∃ k : Nat, k ≤ n ∧ i = .int .i64 k ∧ wr.ownsRow w.heap.size 5 1 v (8 * k) (cellsOf (pb x k)) ∧ Below w.heap.size w wr) (fun _ i _ => n - (intOf i).toNat)
  case atStart => exact ⟨0, by omega, rfl, World.ownsRow_nil _ _ _ _, Below.refl _ _⟩
  case round =>
    obtain ⟨k, hk, rfl, ho, hb⟩ := hrel
    have hsz := hb.size
    by_cases hkn : k < n
    · have k1 : (k : Int) < n := by omega
      have k0 : (0 : Int) ≤ k := by omega
      obtain ⟨b, off, rfl, hblt, hc⟩ := (H.out.below hb).at_ hkn
      have c0 := hc k hkn
      have RS := Lib.hid (show cellsOf (pb x (k + 1)) = cellsOf (pb x k) ++ cellsOf (bytesOf 8 (un (x k))) from by rw [pb, cellsOf_append])
      have HOW := Lib.hid ho
      have HBW := Lib.hid hb
      clear ho hb hc
      generalize x k = y at *
      have hv := un_wrap y
      have hul := un_lt y
      generalize un y = u at *
      have RP := Lib.hid (rput3_any u 8 hul (by decide) wr)
      clear hul
      go_wp2_with (first
        | (go_at_call 63; refine RP.out.mono ?_; rintro e w1 ⟨v1, rfl, ho1, hb1⟩
           obtain ⟨a1, c1, rfl, hr1, _⟩ := own_bytes ho1
           have hown := HOW.out
           obtain ⟨v2, w2, hrun, ho2, hg2, _⟩ := run_append_row (P := Try.prog) w1 w.heap.size 34 34 5 i0 (.int .u8 0) 1 Try.underlying34 hi hz0 hz1 hz2 rfl _ (8 * k) _ (owns_turned hown (S := fun i => wr.heap.size ≤ i) (Turned.of_below hb1 (fun i _ hi => by omega)) (fun i hi hs => by have := (hown.lt i hi).2; omega)) a1 8 c1 _ hr1 (fun i _ => rfl) (by unfold maxLen; omega) (by omega) (by have := hb1.size; omega)
           have ho2 : w2.ownsRow w.heap.size 5 1 v2 (8 * (k + 1)) (cellsOf (pb x (k + 1))) := by
             have e1 : rowV (fun i => .int .u8 ((bytesOf 8 u).getD i 0)) 8 = cellsOf (bytesOf 8 u) := by
               have := bytesOf_length 8 u
               apply List.ext_getElem?
               intro i
               by_cases hi : i < 8
               · rw [rowV_get _ hi]; simp [cellsOf, (by omega : i < (bytesOf 8 u).length)]
               · rw [rowV_ge _ (by omega), List.getElem?_eq_none (by simp [cellsOf]; omega)]
             rw [e1] at ho2
             rw [RS.out]
             exact ho2
           have hb2 := (HBW.out.trans (hb1.mono hsz)).grown hg2 (by have := hb1.size; omega) (fun j hj => (hown.lt j hj).1)
           have HRUN := Lib.hid hrun; have HO2 := Lib.hid ho2; have HB2 := Lib.hid hb2
           clear hown ho1 hb1 hr1 hrun ho2 hg2 hb2)
        | (at_builtin; go_must (refine wpList_append_ran _ _ rfl _ _ 34 rfl _ _ _ rfl rfl HRUN.out ?_)))
      go_roundw
      case rel => exact ⟨k + 1, by omega, by go_num, HO2.out, HB2.out⟩
      case measure => simp [intOf]; omega
    · obtain rfl : k = n := by omega
      have HOW := Lib.hid ho
      have HBW := Lib.hid hb
      clear ho hb
      go_wp2
      go_ret
      exact ⟨_, rfl, HOW.out, HBW.out⟩
end Go.Proofs.Ytknpekpigiclkaa
