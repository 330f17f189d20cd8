/-
  CONTRACTS OF plain.Block, of the document's own Block and Encode (corduroyref07), of Plain's Takes, Size, Name, Encode and of plain.Wrong of Plain, in any world. Conditions: at most 1100 numbers, which lie in memory as told.
-/
import Derived.Test.YtelcaejiipibpaaDoorRefPut
import Derived.Test.YtelcaejiipibpaaDoorCurPut64
import Derived.Test.YtelcaejiipibpaaDoorNumW
import Derived.WalkLawsBesides
import Derived.Deep.DeepMust
namespace Go.Proofs.YtelcaejiipibpaaDoor
open Go.RowKit
set_option linter.unusedVariables false
/-- May a block have so many numbers? -/
def blk (n : Int) : Bool := decide (1 ≤ n ∧ n ≤ 1024)
theorem blk_in {n : Int} (h1 : 1 ≤ n) (h2 : n ≤ 1024) : blk n = true := decide_eq_true ⟨h1, h2⟩
theorem blk_out {n : Int} (h : ¬ (1 ≤ n ∧ n ≤ 1024)) : blk n = false := decide_eq_false h
theorem block_any (n : Int) (w : World) : Calls Tryd.prog 39 #[.int .i64 n] w fun e w' => e = .returned (.bool (blk n)) ∧ w = w' := by
  by_cases h1 : 1 ≤ n
  · by_cases h2 : n ≤ 1024
    · rw [blk_in h1 h2]
      go_enter Tryd.func39, Tryd.ntmps39
      go_wp2
      go_ret
      exact ⟨rfl, rfl⟩
    · rw [blk_out (fun h => h2 h.2)]
      go_enter Tryd.func39, Tryd.ntmps39
      go_wp2
      go_ret
      exact ⟨rfl, rfl⟩
  · rw [blk_out (fun h => h1 h.1)]
    go_enter Tryd.func39, Tryd.ntmps39
    go_wp2
    go_ret
    exact ⟨rfl, rfl⟩
theorem rblock_any (n : Int) (w : World) : Calls Tryd.prog 20 #[.int .i64 n] w fun e w' => e = .returned (.bool (blk n)) ∧ w = w' := by
  by_cases h1 : 1 ≤ n
  · by_cases h2 : n ≤ 1024
    · rw [blk_in h1 h2]
      go_enter Tryd.func20, Tryd.ntmps20
      go_wp2
      go_ret
      exact ⟨rfl, rfl⟩
    · rw [blk_out (fun h => h2 h.2)]
      go_enter Tryd.func20, Tryd.ntmps20
      go_wp2
      go_ret
      exact ⟨rfl, rfl⟩
  · rw [blk_out (fun h => h1 h.1)]
    go_enter Tryd.func20, Tryd.ntmps20
    go_wp2
    go_ret
    exact ⟨rfl, rfl⟩
/-- A number's 64 bits, as a number. -/
def un (v : Int) : Nat := (v % 18446744073709551616).toNat
theorem un_lt (v : Int) : un v < 18446744073709551616 := by unfold un; omega
theorem un_wrap (v : Int) : IntKind.u64.wrap v = (un v : Int) := by rw [u64w]; unfold un; omega
/-- The plain form of the first n numbers. -/
def pb (x : Nat → Int) : Nat → List Int
  | 0 => []
  | n + 1 => pb x n ++ bytesOf 8 (un (x n))
theorem pb_length (x : Nat → Int) : ∀ n, (pb x n).length = 8 * n
  | 0 => rfl
  | n + 1 => by simp only [pb, List.length_append, pb_length x n, bytesOf_length]; omega
theorem cellsOf_append (a b : List Int) : cellsOf (a ++ b) = cellsOf a ++ cellsOf b := by simp [cellsOf]
/-- A row of one's own, read as bytes. -/
theorem own_bytes {w : World} {base n : Nat} {v : Value} {xs : List Int} (h : w.ownsRow base 5 1 v n (cellsOf xs)) : ∃ a c, v = .slice a n c ∧ RowOf w a n (fun i => .int .u8 (xs.getD i 0)) ∧ n ≤ c ∧ c ≤ maxLen ∧ (∀ p, a = some p → ∃ g, p = ⟨g, 0, none⟩ ∧ base ≤ g ∧ g < w.heap.size) := by
  have hl : xs.length = n := by have := h.1; simpa [cellsOf] using this
  obtain ⟨a, c, rfl, hr, h1, h2, h3⟩ := own_reads h
  refine ⟨a, c, rfl, hr.congr fun i hi => by simp [cellsOf, (by omega : i < xs.length)], h2, ?_, fun p hp => ?_⟩
  · rcases h.2 with ⟨hv, h0⟩ | ⟨g, cp, cur, hv, _, hg, h1, h2, _⟩
    · injection hv with ha hn hc
      omega
    · injection hv with ha hn hc
      omega
  · obtain ⟨g, hg⟩ := h3 p hp
    exact ⟨g, hg, by have := (h1 p hp).1; rw [hg] at this; exact this, by have := (h1 p hp).2; rw [hg] at this; exact this⟩
end Go.Proofs.YtelcaejiipibpaaDoor
