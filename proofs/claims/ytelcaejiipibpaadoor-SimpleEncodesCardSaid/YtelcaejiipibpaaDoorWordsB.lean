/-
  WORDS FOR MEMORY, bytes: what string(b) is, of any row of bytes. No condition.
-/
import Derived.Test.YtelcaejiipibpaaDoorWords
import Derived.Laws.BytesArg
namespace Go.Proofs.YtelcaejiipibpaaDoor
open Go.RowKit
theorem byteInfo : (Tryd.prog.info? 5).map (fun i => (i.zero, i.size, i.bytes)) = some (some (.int .u8 0), 1, 1) := by kernel_rfl
/-- What string(b) is, of any row of bytes. -/
theorem conv_any (a : Option Addr) (len cap : Nat) (z : Nat → Int) (w : World) (h : RowOf w a len (fun i => .int .u8 (z i))) :
    (convert 27 9 (.slice a len cap)).run Tryd.prog w = .ok (.string (strOfNums ((List.range len).map z))) w := by
  rcases Nat.eq_zero_or_pos len with h0 | h0
  · subst h0
    cases a with
    | none => exact run_convert_bytes_nil w 27 5 Tryd.underlying27 Tryd.underlying5 0 cap 9 Tryd.underlying9
    | some ad =>
      obtain ⟨b', o', p'⟩ := ad
      rw [run_convert_bytes_string w 27 9 5 _ 0 cap Tryd.underlying27 Tryd.underlying5 Tryd.underlying9]
      simp [Conv.bytesToString, loadCells, loadCellsFrom, strOfNums]
      rfl
  · obtain ⟨b, off, rfl, _, hc⟩ := h.at_ h0
    exact run_convert_bytes_arg w 27 5 Tryd.underlying27 Tryd.underlying5 b off len cap ((List.range len).map z) (by simp) (fun i hi => by rw [hc i hi]; simp [hi]) 9 Tryd.underlying9
theorem conv_list (a : Option Addr) (len cap : Nat) (xs : List Int) (hx : xs.length = len) (w : World) (h : RowOf w a len (fun i => .int .u8 (xs.getD i 0))) :
    (convert 27 9 (.slice a len cap)).run Tryd.prog w = .ok (.string (strOfNums xs)) w := by
  have e : xs = (List.range len).map (fun i => xs.getD i 0) := by
    apply List.ext_getElem?
    intro i
    by_cases hi : i < len
    · simp [hi, hx]
    · rw [List.getElem?_eq_none (by omega), List.getElem?_eq_none (by simp; omega)]
  have h2 := conv_any a len cap _ w h
  rw [← e] at h2
  exact h2
end Go.Proofs.YtelcaejiipibpaaDoor
