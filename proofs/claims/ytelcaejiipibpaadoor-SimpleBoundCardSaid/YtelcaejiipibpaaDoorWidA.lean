/-
  CONTRACTS OF width.Offsets, Back, Deltas, Sums, Least and the document's own, in any world, for any numbers: rows of their own; nothing that lay is turned. Conditions: at most 1000 numbers, which lie in memory as told.
-/
import Derived.Test.YtelcaejiipibpaaDoorNumW
import Derived.Test.YtelcaejiipibpaaDoorWords
import Derived.WalkKit
import Derived.WalkLawsBesides
import Derived.WalkSpells
import Derived.ProofKit
import Derived.LoopTactic
import Derived.IntWalk
import Derived.Deep.DeepMust
import Derived.Deep.RegionHeld3
import Derived.Outline
import Derived.Lib.Hide
namespace Go.Proofs.YtelcaejiipibpaaDoor
open Go.RowKit
theorem i64Info : (Tryd.prog.info? 2).map (fun i => (i.zero, i.size, i.bytes)) = some (some (.int .i64 0), 1, 8) := by kernel_rfl
set_option linter.unusedVariables false
theorem wrap64_eq (n : Int) : IntKind.i64.wrap n = wrap64 n := by
  simp [IntKind.wrap, IntKind.bits, IntKind.signed, wrap64]
  split <;> omega
/-- A number's offset from another one. -/
def offs (v f : Int) : Int := IntKind.u64.wrap (wrap64 (v - f))
/-- The number of an offset. -/
def bk (v f : Int) : Int := wrap64 (f + wrap64 v)
/-- A delta. -/
def dl (v p : Int) : Int := wrap64 (v - p)
theorem offs_ref (v f : Int) : IntKind.u64.wrap (IntKind.u64.wrap v - IntKind.u64.wrap f) = offs v f := by
  unfold offs; simp only [u64w, wrap64]; omega
theorem bk_ref (v f : Int) : wrap64 (IntKind.u64.wrap (v + IntKind.u64.wrap f)) = bk v f := by
  unfold bk; simp only [u64w, wrap64]; omega
theorem dl_ref (v p : Int) : wrap64 (IntKind.u64.wrap (IntKind.u64.wrap v - IntKind.u64.wrap p)) = dl v p := by
  unfold dl; simp only [u64w, wrap64]; omega
end Go.Proofs.YtelcaejiipibpaaDoor
