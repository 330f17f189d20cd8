/-
  CONTRACTS OF corduroylaw07.Told of Plain and of corduroylaw07.awake, in any world. Conditions: at most 1100 numbers, and the bytes that are wanted, which lie in memory as told.
-/
import Derived.Test.YtelcaejiipibpaaDoorPlainB
import Derived.Laws.EntriesVeiled
namespace Go.Proofs.YtelcaejiipibpaaDoor
open Go.ChangeShapes Go.WideShapes Go.ChangeAt Go.RowKit
set_option linter.unusedVariables false
theorem str_ff : (strOfNums [255, 255, 255, 255, 255, 255, 255, 255]).toList = [255, 255, 255, 255, 255, 255, 255, 255] := by decide +kernel
end Go.Proofs.YtelcaejiipibpaaDoor
