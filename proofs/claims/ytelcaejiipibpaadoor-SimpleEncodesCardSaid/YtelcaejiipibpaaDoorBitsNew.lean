/-
  CONTRACTS OF slices.Clone over bytes, and of bits.NewWriter, Len, Bytes, NewReader, Left, in any world. Conditions: at most 100000 bytes or bits.
-/
import Derived.Test.YtelcaejiipibpaaDoorClone
import Derived.Test.YtelcaejiipibpaaDoorBitsRows
import Derived.Test.YtelcaejiipibpaaDoorBitsSmall
import Derived.WalkKit
import Derived.WalkLawsBesides
import Derived.WalkSpells
import Derived.ProofKit
import Derived.Deep.QuietTactic
import Derived.BigQuiet
import Derived.Deep.DeepMust
import Derived.IntWalk
import Derived.Lib.SliceRun
import Derived.Outline
import Derived.Lib.Hide
namespace Go.Proofs.YtelcaejiipibpaaDoor
open Go.RowKit
set_option linter.unusedVariables false
end Go.Proofs.YtelcaejiipibpaaDoor
