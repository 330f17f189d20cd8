/-
  CONTRACT OF (*bits.Writer).Put, in any world where the writer lies: the error that it tells, or the number behind the bits that were there; only the writer and its own row turn. Conditions: at most 100000 bits.
-/
import Derived.Test.YtelcaejiipibpaaDoorBitsRows
import Derived.Test.YtelcaejiipibpaaDoorBitsSmall
import Derived.WalkKit
import Derived.WalkLawsBesides
import Derived.WalkSpells
import Derived.ProofKit
import Derived.LoopTactic
import Derived.BigRegion
import Derived.Deep.RegionHeld3
import Derived.Deep.DeepMust
import Derived.IntWalk
import Derived.Outline
import Derived.Lib.Hide
import Derived.Lib.ItoaNum
namespace Go.Proofs.YtelcaejiipibpaaDoor
open Go.RowKit
set_option linter.unusedVariables false
end Go.Proofs.YtelcaejiipibpaaDoor
