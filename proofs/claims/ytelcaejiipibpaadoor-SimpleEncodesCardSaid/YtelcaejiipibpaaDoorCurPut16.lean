/-
  CONTRACTS OF cursor.put (16 bits) behind any bytes, in any world: a row of its own; nothing that lay is turned. Conditions: at most 20000 bytes, which lie in memory as told.
-/
import Derived.Test.YtelcaejiipibpaaDoorWordsB
import Derived.Test.YtelcaejiipibpaaDoorBytesOf
import Derived.WalkKit
import Derived.WalkLawsBesides
import Derived.WalkSpells
import Derived.ProofKit
import Derived.LoopTactic
import Derived.IntWalk
import Derived.Deep.DeepMust
import Derived.Outline
import Derived.Lib.Hide
namespace Go.Proofs.YtelcaejiipibpaaDoor
open Go.RowKit
set_option linter.unusedVariables false
end Go.Proofs.YtelcaejiipibpaaDoor
