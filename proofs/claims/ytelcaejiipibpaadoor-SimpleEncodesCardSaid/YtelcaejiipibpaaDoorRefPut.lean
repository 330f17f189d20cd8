/-
  CONTRACT OF the document's own Put of a number's bytes (corduroyref03.Put), in any world. Conditions: at most 8 bytes.
-/
import Derived.Test.YtelcaejiipibpaaDoorWordsB
import Derived.Test.YtelcaejiipibpaaDoorBytesOf
import Derived.WalkKit
import Derived.WalkLawsBesides
import Derived.WalkSpells
import Derived.ProofKit
import Derived.LoopTactic
import Derived.IntWalk
import Derived.Deep.DeepMust
import Derived.Outline
import Derived.Lib.Hide
namespace Go.Proofs.YtelcaejiipibpaaDoor
open Go.RowKit
set_option linter.unusedVariables false
end Go.Proofs.YtelcaejiipibpaaDoor
