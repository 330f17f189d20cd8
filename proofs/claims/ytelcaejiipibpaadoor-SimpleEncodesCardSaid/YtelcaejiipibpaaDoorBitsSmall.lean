/-
  CONTRACTS OF bits.lowest, fits, isWidth, isCount, Need and of the document's own Wide, Fits, Need, in any world. Conditions: the ranges that each names.
-/
import Derived.Test.YtelcaejiipibpaaDoorWords
import Derived.Test.YtelcaejiipibpaaDoorRows
import Derived.Test.YtelcaejiipibpaaDoorBitsNum
import Derived.WalkKit
import Derived.WalkLawsBesides
import Derived.WalkSpells
import Derived.ProofKit
import Derived.LoopTactic
import Derived.Outline
import Derived.Lib.Hide
namespace Go.Proofs.YtelcaejiipibpaaDoor
open Go.RowKit
/-- So many bytes take so many numbers. -/
def need (n k : Nat) : Nat := (n * k + 7) / 8
end Go.Proofs.YtelcaejiipibpaaDoor
