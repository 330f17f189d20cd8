/-
  CONTRACT OF varint.Get, in any world, for any row of bytes: the number, how many bytes and the error that the document asks for. Conditions: the bytes lie in memory as told.
-/
import Derived.Test.YtelcaejiipibpaaDoorRows
import Derived.Test.YtelcaejiipibpaaDoorVarGetArith
import Derived.WalkKit
import Derived.WalkLawsBesides
import Derived.WalkSpells
import Derived.ProofKit
import Derived.LoopTactic
import Derived.Lib.Hide
namespace Go.Proofs.YtelcaejiipibpaaDoor
open Go.RowKit
set_option linter.unusedVariables false
/-- A row of bytes in memory. -/
def BytesAt (w : World) (b off len : Nat) (z : Nat → Int) : Prop := ∀ i, i < len → w.cell? ⟨b, off + i, none⟩ = some (.int .u8 (z i))
/-- f is the place of the first byte that is the last one of a number, or the row's length. -/
def IsLast (z : Nat → Int) (len f : Nat) : Prop := f ≤ len ∧ (∀ i, i < f → ¬ z i < 128) ∧ (f < len → z f < 128)
/-- What a search for it tells. -/
def idx (f len : Nat) : Int := if f < len then (f : Int) else -1
/-- What the reading of short bytes tells: the number, how many bytes, and the error. -/
def got (z : Nat → Int) (len f : Nat) : Int × Int × Int :=
  if f = min len 10 then (0, 0, if len < 10 then 1 else 9) else if f = 9 ∧ 1 < z 9 then (0, 0, 9) else if 0 < f ∧ z f = 0 then (0, 0, 9) else (vals z (f + 1), (f + 1 : Nat), 0)
end Go.Proofs.YtelcaejiipibpaaDoor
