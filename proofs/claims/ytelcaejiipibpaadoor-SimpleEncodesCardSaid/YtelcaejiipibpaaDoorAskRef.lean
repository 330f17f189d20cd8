/-
  CONTRACTS OF the document's own cursor (corduroyref03.Cursor.Bytes) and of cursor.Peek, in any world where they lie. Conditions: at most 20000 bytes.
-/
import Derived.Test.YtelcaejiipibpaaDoorCur
import Derived.Deep.RegionHeld3
import Derived.Deep.RegionHeldLaw
namespace Go.Proofs.YtelcaejiipibpaaDoor
open Go.RowKit
set_option linter.unusedVariables false
theorem own_empty (W : World) (B : Nat) (hB : B ≤ W.heap.size) : (W.alloc (.cells #[] 5)).ownsRow B 5 1 (.slice (some ⟨W.heap.size, 0, none⟩) 0 0) 0 [] :=
  ⟨rfl, .inr ⟨W.heap.size, 0, #[], rfl, hB, (by show (W.heap.push (Obj.cells #[] 5))[W.heap.size]? = _; rw [Array.getElem?_push_size]), Nat.le_refl _, Nat.zero_le _, rfl, rfl⟩⟩
end Go.Proofs.YtelcaejiipibpaaDoor
