/-
  CONTRACTS OF the document's own Deltas and of Same (of both kinds), of width.Of at 255, and of corduroylaw06.awake, in any world. Conditions: those that each names.
-/
import Derived.Test.YthonjffojaljdaaSameI
import Derived.Test.YthonjffojaljdaaHybM5
import Derived.Test.YthonjffojaljdaaShelf
import Derived.RegionTactic
namespace Go.Proofs.Ythonjffojaljdaa
open Go.RowKit
theorem of_255 (w : World) : Calls Try.prog 94 #[.int .u64 255] w fun e w' => e = .returned (.int .i64 8) ∧ w = w' := by
  have LN := Lib.hid (Try.bits_Len64 255 w (by decide) (by decide))
  go_enter Try.func94, Try.ntmps94
  go_wp2_with (go_at_call 97; refine LN.out.mono ?_; rintro e w' ⟨rfl, rfl⟩)
  go_ret
  refine ⟨ret_int (by decide), rfl⟩
end Go.Proofs.Ythonjffojaljdaa
