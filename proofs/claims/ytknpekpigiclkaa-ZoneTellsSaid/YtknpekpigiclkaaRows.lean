/-
  No cell of these rows narrows 'for every input' (looked for: loops, veiled, ifaces, maps, wideKeys, modest, calm, conditions, laid).
  DERIVED. THE GIVEN ROWS OF THIS SEAT. 12 by the template 'for every input the law returns true; each argument reads behind the call as it read before'; 0 by the template 'total and deterministic' (their statements: YtknpekpigiclkaaTotals.lean).
  GIVEN WITH THE SEED: the statements are not yours to turn. If you find one false, say at which input.
  Laid BY PROGRAM, IN A SANDBOX (cutbox-rows.mjs): the forced cells as the released guide's own fill.sh prints them over the translation 37fa6258ffdbf03b… (all of the seat's roots in one cut). By AI agents, Wed Nov 11 2026. No macro, syntax, notation, axiom, sorry.
-/
import Derived.Test.YtknpekpigiclkaaChecked
import GoSem.Claim
import GoSem.ClaimJoined
import GoSem.ClaimMapViews
import Derived.JoinedTies
import Derived.KernelRfl
namespace Go.Proofs.Ytknpekpigiclkaa
/- THE CELL 'sum', in the pinned program and in every row, IS THE sha256 OF THE DUMP (.gsa) THAT YtknpekpigiclkaaProg.lean LOADS. Nothing in Lean hashes anything: it is a label: what it is worth is what the hold of that sum in a sandbox is worth. -/
noncomputable def Try.pinned : Pinned := { name := "ytknpekpigiclkaa", sum := "37fa6258ffdbf03b0ab1c7bcb89cc9b6274d098769efb9cd805dca3228be09d0", checked := Try.checked }
namespace Rows
def none {H : Type} : Left H := { results := [], args := [] }

/-- 'corduroylaw02.TrapNests': WHATEVER THE INPUT: true; the input reads as it did. -/
def trapNestsSpec : ChangeSpec := { name := "trapNests", fn := fun _ => fun
  | [d] => { results := [.lit (.bool true)], args := [d] }
  | _ => none }
def trapNestsRow : OpenClaim := { program := "ytknpekpigiclkaa", sum := "37fa6258ffdbf03b0ab1c7bcb89cc9b6274d098769efb9cd805dca3228be09d0", func := "corduroy/corduroylaw02.TrapNests", spec := "trapNests", unfollowed := true, recurses := true, apart := false }
def TrapNestsSaid : Prop := trapNestsRow.holds Try.pinned (OpenSpec.ofChange trapNestsSpec)

/-- ITS FALSE NEIGHBOUR: 'it returns false'. Refute it at one input. -/
def trapNestsWrong : ChangeSpec := { name := "trapNests", fn := fun _ => fun
  | [d] => { results := [.lit (.bool false)], args := [d] }
  | _ => none }
def TrapNestsWrongFalsely : Prop := trapNestsRow.holds Try.pinned (OpenSpec.ofChange trapNestsWrong)

/-- 'corduroylaw03.CursorReads': WHATEVER THE INPUT: true; the input reads as it did. -/
def cursorReadsSpec : ChangeSpec := { name := "cursorReads", fn := fun _ => fun
  | [d1, d2] => { results := [.lit (.bool true)], args := [d1, d2] }
  | _ => none }
def cursorReadsRow : OpenClaim := { program := "ytknpekpigiclkaa", sum := "37fa6258ffdbf03b0ab1c7bcb89cc9b6274d098769efb9cd805dca3228be09d0", func := "corduroy/corduroylaw03.CursorReads", spec := "cursorReads", unfollowed := true, recurses := true, apart := false }
def CursorReadsSaid : Prop := cursorReadsRow.holds Try.pinned (OpenSpec.ofChange cursorReadsSpec)

/-- ITS FALSE NEIGHBOUR: 'it returns false'. Refute it at one input. -/
def cursorReadsWrong : ChangeSpec := { name := "cursorReads", fn := fun _ => fun
  | [d1, d2] => { results := [.lit (.bool false)], args := [d1, d2] }
  | _ => none }
def CursorReadsWrongFalsely : Prop := cursorReadsRow.holds Try.pinned (OpenSpec.ofChange cursorReadsWrong)

/-- 'corduroylaw07.PlainEncodes': WHATEVER THE INPUT: true; the input reads as it did. -/
def plainEncodesSpec : ChangeSpec := { name := "plainEncodes", fn := fun _ => fun
  | [d] => { results := [.lit (.bool true)], args := [d] }
  | _ => none }
def plainEncodesRow : OpenClaim := { program := "ytknpekpigiclkaa", sum := "37fa6258ffdbf03b0ab1c7bcb89cc9b6274d098769efb9cd805dca3228be09d0", func := "corduroy/corduroylaw07.PlainEncodes", spec := "plainEncodes", unfollowed := true, recurses := true, apart := false }
def PlainEncodesSaid : Prop := plainEncodesRow.holds Try.pinned (OpenSpec.ofChange plainEncodesSpec)

/-- ITS FALSE NEIGHBOUR: 'it returns false'. Refute it at one input. -/
def plainEncodesWrong : ChangeSpec := { name := "plainEncodes", fn := fun _ => fun
  | [d] => { results := [.lit (.bool false)], args := [d] }
  | _ => none }
def PlainEncodesWrongFalsely : Prop := plainEncodesRow.holds Try.pinned (OpenSpec.ofChange plainEncodesWrong)

/-- 'corduroylaw07.PlainDecodes': WHATEVER THE INPUT: true; the input reads as it did. -/
def plainDecodesSpec : ChangeSpec := { name := "plainDecodes", fn := fun _ => fun
  | [d1, d2] => { results := [.lit (.bool true)], args := [d1, d2] }
  | _ => none }
def plainDecodesRow : OpenClaim := { program := "ytknpekpigiclkaa", sum := "37fa6258ffdbf03b0ab1c7bcb89cc9b6274d098769efb9cd805dca3228be09d0", func := "corduroy/corduroylaw07.PlainDecodes", spec := "plainDecodes", unfollowed := true, recurses := true, apart := false }
def PlainDecodesSaid : Prop := plainDecodesRow.holds Try.pinned (OpenSpec.ofChange plainDecodesSpec)

/-- ITS FALSE NEIGHBOUR: 'it returns false'. Refute it at one input. -/
def plainDecodesWrong : ChangeSpec := { name := "plainDecodes", fn := fun _ => fun
  | [d1, d2] => { results := [.lit (.bool false)], args := [d1, d2] }
  | _ => none }
def PlainDecodesWrongFalsely : Prop := plainDecodesRow.holds Try.pinned (OpenSpec.ofChange plainDecodesWrong)

/-- 'corduroylaw07.PlainReads': WHATEVER THE INPUT: true; the input reads as it did. -/
def plainReadsSpec : ChangeSpec := { name := "plainReads", fn := fun _ => fun
  | [d1, d2, d3] => { results := [.lit (.bool true)], args := [d1, d2, d3] }
  | _ => none }
def plainReadsRow : OpenClaim := { program := "ytknpekpigiclkaa", sum := "37fa6258ffdbf03b0ab1c7bcb89cc9b6274d098769efb9cd805dca3228be09d0", func := "corduroy/corduroylaw07.PlainReads", spec := "plainReads", unfollowed := true, recurses := true, apart := false }
def PlainReadsSaid : Prop := plainReadsRow.holds Try.pinned (OpenSpec.ofChange plainReadsSpec)

/-- ITS FALSE NEIGHBOUR: 'it returns false'. Refute it at one input. -/
def plainReadsWrong : ChangeSpec := { name := "plainReads", fn := fun _ => fun
  | [d1, d2, d3] => { results := [.lit (.bool false)], args := [d1, d2, d3] }
  | _ => none }
def PlainReadsWrongFalsely : Prop := plainReadsRow.holds Try.pinned (OpenSpec.ofChange plainReadsWrong)

/-- 'corduroylaw07.PlainBack': WHATEVER THE INPUT: true; the input reads as it did. -/
def plainBackSpec : ChangeSpec := { name := "plainBack", fn := fun _ => fun
  | [d1, d2] => { results := [.lit (.bool true)], args := [d1, d2] }
  | _ => none }
def plainBackRow : OpenClaim := { program := "ytknpekpigiclkaa", sum := "37fa6258ffdbf03b0ab1c7bcb89cc9b6274d098769efb9cd805dca3228be09d0", func := "corduroy/corduroylaw07.PlainBack", spec := "plainBack", unfollowed := true, recurses := true, apart := false }
def PlainBackSaid : Prop := plainBackRow.holds Try.pinned (OpenSpec.ofChange plainBackSpec)

/-- ITS FALSE NEIGHBOUR: 'it returns false'. Refute it at one input. -/
def plainBackWrong : ChangeSpec := { name := "plainBack", fn := fun _ => fun
  | [d1, d2] => { results := [.lit (.bool false)], args := [d1, d2] }
  | _ => none }
def PlainBackWrongFalsely : Prop := plainBackRow.holds Try.pinned (OpenSpec.ofChange plainBackWrong)

/-- 'corduroylaw08.ZvarEncodes': WHATEVER THE INPUT: true; the input reads as it did. -/
def zvarEncodesSpec : ChangeSpec := { name := "zvarEncodes", fn := fun _ => fun
  | [d] => { results := [.lit (.bool true)], args := [d] }
  | _ => none }
def zvarEncodesRow : OpenClaim := { program := "ytknpekpigiclkaa", sum := "37fa6258ffdbf03b0ab1c7bcb89cc9b6274d098769efb9cd805dca3228be09d0", func := "corduroy/corduroylaw08.ZvarEncodes", spec := "zvarEncodes", unfollowed := true, recurses := true, apart := false }
def ZvarEncodesSaid : Prop := zvarEncodesRow.holds Try.pinned (OpenSpec.ofChange zvarEncodesSpec)

/-- ITS FALSE NEIGHBOUR: 'it returns false'. Refute it at one input. -/
def zvarEncodesWrong : ChangeSpec := { name := "zvarEncodes", fn := fun _ => fun
  | [d] => { results := [.lit (.bool false)], args := [d] }
  | _ => none }
def ZvarEncodesWrongFalsely : Prop := zvarEncodesRow.holds Try.pinned (OpenSpec.ofChange zvarEncodesWrong)

/-- 'corduroylaw08.ZvarDecodes': WHATEVER THE INPUT: true; the input reads as it did. -/
def zvarDecodesSpec : ChangeSpec := { name := "zvarDecodes", fn := fun _ => fun
  | [d1, d2] => { results := [.lit (.bool true)], args := [d1, d2] }
  | _ => none }
def zvarDecodesRow : OpenClaim := { program := "ytknpekpigiclkaa", sum := "37fa6258ffdbf03b0ab1c7bcb89cc9b6274d098769efb9cd805dca3228be09d0", func := "corduroy/corduroylaw08.ZvarDecodes", spec := "zvarDecodes", unfollowed := true, recurses := true, apart := false }
def ZvarDecodesSaid : Prop := zvarDecodesRow.holds Try.pinned (OpenSpec.ofChange zvarDecodesSpec)

/-- ITS FALSE NEIGHBOUR: 'it returns false'. Refute it at one input. -/
def zvarDecodesWrong : ChangeSpec := { name := "zvarDecodes", fn := fun _ => fun
  | [d1, d2] => { results := [.lit (.bool false)], args := [d1, d2] }
  | _ => none }
def ZvarDecodesWrongFalsely : Prop := zvarDecodesRow.holds Try.pinned (OpenSpec.ofChange zvarDecodesWrong)

/-- 'corduroylaw08.ZvarBack': WHATEVER THE INPUT: true; the input reads as it did. -/
def zvarBackSpec : ChangeSpec := { name := "zvarBack", fn := fun _ => fun
  | [d] => { results := [.lit (.bool true)], args := [d] }
  | _ => none }
def zvarBackRow : OpenClaim := { program := "ytknpekpigiclkaa", sum := "37fa6258ffdbf03b0ab1c7bcb89cc9b6274d098769efb9cd805dca3228be09d0", func := "corduroy/corduroylaw08.ZvarBack", spec := "zvarBack", unfollowed := true, recurses := true, apart := false }
def ZvarBackSaid : Prop := zvarBackRow.holds Try.pinned (OpenSpec.ofChange zvarBackSpec)

/-- ITS FALSE NEIGHBOUR: 'it returns false'. Refute it at one input. -/
def zvarBackWrong : ChangeSpec := { name := "zvarBack", fn := fun _ => fun
  | [d] => { results := [.lit (.bool false)], args := [d] }
  | _ => none }
def ZvarBackWrongFalsely : Prop := zvarBackRow.holds Try.pinned (OpenSpec.ofChange zvarBackWrong)

/-- 'corduroylaw08.ZvarApart': WHATEVER THE INPUT: true; the input reads as it did. -/
def zvarApartSpec : ChangeSpec := { name := "zvarApart", fn := fun _ => fun
  | [d1, d2, d3] => { results := [.lit (.bool true)], args := [d1, d2, d3] }
  | _ => none }
def zvarApartRow : OpenClaim := { program := "ytknpekpigiclkaa", sum := "37fa6258ffdbf03b0ab1c7bcb89cc9b6274d098769efb9cd805dca3228be09d0", func := "corduroy/corduroylaw08.ZvarApart", spec := "zvarApart", unfollowed := true, recurses := true, apart := false }
def ZvarApartSaid : Prop := zvarApartRow.holds Try.pinned (OpenSpec.ofChange zvarApartSpec)

/-- ITS FALSE NEIGHBOUR: 'it returns false'. Refute it at one input. -/
def zvarApartWrong : ChangeSpec := { name := "zvarApart", fn := fun _ => fun
  | [d1, d2, d3] => { results := [.lit (.bool false)], args := [d1, d2, d3] }
  | _ => none }
def ZvarApartWrongFalsely : Prop := zvarApartRow.holds Try.pinned (OpenSpec.ofChange zvarApartWrong)

/-- 'corduroylaw08.ZvarSmall': WHATEVER THE INPUT: true; the input reads as it did. -/
def zvarSmallSpec : ChangeSpec := { name := "zvarSmall", fn := fun _ => fun
  | [d] => { results := [.lit (.bool true)], args := [d] }
  | _ => none }
def zvarSmallRow : OpenClaim := { program := "ytknpekpigiclkaa", sum := "37fa6258ffdbf03b0ab1c7bcb89cc9b6274d098769efb9cd805dca3228be09d0", func := "corduroy/corduroylaw08.ZvarSmall", spec := "zvarSmall", unfollowed := true, recurses := true, apart := false }
def ZvarSmallSaid : Prop := zvarSmallRow.holds Try.pinned (OpenSpec.ofChange zvarSmallSpec)

/-- ITS FALSE NEIGHBOUR: 'it returns false'. Refute it at one input. -/
def zvarSmallWrong : ChangeSpec := { name := "zvarSmall", fn := fun _ => fun
  | [d] => { results := [.lit (.bool false)], args := [d] }
  | _ => none }
def ZvarSmallWrongFalsely : Prop := zvarSmallRow.holds Try.pinned (OpenSpec.ofChange zvarSmallWrong)

/-- 'corduroylaw25.ZoneTells': WHATEVER THE INPUT: true; the input reads as it did. -/
def zoneTellsSpec : ChangeSpec := { name := "zoneTells", fn := fun _ => fun
  | [d1, d2] => { results := [.lit (.bool true)], args := [d1, d2] }
  | _ => none }
def zoneTellsRow : OpenClaim := { program := "ytknpekpigiclkaa", sum := "37fa6258ffdbf03b0ab1c7bcb89cc9b6274d098769efb9cd805dca3228be09d0", func := "corduroy/corduroylaw25.ZoneTells", spec := "zoneTells", apart := false }
def ZoneTellsSaid : Prop := zoneTellsRow.holds Try.pinned (OpenSpec.ofChange zoneTellsSpec)

/-- ITS FALSE NEIGHBOUR: 'it returns false'. Refute it at one input. -/
def zoneTellsWrong : ChangeSpec := { name := "zoneTells", fn := fun _ => fun
  | [d1, d2] => { results := [.lit (.bool false)], args := [d1, d2] }
  | _ => none }
def ZoneTellsWrongFalsely : Prop := zoneTellsRow.holds Try.pinned (OpenSpec.ofChange zoneTellsWrong)

/- THE SECOND FORM. 'bulk': how many values and letters a reading holds, each counted each time it is reached (what is shared counts as often as it is met; a slice's spare places count too). A statement '..UptoSaid' is the law's where the arguments, and the package variables that the reading takes, are together of bulk at most 1048576: NARROWER than '..Said'. Prove '..Said' where nothing that the law and all that it calls make is longer than what came in: it says more and counts as full. Else prove '..UptoSaid'. A law counts once. -/
mutual
def uptoBulk {H : Type} : DataW H → Nat
  | .lit (.string bytes) => bytes.length + 1
  | .lit _ => 1
  | .nil => 1
  | .ptr d => uptoBulk d + 1
  | .slice elems spare => uptoBulkAll elems + uptoBulkAll spare + 1
  | .agg parts => uptoBulkAll parts + 1
  | .iface _ d => uptoBulk d + 1
  | .map entries => uptoBulkEntries entries + 1
  | .held _ => 1
def uptoBulkAll {H : Type} : List (DataW H) → Nat
  | [] => 0
  | d :: r => uptoBulk d + uptoBulkAll r
def uptoBulkEntries {H : Type} : List (Lit × DataW H) → Nat
  | [] => 0
  | x :: r => uptoBulkEntry x + uptoBulkEntries r
def uptoBulkEntry {H : Type} : Lit × DataW H → Nat
  | (.string bytes, d) => bytes.length + uptoBulk d + 1
  | (_, d) => uptoBulk d + 1
 end
def uptoSmall : (H : Type) → List (DataW H) → Bool := fun _ ds => decide (uptoBulkAll ds ≤ 1048576)
def OpenSpec.upto (s : _root_.Go.ChangeSpec) : _root_.Go.OpenSpec := { _root_.Go.OpenSpec.ofChange s with cond := some uptoSmall }

/-- 'corduroylaw02.TrapNests', WHERE WHAT IT READS IS OF BULK AT MOST 1048576: true; the input reads as it did. -/
def trapNestsUptoRow : OpenClaim := { program := "ytknpekpigiclkaa", sum := "37fa6258ffdbf03b0ab1c7bcb89cc9b6274d098769efb9cd805dca3228be09d0", func := "corduroy/corduroylaw02.TrapNests", spec := "trapNests", unfollowed := true, recurses := true, apart := false, narrowed := true }
def TrapNestsUptoSaid : Prop := trapNestsUptoRow.holds Try.pinned (OpenSpec.upto trapNestsSpec)

/-- 'corduroylaw03.CursorReads', WHERE WHAT IT READS IS OF BULK AT MOST 1048576: true; the input reads as it did. -/
def cursorReadsUptoRow : OpenClaim := { program := "ytknpekpigiclkaa", sum := "37fa6258ffdbf03b0ab1c7bcb89cc9b6274d098769efb9cd805dca3228be09d0", func := "corduroy/corduroylaw03.CursorReads", spec := "cursorReads", unfollowed := true, recurses := true, apart := false, narrowed := true }
def CursorReadsUptoSaid : Prop := cursorReadsUptoRow.holds Try.pinned (OpenSpec.upto cursorReadsSpec)

/-- 'corduroylaw07.PlainEncodes', WHERE WHAT IT READS IS OF BULK AT MOST 1048576: true; the input reads as it did. -/
def plainEncodesUptoRow : OpenClaim := { program := "ytknpekpigiclkaa", sum := "37fa6258ffdbf03b0ab1c7bcb89cc9b6274d098769efb9cd805dca3228be09d0", func := "corduroy/corduroylaw07.PlainEncodes", spec := "plainEncodes", unfollowed := true, recurses := true, apart := false, narrowed := true }
def PlainEncodesUptoSaid : Prop := plainEncodesUptoRow.holds Try.pinned (OpenSpec.upto plainEncodesSpec)

/-- 'corduroylaw07.PlainDecodes', WHERE WHAT IT READS IS OF BULK AT MOST 1048576: true; the input reads as it did. -/
def plainDecodesUptoRow : OpenClaim := { program := "ytknpekpigiclkaa", sum := "37fa6258ffdbf03b0ab1c7bcb89cc9b6274d098769efb9cd805dca3228be09d0", func := "corduroy/corduroylaw07.PlainDecodes", spec := "plainDecodes", unfollowed := true, recurses := true, apart := false, narrowed := true }
def PlainDecodesUptoSaid : Prop := plainDecodesUptoRow.holds Try.pinned (OpenSpec.upto plainDecodesSpec)

/-- 'corduroylaw07.PlainReads', WHERE WHAT IT READS IS OF BULK AT MOST 1048576: true; the input reads as it did. -/
def plainReadsUptoRow : OpenClaim := { program := "ytknpekpigiclkaa", sum := "37fa6258ffdbf03b0ab1c7bcb89cc9b6274d098769efb9cd805dca3228be09d0", func := "corduroy/corduroylaw07.PlainReads", spec := "plainReads", unfollowed := true, recurses := true, apart := false, narrowed := true }
def PlainReadsUptoSaid : Prop := plainReadsUptoRow.holds Try.pinned (OpenSpec.upto plainReadsSpec)

/-- 'corduroylaw07.PlainBack', WHERE WHAT IT READS IS OF BULK AT MOST 1048576: true; the input reads as it did. -/
def plainBackUptoRow : OpenClaim := { program := "ytknpekpigiclkaa", sum := "37fa6258ffdbf03b0ab1c7bcb89cc9b6274d098769efb9cd805dca3228be09d0", func := "corduroy/corduroylaw07.PlainBack", spec := "plainBack", unfollowed := true, recurses := true, apart := false, narrowed := true }
def PlainBackUptoSaid : Prop := plainBackUptoRow.holds Try.pinned (OpenSpec.upto plainBackSpec)

/-- 'corduroylaw08.ZvarEncodes', WHERE WHAT IT READS IS OF BULK AT MOST 1048576: true; the input reads as it did. -/
def zvarEncodesUptoRow : OpenClaim := { program := "ytknpekpigiclkaa", sum := "37fa6258ffdbf03b0ab1c7bcb89cc9b6274d098769efb9cd805dca3228be09d0", func := "corduroy/corduroylaw08.ZvarEncodes", spec := "zvarEncodes", unfollowed := true, recurses := true, apart := false, narrowed := true }
def ZvarEncodesUptoSaid : Prop := zvarEncodesUptoRow.holds Try.pinned (OpenSpec.upto zvarEncodesSpec)

/-- 'corduroylaw08.ZvarDecodes', WHERE WHAT IT READS IS OF BULK AT MOST 1048576: true; the input reads as it did. -/
def zvarDecodesUptoRow : OpenClaim := { program := "ytknpekpigiclkaa", sum := "37fa6258ffdbf03b0ab1c7bcb89cc9b6274d098769efb9cd805dca3228be09d0", func := "corduroy/corduroylaw08.ZvarDecodes", spec := "zvarDecodes", unfollowed := true, recurses := true, apart := false, narrowed := true }
def ZvarDecodesUptoSaid : Prop := zvarDecodesUptoRow.holds Try.pinned (OpenSpec.upto zvarDecodesSpec)

/-- 'corduroylaw08.ZvarBack', WHERE WHAT IT READS IS OF BULK AT MOST 1048576: true; the input reads as it did. -/
def zvarBackUptoRow : OpenClaim := { program := "ytknpekpigiclkaa", sum := "37fa6258ffdbf03b0ab1c7bcb89cc9b6274d098769efb9cd805dca3228be09d0", func := "corduroy/corduroylaw08.ZvarBack", spec := "zvarBack", unfollowed := true, recurses := true, apart := false, narrowed := true }
def ZvarBackUptoSaid : Prop := zvarBackUptoRow.holds Try.pinned (OpenSpec.upto zvarBackSpec)

/-- 'corduroylaw08.ZvarApart', WHERE WHAT IT READS IS OF BULK AT MOST 1048576: true; the input reads as it did. -/
def zvarApartUptoRow : OpenClaim := { program := "ytknpekpigiclkaa", sum := "37fa6258ffdbf03b0ab1c7bcb89cc9b6274d098769efb9cd805dca3228be09d0", func := "corduroy/corduroylaw08.ZvarApart", spec := "zvarApart", unfollowed := true, recurses := true, apart := false, narrowed := true }
def ZvarApartUptoSaid : Prop := zvarApartUptoRow.holds Try.pinned (OpenSpec.upto zvarApartSpec)

/-- 'corduroylaw08.ZvarSmall', WHERE WHAT IT READS IS OF BULK AT MOST 1048576: true; the input reads as it did. -/
def zvarSmallUptoRow : OpenClaim := { program := "ytknpekpigiclkaa", sum := "37fa6258ffdbf03b0ab1c7bcb89cc9b6274d098769efb9cd805dca3228be09d0", func := "corduroy/corduroylaw08.ZvarSmall", spec := "zvarSmall", unfollowed := true, recurses := true, apart := false, narrowed := true }
def ZvarSmallUptoSaid : Prop := zvarSmallUptoRow.holds Try.pinned (OpenSpec.upto zvarSmallSpec)

/-- 'corduroylaw25.ZoneTells', WHERE WHAT IT READS IS OF BULK AT MOST 1048576: true; the input reads as it did. -/
def zoneTellsUptoRow : OpenClaim := { program := "ytknpekpigiclkaa", sum := "37fa6258ffdbf03b0ab1c7bcb89cc9b6274d098769efb9cd805dca3228be09d0", func := "corduroy/corduroylaw25.ZoneTells", spec := "zoneTells", apart := false, narrowed := true }
def ZoneTellsUptoSaid : Prop := zoneTellsUptoRow.holds Try.pinned (OpenSpec.upto zoneTellsSpec)

end Rows
end Go.Proofs.Ytknpekpigiclkaa
