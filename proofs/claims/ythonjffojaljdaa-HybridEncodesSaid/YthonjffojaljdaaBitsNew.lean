/-
  CONTRACTS OF slices.Clone over bytes, and of bits.NewWriter, Len, Bytes, NewReader, Left, in any world. Conditions: at most 100000 bytes or bits.
-/
import Derived.Test.YthonjffojaljdaaClone
import Derived.Test.YthonjffojaljdaaBitsRows
import Derived.Test.YthonjffojaljdaaBitsSmall
import Derived.WalkKit
import Derived.WalkLawsBesides
import Derived.WalkSpells
import Derived.ProofKit
import Derived.Deep.QuietTactic
import Derived.BigQuiet
import Derived.Deep.DeepMust
import Derived.IntWalk
import Derived.Lib.SliceRun
import Derived.Outline
import Derived.Lib.Hide
namespace Go.Proofs.Ythonjffojaljdaa
open Go.RowKit
set_option linter.unusedVariables false
theorem newWriter_any (w : World) :
    Calls Try.prog 127 #[] w fun e w' => e = .returned (.pointer (some ⟨w.heap.size, 0, none⟩)) ∧ WriterAt w' w.heap.size (.slice none 0 0) 0 0 ∧ Below w.heap.size w w' := by
  go_enter Try.func127, Try.ntmps127
  go_wp2
  go_ret
  exact ⟨rfl, ⟨Lies.new _ _ _, World.ownsRow_nil _ _ _ _, by decide⟩, (Below.refl _ _).alloc (Nat.le_refl _) _⟩
/-- A reader of n bytes that is at a bit. -/
def ReaderAt (w : World) (br n : Nat) (z : Nat → Int) (at_ : Nat) : Prop :=
  ∃ a cap, Lies w br 173 #[.slice a n cap, .int .i64 at_] ∧ RowOf w a n (fun i => .int .u8 (z i)) ∧ ∀ p, a = some p → p.block < br
theorem newReader_any (a : Option Addr) (len cap : Nat) (z : Nat → Int) (hlen : len ≤ 100000) (w : World) (h : RowOf w a len (fun i => .int .u8 (z i))) :
    Calls Try.prog 140 #[.slice a len cap] w fun e w' => ∃ br, e = .returned (.pointer (some ⟨br, 0, none⟩)) ∧ ReaderAt w' br len z 0 ∧ w.heap.size ≤ br ∧ Below w.heap.size w w' := by
  have CL := Lib.hid (clone_any a len cap z hlen w h)
  clear h
  go_enter Try.func140, Try.ntmps140
  go_wp2_with (go_at_call 115; refine CL.out.mono ?_; rintro e w' ⟨v', rfl, hx, hb⟩; obtain ⟨a', cap', rfl, hr, hab⟩ := own_reads' hx; have HX := Lib.hid hx; have HB := Lib.hid hb; have HR := Lib.hid hr; have HA := Lib.hid hab; clear hx hb hr hab)
  go_ret
  exact ⟨_, rfl, ⟨a', cap', Lies.new _ _ _, HR.out.below ((Below.refl _ _).alloc (Nat.le_refl _) _), fun p hp => (HA.out p hp).2⟩, HB.out.size, HB.out.alloc HB.out.size _⟩
theorem left_any (br n : Nat) (z : Nat → Int) (at_ : Nat) (hn : n ≤ 100000) (hat : at_ ≤ 8 * n) (w : World) (h : ReaderAt w br n z at_) :
    Calls Try.prog 142 #[.pointer (some ⟨br, 0, none⟩)] w fun e w' => e = .returned (.int .i64 (8 * n - at_ : Nat)) ∧ ∃ k, w' = w.drewN k := by
  obtain ⟨a, cap, hl, _, _⟩ := h
  have c0 := hl.cell 0
  have c1 : w.cell? ⟨br, 1, none⟩ = some (.int .i64 at_) := hl.cell 1
  have he : 8 * (n : Int) - at_ = (8 * n - at_ : Nat) := by omega
  have HE := Lib.hid he
  have h1 : (at_ : Int) ≤ 8 * n := by omega
  clear hl he
  go_enter Try.func142, Try.ntmps142
  go_wp2
  go_quiet (fail)
  go_wp2
  go_ret
  exact ⟨ret_int HE.out, _, rfl⟩
end Go.Proofs.Ythonjffojaljdaa
