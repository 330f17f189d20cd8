/-
  CONTRACT OF the document's own Same of rows of numbers (corduroyref06), in any world where they lie. Conditions: at most 100000 numbers.
-/
import Derived.Test.YtelcaejiipibpaaDoorWords
import Derived.WalkKit
import Derived.WalkLawsBesides
import Derived.WalkSpells
import Derived.ProofKit
import Derived.LoopTactic
import Derived.RegionTactic
import Derived.IntWalk
import Derived.Lib.Hide
namespace Go.Proofs.YtelcaejiipibpaaDoor
open Go.RowKit
set_option linter.unusedVariables false
set_option maxRecDepth 100000 in
theorem samei (a b : Option Addr) (n m ca cb : Nat) (l r : Nat → Int) (hn : n ≤ 100000) (w : World) (h1 : RowOf w a n (fun i => .int .i64 (l i))) (h2 : RowOf w b m (fun i => .int .i64 (r i))) (x : Bool) (hx : decide (n = m ∧ ∀ i, i < n → l i = r i) = x) :
    Calls Tryd.prog 15 #[.slice a n ca, .slice b m cb] w fun e w' => e = .returned (.bool x) ∧ Below w.heap.size w w' := by
  by_cases hnm : n = m
  · subst hnm
    have hx : decide (∀ i, i < n → l i = r i) = x := by rw [← hx]; simp
    have hb0 : ((n : Int) != (n : Int)) = false := by simp
    have H1 := Lib.hid h1
    have H2 := Lib.hid h2
    have HX := Lib.hid hx
    clear h1 h2 hx
    go_enter Tryd.func15, Tryd.ntmps15
    go_wp2
    go_loopw [5] (fun k wr => ∃ i : Nat, i ≤ n ∧ k = .int .i64 i ∧ (∀ j, j < i → l j = r j) ∧ Below w.heap.size w wr) (fun k _ => n - (intOf k).toNat)
    case atStart => exact ⟨0, by omega, rfl, fun j hj => by omega, Below.refl _ _⟩
    case round =>
      obtain ⟨i, hi, rfl, hs, hb⟩ := hrel
      by_cases hin : i < n
      · have i1 : (i : Int) < n := by omega
        obtain ⟨b1, o1, rfl, _, hc1⟩ := (H1.out.below hb).at_ hin
        obtain ⟨b2, o2, rfl, _, hc2⟩ := (H2.out.below hb).at_ hin
        have c1 := hc1 i hin
        have c2 := hc2 i hin
        have HS := Lib.hid hs
        have HB := Lib.hid hb
        clear hc1 hc2 hs hb
        by_cases e : l i = r i
        · have e1 : (l i != r i) = false := by rw [e]; simp
          have E := Lib.hid e
          clear e
          have HEQ := Lib.hid (show l i = r i from E.out)
          generalize hl : l i = p at c1 e1
          generalize hr : r i = q at c2 e1
          clear hl hr E
          go_wp2
          go_region
          go_wp2
          go_roundw
          case rel => exact ⟨i + 1, by omega, by go_num, fun j hj => by
            by_cases h : j = i
            · subst h; exact HEQ.out
            · exact HS.out j (by omega), HB.out.drew⟩
          case measure => simp [intOf]; omega
        · have e1 : (l i != r i) = true := by rw [bne_iff_ne]; exact e
          have E := Lib.hid e
          clear e
          have HE := Lib.hid (show ¬ ∀ i, i < n → l i = r i from fun h => E.out (h i hin))
          generalize l i = p at *
          generalize r i = q at *
          go_wp2
          go_region
          go_wp2
          go_ret
          refine ⟨?_, HB.out.drew⟩
          rw [← HX.out, decide_eq_false HE.out]
          rfl
      · obtain rfl : i = n := by omega
        have HS := Lib.hid hs
        have HB := Lib.hid hb
        clear hs hb
        go_wp2
        go_ret
        refine ⟨?_, HB.out⟩
        rw [← HX.out, decide_eq_true HS.out]
        rfl
  · have hb0 : ((n : Int) != (m : Int)) = true := by rw [bne_iff_ne]; omega
    have hx : x = false := by rw [← hx]; simp [hnm]
    clear hnm
    subst hx
    clear h1 h2
    go_enter Tryd.func15, Tryd.ntmps15
    go_wp2
    go_ret
    exact ⟨rfl, Below.refl _ _⟩
end Go.Proofs.YtelcaejiipibpaaDoor
