/-
  THE TABLE OF SHAPES: what the row's list says of it, as cells. No condition.
-/
import Derived.Test.YtelcaejiipibpaaDoorRows
import Derived.Test.YtelcaejiipibpaaDoorSimpleA
import Derived.WalkKit
import Derived.ProofKit
import Derived.OpenShut
import Derived.ChangeSame
import Derived.Deep.DeepHandedRow
import Derived.Lib.LaidTab
namespace Go.Proofs.YtelcaejiipibpaaDoor
open Go.ChangeShapes Go.WideShapes Go.ChangeAt Go.RowKit
theorem gWords : Tryd.prog.globalNamed "corduroy/simple.words" = some 0 := by kernel_rfl
theorem gWordsType : (Tryd.prog.globals[0]?).map (·.type) = some 80 := by kernel_rfl
theorem cellsShape : Tryd.prog.cellsOf 79 = 2 := by kernel_rfl
theorem cellsInt : Tryd.prog.cellsOf 3 = 1 := by kernel_rfl
theorem laid_words {H : Type} : (Rows.laid_corduroy_simple_words : DataW H) = .agg ((List.range 16).map fun s => .agg [.lit (.int .i64 (sMany s : Nat)), .lit (.int .i64 (sBits s : Nat))]) := by rfl
theorem words_of_laid {W : World} (h : laidMetH Tryd.prog [("corduroy/simple.words", Rows.laid_corduroy_simple_words)] W) : SW W := fun s hs => by
  obtain ⟨ps, ⟨g', t', cs, fuel, p, q, hg', ht', hvar, hd, _, _⟩, _⟩ := (show laidMet Tryd.prog [("corduroy/simple.words", Rows.laid_corduroy_simple_words)] W from h)
  obtain rfl := Option.some.inj (gWords.symm.trans hg')
  obtain rfl := Option.some.inj (gWordsType.symm.trans ht')
  rw [laid_words] at hd
  obtain ⟨xs, m, _, hx, hl, hlen, hat⟩ := DataW.trod_array Tryd.underlying80 hd
  have hx1 := congrArg Prod.fst hx
  have hxs : (List.range 16).map (fun s => (DataW.agg [.lit (.int .i64 (sMany s : Nat)), .lit (.int .i64 (sBits s : Nat))] : DataW _)) = xs.map (·.1) := by
    simpa using hx1
  have h1 := hat s hs
  obtain ⟨y, hy⟩ : ∃ y, xs[s]? = some y := ⟨xs[s]'(by omega), List.getElem?_eq_getElem (by omega)⟩
  have hy1 : y.1 = .agg [.lit (.int .i64 (sMany s : Nat)), .lit (.int .i64 (sBits s : Nat))] := by
    have := congrArg (fun l => l[s]?) hxs
    simp only [List.getElem?_map, hy, List.getElem?_range hs, Option.map_some, Option.some.injEq] at this
    exact this.symm
  rw [hy] at h1
  obtain ⟨y0, y1, n', he, hl2, h0, h1⟩ := trod_struct2 Tryd.underlying79 h1
  have e0 := congrArg Prod.fst he
  rw [hy1] at e0
  obtain ⟨a0, hc0, rfl, _⟩ := DataW.trod_int Tryd.underlying3 h0
  obtain ⟨a1, hc1, rfl, _⟩ := DataW.trod_int Tryd.underlying3 h1
  simp at e0
  obtain ⟨rfl, rfl⟩ := e0
  rw [cellsShape, cellsInt] at hc0 hc1
  have g0 := congrArg (fun l => l[0]?) hc0
  have g1 := congrArg (fun l => l[0]?) hc1
  rw [World.var?_cell gWords hvar, World.var?_cell gWords hvar]
  simp [List.getElem?_drop] at g0 g1 ⊢
  exact ⟨g0, g1⟩
/-- A WORLD FOR THE WITNESS: the settled one, the table holding what its initialiser lays. -/
noncomputable def laidWorld (os : Os) : World :=
  { World.holding Tryd.prog os ⟨#[], #[], []⟩ with heap := (World.holding Tryd.prog os ⟨#[], #[], []⟩).heap.modify 0 fun
      | .cells _ t frozen => .cells #[.int .i64 240, .int .i64 0, .int .i64 120, .int .i64 0, .int .i64 60, .int .i64 1, .int .i64 30, .int .i64 2, .int .i64 20, .int .i64 3, .int .i64 15, .int .i64 4, .int .i64 12, .int .i64 5, .int .i64 10, .int .i64 6, .int .i64 8, .int .i64 7, .int .i64 7, .int .i64 8, .int .i64 6, .int .i64 10, .int .i64 5, .int .i64 12, .int .i64 4, .int .i64 15, .int .i64 3, .int .i64 20, .int .i64 2, .int .i64 30, .int .i64 1, .int .i64 60] t frozen
      | o => o }
end Go.Proofs.YtelcaejiipibpaaDoor
