/-
  'b = append(b, f(..)...)' OF A VARIABLE THAT A CLOSURE HOLDS: what the append does, and what is so behind the store. Conditions: the box holds a slice that owns its bytes; what is appended is a row of its own, made since.
-/
import Derived.Test.YtelcaejiipibpaaDoorPlainA
import Derived.RangeFuncBox
import Derived.RangeFuncCalls
import Derived.Lib.Hide
namespace Go.Proofs.YtelcaejiipibpaaDoor
open Go.RowKit
set_option linter.unusedVariables false
theorem cellsOf_row (ys : List Int) : rowV (fun i => Value.int .u8 (ys.getD i 0)) ys.length = cellsOf ys := by
  apply List.ext_getElem?
  intro i
  by_cases hi : i < ys.length
  · rw [rowV_get _ hi]; simp [cellsOf, hi]
  · rw [rowV_ge _ (by omega), List.getElem?_eq_none (by simp [cellsOf]; omega)]
theorem keeps_below {W W' : World} (h : Below W.heap.size W W') : KeepsOthers W W' :=
  ⟨h.size, fun k o hk _ => (h.block k (Array.getElem?_eq_some_iff.1 hk).1).trans hk⟩
theorem own_lt {W : World} {n₀ L : Nat} {v : Value} {xs : List Value} {e : TypeId} (h : W.ownsRow n₀ e 1 v L xs) (j : Nat) (hj : v.ownBlock = some j) : n₀ ≤ j ∧ j < W.heap.size := h.lt j hj
/-- The append alone. -/
theorem row_append (W w4 : World) (n₀ : Nat) (v v4 : Value) (xs ys : List Int) (hrow : W.ownsRow n₀ 5 1 v xs.length (cellsOf xs)) (hn₀ : n₀ ≤ W.heap.size)
    (h4 : w4.ownsRow W.heap.size 5 1 v4 ys.length (cellsOf ys)) (hb4 : Below W.heap.size W w4) (hlen : xs.length + ys.length ≤ 100000000) :
    ∃ a4 c4 a5 c5 w5, v4 = .slice a4 ys.length c4 ∧ (Builtin.append_ #[27, 27] 27 #[v, v4]).run Tryd.prog w4 = .ok (.slice a5 (xs ++ ys).length c5) w5 ∧ w5.ownsRow n₀ 5 1 (.slice a5 (xs ++ ys).length c5) (xs ++ ys).length (cellsOf (xs ++ ys)) ∧ w4.grownBy w5 v.ownBlock ∧ w4.ownsRow n₀ 5 1 v xs.length (cellsOf xs) := by
  obtain ⟨i0, hi, hz0, hz1, hz2⟩ := info_parts byteInfo
  obtain ⟨a4, c4, rfl, hr4, _⟩ := own_bytes h4
  have hrow4 := owns_turned hrow (S := fun i => W.heap.size ≤ i) (Turned.of_below hb4 (fun i _ hi => by omega)) (fun i hi hs => by have := (hrow.lt i hi).2; omega)
  obtain ⟨v5, w5, hrun, ho5, hg5, _⟩ := run_append_row (P := Tryd.prog) w4 n₀ 27 27 5 i0 (.int .u8 0) 1 Tryd.underlying27 hi hz0 hz1 hz2 rfl v xs.length _ hrow4 a4 ys.length c4 _ hr4 (fun i hi => rfl) (by unfold maxLen; omega) (by omega) (Nat.le_trans hn₀ hb4.size)
  rw [cellsOf_row, ← cellsOf_append] at ho5
  have e : xs.length + ys.length = (xs ++ ys).length := by simp
  rw [e] at ho5
  obtain ⟨a5, c5, rfl, _⟩ := own_bytes ho5
  exact ⟨a4, c4, a5, c5, w5, rfl, hrun, ho5, hg5, hrow4⟩
/-- The append and the store behind it; the bytes ahead are one at least. -/
theorem box_append (W w4 : World) (n₀ B g c : Nat) (v4 : Value) (xs ys : List Int) (hv : Boxed W B 27 (.slice (some ⟨g, 0, none⟩) xs.length c)) (hrow : W.ownsRow n₀ 5 1 (.slice (some ⟨g, 0, none⟩) xs.length c) xs.length (cellsOf xs)) (hx : 1 ≤ xs.length) (hn₀ : n₀ ≤ W.heap.size) (hB : n₀ ≤ B)
    (h4 : w4.ownsRow W.heap.size 5 1 v4 ys.length (cellsOf ys)) (hb4 : Below W.heap.size W w4) (hlen : xs.length + ys.length ≤ 100000000) :
    ∃ a4 c4 g5 c5 w5, v4 = .slice a4 ys.length c4 ∧ (Builtin.append_ #[27, 27] 27 #[.slice (some ⟨g, 0, none⟩) xs.length c, v4]).run Tryd.prog w4 = .ok (.slice (some ⟨g5, 0, none⟩) (xs ++ ys).length c5) w5 ∧ w4.cell? ⟨B, 0, none⟩ = some (.slice (some ⟨g, 0, none⟩) xs.length c) ∧ w5.cell? ⟨B, 0, none⟩ = some (.slice (some ⟨g, 0, none⟩) xs.length c) ∧ w5.frozen? ⟨B, 0, none⟩ = false ∧
      Boxed (w5.setCell ⟨B, 0, none⟩ (.slice (some ⟨g5, 0, none⟩) (xs ++ ys).length c5)) B 27 (.slice (some ⟨g5, 0, none⟩) (xs ++ ys).length c5) ∧ (w5.setCell ⟨B, 0, none⟩ (.slice (some ⟨g5, 0, none⟩) (xs ++ ys).length c5)).ownsRow n₀ 5 1 (.slice (some ⟨g5, 0, none⟩) (xs ++ ys).length c5) (xs ++ ys).length (cellsOf (xs ++ ys)) ∧
      KeepsOthers W (w5.setCell ⟨B, 0, none⟩ (.slice (some ⟨g5, 0, none⟩) (xs ++ ys).length c5)) ∧ Below n₀ W (w5.setCell ⟨B, 0, none⟩ (.slice (some ⟨g5, 0, none⟩) (xs ++ ys).length c5)) ∧
      (∀ b t u, Boxed W b t u → b ≠ B → t ≠ 5 → Boxed (w5.setCell ⟨B, 0, none⟩ (.slice (some ⟨g5, 0, none⟩) (xs ++ ys).length c5)) b t u) := by
  obtain ⟨a4, c4, a5, c5, w5, rfl, hrun, ho5, hg5, hrow4⟩ := row_append W w4 n₀ _ v4 xs ys hrow hn₀ h4 hb4 hlen
  have hte : (27 : Nat) ≠ 5 := by decide
  have hv4 : Boxed w4 B 27 _ := (hb4.block B hv.lt).trans hv
  have hv5 := hv4.kept hg5 (hv4.not_row hte hrow4)
  obtain ⟨k, hk⟩ : ∃ k, (xs ++ ys).length = k + 1 := ⟨(xs ++ ys).length - 1, by simp; omega⟩
  rw [hk] at ho5 hrun
  obtain ⟨g5, c6, he⟩ := ownsRow_succ ho5
  cases he
  rw [hk]
  refine ⟨a4, c4, g5, c5, w5, rfl, hrun, hv4.cell, hv5.cell, hv5.frozen, hv5.set _, ho5.kept (grownBy_setCell' w5 B _) (.inr (hv5.not_row hte ho5).symm), ?_, ?_, ?_⟩
  · refine ((keeps_below hb4).trans (KeepsOthers.of_grownBy hg5 fun j o ej hj => ?_)).trans (KeepsOthers.setCell _ _ _)
    rcases hrow4.2 with ⟨h0, _⟩ | ⟨g, cap, cur, h0, _, hgb, _⟩
    · rw [h0] at ej; simp [Value.ownBlock] at ej
    · rw [h0] at ej
      obtain rfl : g = j := by simpa [Value.ownBlock] using ej
      rw [hgb] at hj; cases hj; rfl
  · exact ((hb4.mono hn₀).grown hg5 (Nat.le_trans hn₀ hb4.size) (fun j hj => (hrow.lt j hj).1)).setCell (p := ⟨B, 0, none⟩) hB _
  · intro b t u hb hne htn
    have h4 : Boxed w4 b t u := (hb4.block b hb.lt).trans hb
    exact (h4.kept hg5 (h4.not_row htn hrow4)).kept (grownBy_setCell' w5 B _) (by simpa using hne)
/-- The same; whatever cells of another type lay lie as they lay. -/
theorem box_append_all (W w4 : World) (n₀ B g c : Nat) (v4 : Value) (xs ys : List Int) (hv : Boxed W B 27 (.slice (some ⟨g, 0, none⟩) xs.length c)) (hrow : W.ownsRow n₀ 5 1 (.slice (some ⟨g, 0, none⟩) xs.length c) xs.length (cellsOf xs)) (hx : 1 ≤ xs.length) (hn₀ : n₀ ≤ W.heap.size) (hB : n₀ ≤ B)
    (h4 : w4.ownsRow W.heap.size 5 1 v4 ys.length (cellsOf ys)) (hb4 : Below W.heap.size W w4) (hlen : xs.length + ys.length ≤ 100000000) :
    ∃ a4 c4 g5 c5 w5, v4 = .slice a4 ys.length c4 ∧ (Builtin.append_ #[27, 27] 27 #[.slice (some ⟨g, 0, none⟩) xs.length c, v4]).run Tryd.prog w4 = .ok (.slice (some ⟨g5, 0, none⟩) (xs ++ ys).length c5) w5 ∧ w4.cell? ⟨B, 0, none⟩ = some (.slice (some ⟨g, 0, none⟩) xs.length c) ∧ w5.cell? ⟨B, 0, none⟩ = some (.slice (some ⟨g, 0, none⟩) xs.length c) ∧ w5.frozen? ⟨B, 0, none⟩ = false ∧
      Boxed (w5.setCell ⟨B, 0, none⟩ (.slice (some ⟨g5, 0, none⟩) (xs ++ ys).length c5)) B 27 (.slice (some ⟨g5, 0, none⟩) (xs ++ ys).length c5) ∧ (w5.setCell ⟨B, 0, none⟩ (.slice (some ⟨g5, 0, none⟩) (xs ++ ys).length c5)).ownsRow n₀ 5 1 (.slice (some ⟨g5, 0, none⟩) (xs ++ ys).length c5) (xs ++ ys).length (cellsOf (xs ++ ys)) ∧
      KeepsOthers W (w5.setCell ⟨B, 0, none⟩ (.slice (some ⟨g5, 0, none⟩) (xs ++ ys).length c5)) ∧ Below n₀ W (w5.setCell ⟨B, 0, none⟩ (.slice (some ⟨g5, 0, none⟩) (xs ++ ys).length c5)) ∧
      (∀ (b : Nat) cs t fr, W.heap[b]? = some (.cells cs t fr) → b ≠ B → t ≠ 5 → (w5.setCell ⟨B, 0, none⟩ (.slice (some ⟨g5, 0, none⟩) (xs ++ ys).length c5)).heap[b]? = some (.cells cs t fr)) := by
  obtain ⟨a4, c4, a5, c5, w5, rfl, hrun, ho5, hg5, hrow4⟩ := row_append W w4 n₀ _ v4 xs ys hrow hn₀ h4 hb4 hlen
  have hte : (27 : Nat) ≠ 5 := by decide
  have hv4 : Boxed w4 B 27 _ := (hb4.block B hv.lt).trans hv
  have hv5 := hv4.kept hg5 (hv4.not_row hte hrow4)
  obtain ⟨k, hk⟩ : ∃ k, (xs ++ ys).length = k + 1 := ⟨(xs ++ ys).length - 1, by simp; omega⟩
  rw [hk] at ho5 hrun
  obtain ⟨g5, c6, he⟩ := ownsRow_succ ho5
  cases he
  rw [hk]
  refine ⟨a4, c4, g5, c5, w5, rfl, hrun, hv4.cell, hv5.cell, hv5.frozen, hv5.set _, ho5.kept (grownBy_setCell' w5 B _) (.inr (hv5.not_row hte ho5).symm), ?_, ?_, ?_⟩
  · refine ((keeps_below hb4).trans (KeepsOthers.of_grownBy hg5 fun j o ej hj => ?_)).trans (KeepsOthers.setCell _ _ _)
    rcases hrow4.2 with ⟨h0, _⟩ | ⟨g, cap, cur, h0, _, hgb, _⟩
    · rw [h0] at ej; simp [Value.ownBlock] at ej
    · rw [h0] at ej
      obtain rfl : g = j := by simpa [Value.ownBlock] using ej
      rw [hgb] at hj; cases hj; rfl
  · exact ((hb4.mono hn₀).grown hg5 (Nat.le_trans hn₀ hb4.size) (fun j hj => (hrow.lt j hj).1)).setCell (p := ⟨B, 0, none⟩) hB _
  · intro b cs t fr hb hne htn
    have h4 : w4.heap[b]? = some (.cells cs t fr) := (hb4.block b (Array.getElem?_eq_some_iff.1 hb).1).trans hb
    have hlt := (Array.getElem?_eq_some_iff.1 h4).1
    have h5 : w5.heap[b]? = some (.cells cs t fr) := (hg5.block b hlt (by
      rcases hrow4.2 with ⟨h0, _⟩ | ⟨g', cap, cur, h0, _, hgb, _⟩
      · rw [h0]; simp [Value.ownBlock]
      · rw [h0]
        intro e
        obtain rfl : b = g' := by simpa [Value.ownBlock] using e
        rw [h4] at hgb
        have := Option.some.inj hgb
        simp at this
        exact htn this.2.1)).trans h4
    exact ((grownBy_setCell' w5 B _).block b (Array.getElem?_eq_some_iff.1 h5).1 (by simpa using hne)).trans h5
end Go.Proofs.YtelcaejiipibpaaDoor
