/-
  APPENDING any row of bytes to a slice of one's own, at an operation whose run is known.
-/
import Derived.Test.YthfepljblofgfaaVarPutRow
import Derived.Test.YthfepljblofgfaaVarAwake
namespace Go.Proofs.Ythfepljblofgfaa
open Go.RowKit Go.Shelf
set_option linter.unusedVariables false
theorem wp_append_ran {P : Program} (w w2 : World) {o : Oper} {a : Act} {K : Act → World → Prop} {Q : Exit → Act → World → Prop} (s x : Operand) (t : TypeId)
    (ho : o.op = .call { callee := .builtin .append, args := #[s, x], argTypes := #[t, t] }) (v vs vx : Value) (hs : a.eval s = vs) (hx : a.eval x = vx)
    (hr : (Builtin.append_ #[t, t] o.type #[vs, vx]).run P w = .ok v w2) (h : K (a.put o.dst v) w2) : o.wp P a w K Q := by
  unfold Oper.wp execOp
  simp only [ho, resolve, invoke, builtin, Sem.run_bind, Sem.run_pure, Result.andThen_ok, List.map_toArray, List.map_cons, List.map_nil, hs, hx, hr]
  exact h
/-- AN APPEND whose run is known. -/
theorem wpList_append_ran {P : Program} (w w2 : World) {ops : Array Oper} {rest : List Oper} {o : Oper} {a : Act} {Q : Exit → Act → World → Prop} (hgd : o.guard = none) (s x : Operand) (t : TypeId)
    (ho : o.op = .call { callee := .builtin .append, args := #[s, x], argTypes := #[t, t] }) (v vs vx : Value) (hs : a.eval s = vs) (hx : a.eval x = vx)
    (hr : (Builtin.append_ #[t, t] o.type #[vs, vx]).run P w = .ok v w2) (h : wpList P ops Q rest (a.put o.dst v) w2) : wpList P ops Q (o :: rest) a w :=
  wpList_plain hgd fun _ hK => wp_append_ran w w2 s x t ho v vs vx hs hx hr (hK _ _ h)
theorem append_zero' (p0 : Option Addr) (g k cap c : Nat) (hk : k ≤ cap) (hc : cap ≤ maxLen) (w : World) : (Builtin.append_ #[22, 22] 22 #[.slice (some ⟨g, 0, none⟩) k cap, .slice p0 0 c]).run Try.prog w = .ok (.slice (some ⟨g, 0, none⟩) k cap) w := by
  obtain ⟨i0, hi, hz0, hz1, hz2⟩ := info_parts byteInfo
  cases p0 <;> simp [loadCells, loadCellsFrom, Builtin.append_, run_underlying Try.underlying22, sizeOf, typeInfo, hi, Builtin.lenOf, Builtin.firstCells, storeCells, hk]
/-- A row of bytes of one's own: its cells. -/
theorem own_bytes {w : World} {B n : Nat} {v : Value} {xs : List Int} (h : w.ownsRow B 5 1 v (n + 1) (cellsOf xs)) :
    ∃ g cap, v = .slice (some ⟨g, 0, none⟩) (n + 1) cap ∧ B ≤ g ∧ g < w.heap.size ∧ n + 1 ≤ cap ∧ cap ≤ maxLen ∧ xs.length = n + 1 ∧ BytesAt w g 0 (n + 1) (fun i => xs.getD i 0) := by
  have hl := h.1
  obtain ⟨g, cap, rfl⟩ := ownsRow_succ h
  have hcl : n + 1 ≤ cap ∧ cap ≤ maxLen := by
    rcases h.2 with ⟨h1, _⟩ | ⟨g', c', cur, h1, _, _, h2, h3, _⟩
    · cases h1
    · cases h1; exact ⟨h2, h3⟩
  have hxl : xs.length = n + 1 := by simpa [cellsOf] using hl
  refine ⟨g, cap, rfl, (h.lt g rfl).1, (h.lt g rfl).2, hcl.1, hcl.2, hxl, fun i hi => ?_⟩
  have := h.cells (g := g) rfl i (.int .u8 (xs.getD i 0)) (by simp [cellsOf, List.getD, List.getElem?_eq_getElem (by omega : i < xs.length)])
  rw [Nat.zero_add]
  by_cases h1 : i = 0
  · subst h1; simpa [Addr.add] using this
  · simpa [Addr.add, h1] using this
/-- APPENDING ANY ROW OF BYTES to a slice of one's own. -/
theorem append_row (a : Option Addr) (b off len cap : Nat) (z : Nat → Int) (base : Nat) (v : Value) (n : Nat) (xs : List Int) (w : World) (hown : w.ownsRow base 5 1 v (n + 1) (cellsOf xs)) (hl : n + 1 + len ≤ 1000)
    (ha : len = 0 ∨ a = some ⟨b, off, none⟩) (hz : BytesAt w b off len z) (hbase : base ≤ w.heap.size) :
    ∃ v' w', (Builtin.append_ #[22, 22] 22 #[v, .slice a len cap]).run Try.prog w = .ok v' w' ∧ w'.ownsRow base 5 1 v' (n + len + 1) (cellsOf (xs ++ rowOf z len)) ∧ Below base w w' := by
  by_cases h0 : len = 0
  · subst h0
    obtain ⟨g, c, rfl, _, _, h1, h2, _, _⟩ := own_bytes hown
    exact ⟨_, w, append_zero' a g (n + 1) c cap h1 h2 w, by simpa [rowOf, cellsOf] using hown, Below.refl _ _⟩
  · obtain rfl : a = some ⟨b, off, none⟩ := by rcases ha with h | h; · exact absurd h h0
                                               · exact h
    obtain ⟨i0, hi, hz0, hz1, hz2⟩ := info_parts byteInfo
    obtain ⟨v', w', hr, ho, hg, _⟩ := run_append_own (P := Try.prog) w base 22 22 5 i0 (.int .u8 0) 1 1 Try.underlying22 hi hz0 hz1 hz2 rfl (by decide) v (n + 1) (cellsOf xs) hown ⟨b, off, none⟩ len cap (cellsOf (rowOf z len)) (by simp [cellsOf, rowOf])
      (fun j u hj => by
        have hjl : j < len := by
          rcases Nat.lt_or_ge j len with h | h
          · exact h
          · rw [List.getElem?_eq_none (by simpa [cellsOf, rowOf] using h)] at hj; cases hj
        have := hz j hjl
        simp [cellsOf, rowOf, hjl] at hj
        subst hj
        by_cases h1 : j = 0
        · subst h1; simpa [Addr.add] using this
        · simpa [Addr.add, h1] using this)
      (by intro u hu; obtain ⟨x, _, rfl⟩ := List.mem_map.mp hu; rfl) (by unfold maxLen; omega) (by omega) hbase
    refine ⟨v', w', hr, ?_, (Below.refl base w).grown hg hbase (fun k hk => (hown.lt k hk).1)⟩
    rw [cellsOf, List.map_append]
    have e : n + 1 + len = n + len + 1 := by omega
    rw [e] at ho
    exact ho
end Go.Proofs.Ythfepljblofgfaa
