/-
  EQUALITY OF ARRAYS OF INTEGERS: an array is equal to itself. No condition.
-/
import Derived.WalkKit
import Derived.Laws.StructEq
namespace Go.Proofs.Ythonjffojaljdaa
open Go
theorem forIn_same {P : Program} {w : World} {β : Type} (L : List Nat) (b : β) (f : Nat → β → Sem (ForInStep β)) (h : ∀ i ∈ L, (f i b).run P w = .ok (.yield b) w) : (forIn L b f).run P w = .ok b w := by
  induction L with
  | nil => rfl
  | cons a L ih =>
    rw [List.forIn_cons, Sem.run_bind, h a (by simp)]
    simp only [Result.andThen_ok]
    exact ih (fun i hi => h i (by simp [hi]))
theorem run_part_int {P : Program} {w : World} {e : TypeId} {k : IntKind} {xs : Array Value} {i : Nat} {v : Int} (he : P.underlying e = some (.int k)) (hx : xs[i]? = some (.int k v)) : (part e xs i).run P w = .ok (.int k v) w := by
  have hagg : (isAgg e).run P w = .ok false w := by
    unfold isAgg
    rw [Sem.run_bind, run_underlying he w]
    rfl
  unfold part
  rw [Sem.run_bind, hagg]
  simp [hx]
theorem run_equalIn_array {P : Program} {w : World} (d : Nat) (t e : TypeId) (n : Nat) (k : IntKind) (xs : Array Value) (f : Nat → Int) (ht : P.underlying t = some (.array n e)) (he : P.underlying e = some (.int k)) (hi : (P.info? e).map (·.size) = some 1)
    (hx : ∀ i, i < n → xs[i]? = some (.int k (f i))) : (Op.equalIn (d + 2) t (.agg xs) (.agg xs)).run P w = .ok true w := by
  obtain ⟨info, hinfo, hs⟩ := Option.map_eq_some_iff.1 hi
  have hsz : (Go.sizeOf e).run P w = .ok 1 w := by simp [Go.sizeOf, typeInfo, hinfo, hs]
  unfold Op.equalIn
  simp only [Sem.run_bind, run_underlying ht, Result.andThen_ok, hsz]
  simp only [Std.Legacy.Range.forIn_eq_forIn_range']
  rw [forIn_same]
  · rfl
  · intro i hi
    have hin : i < n := by simp [Std.Legacy.Range.size] at hi; omega
    have hp := run_part_int (w := w) he (hx i hin)
    simp only [Nat.mul_one, Sem.run_bind, hp, Result.andThen_ok, run_equalIn_int (P := P) w d e k k (f i) (f i) he, beq_self_eq_true]
    rfl
/-- AN ARRAY IS EQUAL TO ITSELF, as the walk meets it. -/
theorem run_eql_array {P : Program} (t e : TypeId) (n : Nat) (k : IntKind) (xs : Array Value) (f : Nat → Int) (ht : P.underlying t = some (.array n e)) (he : P.underlying e = some (.int k)) (hi : (P.info? e).map (·.size) = some 1)
    (hx : ∀ i, i < n → xs[i]? = some (.int k (f i))) (w : World) : (binOp .eql t (.agg xs) (.agg xs)).run P w = .ok (.bool true) w := by
  rw [run_eql_struct, run_equalIn_array 9998 t e n k xs f ht he hi hx]
  rfl
end Go.Proofs.Ythonjffojaljdaa
