/-
  ARRAYS OF TWO AND OF THREE NUMBERS, by value, as the reader reads them: opened and shut. No condition.
-/
import Derived.Test.YtknpekpigiclkaaRows
import Derived.Lib.SmallJoins
import Derived.OpenShut
namespace Go.Proofs.Ytknpekpigiclkaa
open Go.Joins Go.ChangeShapes Go.WideShapes Go.RowKit
section
variable {H : Type} {enc : TypeId × Value → H} {P : Program} {w : World} {base : Nat} {spare : Nat → Bool} {held : Bool}
theorem open_arr2 {r : Reach} {b0 : Nat} {t e : TypeId} {k : IntKind} {v : Value} {d : DataW H} {p : List MemPlace} (ht : P.underlying t = some (.array 2 e)) (he : P.underlying e = some (.int k)) (hce : P.cellsOf e = 1) (hC : P.cellsOf t = 2)
    (hv : Value.okWide P w r b0 t v) (h : DataW.Trod enc P w base spare held t v d p) :
    ∃ n0 n1, v = .agg #[.int k n0, .int k n1] ∧ d = .agg [.lit (.int k n0), .lit (.int k n1)] ∧ p = [] ∧ (Lit.int k n0).wf = true ∧ (Lit.int k n1).wf = true := by
  simp only [Value.okWide, ht] at hv
  obtain ⟨cs, rfl, hsz, _⟩ := hv
  obtain ⟨c0, c1, rfl⟩ := array2 (hsz.trans hC)
  obtain ⟨fuel, hf⟩ := h
  obtain ⟨xs, m, rfl, hx, _, hl, hi⟩ := DataW.trod_array ht hf
  match xs, hl with
  | [y0, y1], _ =>
    have h0 := hi 0 (by decide)
    have h1 := hi 1 (by decide)
    simp [hce, Value.cells] at h0 h1
    obtain ⟨n0, e0, x0, w0⟩ := DataW.trod_int he h0
    obtain ⟨n1, e1, x1, w1⟩ := DataW.trod_int he h1
    simp at e0 e1
    subst e0 e1 x0 x1
    simp only [Prod.mk.injEq] at hx
    exact ⟨n0, n1, rfl, by simpa using hx.1, by simpa using hx.2, w0, w1⟩
theorem shut_arr2 {t e : TypeId} {k : IntKind} {n0 n1 : Int} (ht : P.underlying t = some (.array 2 e)) (he : P.underlying e = some (.int k)) (hce : P.cellsOf e = 1) (hC : P.cellsOf t = 2)
    (w0 : (Lit.int k n0).wf = true) (w1 : (Lit.int k n1).wf = true) : DataW.Trod enc P w base spare held t (.agg #[.int k n0, .int k n1]) (.agg [.lit (.int k n0), .lit (.int k n1)]) [] :=
  ⟨2, by simp [DataW.trod, Value.cells, ht, he, hce, hC, w0, w1, show List.range 2 = [0, 1] from rfl]⟩
theorem open_arr3 {r : Reach} {b0 : Nat} {t e : TypeId} {k : IntKind} {v : Value} {d : DataW H} {p : List MemPlace} (ht : P.underlying t = some (.array 3 e)) (he : P.underlying e = some (.int k)) (hce : P.cellsOf e = 1) (hC : P.cellsOf t = 3)
    (hv : Value.okWide P w r b0 t v) (h : DataW.Trod enc P w base spare held t v d p) :
    ∃ n0 n1 n2, v = .agg #[.int k n0, .int k n1, .int k n2] ∧ d = .agg [.lit (.int k n0), .lit (.int k n1), .lit (.int k n2)] ∧ p = [] ∧ (Lit.int k n0).wf = true ∧ (Lit.int k n1).wf = true ∧ (Lit.int k n2).wf = true := by
  simp only [Value.okWide, ht] at hv
  obtain ⟨cs, rfl, hsz, _⟩ := hv
  obtain ⟨c0, c1, c2, rfl⟩ := array3 (hsz.trans hC)
  obtain ⟨fuel, hf⟩ := h
  obtain ⟨xs, m, rfl, hx, _, hl, hi⟩ := DataW.trod_array ht hf
  match xs, hl with
  | [y0, y1, y2], _ =>
    have h0 := hi 0 (by decide)
    have h1 := hi 1 (by decide)
    have h2 := hi 2 (by decide)
    simp [hce, Value.cells] at h0 h1 h2
    obtain ⟨n0, e0, x0, w0⟩ := DataW.trod_int he h0
    obtain ⟨n1, e1, x1, w1⟩ := DataW.trod_int he h1
    obtain ⟨n2, e2, x2, w2⟩ := DataW.trod_int he h2
    simp at e0 e1 e2
    subst e0 e1 e2 x0 x1 x2
    simp only [Prod.mk.injEq] at hx
    exact ⟨n0, n1, n2, rfl, by simpa using hx.1, by simpa using hx.2, w0, w1, w2⟩
theorem shut_arr3 {t e : TypeId} {k : IntKind} {n0 n1 n2 : Int} (ht : P.underlying t = some (.array 3 e)) (he : P.underlying e = some (.int k)) (hce : P.cellsOf e = 1) (hC : P.cellsOf t = 3)
    (w0 : (Lit.int k n0).wf = true) (w1 : (Lit.int k n1).wf = true) (w2 : (Lit.int k n2).wf = true) : DataW.Trod enc P w base spare held t (.agg #[.int k n0, .int k n1, .int k n2]) (.agg [.lit (.int k n0), .lit (.int k n1), .lit (.int k n2)]) [] :=
  ⟨2, by simp [DataW.trod, Value.cells, ht, he, hce, hC, w0, w1, w2, show List.range 3 = [0, 1, 2] from rfl]⟩
end
end Go.Proofs.Ytknpekpigiclkaa
