/-
  WHAT A WALK IS TOLD OF A SLICE OF STRUCTS OF TWO ONE-CELL FIELDS THAT CAME IN. No condition.
-/
import Derived.Test.YtknpekpigiclkaaIsRow
import Derived.Deep.SlicePairs
namespace Go.Proofs.Ytknpekpigiclkaa
open Go.ChangeShapes Go.WideShapes Go.ChangeAt Go.RowKit
/-- A row of cap pairs from one place on, which lies in the heap; of none, there may be no place. -/
def IsPairs (w : World) (a : Option Addr) (len cap : Nat) (V0 V1 : Nat → Value) : Prop :=
  len ≤ cap ∧ cap ≤ maxLen ∧ (cap = 0 ∨ ∃ b off, a = some ⟨b, off, none⟩ ∧ b < w.heap.size ∧ ∀ i, i < cap → w.cell? ⟨b, off + i * 2, none⟩ = some (V0 i) ∧ w.cell? ⟨b, off + i * 2 + 1, none⟩ = some (V1 i))
theorem isPairs_of {H : Type} {enc : TypeId × Value → H} {P : Program} {w : World} {t e : TypeId} {f0 f1 : Field} {fuel : Nat} {a : Option Addr} {len cap : Nat} {x : DataW H × List MemPlace} (ht : P.underlying t = some (.slice e)) (he : P.underlying e = some (.struct #[f0, f1]))
    (ce : P.cellsOf e = 2) (o0 : f0.offset = 0) (o1 : f1.offset = 1) (c0 : P.cellsOf f0.type = 1) (c1 : P.cellsOf f1.type = 1)
    (h : DataW.trod enc P w 0 (fun _ => true) true fuel t [.slice a len cap] = some x) :
    ∃ V0 V1, IsPairs w a len cap V0 V1 ∧ ∀ i, i < cap → (∃ n y, DataW.trod enc P w 0 (fun _ => true) true n f0.type [V0 i] = some y) ∧ ∃ n y, DataW.trod enc P w 0 (fun _ => true) true n f1.type [V1 i] = some y := by
  rcases Go.Deep.open_slice_pairs ht he ce o0 o1 c0 c1 h with ⟨hcs, _⟩ | ⟨p, l, c, m, n, V0, V1, D0, D1, P0, P1, hcs, _, hl, hm, hmm, _, hx⟩
  · simp at hcs
    obtain ⟨rfl, rfl, rfl⟩ := hcs
    exact ⟨fun _ => undef, fun _ => undef, ⟨Nat.le_refl _, Nat.zero_le _, .inl rfl⟩, fun i hi => by omega⟩
  · simp at hcs
    obtain ⟨rfl, rfl, rfl⟩ := hcs
    obtain rfl : m = cap := by simpa using hmm
    refine ⟨V0, V1, ⟨hl, hm, ?_⟩, fun i hi => ⟨⟨_, _, (hx i hi).2.2.1⟩, _, _, (hx i hi).2.2.2⟩⟩
    by_cases h0 : m = 0
    · exact .inl h0
    · obtain ⟨b, off, spot⟩ := p
      have hc := (hx 0 (by omega)).1
      rw [Nat.zero_mul] at hc
      have hspot : spot = none := by simpa [Addr.add] using World.cell?_spot hc
      subst hspot
      refine .inr ⟨b, off, rfl, ?_, fun i hi => ?_⟩
      · simpa [Addr.add] using lt_of_cell hc
      · have e0 := (hx i hi).1
        have e1 := (hx i hi).2.1
        rw [show (⟨b, off, none⟩ : Addr).add (i * 2 + 1) = ⟨b, off + i * 2 + 1, none⟩ by simp [Addr.add, Nat.add_assoc]] at e1
        refine ⟨?_, e1⟩
        by_cases h1 : i = 0
        · subst h1; simpa [Addr.add] using e0
        · rw [show (⟨b, off, none⟩ : Addr).add (i * 2) = ⟨b, off + i * 2, none⟩ by unfold Addr.add; rw [if_neg (by omega)]] at e0
          exact e0
theorem bools_of {H : Type} {enc : TypeId × Value → H} {P : Program} {w : World} {t : TypeId} {cap : Nat} {V : Nat → Value} (ht : P.underlying t = some .bool) (h : ∀ i, i < cap → ∃ n y, DataW.trod enc P w 0 (fun _ => true) true n t [V i] = some y) : ∃ z : Nat → Bool, ∀ i, i < cap → V i = .bool (z i) :=
  Go.Deep.choose_lt (p := fun i b => V i = .bool b) fun i hi => by
    obtain ⟨n, y, hy⟩ := h i hi
    obtain ⟨b, e, _⟩ := DataW.trod_bool ht hy
    exact ⟨b, by simpa using e⟩
theorem ints_of {H : Type} {enc : TypeId × Value → H} {P : Program} {w : World} {t : TypeId} {k : IntKind} {cap : Nat} {V : Nat → Value} (ht : P.underlying t = some (.int k)) (h : ∀ i, i < cap → ∃ n y, DataW.trod enc P w 0 (fun _ => true) true n t [V i] = some y) :
    ∃ z : Nat → Int, ∀ i, i < cap → V i = .int k (z i) ∧ (Lit.int k (z i)).wf = true :=
  Go.Deep.choose_lt (p := fun i b => V i = .int k b ∧ (Lit.int k b).wf = true) fun i hi => by
    obtain ⟨n, y, hy⟩ := h i hi
    obtain ⟨b, e, _, hw⟩ := DataW.trod_int ht hy
    exact ⟨b, by simpa using e, hw⟩
theorem IsPairs.named {w : World} {a : Option Addr} {len cap : Nat} {V0 V1 U0 U1 : Nat → Value} (h : IsPairs w a len cap V0 V1) (h0 : ∀ i, i < cap → V0 i = U0 i) (h1 : ∀ i, i < cap → V1 i = U1 i) : IsPairs w a len cap U0 U1 := by
  obtain ⟨g1, g2, g3⟩ := h
  refine ⟨g1, g2, ?_⟩
  rcases g3 with g3 | ⟨b, off, rfl, hb, hc⟩
  · exact .inl g3
  · exact .inr ⟨b, off, rfl, hb, fun i hi => by rw [← h0 i hi, ← h1 i hi]; exact hc i hi⟩
end Go.Proofs.Ytknpekpigiclkaa
