/-
  ROWS OF ZONES: what Own makes, as zones that lie; whether zones of the program are the document's (corduroylaw25.same). Conditions: at most 1000 zones, which lie in memory as told.
-/
import Derived.Test.YtgclhblglohjpaaZoneG
namespace Go.Proofs.Ytgclhblglohjpaa
open Go.RowKit
set_option linter.unusedVariables false
theorem zcells_length (C L H S : Nat → Int) : ∀ n, (zcells C L H S n).length = 4 * n
  | 0 => rfl
  | n + 1 => by rw [zcells, List.length_append, zcells_length C L H S n]; show 4 * n + 4 = _; omega
theorem zcells_get (C L H S : Nat → Int) : ∀ n i j, i < n → j < 4 → (zcells C L H S n)[i * 4 + j]? = (zV (C i) (L i) (H i) (S i)).toList[j]?
  | 0, i, j, hi, _ => by omega
  | n + 1, i, j, hi, hj => by
    rw [zcells]
    by_cases h : i < n
    · rw [List.getElem?_append_left (by rw [zcells_length]; omega)]
      exact zcells_get C L H S n i j h hj
    · obtain rfl : i = n := by omega
      rw [List.getElem?_append_right (by rw [zcells_length]; omega), zcells_length]
      congr 1
      omega
/-- A row of zones of one's own, as zones that lie. -/
theorem zones_own {w : World} {base n : Nat} {v : Value} {C L H S : Nat → Int} (h : w.ownsRow base 40 4 v n (zcells C L H S n)) :
    ∃ a c, v = .slice a n c ∧ Zones w a n C L H S w.heap.size := by
  rcases Nat.eq_zero_or_pos n with h0 | h0
  · subst h0
    rcases h.2 with ⟨rfl, _⟩ | ⟨g, cap, cur, rfl, _⟩
    · exact ⟨none, 0, rfl, .inl rfl⟩
    · exact ⟨_, _, rfl, .inl rfl⟩
  · obtain ⟨g, k, rfl, h1, h2⟩ := h.form h0
    have hc := h.cells (g := g) rfl
    have key : ∀ i j u, i < n → j < 4 → (zV (C i) (L i) (H i) (S i)).toList[j]? = some u → w.cell? ⟨g, 0 + i * 4 + j, none⟩ = some u := fun i j u hi hj hu => by
      have h := hc (i * 4 + j) u (by rw [zcells_get C L H S n i j hi hj]; exact hu)
      have hadd : (⟨g, 0, none⟩ : Addr).add (i * 4 + j) = ⟨g, 0 + i * 4 + j, none⟩ := by unfold Addr.add; split <;> simp_all
      rwa [hadd] at h
    exact ⟨_, _, rfl, .inr ⟨g, 0, rfl, h2, fun i hi => ⟨key i 0 _ hi (by decide) rfl, key i 1 _ hi (by decide) rfl, key i 2 _ hi (by decide) rfl, key i 3 _ hi (by decide) rfl⟩⟩⟩
end Go.Proofs.Ytgclhblglohjpaa
