/-
  WHAT Store TELLS, as a row of bytes and an error, of the program's and the document's own; zones that lie, in worlds behind. Conditions: at most 100 zones, which lie in memory as told.
-/
import Derived.Test.YtgclhblglohjpaaZoneN
import Derived.Test.YtgclhblglohjpaaZoneK
namespace Go.Proofs.Ytgclhblglohjpaa
open Go.RowKit
set_option linter.unusedVariables false
/-- The error that Store tells, and the bytes. -/
def ser (n f : Nat) : Int := if f < n then 4 else 0
def sxs (n f : Nat) (C L H S : Nat → Int) : List Int := if f < n then [] else sts n C L H S n
theorem zbs_length (c l h s : Int) : ∀ j, (zbs c l h s j).length = 2 + 8 * j
  | 0 => by simp [zbs, bytesOf_length]
  | j + 1 => by rw [zbs, List.length_append, zbs_length c l h s j, bytesOf_length]; omega
theorem sts_length (n : Nat) (C L H S : Nat → Int) : ∀ k, (sts n C L H S k).length = 4 + 26 * k
  | 0 => by simp [sts, bytesOf_length]
  | k + 1 => by rw [sts, List.length_append, sts_length n C L H S k, zbs_length]; omega
/-- How both end. -/
def StTold (n f : Nat) (C L H S : Nat → Int) (w : World) (e : Ending) (w' : World) : Prop :=
  Below w.heap.size w w' ∧ ∃ a c, e = .returned (.tuple #[.slice a (sxs n f C L H S).length c, .int .i64 (ser n f)]) ∧ RowOf w' a (sxs n f C L H S).length (fun i => .int .u8 ((sxs n f C L H S).getD i 0)) ∧
    (sxs n f C L H S).length ≤ c ∧ c ≤ maxLen
theorem sttold_of {n f : Nat} {C L H S : Nat → Int} {w : World} {e : Ending} {w' : World} (h : Below w.heap.size w w' ∧
      ((f < n ∧ e = .returned (.tuple #[.slice none 0 0, .int .i64 4])) ∨ (f = n ∧ ∃ v, e = .returned (.tuple #[v, .int .i64 0]) ∧ w'.ownsRow w.heap.size 5 1 v (4 + 26 * n) (cellsOf (sts n C L H S n))))) : StTold n f C L H S w e w' := by
  obtain ⟨hb, h⟩ := h
  refine ⟨hb, ?_⟩
  unfold sxs ser
  rcases h with ⟨h, rfl⟩ | ⟨rfl, v, rfl, ho⟩
  · rw [if_pos h, if_pos h]
    exact ⟨none, 0, rfl, .inl rfl, by simp, by simp⟩
  · rw [if_neg (by omega), if_neg (by omega)]
    obtain ⟨a, c, rfl, hr, _, hc, _⟩ := own_reads ho
    rw [sts_length]
    refine ⟨a, c, rfl, hr.congr fun i hi => by simp [cellsOf, sts_length, hi], hc, ?_⟩
    rcases ho.2 with ⟨hv, h0⟩ | ⟨g, cp, cur, hv, _, hg, h1, h2, _⟩
    · injection hv with ha hn hc
      omega
    · injection hv with ha hn hc
      unfold maxLen at *
      omega
theorem store_told (a : Option Addr) (n cap f : Nat) (C L H S : Nat → Int) (hn : n ≤ 100) (hf : f ≤ n) (h1 : ∀ i, i < f → zrt (C i) (L i) (H i) (S i) = true) (h2 : f < n → zrt (C f) (L f) (H f) (S f) = false) (w : World) (hz : Zones w a n C L H S w.heap.size) :
    Calls Try.prog 15 #[.slice a n cap] w (StTold n f C L H S w) := (store_any a n cap f C L H S hn hf h1 h2 w hz).mono fun _ _ h => sttold_of h
theorem rstore_told (a : Option Addr) (n cap f : Nat) (C L H S : Nat → Int) (hn : n ≤ 100) (hf : f ≤ n) (h1 : ∀ i, i < f → zrt (C i) (L i) (H i) (S i) = true) (h2 : f < n → zrt (C f) (L f) (H f) (S f) = false) (w : World) (hz : Zones w a n C L H S w.heap.size) :
    Calls Try.prog 17 #[.slice a n cap] w (StTold n f C L H S w) := (rstore_any a n cap f C L H S hn hf h1 h2 w hz).mono fun _ _ h => sttold_of h
theorem Zones.below {w w' : World} {a : Option Addr} {n : Nat} {C L H S : Nat → Int} (h : Zones w a n C L H S w.heap.size) (hb : Below w.heap.size w w') : Zones w' a n C L H S w'.heap.size := by
  rcases h with h | ⟨b, off, rfl, hl, hc⟩
  · exact .inl h
  · refine .inr ⟨b, off, rfl, Nat.lt_of_lt_of_le hl hb.size, fun i hi => ?_⟩
    obtain ⟨h0, h1, h2, h3⟩ := hc i hi
    exact ⟨(hb.cell (p := ⟨b, off + i * 4, none⟩) hl).trans h0, (hb.cell (p := ⟨b, off + i * 4 + 1, none⟩) hl).trans h1, (hb.cell (p := ⟨b, off + i * 4 + 2, none⟩) hl).trans h2, (hb.cell (p := ⟨b, off + i * 4 + 3, none⟩) hl).trans h3⟩
theorem first_false (p : Nat → Prop) (n : Nat) : ∃ f, f ≤ n ∧ (∀ i, i < f → p i) ∧ (f < n → ¬ p f) := by
  induction n with
  | zero => exact ⟨0, by omega, fun i hi => by omega, fun h => by omega⟩
  | succ n ih =>
    obtain ⟨f, hf, h1, h2⟩ := ih
    by_cases hfn : f < n
    · exact ⟨f, by omega, h1, fun _ => h2 hfn⟩
    · obtain rfl : f = n := by omega
      by_cases hp : p f
      · exact ⟨f + 1, by omega, fun i hi => by
          by_cases e : i = f
          · subst e; exact hp
          · exact h1 i (by omega), fun h => by omega⟩
      · exact ⟨f, by omega, h1, fun _ => hp⟩
theorem zmany_le {z : Nat → Int} {nb f : Nat} (h : 4 ≤ nb → f ≤ zN z ∧ (∀ i, i < f → zgood z nb i) ∧ (f < zN z → ¬ zgood z nb f)) : zmany z nb f ≤ nb := by
  unfold zmany
  by_cases h0 : zerr z nb f = 0
  · rw [if_pos h0]
    unfold zerr at h0
    by_cases h4 : nb < 4
    · rw [if_pos h4] at h0; cases h0
    · obtain ⟨h1, h2, h3⟩ := h (by omega)
      rcases Nat.eq_zero_or_pos f with e | e
      · omega
      · have := (h2 (f - 1) (by omega)).1
        omega
  · rw [if_neg h0]; omega
end Go.Proofs.Ytgclhblglohjpaa
