/-
  THE FORM OF LAYER 9, as bytes: what is encoded is told as it was, and two blocks of one length have the same form only if they are the same. No condition but the ranges that each lemma names.
-/
import Derived.Test.YtelcaejiipibpaaDoorPlainF
import Derived.Test.YtelcaejiipibpaaDoorSimpleN
namespace Go.Proofs.YtelcaejiipibpaaDoor
open Go.RowKit
set_option linter.unusedVariables false
/-- The form of so many words. -/
def sF (zs : Nat → Nat) (n P : Nat) : List Int := pb (fun k => (sWord zs n k : Nat)) P
theorem sF_length (zs : Nat → Nat) (n P : Nat) : (sF zs n P).length = 8 * P := pb_length _ _
theorem sF_byte (zs : Nat → Nat) (n P i : Nat) (hi : i < 8 * P) : 0 ≤ (sF zs n P).getD i 0 ∧ (sF zs n P).getD i 0 ≤ 255 := pb_byte _ _ _ hi
theorem sF_num {zs : Nat → Nat} {n P : Nat} (hz : ∀ i, i < n → zs i < 2 ^ 60) (hlt : ∀ k, k < P → sAt zs n k < n) (z : Nat → Int) (h : ∀ i, i < 8 * P → z i = (sF zs n P).getD i 0) (k : Nat) (hk : k < P) :
    num (fun j => z (8 * k + j)) 8 = sWord zs n k := by
  have hw := (sWord_parts hz (hlt k hk)).1
  have e64 : (2 : Nat) ^ 64 = 18446744073709551616 := by decide
  have e8 : (256 : Nat) ^ 8 = 18446744073709551616 := by decide
  have hu : un ((sWord zs n k : Nat) : Int) = sWord zs n k := by unfold un; omega
  have := num_of (sWord zs n k) (fun j => z (8 * k + j)) 8 (fun j hj => by
    show z (8 * k + j) = _
    rw [h _ (by omega)]
    unfold sF
    rw [pb_get _ P k j hk hj, hu])
  rw [this, e8, Nat.mod_eq_of_lt (by omega)]
/-- Two rows of zigzags of one length whose forms are the same are the same. -/
theorem sF_inj {zs ys : Nat → Nat} {n P Q : Nat} (hz : ∀ i, i < n → zs i < 2 ^ 60) (hy : ∀ i, i < n → ys i < 2 ^ 60) (hP : sAt zs n P = n) (hQ : sAt ys n Q = n) (hlt : ∀ k, k < P → sAt zs n k < n) (hlt' : ∀ k, k < Q → sAt ys n k < n)
    (h : sF zs n P = sF ys n Q) : ∀ i, i < n → zs i = ys i := by
  have hl := congrArg List.length h
  rw [sF_length, sF_length] at hl
  obtain rfl : P = Q := by omega
  obtain ⟨z, hzz⟩ : ∃ z : Nat → Int, ∀ i, z i = (sF zs n P).getD i 0 := ⟨_, fun _ => rfl⟩
  have h1 := sRun_told hz hlt z (8 * P) (Nat.le_refl _) (sF_num hz hlt z (fun i _ => hzz i)) P (Nat.le_refl _)
  have h2 := sRun_told hy hlt' z (8 * P) (Nat.le_refl _) (sF_num hy hlt' z (fun i _ => by rw [hzz, h])) P (Nat.le_refl _)
  rw [h1, hP, hQ] at h2
  have e : (List.range n).map zs = (List.range n).map ys := by
    have := congrArg (fun t => t.2.2) h2
    simpa using this
  intro i hi
  have := congrArg (fun l => l.getD i 0) e
  simpa [List.getD_eq_getElem?_getD, List.getElem?_map, List.getElem?_range hi] using this
end Go.Proofs.YtelcaejiipibpaaDoor
