/-
  CONTRACTS OF Plain's Decode, and of the document's own Number, Decode and Same, in any world. Conditions: at most 20000 bytes, which lie in memory as told.
-/
import Derived.Test.YtelcaejiipibpaaDoorRead
import Derived.Test.YtelcaejiipibpaaDoorPlainB
namespace Go.Proofs.YtelcaejiipibpaaDoor
open Go.ChangeShapes Go.WideShapes Go.ChangeAt Go.RowKit
set_option linter.unusedVariables false
theorem rowV_zeroI (n : Nat) : (madeCells #[Value.int .i64 0] (n * 1)).toList = rowV (fun _ => .int .i64 0) n := by
  rw [Nat.mul_one, toList_madeCells_one]
  apply List.ext_getElem?
  intro j
  by_cases hj : j < n
  · rw [rowV_get _ hj]; simp [hj]
  · rw [rowV_ge _ (by omega)]; simp; omega
set_option maxRecDepth 100000 in
set_option maxHeartbeats 2000000 in
theorem dwrap64_eq (n : Int) : IntKind.i64.wrap n = wrap64 n := by
  simp [IntKind.wrap, IntKind.bits, IntKind.signed, wrap64]
  split <;> omega
/-- The i-th number of a plain form. -/
def dn (z : Nat → Int) (i : Nat) : Int := wrap64 (num (fun j => z (8 * i + j)) 8 : Nat)
def dns (z : Nat → Int) (n : Nat) : List Int := (List.range n).map (dn z)
theorem dns_length (z : Nat → Int) (n : Nat) : (dns z n).length = n := by rw [dns, List.length_map, List.length_range]
theorem dns_getD (z : Nat → Int) (n i : Nat) (hi : i < n) : (dns z n).getD i 0 = dn z i := by rw [dns, List.getD_eq_getElem?_getD, List.getElem?_map, List.getElem?_range hi, Option.map_some, Option.getD_some]
/-- What is wrong with a plain form of so many bytes. -/
def perr (n nb : Nat) : Int := if nb < 8 * n then 1 else if 8 * n < nb then 2 else 0
def pnums (z : Nat → Int) (n nb : Nat) : List Int := if perr n nb = 0 then dns z n else []
theorem perr_r (n nb : Nat) : rerr (if nb < 8 * n then 1 else 0) (8 * n) nb = perr n nb := by
  unfold rerr perr
  by_cases h : nb < 8 * n
  · rw [if_pos h, if_pos h]; rfl
  · rw [if_neg h, if_neg h, if_pos rfl]
theorem pnums_r (z : Nat → Int) (n nb : Nat) : rnums (if nb < 8 * n then 1 else 0) (8 * n) nb (dns z n) = pnums z n nb := by
  unfold rnums pnums
  rw [perr_r]
end Go.Proofs.YtelcaejiipibpaaDoor
