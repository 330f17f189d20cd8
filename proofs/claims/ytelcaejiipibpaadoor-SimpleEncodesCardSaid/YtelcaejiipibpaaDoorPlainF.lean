/-
  CONTRACT OF corduroylaw07.Back of Plain, in any world. Conditions: at most 1100 numbers, which lie in memory as told.
-/
import Derived.Test.YtelcaejiipibpaaDoorPlainC
import Derived.Test.YtelcaejiipibpaaDoorPlainD
import Derived.Test.YtelcaejiipibpaaDoorSameI
import Derived.Test.YtelcaejiipibpaaDoorAskRef
import Derived.Deep.RegionHeld3
import Derived.Laws.EntriesVeiled
namespace Go.Proofs.YtelcaejiipibpaaDoor
open Go.ChangeShapes Go.WideShapes Go.ChangeAt Go.RowKit
set_option linter.unusedVariables false
theorem pb_get (x : Nat → Int) : ∀ n i j, i < n → j < 8 → (pb x n).getD (8 * i + j) 0 = ((un (x i) / 256 ^ j % 256 : Nat) : Int)
  | 0, i, j, hi, _ => by omega
  | n + 1, i, j, hi, hj => by
    have hl := pb_length x n
    rw [pb, List.getD_eq_getElem?_getD]
    by_cases h : i < n
    · rw [List.getElem?_append_left (by omega), ← List.getD_eq_getElem?_getD]
      exact pb_get x n i j h hj
    · obtain rfl : i = n := by omega
      rw [List.getElem?_append_right (by omega), hl, Nat.add_sub_cancel_left, bytesOf_get _ _ _ hj]
      rfl
theorem pb_byte (x : Nat → Int) (n i : Nat) (hi : i < 8 * n) : 0 ≤ (pb x n).getD i 0 ∧ (pb x n).getD i 0 ≤ 255 := by
  have h := pb_get x n (i / 8) (i % 8) (by omega) (by omega)
  rw [Nat.div_add_mod] at h
  rw [h]
  omega
theorem dn_pb (x : Nat → Int) (n i : Nat) (hi : i < n) (hx : -9223372036854775808 ≤ x i ∧ x i ≤ 9223372036854775807) : dn (fun k => (pb x n).getD k 0) i = x i := by
  unfold dn
  rw [num_of (un (x i)) (fun j => (pb x n).getD (8 * i + j) 0) 8 (fun j hj => pb_get x n i j hi hj)]
  have h8 : (256 : Nat) ^ 8 = 18446744073709551616 := by decide
  rw [h8, Nat.mod_eq_of_lt (un_lt _), ← dwrap64_eq]
  unfold un
  simp [IntKind.wrap, IntKind.bits, IntKind.signed]
  omega
theorem tail_row (bs : List Int) (L : Nat) (hl : bs.length = L) (i : Nat) (hi : i < L + 1) : (rowV (fun i => Value.int .u8 (bs.getD i 0)) L ++ rowV (fun _ => Value.int .u8 0) 1).getD i undef = .int .u8 ((bs ++ [0]).getD i 0) := by
  rw [List.getD_eq_getElem?_getD, List.getD_eq_getElem?_getD]
  by_cases h : i < L
  · rw [List.getElem?_append_left (by rw [rowV_length]; exact h), rowV_get _ h, List.getElem?_append_left (by omega), ← List.getD_eq_getElem?_getD]; rfl
  · obtain rfl : i = L := by omega
    rw [List.getElem?_append_right (by rw [rowV_length]; omega), rowV_length, Nat.sub_self, List.getElem?_append_right (by omega), hl, Nat.sub_self]; rfl
theorem grown_cell {w w' : World} {row : Option Nat} (h : w.grownBy w' row) {p : Addr} (hp : p.block < w.heap.size) (hn : row ≠ some p.block) : w'.cell? p = w.cell? p := World.cell?_of_block (h.block p.block hp (Ne.symm hn))
end Go.Proofs.YtelcaejiipibpaaDoor
