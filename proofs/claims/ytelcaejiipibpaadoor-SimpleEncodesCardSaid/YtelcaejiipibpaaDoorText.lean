/-
  TEXTS OF BYTES are the same only if the bytes are. No condition but that they are bytes.
-/
import Derived.Test.YtelcaejiipibpaaDoorWordsB
import Derived.MapKept
namespace Go.Proofs.YtelcaejiipibpaaDoor
open Go.RowKit
theorem stext_beq (s t : ByteArray) : (s.toList == t.toList) = decide (s = t) := by
  rw [← beq_toListBytes]
  by_cases h : s = t
  · rw [decide_eq_true h]; exact (Go.MapKept.bytes_beq s t).2 h
  · rw [decide_eq_false h]
    cases hb : (s == t) with
    | false => rfl
    | true => exact absurd ((Go.MapKept.bytes_beq s t).1 hb) h
theorem sbyte_inj {a b : Nat} (ha : a < 256) (hb : b < 256) (h : UInt8.ofNat a = UInt8.ofNat b) : a = b := by
  have := congrArg UInt8.toNat h
  simp at this
  omega
theorem map_inj_bytes : ∀ (xs ys : List Int), (∀ x ∈ xs, 0 ≤ x ∧ x ≤ 255) → (∀ y ∈ ys, 0 ≤ y ∧ y ≤ 255) → xs.map (fun n => UInt8.ofNat n.toNat) = ys.map (fun n => UInt8.ofNat n.toNat) → xs = ys
  | [], [], _, _, _ => rfl
  | [], y :: ys, _, _, h => by simp at h
  | x :: xs, [], _, _, h => by simp at h
  | x :: xs, y :: ys, hx, hy, h => by
    simp only [List.map_cons, List.cons.injEq] at h
    have a := hx x (List.mem_cons_self ..)
    have b := hy y (List.mem_cons_self ..)
    have e := sbyte_inj (by omega) (by omega) h.1
    have t := map_inj_bytes xs ys (fun x h => hx x (List.mem_cons_of_mem _ h)) (fun y h => hy y (List.mem_cons_of_mem _ h)) h.2
    rw [t, show x = y by omega]
theorem str_inj : ∀ (xs ys : List Int), (∀ x ∈ xs, 0 ≤ x ∧ x ≤ 255) → (∀ y ∈ ys, 0 ≤ y ∧ y ≤ 255) → strOfNums xs = strOfNums ys → xs = ys := by
  intro xs ys hx hy h
  have h1 := congrArg (·.data.toList) h
  simp only [strOfNums_data] at h1
  exact map_inj_bytes xs ys hx hy h1
theorem str_beq (xs ys : List Int) (hx : ∀ x ∈ xs, 0 ≤ x ∧ x ≤ 255) (hy : ∀ y ∈ ys, 0 ≤ y ∧ y ≤ 255) : ((strOfNums xs).toList == (strOfNums ys).toList) = decide (xs = ys) := by
  rw [stext_beq]
  by_cases h : xs = ys
  · rw [decide_eq_true h, h]; simp
  · rw [decide_eq_false h, decide_eq_false (fun e => h (str_inj xs ys hx hy e))]
end Go.Proofs.YtelcaejiipibpaaDoor
