/-
  PLAIN ARITHMETIC OF SHORT BYTES AND ZIGZAGS, no Go text in sight: a number's short bytes, how many there are, its zigzag and back. No condition but the ranges that each lemma names.
-/
import Derived.WalkKit
import Derived.Laws.BitsAllLaws
import Derived.Lib.BitFns
import Derived.Lib.ItoaNum
namespace Go.Proofs.YtelcaejiipibpaaDoor
open Go.RowKit
/-- A number's short bytes, of at most k + 1 digits. -/
def digs : Nat → Nat → List Int
  | 0, v => [(v : Int)]
  | k + 1, v => if v ≤ 127 then [(v : Int)] else ((v % 128 + 128 : Nat) : Int) :: digs k (v / 128)
/-- A number's zigzag. -/
def zg (v : Int) : Int := if v < 0 then -2 * v - 1 else 2 * v
/-- The number of a zigzag. -/
def zag (z : Int) : Int := if z % 2 = 1 then -(z / 2) - 1 else z / 2
theorem zag_zg (v : Int) : zag (zg v) = v := by unfold zag zg; split <;> split <;> omega
theorem zg_zag (z : Int) (h : 0 ≤ z) : zg (zag z) = z := by unfold zag zg; split <;> split <;> omega
theorem xor_max (x : Int) (h0 : 0 ≤ x) (h1 : x ≤ 18446744073709551615) : Go.bits .xor .u64 IntKind.u64.max x = 18446744073709551615 - x := by
  have em : IntKind.u64.max = 18446744073709551615 := by decide
  rw [em, u64_xor _ _ (by decide) (by decide) h0 (by omega)]
  have e2 : (18446744073709551615 : Int).toNat = 18446744073709551615 := by decide
  have h := BitVec.toNat_not (x := BitVec.ofNat 64 x.toNat)
  rw [← BitVec.allOnes_xor, BitVec.toNat_xor] at h
  have ho : (BitVec.allOnes 64).toNat = 18446744073709551615 := by decide
  have hx : (BitVec.ofNat 64 x.toNat).toNat = x.toNat := by simp [BitVec.toNat_ofNat]; omega
  rw [ho, hx] at h
  rw [e2, h]
  have e3 : (2 : Nat) ^ 64 = 18446744073709551616 := by decide
  rw [e3]
  omega
theorem or_one (v : Int) (h0 : 0 ≤ v) (h1 : v ≤ 18446744073709551615) : ∃ u : Nat, Go.bits .or .u64 v 1 = (u : Int) ∧ v.toNat ≤ u ∧ u ≤ v.toNat + 1 ∧ u ≠ 0 ∧ u < 18446744073709551616 ∧ (v.toNat % 2 = 1 → u = v.toNat) := by
  rw [u64_or _ _ h0 (by omega) (by decide) (by decide)]
  have h1' : (1 : Int).toNat = 1 := rfl
  rw [h1']
  refine ⟨_, rfl, ?_⟩
  generalize hv : v.toNat = n
  have hn : n < 18446744073709551616 := by omega
  have hm := Nat.or_mod_two_pow (a := n) (b := 1) (n := 1)
  have hd := Nat.or_div_two_pow (a := n) (b := 1) (n := 1)
  simp at hm hd
  have h3 : n % 2 ||| 1 = 1 := by
    rcases Nat.mod_two_eq_zero_or_one n with h | h <;> rw [h] <;> rfl
  rw [h3] at hm
  omega
theorem digs_le : ∀ (k v : Nat), v < 128 ^ (k + 1) → 1 ≤ (digs k v).length ∧ (digs k v).length ≤ k + 1 ∧ v < 128 ^ (digs k v).length ∧ ((digs k v).length = 1 ∨ 128 ^ ((digs k v).length - 1) ≤ v)
  | 0, v, h => by simp [digs] at h ⊢; omega
  | k + 1, v, h => by
    unfold digs
    split
    · rename_i h1; simp; omega
    · rename_i h1
      obtain ⟨a, b, c, d⟩ := digs_le k (v / 128) (by rw [Nat.pow_succ] at h; omega)
      simp only [List.length_cons]
      generalize (digs k (v / 128)).length = L at *
      refine ⟨by omega, by omega, by rw [Nat.pow_succ]; omega, .inr ?_⟩
      rw [Nat.add_sub_cancel]
      rcases d with d | d
      · subst d; omega
      · obtain ⟨L, rfl⟩ : ∃ L', L = L' + 1 := ⟨L - 1, by omega⟩
        rw [Nat.add_sub_cancel] at d
        rw [Nat.pow_succ]; omega
theorem size_eq (n u : Nat) (h1 : n < 18446744073709551616) (hu1 : n ≤ u) (hu2 : u ≤ n + 1) (hu0 : u ≠ 0) (hu3 : u < 18446744073709551616) (hodd : n % 2 = 1 → u = n) :
    (Lib.bitLen u + 6) / 7 = (digs 9 n).length := by
  obtain ⟨a, b, c, d⟩ := digs_le 9 n (by have : (128 : Nat) ^ 10 = 1180591620717411303424 := by decide
                                         omega)
  generalize (digs 9 n).length = L at *
  obtain ⟨e1, e2, e3⟩ := Lib.bitLenAux_bounds 64 u (by omega) hu0
  rw [show Lib.bitLenAux 64 u = Lib.bitLen u from rfl] at e1 e2 e3
  generalize Lib.bitLen u = B at *
  have p1 : ∀ m, 128 ^ m = 2 ^ (7 * m) := fun m => by rw [Nat.pow_mul]
  have q1 : B ≤ 7 * L := by
    have hlt : u < 2 ^ (7 * L) := by
      rw [← p1]
      rcases Nat.lt_or_ge u (128 ^ L) with h | h
      · exact h
      · have hn : n + 1 = 128 ^ L := by omega
        have hev : 128 ^ L % 2 = 0 := by
          obtain ⟨m, rfl⟩ : ∃ m, L = m + 1 := ⟨L - 1, by omega⟩
          rw [Nat.pow_succ]; omega
        have := hodd (by omega)
        omega
    have := (Nat.pow_lt_pow_iff_right (a := 2) (by decide)).1 (Nat.lt_of_le_of_lt e2 hlt)
    omega
  have q2 : 7 * (L - 1) < B := by
    rcases d with d | d
    · subst d; omega
    · rw [p1] at d
      exact (Nat.pow_lt_pow_iff_right (a := 2) (by decide)).1 (Nat.lt_of_le_of_lt (Nat.le_trans d hu1) e3)
  omega
end Go.Proofs.YtelcaejiipibpaaDoor
