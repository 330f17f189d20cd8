/-
  TEXTS OF THIS PROOF, one behind the other: XNumW XBitsNum XBytesOf XVarArith XVarGetArith.
-/
import Derived.WalkKit
import Derived.Laws.BitsAllLaws
import Derived.Test.YthonjffojaljdaaWordsB
import Derived.Lib.BitFns
import Derived.Lib.ItoaNum
/-
  WHAT WRAPPING TO 64 BITS WITHOUT A SIGN IS. No condition.
-/
namespace Go.Proofs.Ythonjffojaljdaa
theorem u64w (n : Int) : IntKind.u64.wrap n = n % 18446744073709551616 := by simp [IntKind.wrap, IntKind.bits, IntKind.signed]
end Go.Proofs.Ythonjffojaljdaa


/-
  PLAIN ARITHMETIC OF BITS IN BYTES, no Go text in sight: the number that bytes come to, what putting a number behind so many bits makes of each byte, what getting it reads. No condition but the ranges that each lemma names.
-/
namespace Go.Proofs.Ythonjffojaljdaa
open Go.RowKit
/-- The number that bytes come to, the lowest first. -/
def num (z : Nat → Int) : Nat → Nat
  | 0 => 0
  | n + 1 => num z n + (z n).toNat * 256 ^ n
theorem num_lt (z : Nat → Int) : ∀ n, (∀ i, i < n → 0 ≤ z i ∧ z i ≤ 255) → num z n < 256 ^ n
  | 0, _ => by simp [num]
  | n + 1, h => by
    have := num_lt z n (fun i hi => h i (by omega))
    have h2 := h n (by omega)
    simp only [num, Nat.pow_succ]
    have : (z n).toNat * 256 ^ n ≤ 255 * 256 ^ n := Nat.mul_le_mul_right _ (by omega)
    omega
theorem num_byte (z : Nat → Int) : ∀ n, (∀ i, i < n → 0 ≤ z i ∧ z i ≤ 255) → ∀ i, i < n → num z n / 256 ^ i % 256 = (z i).toNat
  | 0, _, i, hi => by omega
  | n + 1, h, i, hi => by
    have hlt := num_lt z n (fun i hi => h i (by omega))
    have h2 := h n (by omega)
    simp only [num]
    by_cases e : i = n
    · subst e
      rw [Nat.add_mul_div_right _ _ (Nat.pow_pos (by decide)), Nat.div_eq_of_lt hlt]
      omega
    · have hi' : i < n := by omega
      rw [← num_byte z n (fun i hi => h i (by omega)) i hi']
      obtain ⟨d, rfl⟩ : ∃ d, n = i + 1 + d := ⟨n - i - 1, by omega⟩
      have : (z (i + 1 + d)).toNat * 256 ^ (i + 1 + d) = (256 * ((z (i + 1 + d)).toNat * 256 ^ d)) * 256 ^ i := by
        rw [Nat.pow_add, Nat.pow_succ]; ac_rfl
      rw [this, Nat.add_mul_div_right _ _ (Nat.pow_pos (by decide))]
      omega
theorem num_of (N : Nat) (z : Nat → Int) : ∀ n, (∀ i, i < n → z i = ((N / 256 ^ i % 256 : Nat) : Int)) → num z n = N % 256 ^ n
  | 0, _ => by simp [num, Nat.mod_one]
  | n + 1, h => by
    simp only [num]
    rw [num_of N z n (fun i hi => h i (by omega)), h n (by omega), Int.toNat_natCast, Nat.pow_succ, Nat.mod_mul]
    rw [Nat.mul_comm]
theorem num_congr {z z' : Nat → Int} : ∀ n, (∀ i, i < n → z i = z' i) → num z n = num z' n
  | 0, _ => rfl
  | n + 1, h => by simp only [num]; rw [num_congr n (fun i hi => h i (by omega)), h n (by omega)]
theorem pow8 (c : Nat) : 2 ^ c = 256 ^ (c / 8) * 2 ^ (c % 8) := by
  have : (256 : Nat) = 2 ^ 8 := rfl
  rw [this, ← Nat.pow_mul, ← Nat.pow_add]
  congr 1; omega
theorem or_add (a b r : Nat) (h : a < 2 ^ r) : a ||| (b * 2 ^ r) = a + b * 2 ^ r := by
  have := Nat.two_pow_add_eq_or_of_lt h b
  rw [Nat.mul_comm] at this
  rw [Nat.or_comm, ← this]; omega
theorem low (u r : Nat) (hr : r ≤ 8) : u * 2 ^ r % 256 = (u % 2 ^ (8 - r)) * 2 ^ r := by
  have : 256 = 2 ^ (8 - r) * 2 ^ r := by rw [← Nat.pow_add, Nat.sub_add_cancel hr]
  rw [this, Nat.mul_mod_mul_right]
theorem put_step (N c u k : Nat) (hN : N < 2 ^ c) :
    (N + (u % 2 ^ (8 - c % 8)) * 2 ^ c) / 256 ^ k % 256 = if k = c / 8 then (N / 256 ^ (c / 8) % 256) ||| (u * 2 ^ (c % 8) % 256) else N / 256 ^ k % 256 := by
  have hp := pow8 c
  have hr : c % 8 < 8 := Nat.mod_lt _ (by decide)
  generalize c / 8 = q at *
  generalize c % 8 = r at *
  rw [low u r (by omega)]
  generalize hX : u % 2 ^ (8 - r) = X
  have hXl : X < 2 ^ (8 - r) := by rw [← hX]; exact Nat.mod_lt _ (Nat.pow_pos (by decide))
  have h256 : 2 ^ (8 - r) * 2 ^ r = 256 := by rw [← Nat.pow_add, Nat.sub_add_cancel (by omega)]
  have hXr : X * 2 ^ r + 2 ^ r ≤ 256 := by
    have : (X + 1) * 2 ^ r ≤ 2 ^ (8 - r) * 2 ^ r := Nat.mul_le_mul_right _ hXl
    rw [Nat.add_mul] at this; omega
  have e : N + X * 2 ^ c = N + X * 2 ^ r * 256 ^ q := by rw [hp]; ac_rfl
  rw [e]
  have hNq : N / 256 ^ q < 2 ^ r := by
    rw [Nat.div_lt_iff_lt_mul (Nat.pow_pos (by decide)), Nat.mul_comm]; rw [← hp]; exact hN
  by_cases hk : k = q
  · subst hk
    rw [if_pos rfl, Nat.add_mul_div_right _ _ (Nat.pow_pos (by decide)), Nat.mod_eq_of_lt (a := N / 256 ^ k) (by omega), or_add _ _ _ hNq, Nat.mod_eq_of_lt (by omega)]
  · rw [if_neg hk]
    by_cases hlt : k < q
    · obtain ⟨d, rfl⟩ : ∃ d, q = k + 1 + d := ⟨q - k - 1, by omega⟩
      have : X * 2 ^ r * 256 ^ (k + 1 + d) = (256 * (X * 2 ^ r * 256 ^ d)) * 256 ^ k := by
        rw [Nat.pow_add, Nat.pow_succ]; ac_rfl
      rw [this, Nat.add_mul_div_right _ _ (Nat.pow_pos (by decide))]
      omega
    · obtain ⟨d, rfl⟩ : ∃ d, k = q + 1 + d := ⟨k - q - 1, by omega⟩
      have hle : (256 : Nat) ^ (q + 1) ≤ 256 ^ (q + 1 + d) := Nat.pow_le_pow_right (by decide) (by omega)
      have hNl : N < 2 ^ r * 256 ^ q := by rw [Nat.mul_comm]; rw [← hp]; exact hN
      have h1 : N + X * 2 ^ r * 256 ^ q < 256 ^ (q + 1) := by
        rw [Nat.pow_succ]
        have : (X * 2 ^ r + 2 ^ r) * 256 ^ q ≤ 256 * 256 ^ q := Nat.mul_le_mul_right _ hXr
        rw [Nat.add_mul] at this
        omega
      have h2 : N ≤ N + X * 2 ^ r * 256 ^ q := Nat.le_add_right _ _
      rw [Nat.div_eq_of_lt (by omega), Nat.div_eq_of_lt (by omega)]
/-- The bits of a byte from a bit on. -/
theorem get_byte (M a : Nat) : M / 256 ^ (a / 8) % 256 / 2 ^ (a % 8) = M / 2 ^ a % 2 ^ (8 - a % 8) := by
  have hr : a % 8 < 8 := Nat.mod_lt _ (by decide)
  have hp := pow8 a
  generalize a / 8 = q at *
  generalize a % 8 = r at *
  rw [hp, ← Nat.div_div_eq_div_mul]
  generalize M / 256 ^ q = m
  have h256 : (256 : Nat) = 2 ^ r * 2 ^ (8 - r) := by rw [← Nat.pow_add, Nat.add_sub_cancel' (by omega)]
  rw [h256, Nat.mod_mul_right_div_self]
theorem get_step (M a0 d s : Nat) : M / 2 ^ a0 % 2 ^ d + (M / 2 ^ (a0 + d) % 2 ^ s) * 2 ^ d = M / 2 ^ a0 % 2 ^ (d + s) := by
  rw [Nat.pow_add, ← Nat.div_div_eq_div_mul, Nat.pow_add, Nat.mod_mul, Nat.mul_comm (2 ^ d)]

theorem pow_le64 {k : Nat} (hk : k ≤ 64) : 2 ^ k ≤ 18446744073709551616 := by
  have : (2 : Nat) ^ k ≤ 2 ^ 64 := Nat.pow_le_pow_right (by decide) hk
  exact this
theorem u64_low (k : Nat) (hk : k ≤ 64) : IntKind.u64.wrap (IntKind.u64.wrap (2 ^ k) - 1) = ((2 ^ k - 1 : Nat) : Int) := by
  have h1 : 0 < 2 ^ k := Nat.pow_pos (by decide)
  have h2 := pow_le64 hk
  have e : ((2 : Int) ^ k) = ((2 ^ k : Nat) : Int) := by simp
  rw [u64w, u64w, e]
  generalize 2 ^ k = p at *
  omega
theorem and_low (v k : Nat) : v &&& (2 ^ k - 1) = v % 2 ^ k := Nat.and_two_pow_sub_one_eq_mod v k
theorem andnot_low (v k : Nat) (hk : k ≤ 64) (hv : v < 18446744073709551616) : Go.bits .andNot .u64 (v : Int) ((2 ^ k - 1 : Nat) : Int) = ((v - v % 2 ^ k : Nat) : Int) := by
  have h1 : 0 < 2 ^ k := Nat.pow_pos (by decide)
  have h2 := pow_le64 hk
  rw [u64_andNot_nat v (2 ^ k - 1) hv (by omega)]
  congr 1
  have e : 18446744073709551615 - (2 ^ k - 1) = 2 ^ 64 - 2 ^ k := by
    have : (2 : Nat) ^ 64 = 18446744073709551616 := by decide
    omega
  rw [e]
  apply Nat.eq_of_testBit_eq
  intro i
  have hs : v - v % 2 ^ k = 2 ^ k * (v / 2 ^ k) := by
    have := Nat.div_add_mod v (2 ^ k)
    omega
  rw [hs, Nat.testBit_and, Nat.testBit_two_pow_mul, Nat.testBit_div_two_pow]
  have hm : 2 ^ 64 - 2 ^ k = 2 ^ k * (2 ^ (64 - k) - 1) := by
    rw [Nat.mul_sub, Nat.mul_one, ← Nat.pow_add]
    congr 2
    omega
  rw [hm, Nat.testBit_two_pow_mul, Nat.testBit_two_pow_sub_one]
  by_cases hik : k ≤ i
  · have : i - k + k = i := by omega
    simp only [hik, decide_true, Bool.true_and, this]
    by_cases hi : i < 64
    · have : i - k < 64 - k := by omega
      simp [this]
    · have : v.testBit i = false := Nat.testBit_lt_two_pow (Nat.lt_of_lt_of_le hv (by
        have : (2 : Nat) ^ 64 ≤ 2 ^ i := Nat.pow_le_pow_right (by decide) (by omega)
        exact this))
      simp [this]
  · simp [hik]
end Go.Proofs.Ythonjffojaljdaa


/-
  THE BYTES OF A NUMBER, the lowest first. No condition.
-/
namespace Go.Proofs.Ythonjffojaljdaa
open Go.RowKit
/-- The bytes of a number, so many. -/
def bytesOf (n N : Nat) : List Int := (List.range n).map fun k => ((N / 256 ^ k % 256 : Nat) : Int)
theorem bytesOf_length (n N : Nat) : (bytesOf n N).length = n := by simp [bytesOf]
theorem bytesOf_get (n N i : Nat) (h : i < n) : (bytesOf n N)[i]? = some ((N / 256 ^ i % 256 : Nat) : Int) := by simp [bytesOf, h]
theorem bytesOf_succ (n N : Nat) : bytesOf (n + 1) N = bytesOf n N ++ [((N / 256 ^ n % 256 : Nat) : Int)] := by
  simp [bytesOf, List.range_succ]
end Go.Proofs.Ythonjffojaljdaa


/-
  PLAIN ARITHMETIC OF SHORT BYTES AND ZIGZAGS, no Go text in sight: a number's short bytes, how many there are, its zigzag and back. No condition but the ranges that each lemma names.
-/
namespace Go.Proofs.Ythonjffojaljdaa
open Go.RowKit
/-- A number's short bytes, of at most k + 1 digits. -/
def digs : Nat → Nat → List Int
  | 0, v => [(v : Int)]
  | k + 1, v => if v ≤ 127 then [(v : Int)] else ((v % 128 + 128 : Nat) : Int) :: digs k (v / 128)
/-- A number's zigzag. -/
def zg (v : Int) : Int := if v < 0 then -2 * v - 1 else 2 * v
/-- The number of a zigzag. -/
def zag (z : Int) : Int := if z % 2 = 1 then -(z / 2) - 1 else z / 2
theorem zag_zg (v : Int) : zag (zg v) = v := by unfold zag zg; split <;> split <;> omega
theorem zg_zag (z : Int) (h : 0 ≤ z) : zg (zag z) = z := by unfold zag zg; split <;> split <;> omega
theorem xor_max (x : Int) (h0 : 0 ≤ x) (h1 : x ≤ 18446744073709551615) : Go.bits .xor .u64 IntKind.u64.max x = 18446744073709551615 - x := by
  have em : IntKind.u64.max = 18446744073709551615 := by decide
  rw [em, u64_xor _ _ (by decide) (by decide) h0 (by omega)]
  have e2 : (18446744073709551615 : Int).toNat = 18446744073709551615 := by decide
  have h := BitVec.toNat_not (x := BitVec.ofNat 64 x.toNat)
  rw [← BitVec.allOnes_xor, BitVec.toNat_xor] at h
  have ho : (BitVec.allOnes 64).toNat = 18446744073709551615 := by decide
  have hx : (BitVec.ofNat 64 x.toNat).toNat = x.toNat := by simp [BitVec.toNat_ofNat]; omega
  rw [ho, hx] at h
  rw [e2, h]
  have e3 : (2 : Nat) ^ 64 = 18446744073709551616 := by decide
  rw [e3]
  omega
theorem or_one (v : Int) (h0 : 0 ≤ v) (h1 : v ≤ 18446744073709551615) : ∃ u : Nat, Go.bits .or .u64 v 1 = (u : Int) ∧ v.toNat ≤ u ∧ u ≤ v.toNat + 1 ∧ u ≠ 0 ∧ u < 18446744073709551616 ∧ (v.toNat % 2 = 1 → u = v.toNat) := by
  rw [u64_or _ _ h0 (by omega) (by decide) (by decide)]
  have h1' : (1 : Int).toNat = 1 := rfl
  rw [h1']
  refine ⟨_, rfl, ?_⟩
  generalize hv : v.toNat = n
  have hn : n < 18446744073709551616 := by omega
  have hm := Nat.or_mod_two_pow (a := n) (b := 1) (n := 1)
  have hd := Nat.or_div_two_pow (a := n) (b := 1) (n := 1)
  simp at hm hd
  have h3 : n % 2 ||| 1 = 1 := by
    rcases Nat.mod_two_eq_zero_or_one n with h | h <;> rw [h] <;> rfl
  rw [h3] at hm
  omega
theorem digs_le : ∀ (k v : Nat), v < 128 ^ (k + 1) → 1 ≤ (digs k v).length ∧ (digs k v).length ≤ k + 1 ∧ v < 128 ^ (digs k v).length ∧ ((digs k v).length = 1 ∨ 128 ^ ((digs k v).length - 1) ≤ v)
  | 0, v, h => by simp [digs] at h ⊢; omega
  | k + 1, v, h => by
    unfold digs
    split
    · rename_i h1; simp; omega
    · rename_i h1
      obtain ⟨a, b, c, d⟩ := digs_le k (v / 128) (by rw [Nat.pow_succ] at h; omega)
      simp only [List.length_cons]
      generalize (digs k (v / 128)).length = L at *
      refine ⟨by omega, by omega, by rw [Nat.pow_succ]; omega, .inr ?_⟩
      rw [Nat.add_sub_cancel]
      rcases d with d | d
      · subst d; omega
      · obtain ⟨L, rfl⟩ : ∃ L', L = L' + 1 := ⟨L - 1, by omega⟩
        rw [Nat.add_sub_cancel] at d
        rw [Nat.pow_succ]; omega
theorem size_eq (n u : Nat) (h1 : n < 18446744073709551616) (hu1 : n ≤ u) (hu2 : u ≤ n + 1) (hu0 : u ≠ 0) (hu3 : u < 18446744073709551616) (hodd : n % 2 = 1 → u = n) :
    (Lib.bitLen u + 6) / 7 = (digs 9 n).length := by
  obtain ⟨a, b, c, d⟩ := digs_le 9 n (by have : (128 : Nat) ^ 10 = 1180591620717411303424 := by decide
                                         omega)
  generalize (digs 9 n).length = L at *
  obtain ⟨e1, e2, e3⟩ := Lib.bitLenAux_bounds 64 u (by omega) hu0
  rw [show Lib.bitLenAux 64 u = Lib.bitLen u from rfl] at e1 e2 e3
  generalize Lib.bitLen u = B at *
  have p1 : ∀ m, 128 ^ m = 2 ^ (7 * m) := fun m => by rw [Nat.pow_mul]
  have q1 : B ≤ 7 * L := by
    have hlt : u < 2 ^ (7 * L) := by
      rw [← p1]
      rcases Nat.lt_or_ge u (128 ^ L) with h | h
      · exact h
      · have hn : n + 1 = 128 ^ L := by omega
        have hev : 128 ^ L % 2 = 0 := by
          obtain ⟨m, rfl⟩ : ∃ m, L = m + 1 := ⟨L - 1, by omega⟩
          rw [Nat.pow_succ]; omega
        have := hodd (by omega)
        omega
    have := (Nat.pow_lt_pow_iff_right (a := 2) (by decide)).1 (Nat.lt_of_le_of_lt e2 hlt)
    omega
  have q2 : 7 * (L - 1) < B := by
    rcases d with d | d
    · subst d; omega
    · rw [p1] at d
      exact (Nat.pow_lt_pow_iff_right (a := 2) (by decide)).1 (Nat.lt_of_le_of_lt (Nat.le_trans d hu1) e3)
  omega
end Go.Proofs.Ythonjffojaljdaa


/-
  PLAIN ARITHMETIC OF READING SHORT BYTES, no Go text in sight: the number of digits of seven bits, and a step of reading. No condition but the ranges that each lemma names.
-/
namespace Go.Proofs.Ythonjffojaljdaa
open Go.RowKit
/-- The number of the first k digits. -/
def vals (z : Nat → Int) : Nat → Int
  | 0 => 0
  | k + 1 => vals z k + z k % 128 * 128 ^ k
theorem and127 (d : Int) (h0 : 0 ≤ d) (h1 : d ≤ 255) : Go.bits .and .u8 d 127 = d % 128 := by
  rw [u8_and _ _ h0 (by omega) (by decide) (by decide)]
  have e : (127 : Int).toNat = 2 ^ 7 - 1 := by decide
  rw [e, Nat.and_two_pow_sub_one_eq_mod]
  omega
theorem vals_bd (z : Nat → Int) : ∀ k, ∃ n : Nat, vals z k = (n : Int) ∧ n < 128 ^ k
  | 0 => ⟨0, rfl, by decide⟩
  | k + 1 => by
    obtain ⟨n, hn, hlt⟩ := vals_bd z k
    refine ⟨n + (z k % 128).toNat * 128 ^ k, ?_, ?_⟩
    · have : ((z k % 128).toNat : Int) = z k % 128 := by omega
      simp only [vals, hn, Int.natCast_add, Int.natCast_mul, this, Int.natCast_pow]
      rfl
    · have h : (z k % 128).toNat ≤ 127 := by omega
      have := Nat.mul_le_mul_right (128 ^ k) h
      rw [Nat.pow_succ]; omega
theorem or_step (z : Nat → Int) (k : Nat) (h0 : 0 ≤ z k) (h1 : z k ≤ 255) (hk : k ≤ 9) (h9 : k = 9 → z k ≤ 1) :
    Go.bits .or .u64 (vals z k) (IntKind.u64.wrap (IntKind.u64.wrap (Go.bits .and .u8 (z k) 127) * 2 ^ (7 * k))) = vals z (k + 1) := by
  obtain ⟨n, hn, hlt⟩ := vals_bd z k
  have ew : ∀ n, IntKind.u64.wrap n = n % 18446744073709551616 := fun n => by simp [IntKind.wrap, IntKind.bits, IntKind.signed]
  obtain ⟨d, hd⟩ : ∃ d : Nat, z k % 128 = (d : Int) := ⟨(z k % 128).toNat, by omega⟩
  have hd1 : d ≤ 127 := by omega
  have p : (128 : Nat) ^ k = 2 ^ (7 * k) := by rw [Nat.pow_mul]
  have hb : d * 2 ^ (7 * k) < 18446744073709551616 := by
    by_cases c : k = 9
    · have : d ≤ 1 := by have := h9 c; omega
      have h2 := Nat.mul_le_mul_right (2 ^ (7 * k)) this
      subst c
      have : (2 : Nat) ^ (7 * 9) = 9223372036854775808 := by decide
      omega
    · have h2 := Nat.mul_le_mul_right (2 ^ (7 * k)) hd1
      have h3 : (2 : Nat) ^ (7 * k) ≤ 2 ^ 56 := Nat.pow_le_pow_right (by decide) (by omega)
      have : (2 : Nat) ^ 56 = 72057594037927936 := by decide
      omega
  have hn2 : n < 18446744073709551616 := by
    have h3 : (2 : Nat) ^ (7 * k) ≤ 2 ^ 63 := Nat.pow_le_pow_right (by decide) (by omega)
    have : (2 : Nat) ^ 63 = 9223372036854775808 := by decide
    rw [p] at hlt; omega
  rw [and127 _ h0 h1, hd, ew, ew]
  have e1 : (d : Int) % 18446744073709551616 = d := by omega
  have e2 : (d : Int) * 2 ^ (7 * k) = ((d * 2 ^ (7 * k) : Nat) : Int) := by simp
  rw [e1, e2]
  have e3 : ((d * 2 ^ (7 * k) : Nat) : Int) % 18446744073709551616 = ((d * 2 ^ (7 * k) : Nat) : Int) := by omega
  rw [e3, hn, u64_or_nat _ _ hn2 hb]
  have hor : n ||| d * 2 ^ (7 * k) = n + d * 2 ^ (7 * k) := by
    have := Nat.shiftLeft_add_eq_or_of_lt (i := 7 * k) (b := n) (by rw [← p]; exact hlt) d
    rw [Nat.shiftLeft_eq] at this
    rw [Nat.or_comm, ← this, Nat.add_comm]
  rw [hor]
  simp only [vals, hn, hd, Int.natCast_add, Int.natCast_mul]
  have e4 : ((2 ^ (7 * k) : Nat) : Int) = (128 : Int) ^ k := by rw [← p]; simp
  rw [e4]
end Go.Proofs.Ythonjffojaljdaa

