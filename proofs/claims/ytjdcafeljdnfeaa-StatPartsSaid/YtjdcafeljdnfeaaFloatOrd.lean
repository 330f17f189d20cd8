/-
  PLAIN ARITHMETIC ON THE BITS OF A float64, no Go text in sight: where bits stand on the line of numbers; the model's own order of two floats is the order of these places; a NaN has no order. No condition.
-/
import Derived.WalkKit
import Ieee.Arith
namespace Go.Proofs.Ytjdcafeljdnfeaa
open Ieee

/-- The rung of a double's bits. -/
def rung (b : Nat) : Nat := b % 9223372036854775808
def minus (b : Nat) : Bool := b / 9223372036854775808 % 2 == 1
/-- Is it no number? -/
def isNan (b : Nat) : Prop := 9218868437227405312 < rung b
/-- Where bits stand on the line of numbers, the two noughts at one place. -/
def place (b : Nat) : Int := if minus b then -(rung b : Int) else rung b

def magOf (r : Nat) : Nat := if r < 4503599627370496 then r else 4503599627370496 + r % 4503599627370496
def upOf (r : Nat) : Nat := r / 4503599627370496 - 1
def bigOf (r : Nat) : Nat := magOf r * 2 ^ upOf r

theorem big_mono {r s : Nat} (h : r < s) : bigOf r < bigOf s := by
  unfold bigOf magOf upOf
  generalize hB : 4503599627370496 = B at *
  have hB0 : 0 < B := by omega
  have h1 := Nat.div_add_mod r B
  have h2 := Nat.div_add_mod s B
  have l1 := Nat.mod_lt r hB0
  have l2 := Nat.mod_lt s hB0
  generalize r % B = f at *
  generalize s % B = g at *
  generalize r / B = q at *
  generalize s / B = p at *
  subst h1 h2
  clear hB
  rcases Nat.lt_or_ge q p with hqp | hqp
  · -- another binade
    have h3 : B * q + f < B * p := by
      have := Nat.mul_le_mul_left B hqp
      rw [Nat.succ_eq_add_one, Nat.mul_add] at this; omega
    obtain ⟨p, rfl⟩ : ∃ p', p = p' + 1 := ⟨p - 1, by omega⟩
    have hs : ¬ (B * (p + 1) + g < B) := by rw [Nat.mul_add]; omega
    rw [if_neg hs]
    simp only [Nat.add_sub_cancel]
    have hp := Nat.two_pow_pos p
    by_cases hr : B * q + f < B
    · rw [if_pos hr]
      have hq : q = 0 := by
        rcases Nat.eq_zero_or_pos q with h0 | h0
        · exact h0
        · have := Nat.mul_le_mul_left B h0; omega
      subst hq
      simp
      calc f < B := l1
        _ ≤ B + g := by omega
        _ ≤ (B + g) * 2 ^ p := Nat.le_mul_of_pos_right _ hp
    · rw [if_neg hr]
      obtain ⟨q, rfl⟩ : ∃ q', q = q' + 1 := ⟨q - 1, by
        rcases Nat.eq_zero_or_pos q with h0 | h0
        · subst h0; omega
        · omega⟩
      simp only [Nat.add_sub_cancel]
      have e : 2 ^ (q + 1) ≤ 2 ^ p := Nat.pow_le_pow_right (by decide) (by omega)
      calc (B + f) * 2 ^ q < (B + B) * 2 ^ q := Nat.mul_lt_mul_of_pos_right (by omega) (Nat.two_pow_pos q)
        _ = B * 2 ^ (q + 1) := by rw [Nat.pow_succ]; grind
        _ ≤ B * 2 ^ p := Nat.mul_le_mul_left B e
        _ ≤ (B + g) * 2 ^ p := Nat.mul_le_mul_right _ (by omega)
  · have e : q = p := by
      rcases Nat.lt_or_ge p q with h0 | h0
      · have := Nat.mul_le_mul_left B h0
        rw [Nat.succ_eq_add_one, Nat.mul_add] at this; omega
      · omega
    subst e
    by_cases hr : B * q + f < B
    · have hs : B * q + g < B := by
        rcases Nat.eq_zero_or_pos q with h0 | h0
        · subst h0; omega
        · have := Nat.mul_le_mul_left B h0; omega
      rw [if_pos hr, if_pos hs]
      exact Nat.mul_lt_mul_of_pos_right h (Nat.two_pow_pos _)
    · rw [if_neg hr, if_neg (by omega)]
      exact Nat.mul_lt_mul_of_pos_right (by omega) (Nat.two_pow_pos _)
theorem big_iff (r s : Nat) : (bigOf r < bigOf s ↔ r < s) ∧ (bigOf r = bigOf s ↔ r = s) := by
  rcases Nat.lt_trichotomy r s with h | h | h
  · have := big_mono h; constructor <;> constructor <;> intro <;> omega
  · subst h; simp
  · have := big_mono h; constructor <;> constructor <;> intro <;> omega
theorem cmp_congr {a b c d : Int} (h1 : a < b ↔ c < d) (h2 : a = b ↔ c = d) : compare a b = compare c d := by
  simp only [compare, compareOfLessAndEq]
  by_cases x : a < b
  · rw [if_pos x, if_pos (h1.1 x)]
  · rw [if_neg x, if_neg (fun y => x (h1.2 y))]
    by_cases y : a = b
    · rw [if_pos y, if_pos (h2.1 y)]
    · rw [if_neg y, if_neg (fun z => y (h2.2 z))]
theorem signWeight_d : double.signWeight = 9223372036854775808 := by decide +kernel
theorem binade_d : double.binade = 4503599627370496 := by decide +kernel
theorem infRung_d : double.infRung = 9218868437227405312 := by decide +kernel
theorem read_d (b : Nat) : double.read b = if rung b < 4503599627370496 then .number (minus b) (rung b) double.leastPlace
    else if rung b < 9218868437227405312 then .number (minus b) (4503599627370496 + rung b % 4503599627370496) (double.leastPlace + (rung b / 4503599627370496 - 1 : Nat))
    else if rung b = 9218868437227405312 then .infinity (minus b) else .nan (minus b) (rung b - 9218868437227405312) := by
  simp only [Format.read, signWeight_d, binade_d, infRung_d, rung, minus]
  rfl
theorem read_num (b : Nat) (h : rung b < 9218868437227405312) : double.read b = .number (minus b) (magOf (rung b)) (double.leastPlace + (upOf (rung b) : Nat)) := by
  rw [read_d]
  unfold magOf upOf
  by_cases h1 : rung b < 4503599627370496
  · have : rung b / 4503599627370496 - 1 = 0 := by omega
    rw [if_pos h1, if_pos h1, this]; simp
  · rw [if_neg h1, if_pos h, if_neg h1]
theorem read_inf (b : Nat) (h : rung b = 9218868437227405312) : double.read b = .infinity (minus b) := by
  rw [read_d, if_neg (by omega), if_neg (by omega), if_pos h]
theorem read_nan (b : Nat) (h : isNan b) : double.read b = .nan (minus b) (rung b - 9218868437227405312) := by
  unfold isNan at h
  rw [read_d, if_neg (by omega), if_neg (by omega), if_neg (by omega)]
theorem order_nan (a b : Nat) (h : isNan a ∨ isNan b) : double.order a b = none := by
  unfold Format.order
  rcases h with h | h
  · rw [read_nan a h]; rfl
  · rw [read_nan b h]
    cases double.read a <;> rfl
/-- The sign of a magnitude. -/
def sg (s : Bool) (m : Nat) : Int := if s then -(m : Int) else m
theorem sg_scale (s : Bool) (m k : Nat) : sg s (m * 2 ^ k) = sg s m * 2 ^ k := by
  unfold sg; split <;> simp [Int.neg_mul]
theorem signed_eq (s : Bool) (m k : Nat) : signed s m k = sg s (m * 2 ^ k) := by
  unfold signed sg; simp [Nat.shiftLeft_eq]
theorem scale_cmp (a b : Int) (k : Nat) : compare a b = compare (a * 2 ^ k) (b * 2 ^ k) := by
  have hp : (0 : Int) < 2 ^ k := Int.pow_pos (by decide)
  refine cmp_congr ⟨fun h => Int.mul_lt_mul_of_pos_right h hp, fun h => Int.lt_of_mul_lt_mul_right h (Int.le_of_lt hp)⟩ ⟨fun h => by rw [h], fun h => Int.eq_of_mul_eq_mul_right (by omega) h⟩
theorem sg_cmp (s t : Bool) (r u : Nat) : compare (sg s (bigOf r)) (sg t (bigOf u)) = compare (sg s r) (sg t u) := by
  have h := big_iff r u
  have h' := big_iff u r
  have z : bigOf 0 = 0 := by decide
  have p1 := big_iff 0 r
  have p2 := big_iff 0 u
  rw [z] at p1 p2
  unfold sg
  cases s <;> cases t <;> (apply cmp_congr <;> simp <;> omega)
theorem cmp_lt {a b : Int} (h : a < b) : compare a b = .lt := by simp [compare, compareOfLessAndEq, h]
theorem cmp_gt {a b : Int} (h : b < a) : compare a b = .gt := by
  simp only [compare, compareOfLessAndEq]; rw [if_neg (by omega), if_neg (by omega)]
theorem cmp_eq {a b : Int} (h : a = b) : compare a b = .eq := by
  simp only [compare, compareOfLessAndEq]; rw [if_neg (by omega), if_pos h]
theorem order_num (a b : Nat) (ha : ¬ isNan a) (hb : ¬ isNan b) : double.order a b = some (compare (place a) (place b)) := by
  unfold isNan at ha hb
  have pa : place a = sg (minus a) (rung a) := rfl
  have pb : place b = sg (minus b) (rung b) := rfl
  rw [pa, pb]
  unfold Format.order
  by_cases ia : rung a = 9218868437227405312
  · by_cases ib : rung b = 9218868437227405312
    · rw [read_inf a ia, read_inf b ib, ia, ib]
      cases minus a <;> cases minus b <;> rfl
    · rw [read_inf a ia, read_num b (by omega), ia]
      generalize rung b = r at *
      cases minus a
      · rw [cmp_gt (by cases minus b <;> simp [sg] <;> omega)]; rfl
      · rw [cmp_lt (by cases minus b <;> simp [sg] <;> omega)]; rfl
  · by_cases ib : rung b = 9218868437227405312
    · rw [read_num a (by omega), read_inf b ib, ib]
      generalize rung a = r at *
      cases minus b
      · rw [cmp_lt (by cases minus a <;> simp [sg] <;> omega)]; rfl
      · rw [cmp_gt (by cases minus a <;> simp [sg] <;> omega)]; rfl
    · rw [read_num a (by omega), read_num b (by omega)]
      generalize rung a = r at *
      generalize rung b = u at *
      generalize minus a = s at *
      generalize minus b = t at *
      clear pa pb
      rw [← sg_cmp s t r u]
      simp only [Datum.order, signed_eq]
      generalize double.leastPlace = L
      have e1 : (L + (upOf r : Int) - min (L + (upOf r : Int)) (L + (upOf u : Int))).toNat = upOf r - min (upOf r) (upOf u) := by omega
      have e2 : (L + (upOf u : Int) - min (L + (upOf r : Int)) (L + (upOf u : Int))).toNat = upOf u - min (upOf r) (upOf u) := by omega
      rw [e1, e2, scale_cmp _ _ (min (upOf r) (upOf u)), ← sg_scale, ← sg_scale, Nat.mul_assoc, Nat.mul_assoc, ← Nat.pow_add, ← Nat.pow_add,
        Nat.sub_add_cancel (Nat.min_le_left _ _), Nat.sub_add_cancel (Nat.min_le_right _ _)]
      rfl
end Go.Proofs.Ytjdcafeljdnfeaa
