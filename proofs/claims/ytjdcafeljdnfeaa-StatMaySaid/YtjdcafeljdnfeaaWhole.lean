/-
  PLAIN ARITHMETIC ON WHOLE float64 NUMBERS, no Go text in sight: which bits are whole numbers up to 2^53, what truncating, comparing and converting give of them, and back. No condition.
-/
import Derived.Test.YtjdcafeljdnfeaaFloatOrd
namespace Go.Proofs.Ytjdcafeljdnfeaa
open Ieee

/-- The whole number that bits are, if they are one up to 2^53 (and no nought with a sign). -/
def wholeOf (b : Nat) : Option Int :=
  if b = 0 then some 0
  else if rung b < 4607182418800017408 then none
  else if rung b < 4845873199050653696 then
    (if (4503599627370496 + rung b % 4503599627370496) % 2 ^ (1075 - rung b / 4503599627370496) = 0 then some (sg (minus b) ((4503599627370496 + rung b % 4503599627370496) / 2 ^ (1075 - rung b / 4503599627370496))) else none)
  else if rung b = 4845873199050653696 then some (sg (minus b) 9007199254740992)
  else none
theorem leastPlace_d : double.leastPlace = -1074 := by decide +kernel
theorem fractionBits_d : double.fractionBits = 52 := rfl
theorem cut_none (n : Nat) (s : Bool) (way : Toward) : way.cut s n 0 = n := by
  unfold Toward.cut
  simp
  cases way <;> simp [Nat.mod_one]
theorem log2_eq {n k : Nat} (h1 : 2 ^ k ≤ n) (h2 : n < 2 ^ (k + 1)) : n.log2 = k := by
  have h0 : n ≠ 0 := by have := Nat.two_pow_pos k; omega
  have a := (Nat.le_log2 h0).2 h1
  have b := (Nat.log2_lt h0).2 h2
  omega
theorem cut_small (n drop : Nat) (s : Bool) (h : drop ≤ n.log2 + 2) : Toward.zero.cut s n drop = n / 2 ^ drop := by
  unfold Toward.cut
  simp [Nat.min_eq_left h, Nat.shiftLeft_eq]
theorem cut_zero (n drop : Nat) (s : Bool) (h : n < 2 ^ drop) : Toward.zero.cut s n drop = 0 := by
  unfold Toward.cut
  simp [Nat.shiftLeft_eq]
  rcases Nat.le_total drop (n.log2 + 2) with c | c
  · rw [Nat.min_eq_left c]; exact h
  · rw [Nat.min_eq_right c]
    have := @Nat.lt_log2_self n
    have h2 : 2 ^ (n.log2 + 1) ≤ 2 ^ (n.log2 + 2) := Nat.pow_le_pow_right (by decide) (by omega)
    omega
/-- A word's sign and rung. -/
theorem word_d (s : Bool) (r : Nat) (h : r < 9223372036854775808) : minus (double.word s r) = s ∧ rung (double.word s r) = r ∧ double.word s r < 18446744073709551616 := by
  unfold Format.word minus rung
  rw [signWeight_d]
  cases s <;> simp <;> omega
/-- The word of a whole number below 2^53. -/
theorem nearest_d (s : Bool) (n k : Nat) (h1 : 2 ^ k ≤ n) (h2 : n < 2 ^ (k + 1)) (hk : k ≤ 52) : double.nearest s n 0 = double.word s ((k + 1022) * 4503599627370496 + n * 2 ^ (52 - k)) := by
  have h0 : n ≠ 0 := by have := Nat.two_pow_pos k; omega
  have hl := log2_eq h1 h2
  unfold Format.nearest
  rw [if_neg h0, hl, fractionBits_d, leastPlace_d]
  have e1 : max ((0 : Int) + (k : Int) - (52 : Nat)) (-1074) = (k : Int) - 52 := by omega
  simp only [e1]
  have e2 : ((0 : Int) - ((k : Int) - 52)).toNat = 52 - k := by omega
  have e3 : ((k : Int) - 52 - 0).toNat = 0 := by omega
  have e4 : ((k : Int) - 52 - -1074).toNat = k + 1022 := by omega
  rw [e2, e3, e4, cut_none, Nat.shiftLeft_eq, binade_d, infRung_d]
  congr 1
  have h3 : n * 2 ^ (52 - k) < 2 ^ (k + 1) * 2 ^ (52 - k) := Nat.mul_lt_mul_of_pos_right h2 (Nat.two_pow_pos _)
  rw [← Nat.pow_add, show k + 1 + (52 - k) = 53 from by omega] at h3
  generalize n * 2 ^ (52 - k) = t at *
  clear e1 e2 e3 e4 hl h1 h2
  exact Nat.min_eq_left (by omega)
theorem nearest_big (s : Bool) : double.nearest s 9007199254740992 0 = double.word s 4845873199050653696 := by
  cases s <;> decide +kernel
theorem nearest_zero (s : Bool) (p : Int) : double.nearest s 0 p = double.word s 0 := by
  unfold Format.nearest; rw [if_pos rfl]
theorem order_word (b r : Nat) (hb : ¬ isNan b) (hr : r ≤ 9218868437227405312) : double.order b (double.word (minus b) r) = some (compare (sg (minus b) (rung b)) (sg (minus b) r)) := by
  obtain ⟨h1, h2, h3⟩ := word_d (minus b) r (by omega)
  rw [order_num b _ hb (by unfold isNan; rw [h2]; omega)]
  unfold place
  rw [h1, h2]
  rfl
theorem sg_compare (s : Bool) (a c : Nat) : (compare (sg s a) (sg s c) = .eq) ↔ a = c := by
  unfold sg
  rcases Nat.lt_trichotomy a c with h | h | h
  · cases s
    · rw [cmp_lt (by simp; omega)]; simp; omega
    · rw [cmp_gt (by simp; omega)]; simp; omega
  · subst h; rw [cmp_eq rfl]; simp
  · cases s
    · rw [cmp_gt (by simp; omega)]; simp; omega
    · rw [cmp_lt (by simp; omega)]; simp; omega
/-- What becomes of bits, truncated. -/
def truncOf (b : Nat) : Nat := double.write ((double.read b).integral .zero)
theorem trunc_small (b : Nat) (h : rung b < 4607182418800017408) : truncOf b = double.word (minus b) 0 ∧ (double.read b).toInt .zero = some 0 := by
  have hm : magOf (rung b) < 2 ^ 53 := by unfold magOf; split <;> omega
  have hu : upOf (rung b) + 53 ≤ 1074 := by unfold upOf; omega
  unfold truncOf Datum.toInt
  rw [read_num b (by omega), leastPlace_d]
  simp only [Datum.integral]
  have e1 : (-1074 + (upOf (rung b) : Int)).toNat = 0 := by omega
  have e2 : 53 ≤ (-(-1074 + (upOf (rung b) : Int))).toNat := by omega
  rw [e1, Nat.shiftLeft_zero, cut_zero _ _ _ (Nat.lt_of_lt_of_le hm (Nat.pow_le_pow_right (by decide) e2))]
  refine ⟨?_, ?_⟩
  · simp only [Format.write]; exact nearest_zero _ _
  · simp [signed]
theorem rung_parts (b : Nat) (h1 : 4607182418800017408 ≤ rung b) (h2 : rung b < 4845873199050653696) : ∃ e m, 1023 ≤ e ∧ e ≤ 1075 ∧ 4503599627370496 ≤ m ∧ m < 9007199254740992 ∧ rung b / 4503599627370496 = e ∧ 4503599627370496 + rung b % 4503599627370496 = m ∧ rung b = (e - 1) * 4503599627370496 + m := by
  refine ⟨rung b / 4503599627370496, 4503599627370496 + rung b % 4503599627370496, ?_, ?_, ?_, ?_, rfl, rfl, ?_⟩ <;> omega
theorem trunc_mid (b : Nat) (h1 : 4607182418800017408 ≤ rung b) (h2 : rung b < 4845873199050653696) (e m : Nat) (he1 : 1023 ≤ e) (he2 : e ≤ 1075) (hm1 : 4503599627370496 ≤ m) (hm2 : m < 9007199254740992) (he : rung b / 4503599627370496 = e) (hm : 4503599627370496 + rung b % 4503599627370496 = m) :
    truncOf b = double.word (minus b) ((e - 1) * 4503599627370496 + m / 2 ^ (1075 - e) * 2 ^ (1075 - e)) ∧ (double.read b).toInt .zero = some (sg (minus b) (m / 2 ^ (1075 - e))) ∧ 2 ^ (e - 1023) ≤ m / 2 ^ (1075 - e) ∧ m / 2 ^ (1075 - e) < 2 ^ (e - 1023 + 1) := by
  have hmag : magOf (rung b) = m := by unfold magOf; rw [if_neg (by omega)]; exact hm
  have hup : upOf (rung b) = e - 1 := by unfold upOf; omega
  have hl : m.log2 = 52 := log2_eq (k := 52) (by omega) (by omega)
  have hp := Nat.two_pow_pos (1075 - e)
  have b1 : 2 ^ (e - 1023) ≤ m / 2 ^ (1075 - e) := by
    rw [Nat.le_div_iff_mul_le hp, ← Nat.pow_add, show e - 1023 + (1075 - e) = 52 from by omega]; omega
  have b2 : m / 2 ^ (1075 - e) < 2 ^ (e - 1023 + 1) := by
    rw [Nat.div_lt_iff_lt_mul hp, ← Nat.pow_add, show e - 1023 + 1 + (1075 - e) = 53 from by omega]; omega
  unfold truncOf Datum.toInt
  rw [read_num b (by omega), leastPlace_d, hmag, hup]
  simp only [Datum.integral]
  have e1 : (-1074 + ((e - 1 : Nat) : Int)).toNat = 0 := by omega
  have e2 : (-(-1074 + ((e - 1 : Nat) : Int))).toNat = 1075 - e := by omega
  rw [e1, e2, Nat.shiftLeft_zero, cut_small _ _ _ (by omega)]
  refine ⟨?_, ?_, b1, b2⟩
  · simp only [Format.write]
    rw [nearest_d _ _ _ b1 b2 (by omega), show e - 1023 + 1022 = e - 1 from by omega, show 52 - (e - 1023) = 1075 - e from by omega]
  · simp [signed, sg]
theorem trunc_top (b : Nat) (h : rung b = 4845873199050653696) : truncOf b = double.word (minus b) 4845873199050653696 ∧ (double.read b).toInt .zero = some (sg (minus b) 9007199254740992) := by
  unfold truncOf Datum.toInt
  rw [read_num b (by omega), h]
  cases minus b <;> decide +kernel
/-- Bits inside -2^53 and 2^53: what comes of comparing them with what becomes of them, truncated. -/
theorem trunc_tells (b : Nat) (hb : b < 18446744073709551616) (h : rung b ≤ 4845873199050653696) :
    (double.order b (truncOf b) = some .eq ∧ (∃ n, wholeOf b = some n ∧ (double.read b).toInt .zero = some n ∧ -9007199254740992 ≤ n ∧ n ≤ 9007199254740992)) ∨
    (double.order b (truncOf b) = some .eq ∧ rung b = 0 ∧ minus b = true ∧ wholeOf b = none) ∨
    ((double.order b (truncOf b) = some .lt ∨ double.order b (truncOf b) = some .gt) ∧ wholeOf b = none) := by
  have hn : ¬ isNan b := by unfold isNan; omega
  have ne : ∀ o : Ordering, o ≠ .eq → o = .lt ∨ o = .gt := fun o h => by cases o <;> simp_all
  by_cases c1 : rung b < 4607182418800017408
  · obtain ⟨h1, h2⟩ := trunc_small b c1
    rw [h1, order_word b 0 hn (by omega), h2]
    by_cases z : rung b = 0
    · rw [z, (sg_compare _ 0 0).2 rfl]
      by_cases hm : minus b = true
      · refine .inr (.inl ⟨rfl, rfl, hm, ?_⟩)
        unfold wholeOf
        rw [if_neg (by intro e; subst e; simp [minus] at hm), if_pos (by omega)]
      · refine .inl ⟨rfl, 0, ?_, rfl, by omega, by omega⟩
        have : b = 0 := by
          unfold minus at hm; unfold rung at z; simp at hm; omega
        subst this; rfl
    · refine .inr (.inr ⟨?_, ?_⟩)
      · have := ne _ (fun e => z ((sg_compare (minus b) _ 0).1 e))
        rcases this with e | e
        · left; rw [e]
        · right; rw [e]
      · unfold wholeOf
        rw [if_neg (by intro e; subst e; exact z rfl), if_pos c1]
  · have hb0 : b ≠ 0 := by intro e; subst e; exact c1 (by decide)
    by_cases c2 : rung b < 4845873199050653696
    · obtain ⟨e, m, he1, he2, hm1, hm2, he, hm, hr⟩ := rung_parts b (by omega) c2
      obtain ⟨h1, h2, h3, h4⟩ := trunc_mid b (by omega) c2 e m he1 he2 hm1 hm2 he hm
      have hle : m / 2 ^ (1075 - e) * 2 ^ (1075 - e) ≤ m := Nat.div_mul_le_self _ _
      rw [h1, order_word b _ hn (by omega), h2]
      have hw : wholeOf b = if m % 2 ^ (1075 - e) = 0 then some (sg (minus b) (m / 2 ^ (1075 - e))) else none := by
        unfold wholeOf
        rw [if_neg hb0, if_neg c1, if_pos c2, hm, he]
      have hdm := Nat.div_add_mod m (2 ^ (1075 - e))
      rw [Nat.mul_comm] at hdm
      have hq : m / 2 ^ (1075 - e) ≤ m := Nat.div_le_self _ _
      by_cases c3 : m % 2 ^ (1075 - e) = 0
      · rw [(sg_compare _ _ _).2 (by omega), hw, if_pos c3]
        refine .inl ⟨rfl, _, rfl, rfl, ?_, ?_⟩ <;> (unfold sg; split <;> omega)
      · rw [hw, if_neg c3]
        refine .inr (.inr ⟨?_, rfl⟩)
        have hne : ¬ rung b = (e - 1) * 4503599627370496 + m / 2 ^ (1075 - e) * 2 ^ (1075 - e) := by omega
        have := ne _ (fun e => hne ((sg_compare (minus b) _ _).1 e))
        rcases this with e | e
        · left; rw [e]
        · right; rw [e]
    · have c3 : rung b = 4845873199050653696 := by omega
      obtain ⟨h1, h2⟩ := trunc_top b c3
      rw [h1, order_word b _ hn (by omega), h2, c3, (sg_compare _ _ _).2 rfl]
      have hw : wholeOf b = some (sg (minus b) 9007199254740992) := by
        unfold wholeOf
        rw [if_neg hb0, if_neg c1, if_neg c2, if_pos c3]
      exact .inl ⟨rfl, _, hw, rfl, by unfold sg; split <;> omega, by unfold sg; split <;> omega⟩
/-- Bits beyond are not whole. -/
theorem whole_beyond (b : Nat) (h : 4845873199050653696 < rung b) : wholeOf b = none := by
  unfold wholeOf
  rw [if_neg (by intro e; subst e; simp [rung] at h), if_neg (by omega), if_neg (by omega), if_neg (by omega)]
/-- WHAT IS WHOLE IS TOLD BACK BY ITS NUMBER. -/
theorem whole_back (b : Nat) (hb : b < 18446744073709551616) (n : Int) (h : wholeOf b = some n) : FloatKind.f64.nearest n = b := by
  have hword : ∀ r, rung b = r → double.word (minus b) r = b := fun r e => by
    subst e
    unfold Format.word minus rung
    rw [signWeight_d]
    by_cases c : b / 9223372036854775808 % 2 = 1
    · simp [c]; omega
    · simp [c]; omega
  have hnn : ∀ (s : Bool) (k : Nat), 0 < k → FloatKind.f64.nearest (sg s k) = double.nearest s k 0 := fun s k hk => by
    show double.nearest _ _ 0 = _
    unfold sg
    cases s
    · simp; congr 1
    · simp; congr 1; simpa using hk
  unfold wholeOf at h
  by_cases hb0 : b = 0
  · rw [if_pos hb0] at h; obtain rfl := Option.some.inj h; subst hb0; decide +kernel
  · rw [if_neg hb0] at h
    by_cases c1 : rung b < 4607182418800017408
    · rw [if_pos c1] at h; cases h
    · rw [if_neg c1] at h
      by_cases c2 : rung b < 4845873199050653696
      · rw [if_pos c2] at h
        obtain ⟨e, m, he1, he2, hm1, hm2, he, hm, hr⟩ := rung_parts b (by omega) c2
        obtain ⟨_, _, h3, h4⟩ := trunc_mid b (by omega) c2 e m he1 he2 hm1 hm2 he hm
        rw [hm, he] at h
        by_cases c3 : m % 2 ^ (1075 - e) = 0
        · rw [if_pos c3] at h
          obtain rfl := Option.some.inj h
          have hp := Nat.two_pow_pos (e - 1023)
          rw [hnn _ _ (by omega), nearest_d _ _ _ h3 h4 (by omega)]
          apply hword
          have hdm := Nat.div_add_mod m (2 ^ (1075 - e))
          rw [Nat.mul_comm] at hdm
          rw [show e - 1023 + 1022 = e - 1 from by omega, show 52 - (e - 1023) = 1075 - e from by omega]
          omega
        · rw [if_neg c3] at h; cases h
      · rw [if_neg c2] at h
        by_cases c3 : rung b = 4845873199050653696
        · rw [if_pos c3] at h
          obtain rfl := Option.some.inj h
          rw [hnn _ _ (by omega), nearest_big]
          exact hword _ c3
        · rw [if_neg c3] at h; cases h
end Go.Proofs.Ytjdcafeljdnfeaa
