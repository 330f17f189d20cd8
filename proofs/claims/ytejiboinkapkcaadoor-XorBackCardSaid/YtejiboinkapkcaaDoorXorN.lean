/-
  XOR, THE ARITHMETIC: the window of a number, whether it lies in one, and what bits a row of numbers makes. No program's text, no condition.
-/
import Derived.Lib.ItoaNum
import Derived.Lib.TrailingZeros
namespace Go.Proofs.YtejiboinkapkcaaDoor
/-- The noughts of a number at the top; of its own window, 31 at the most; at the end. -/
def xlz (x : Nat) : Nat := 64 - Lib.bitLen x
def xtop (x : Nat) : Nat := min (xlz x) 31
def xend (x : Nat) : Nat := Lib.ctz 64 x
theorem xbl {x : Nat} (h0 : x ≠ 0) (h : x < 18446744073709551616) : x < 2 ^ Lib.bitLen x ∧ 2 ^ (Lib.bitLen x - 1) ≤ x ∧ 1 ≤ Lib.bitLen x ∧ Lib.bitLen x ≤ 64 := by
  obtain ⟨e1, e2, e3⟩ := Lib.bitLenAux_bounds 64 x (by omega) h0
  rw [show Lib.bitLenAux 64 x = Lib.bitLen x from rfl] at e1 e2 e3
  refine ⟨by omega, by omega, by omega, ?_⟩
  rcases Nat.lt_or_ge 64 (Lib.bitLen x) with h | h
  · have h3 : (2 : Nat) ^ 64 ≤ 2 ^ (Lib.bitLen x - 1) := Nat.pow_le_pow_right (by decide) (by omega)
    omega
  · exact h
theorem xend_spec {x : Nat} (h0 : x ≠ 0) (h : x < 18446744073709551616) : ∃ m, x = 2 ^ xend x * (2 * m + 1) ∧ xend x < 64 := by
  have := Lib.ctzFrom_spec 64 x (by omega) (by simpa using h)
  unfold xend Lib.ctz
  rw [if_neg h0]
  exact this
theorem xend_bl {x : Nat} (h0 : x ≠ 0) (h : x < 18446744073709551616) : xend x < Lib.bitLen x := by
  obtain ⟨m, hm, _⟩ := xend_spec h0 h
  obtain ⟨h1, _⟩ := xbl h0 h
  have : 2 ^ xend x ≤ x := by
    have : 2 ^ xend x * 1 ≤ 2 ^ xend x * (2 * m + 1) := Nat.mul_le_mul_left _ (by omega)
    omega
  exact (Nat.pow_lt_pow_iff_right (by decide)).mp (Nat.lt_of_le_of_lt this h1)
/-- A number that lies in a window: what stands in it, and that nothing else does. -/
theorem xwin {x t e : Nat} (h0 : x ≠ 0) (h : x < 18446744073709551616) (ht : t ≤ xlz x) (he : e ≤ xend x) : t + e ≤ 63 ∧ x / 2 ^ e < 2 ^ (64 - t - e) ∧ x / 2 ^ e * 2 ^ e = x := by
  obtain ⟨h1, h2, h3, h4⟩ := xbl h0 h
  have h5 := xend_bl h0 h
  unfold xlz at ht
  refine ⟨by omega, ?_, ?_⟩
  · apply Nat.div_lt_of_lt_mul
    rw [← Nat.pow_add]
    exact Nat.lt_of_lt_of_le h1 (Nat.pow_le_pow_right (by decide) (by omega))
  · obtain ⟨m, hm, _⟩ := xend_spec h0 h
    apply Nat.div_mul_cancel
    rw [hm]
    exact Nat.dvd_trans (Nat.pow_dvd_pow 2 he) (Nat.dvd_mul_right _ _)
theorem xtop_le (x : Nat) : xtop x ≤ 31 ∧ xtop x ≤ xlz x := by unfold xtop; omega
/-- What has been written, how much, and the window that is taken (of none 64 noughts stand at the top). -/
structure XS where
  N : Nat
  c : Nat
  t : Nat
  e : Nat
/-- One number more. -/
def xstep (s : XS) (x : Nat) : XS :=
  if x = 0 then ⟨s.N + 0 * 2 ^ s.c, s.c + 1, s.t, s.e⟩
  else if s.t ≤ xtop x ∧ s.e ≤ xend x then
    ⟨s.N + 1 * 2 ^ s.c + 0 * 2 ^ (s.c + 1) + x / 2 ^ s.e * 2 ^ (s.c + 1 + 1), s.c + 1 + 1 + (64 - s.t - s.e), s.t, s.e⟩
  else ⟨s.N + 1 * 2 ^ s.c + 1 * 2 ^ (s.c + 1) + xtop x * 2 ^ (s.c + 1 + 1) + (63 - xtop x - xend x) * 2 ^ (s.c + 1 + 1 + 5) + x / 2 ^ xend x * 2 ^ (s.c + 1 + 1 + 5 + 6),
      s.c + 1 + 1 + 5 + 6 + (64 - xtop x - xend x), xtop x, xend x⟩
/-- What a row of numbers makes. -/
def xrun (v : Nat → Nat) : Nat → XS
  | 0 => ⟨v 0, 64, 64, 0⟩
  | k + 1 => xstep (xrun v k) (v (k + 1) ^^^ v k)
/-- A window that may be taken. -/
def XS.ok (s : XS) : Prop := (s.t = 64 ∧ s.e = 0) ∨ (s.t ≤ 31 ∧ s.t + s.e ≤ 63)
theorem xstep_ok {s : XS} (h : s.ok) {x : Nat} (hx : x < 18446744073709551616) : (xstep s x).ok ∧ s.c + 1 ≤ (xstep s x).c ∧ (xstep s x).c ≤ s.c + 77 := by
  unfold xstep
  split
  · exact ⟨h, by simp, by simp⟩
  · rename_i h0
    have ht := xtop_le x
    have hw := xwin h0 hx ht.2 (Nat.le_refl _)
    split
    · rename_i h1
      rcases h with h | h
      · omega
      · refine ⟨.inr h, ?_, ?_⟩ <;> simp <;> omega
    · refine ⟨.inr ⟨ht.1, hw.1⟩, ?_, ?_⟩ <;> simp <;> omega
theorem xor_lt {a b : Nat} (ha : a < 18446744073709551616) (hb : b < 18446744073709551616) : a ^^^ b < 18446744073709551616 := Nat.xor_lt_two_pow (n := 64) ha hb
theorem xrun_ok (v : Nat → Nat) (n : Nat) (hv : ∀ i, i ≤ n → v i < 18446744073709551616) : ∀ k, k ≤ n → (xrun v k).ok ∧ 64 + k ≤ (xrun v k).c ∧ (xrun v k).c ≤ 64 + 77 * k
  | 0, _ => ⟨.inl ⟨rfl, rfl⟩, by simp [xrun], by simp [xrun]⟩
  | k + 1, hk => by
    obtain ⟨h1, h2, h3⟩ := xrun_ok v n hv k (by omega)
    obtain ⟨h4, h5, h6⟩ := xstep_ok h1 (xor_lt (hv (k + 1) hk) (hv k (by omega)))
    rw [xrun]
    exact ⟨h4, by omega, by omega⟩
theorem xrun_congr {v v' : Nat → Nat} : ∀ k, (∀ i, i ≤ k → v i = v' i) → xrun v k = xrun v' k
  | 0, h => by rw [xrun, xrun, h 0 (by omega)]
  | k + 1, h => by rw [xrun, xrun, xrun_congr k (fun i hi => h i (by omega)), h (k + 1) (by omega), h k (by omega)]
theorem xrun_const (f : Nat) : ∀ k, (xrun (fun _ => f) k).c = 64 + k
  | 0 => rfl
  | k + 1 => by
    rw [xrun, Nat.xor_self]
    unfold xstep
    rw [if_pos rfl]
    show (xrun (fun _ => f) k).c + 1 = _
    rw [xrun_const f k]
    omega
end Go.Proofs.YtejiboinkapkcaaDoor
