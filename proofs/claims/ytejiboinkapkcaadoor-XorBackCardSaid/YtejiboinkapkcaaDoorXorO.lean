/-
  XOR, THE ARITHMETIC: what a row of numbers makes is read back to the same numbers; cut short it is too short. No program's text, no condition.
-/
import Derived.Test.YtejiboinkapkcaaDoorXorI
namespace Go.Proofs.YtejiboinkapkcaaDoor
theorem pre_piece {M c k N u : Nat} (h : M % 2 ^ (c + k) = N + u * 2 ^ c) (hN : N < 2 ^ c) : M / 2 ^ c % 2 ^ k = u ∧ M % 2 ^ c = N := by
  have hp : 0 < 2 ^ c := Nat.pow_pos (by decide)
  constructor
  · rw [← Nat.mod_mul_right_div_self, ← Nat.pow_add, h, Nat.add_mul_div_right _ _ hp, Nat.div_eq_of_lt hN, Nat.zero_add]
  · have h1 : M % 2 ^ (c + k) % 2 ^ c = M % 2 ^ c := Nat.mod_mod_of_dvd _ (Nat.pow_dvd_pow 2 (by omega))
    rw [← h1, h, Nat.add_mul_mod_self_right, Nat.mod_eq_of_lt hN]
theorem put_lt {N c u k : Nat} (hN : N < 2 ^ c) (hu : u < 2 ^ k) : N + u * 2 ^ c < 2 ^ (c + k) := by
  have h1 : (u + 1) * 2 ^ c ≤ 2 ^ k * 2 ^ c := Nat.mul_le_mul_right _ hu
  rw [← Nat.pow_add, Nat.add_comm k c, Nat.add_mul] at h1
  omega
theorem mod_less {M N a L : Nat} (h : M % 2 ^ L = N % 2 ^ L) (ha : a ≤ L) : M % 2 ^ a = N % 2 ^ a := by
  have h1 := Nat.mod_mod_of_dvd M (Nat.pow_dvd_pow 2 ha)
  have h2 := Nat.mod_mod_of_dvd N (Nat.pow_dvd_pow 2 ha)
  rw [← h1, ← h2, h]
theorem piece_of {M N c k L : Nat} (h : M % 2 ^ L = N % 2 ^ L) (hl : c + k ≤ L) : M / 2 ^ c % 2 ^ k = N / 2 ^ c % 2 ^ k := by
  rw [← Nat.mod_mul_right_div_self, ← Nat.mod_mul_right_div_self, ← Nat.pow_add, mod_less h hl]
theorem xstep_lt {s : XS} (hN : s.N < 2 ^ s.c) {x : Nat} (hx : x < 18446744073709551616) : (xstep s x).N < 2 ^ (xstep s x).c := by
  unfold xstep
  split
  · exact put_lt hN (by decide)
  · rename_i h0
    have ht := xtop_le x
    have hw := xwin h0 hx ht.2 (Nat.le_refl _)
    have p1 : s.N + 1 * 2 ^ s.c < 2 ^ (s.c + 1) := put_lt hN (by decide)
    split
    · rename_i h1
      have hw2 := xwin (t := s.t) (e := s.e) h0 hx (by omega) h1.2
      exact put_lt (put_lt p1 (by decide)) hw2.2.1
    · exact put_lt (put_lt (put_lt (put_lt p1 (by decide)) (Nat.lt_of_le_of_lt ht.1 (by decide))) (show _ < 2 ^ 6 by have : (2 : Nat) ^ 6 = 64 := rfl; omega)) hw.2.1
theorem xrun_lt (v : Nat → Nat) (n : Nat) (hv : ∀ i, i ≤ n → v i < 18446744073709551616) : ∀ k, k ≤ n → (xrun v k).N < 2 ^ (xrun v k).c
  | 0, _ => hv 0 (by omega)
  | k + 1, hk => xstep_lt (xrun_lt v n hv k (by omega)) (xor_lt (hv (k + 1) hk) (hv k (by omega)))
/-- What one number's bits are followed by nothing else: the bits before stay. -/
theorem xstep_pre {s : XS} {x : Nat} (hN : s.N < 2 ^ s.c) : (xstep s x).N % 2 ^ s.c = s.N := by
  unfold xstep
  split
  · simp [Nat.mod_eq_of_lt hN]
  · split
    · show (s.N + 1 * 2 ^ s.c + 0 * 2 ^ (s.c + 1) + x / 2 ^ s.e * 2 ^ (s.c + 1 + 1)) % 2 ^ s.c = s.N
      rw [Nat.zero_mul, Nat.add_zero, show s.c + 1 + 1 = 2 + s.c by omega, Nat.pow_add 2 2, ← Nat.mul_assoc, Nat.add_assoc, ← Nat.add_mul, Nat.add_mul_mod_self_right, Nat.mod_eq_of_lt hN]
    · show (s.N + 1 * 2 ^ s.c + 1 * 2 ^ (s.c + 1) + xtop x * 2 ^ (s.c + 1 + 1) + (63 - xtop x - xend x) * 2 ^ (s.c + 1 + 1 + 5) + x / 2 ^ xend x * 2 ^ (s.c + 1 + 1 + 5 + 6)) % 2 ^ s.c = s.N
      rw [show s.c + 1 + 1 + 5 + 6 = 13 + s.c by omega, show s.c + 1 + 1 + 5 = 7 + s.c by omega, show s.c + 1 + 1 = 2 + s.c by omega, show s.c + 1 = 1 + s.c by omega, Nat.pow_add 2 13, Nat.pow_add 2 7, Nat.pow_add 2 2, Nat.pow_add 2 1, ← Nat.mul_assoc, ← Nat.mul_assoc, ← Nat.mul_assoc, ← Nat.mul_assoc, Nat.add_assoc, Nat.add_assoc, Nat.add_assoc, Nat.add_assoc, ← Nat.add_mul, ← Nat.add_mul, ← Nat.add_mul, ← Nat.add_mul, Nat.add_mul_mod_self_right, Nat.mod_eq_of_lt hN]
/-- The next number is read, whatever stands behind its bits. -/
theorem dnext_run {M B : Nat} {s : XS} (hN : s.N < 2 ^ s.c) {x : Nat} (hx : x < 18446744073709551616) (hB : (xstep s x).c ≤ B) (hM : M % 2 ^ (xstep s x).c = (xstep s x).N) : dnext M B ⟨s.c, s.t, s.e⟩ = (0, x, ⟨(xstep s x).c, (xstep s x).t, (xstep s x).e⟩) := by
  unfold xstep at hB hM ⊢
  unfold dnext
  split at hM
  · rename_i h0
    rw [if_pos h0] at hB ⊢
    dsimp only at hB hM ⊢
    obtain ⟨a1, _⟩ := pre_piece hM hN
    rw [if_neg (by omega), if_pos a1, h0]
  rename_i h0
  rw [if_neg h0] at hB ⊢
  have ht := xtop_le x
  have hw := xwin h0 hx ht.2 (Nat.le_refl _)
  have p1 : s.N + 1 * 2 ^ s.c < 2 ^ (s.c + 1) := put_lt hN (by decide)
  split at hM
  · rename_i h1
    rw [if_pos h1] at hB ⊢
    dsimp only at hB hM ⊢
    have hw2 := xwin (t := s.t) (e := s.e) h0 hx (by omega) h1.2
    have p2 : s.N + 1 * 2 ^ s.c + 0 * 2 ^ (s.c + 1) < 2 ^ (s.c + 1 + 1) := put_lt p1 (by decide)
    obtain ⟨a3, b3⟩ := pre_piece hM p2
    obtain ⟨a2, b2⟩ := pre_piece b3 p1
    obtain ⟨a1, _⟩ := pre_piece b2 hN
    rw [if_neg (by omega), if_neg (by rw [show (2 : Nat) = 2 ^ 1 from rfl] at a1 ⊢; omega), if_neg (by omega), if_pos a2]
    unfold dtail
    dsimp only
    rw [if_neg (by omega), if_neg (by omega), a3, hw2.2.2]
  · rename_i h1
    rw [if_neg h1] at hB ⊢
    dsimp only at hB hM ⊢
    have p2 : s.N + 1 * 2 ^ s.c + 1 * 2 ^ (s.c + 1) < 2 ^ (s.c + 1 + 1) := put_lt p1 (by decide)
    have p3 := put_lt (k := 5) p2 (show xtop x < 2 ^ 5 from Nat.lt_of_le_of_lt ht.1 (by decide))
    have p4 := put_lt (k := 6) p3 (show 63 - xtop x - xend x < 2 ^ 6 by have : (2 : Nat) ^ 6 = 64 := rfl; omega)
    obtain ⟨a5, b5⟩ := pre_piece hM p4
    obtain ⟨a4, b4⟩ := pre_piece b5 p3
    obtain ⟨a3, b3⟩ := pre_piece b4 p2
    obtain ⟨a2, b2⟩ := pre_piece b3 p1
    obtain ⟨a1, _⟩ := pre_piece b2 hN
    rw [Nat.pow_one] at a1 a2
    rw [if_neg (by omega), if_neg (by omega), if_neg (by omega), if_neg (by omega), if_neg (by omega), a3, a4, if_neg (by omega)]
    unfold dtail
    dsimp only
    rw [show 64 - xtop x - (63 - xtop x - xend x + 1) = xend x by omega, if_neg (by omega), if_neg (by omega), a5, hw.2.2]
/-- Cut within a number's bits it is too short. -/
theorem dnext_short {M B : Nat} {s : XS} (hN : s.N < 2 ^ s.c) {x : Nat} (hx : x < 18446744073709551616) (hB : B < (xstep s x).c) (hM : M % 2 ^ B = (xstep s x).N % 2 ^ B) : (dnext M B ⟨s.c, s.t, s.e⟩).1 = 1 := by
  have hL := xstep_lt hN hx
  have hF : (xstep s x).N % 2 ^ (xstep s x).c = (xstep s x).N := Nat.mod_eq_of_lt hL
  unfold dnext
  dsimp only
  by_cases d1 : B < s.c + 1
  · rw [if_pos d1]
  rw [if_neg d1]
  have q1 := piece_of (c := s.c) (k := 1) hM (by omega)
  generalize hN' : (xstep s x).N = N' at *
  unfold xstep at hB hF hN'
  split at hF
  · rename_i h0
    rw [if_pos h0] at hB
    dsimp only at hB
    omega
  rename_i h0
  rw [if_neg h0] at hB hN'
  have ht := xtop_le x
  have hw := xwin h0 hx ht.2 (Nat.le_refl _)
  have p1 : s.N + 1 * 2 ^ s.c < 2 ^ (s.c + 1) := put_lt hN (by decide)
  split at hF
  · rename_i h1
    rw [if_pos h1] at hB hN'
    dsimp only at hB hF hN'
    have hw2 := xwin (t := s.t) (e := s.e) h0 hx (by omega) h1.2
    have p2 : s.N + 1 * 2 ^ s.c + 0 * 2 ^ (s.c + 1) < 2 ^ (s.c + 1 + 1) := put_lt p1 (by decide)
    rw [← hN'] at hF
    obtain ⟨a3, b3⟩ := pre_piece hF p2
    obtain ⟨a2, b2⟩ := pre_piece b3 p1
    obtain ⟨a1, _⟩ := pre_piece b2 hN
    rw [hN'] at a1 a2 a3
    rw [a1, Nat.pow_one] at q1
    rw [if_neg (by omega)]
    by_cases d2 : B < s.c + 1 + 1
    · rw [if_pos d2]
    have q2 := piece_of (c := s.c + 1) (k := 1) hM (by omega)
    rw [a2, Nat.pow_one] at q2
    rw [if_neg d2, if_pos q2]
    unfold dtail
    dsimp only
    rw [if_neg (by omega), if_pos (by omega)]
  · rename_i h1
    rw [if_neg h1] at hB hN'
    dsimp only at hB hF hN'
    have p2 : s.N + 1 * 2 ^ s.c + 1 * 2 ^ (s.c + 1) < 2 ^ (s.c + 1 + 1) := put_lt p1 (by decide)
    have p3 := put_lt (k := 5) p2 (show xtop x < 2 ^ 5 from Nat.lt_of_le_of_lt ht.1 (by decide))
    have p4 := put_lt (k := 6) p3 (show 63 - xtop x - xend x < 2 ^ 6 by have : (2 : Nat) ^ 6 = 64 := rfl; omega)
    rw [← hN'] at hF
    obtain ⟨a5, b5⟩ := pre_piece hF p4
    obtain ⟨a4, b4⟩ := pre_piece b5 p3
    obtain ⟨a3, b3⟩ := pre_piece b4 p2
    obtain ⟨a2, b2⟩ := pre_piece b3 p1
    obtain ⟨a1, _⟩ := pre_piece b2 hN
    rw [hN'] at a1 a2 a3 a4 a5
    rw [a1, Nat.pow_one] at q1
    rw [if_neg (by omega)]
    by_cases d2 : B < s.c + 1 + 1
    · rw [if_pos d2]
    have q2 := piece_of (c := s.c + 1) (k := 1) hM (by omega)
    rw [a2, Nat.pow_one] at q2
    rw [if_neg d2, if_neg (by omega)]
    by_cases d3 : B < s.c + 1 + 1 + 5 + 6
    · rw [if_pos d3]
    have q3 := piece_of (c := s.c + 1 + 1) (k := 5) hM (by omega)
    have q4 := piece_of (c := s.c + 1 + 1 + 5) (k := 6) hM (by omega)
    rw [a3] at q3
    rw [a4] at q4
    rw [if_neg d3, q3, q4, if_neg (by omega)]
    unfold dtail
    dsimp only
    rw [show 64 - xtop x - (63 - xtop x - xend x + 1) = xend x by omega, if_neg (by omega), if_pos (by omega)]
/-- All of a row is read back, from bits that begin with what it made. -/
theorem drun_run (v : Nat → Nat) (n : Nat) (hv : ∀ i, i ≤ n → v i < 18446744073709551616) {M B : Nat} : ∀ k, k ≤ n → (xrun v k).c ≤ B → M % 2 ^ (xrun v k).c = (xrun v k).N → drun M B k = ⟨0, ⟨(xrun v k).c, (xrun v k).t, (xrun v k).e⟩, v k, (List.range (k + 1)).map v⟩
  | 0, _, _, hM => by
    have h1 : M % 2 ^ 64 = v 0 := hM
    rw [drun, Nat.pow_zero, Nat.div_one, h1]
    rfl
  | k + 1, hk, hB, hM => by
    have hx := xor_lt (hv (k + 1) hk) (hv k (by omega))
    have hN := xrun_lt v n hv k (by omega)
    rw [xrun] at hB hM
    have h1 := dnext_run hN hx hB hM
    have hc : (xrun v k).c ≤ (xstep (xrun v k) (v (k + 1) ^^^ v k)).c := by
      have := (xstep_ok (xrun_ok v n hv k (by omega)).1 hx).2.1
      omega
    have h2 : M % 2 ^ (xrun v k).c = (xrun v k).N := by
      have h3 := Nat.mod_mod_of_dvd M (Nat.pow_dvd_pow 2 hc)
      rw [← h3, hM, xstep_pre hN]
    have ih := drun_run v n hv (M := M) (B := B) k (by omega) (by omega) h2
    rw [drun_step (by rw [ih]) (by rw [ih, h1]), ih]
    dsimp only
    rw [h1]
    dsimp only
    rw [show v k ^^^ (v (k + 1) ^^^ v k) = v (k + 1) by rw [Nat.xor_comm (v (k + 1)), ← Nat.xor_assoc, Nat.xor_self, Nat.zero_xor], List.range_succ (n := k + 1), List.map_append]
    rfl
/-- Bits that are cut short. -/
theorem drun_short (v : Nat → Nat) (n : Nat) (hv : ∀ i, i ≤ n → v i < 18446744073709551616) {M B : Nat} (hB64 : 64 ≤ B) : ∀ k, k ≤ n → B < (xrun v k).c → M % 2 ^ B = (xrun v k).N % 2 ^ B → (drun M B k).er = 1
  | 0, _, hB, _ => by
    have : (xrun v 0).c = 64 := rfl
    omega
  | k + 1, hk, hB, hM => by
    have hx := xor_lt (hv (k + 1) hk) (hv k (by omega))
    have hN := xrun_lt v n hv k (by omega)
    rw [xrun] at hB hM
    have hP := xstep_pre (x := v (k + 1) ^^^ v k) hN
    by_cases hc : (xrun v k).c ≤ B
    · have h2 : M % 2 ^ (xrun v k).c = (xrun v k).N := by rw [mod_less hM hc, hP]
      have ih := drun_run v n hv (M := M) (B := B) k (by omega) hc h2
      have h1 := dnext_short hN hx hB hM
      have h3 := drun_fail (M := M) (B := B) (k := k) (by rw [ih]) (by rw [ih, h1]; decide) 0
      rw [ih, h1] at h3
      exact h3
    · have h4 : M % 2 ^ B = (xrun v k).N % 2 ^ B := by
        rw [hM, ← hP, Nat.mod_mod_of_dvd _ (Nat.pow_dvd_pow 2 (by omega))]
      have ih := drun_short v n hv hB64 k (by omega) (by omega) h4
      have h5 := drun_stop (k := k) (M := M) (B := B) (by rw [ih]; decide) 1
      rw [h5, ih]
/-- What so many bytes are worth: just those, a byte less, a byte more. -/
theorem derr_ok (v : Nat → Nat) (n : Nat) (hv : ∀ i, i ≤ n → v i < 18446744073709551616) {B : Nat} (hB : (xrun v n).c ≤ B) (hB8 : B < (xrun v n).c + 8) : derr (xrun v n).N B (n + 1) = 0 ∧ (drun (xrun v n).N B n).xs = (List.range (n + 1)).map v := by
  have hN := xrun_lt v n hv n (Nat.le_refl _)
  have hc := (xrun_ok v n hv n (Nat.le_refl _)).2.1
  have h1 := drun_run v n hv (M := (xrun v n).N) (B := B) n (Nat.le_refl _) hB (Nat.mod_eq_of_lt hN)
  unfold derr
  rw [Nat.add_sub_cancel, h1]
  dsimp only
  rw [if_neg (by omega), if_neg (by decide), if_neg (by omega), Nat.div_eq_of_lt hN, Nat.zero_mod]
  exact ⟨rfl, rfl⟩
theorem derr_long (v : Nat → Nat) (n : Nat) (hv : ∀ i, i ≤ n → v i < 18446744073709551616) {B : Nat} (hB : (xrun v n).c + 8 ≤ B) : derr (xrun v n).N B (n + 1) = 2 := by
  have hN := xrun_lt v n hv n (Nat.le_refl _)
  have h1 := drun_run v n hv (M := (xrun v n).N) (B := B) n (Nat.le_refl _) (by omega) (Nat.mod_eq_of_lt hN)
  have hc := (xrun_ok v n hv n (Nat.le_refl _)).2.1
  unfold derr
  rw [Nat.add_sub_cancel, h1]
  dsimp only
  rw [if_neg (by omega), if_neg (by decide), if_pos (by omega)]
theorem derr_short (v : Nat → Nat) (n : Nat) (hv : ∀ i, i ≤ n → v i < 18446744073709551616) {M B : Nat} (hB : B < (xrun v n).c) (hM : M % 2 ^ B = (xrun v n).N % 2 ^ B) : derr M B (n + 1) = 1 := by
  unfold derr
  by_cases h : B < 64
  · rw [if_pos h]
  · have h1 := drun_short v n hv (M := M) (by omega) n (Nat.le_refl _) hB hM
    rw [if_neg h, Nat.add_sub_cancel, h1, if_pos (by decide)]
end Go.Proofs.YtejiboinkapkcaaDoor
