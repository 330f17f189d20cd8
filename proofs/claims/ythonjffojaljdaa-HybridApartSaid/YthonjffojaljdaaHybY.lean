/-
  HYBRID: WHAT IS ENCODED IS DECODED AS IT WAS; cut by a byte it is too short (arithmetic, no walk). Conditions: numbers of 64 bits.
-/
import Derived.Test.YthonjffojaljdaaHybM2
import Derived.Test.YthonjffojaljdaaHybI
import Derived.Test.YthonjffojaljdaaHybM12
namespace Go.Proofs.Ythonjffojaljdaa
open Go.RowKit
set_option linter.unusedVariables false
theorem pow128h : (128 : Nat) ^ 10 = 1180591620717411303424 := by decide
/-- A number of short bytes is told as it was. -/
theorem nx_digsh (z : Nat → Int) (p nb u : Nat) (hu : u < 18446744073709551616) (hnb : p + (digs 9 u).length ≤ nb) (hz : ∀ j, j < (digs 9 u).length → z (p + j) = (digs 9 u).getD j 0) :
    nx z p nb = ((u : Int), (((digs 9 u).length : Nat) : Int), (0 : Int)) ∧ seen z p nb + 1 = (digs 9 u).length := by
  obtain ⟨m, hl, hm, hb, h0, h1, hne, hv⟩ := digs_told 9 u (by rw [pow128h]; omega)
  rw [hl] at hnb hz ⊢
  have hL : IsLast (fun i => z (p + i)) (min (nb - p) 10) m := ⟨by omega, fun i hi => by
    show ¬ z (p + i) < 128
    rw [hz i (by omega)]; have := (hb i hi).1; omega, fun _ => by show z (p + m) < 128; rw [hz m (by omega)]; exact h1⟩
  have hs : seen z p nb = m := (last_eq hL).symm
  have ht : ∀ i, i < m + 1 → zt z p nb i = (digs 9 u).getD i 0 := fun i hi => by
    unfold zt
    rw [if_pos (by omega), hz i hi]
  have hvv : vals (zt z p nb) (m + 1) = u := by
    rw [vals_congr (zt z p nb) (fun i => (digs 9 u).getD i 0) (m + 1) ht]; exact hv
  refine ⟨?_, by rw [hs]⟩
  unfold nx got
  rw [hs, if_neg (by omega), if_neg, if_neg, hvv]
  · rintro ⟨g1, g2⟩
    rw [ht m (by omega)] at g2
    exact hne g1 g2
  · rintro ⟨g1, g2⟩
    subst g1
    rw [ht 9 (by omega)] at g2
    obtain ⟨N, e, hN⟩ := vals_bd (fun i => (digs 9 u).getD i 0) 9
    have e10 : vals (fun i => (digs 9 u).getD i 0) 10 = vals (fun i => (digs 9 u).getD i 0) 9 + (digs 9 u).getD 9 0 % 128 * 128 ^ 9 := rfl
    have q9 : (128 : Int) ^ 9 = 9223372036854775808 := by decide
    rw [q9] at e10
    rw [show (9 : Nat) + 1 = 10 from rfl] at hv
    omega
/-- Cut by a byte it is too short. -/
theorem nx_cuth (z : Nat → Int) (p nb u : Nat) (hu : u < 18446744073709551616) (hnb : nb + 1 = p + (digs 9 u).length) (hz : ∀ j, j + 1 < (digs 9 u).length → z (p + j) = (digs 9 u).getD j 0) :
    (nx z p nb).2.2 = 1 := by
  obtain ⟨m, hl, hm, hb, h0, h1, hne, hv⟩ := digs_told 9 u (by rw [pow128h]; omega)
  rw [hl] at hnb hz
  have hL : IsLast (fun i => z (p + i)) (min (nb - p) 10) m := ⟨by omega, fun i hi => by
    show ¬ z (p + i) < 128
    rw [hz i (by omega)]; have := (hb i hi).1; omega, fun h => by omega⟩
  have hs : seen z p nb = m := (last_eq hL).symm
  unfold nx got
  rw [hs, if_pos (by omega), if_pos (by omega)]
theorem unN_back (k : Nat) (l : Nat → Nat) : ∀ n, (∀ i, i < n → l i < 2 ^ k) → ∀ i, i < n → unN k (packN k l n) i = l i
  | 0, _, i, hi => by omega
  | n + 1, h, i, hi => by
    have hlt := packN_lt k l n (fun i hi => h i (by omega))
    unfold unN
    simp only [packN]
    by_cases e : i = n
    · subst e
      rw [Nat.add_mul_div_right _ _ (Nat.pow_pos (by decide)), Nat.div_eq_of_lt hlt, Nat.zero_add, Nat.mod_eq_of_lt (h i (by omega))]
    · have hi' : i < n := by omega
      have ih := unN_back k l n (fun i hi => h i (by omega)) i hi'
      unfold unN at ih
      obtain ⟨d, hd⟩ : ∃ d, n = i + 1 + d := ⟨n - i - 1, by omega⟩
      have e2 : l n * 2 ^ (n * k) = 2 ^ k * (l n * 2 ^ (d * k)) * 2 ^ (i * k) := by
        have : 2 ^ (n * k) = 2 ^ (i * k) * (2 ^ k * 2 ^ (d * k)) := by
          rw [← Nat.pow_add, ← Nat.pow_add]
          congr 1
          rw [hd]; grind
        rw [this]; ac_rfl
      rw [e2, Nat.add_mul_div_right _ _ (Nat.pow_pos (by decide)), Nat.add_mul_mod_self_left, ih]
/-- A packed run stops at a whole group, or where the block ends. -/
theorem pkF_whole (z : Nat → Nat) (m : Nat) : ∀ k t, (t = m ∨ ∃ g, t = 8 * g) → pkF z m t k = m ∨ ∃ g, pkF z m t k = 8 * g
  | 0, t, h => h
  | k + 1, t, h => by
    unfold pkF
    by_cases c : t < m ∧ al (fun i => z (t + i)) (m - t) < 8
    · rw [if_pos c]
      refine pkF_whole z m k _ ?_
      rcases h with h | ⟨g, h⟩
      · omega
      · rcases Nat.lt_or_ge m (t + 8) with h1 | h1
        · exact .inl (by omega)
        · exact .inr ⟨g + 1, by omega⟩
    · rw [if_neg c]; exact h
/-- What is known of a run of a block. -/
def Shape (z : Nat → Nat) (n : Nat) (r : Bool × Nat × Nat) : Prop :=
  1 ≤ r.2.2 ∧ r.2.1 + r.2.2 ≤ n ∧ (r.1 = true → ∀ i, i < r.2.2 → z (r.2.1 + i) = z r.2.1) ∧ (r.1 = false → r.2.2 = n - r.2.1 ∨ ∃ g, r.2.2 = 8 * g)
theorem fst1_shape (z : Nat → Nat) (n p : Nat) (hp : p < n) : Shape z n ((fst1 (fun i => z (p + i)) (n - p)).1, p, (fst1 (fun i => z (p + i)) (n - p)).2) := by
  have h1 := fst1_le (fun i => z (p + i)) (n - p) (by omega)
  refine ⟨h1.1, by have := h1.2; show p + (fst1 (fun i => z (p + i)) (n - p)).2 ≤ n; omega, fun ht i hi => ?_, fun hf => ?_⟩
  · dsimp only at ht hi ⊢
    unfold fst1 at ht hi
    by_cases h8 : 8 ≤ al (fun i => z (p + i)) (n - p)
    · rw [if_pos h8] at hi
      have := (al_spec (fun i => z (p + i)) (n - p)).2.1 i hi
      rw [Nat.add_zero] at this
      exact this
    · rw [if_neg h8] at ht; cases ht
  · dsimp only at hf ⊢
    unfold fst1 at hf ⊢
    by_cases h8 : 8 ≤ al (fun i => z (p + i)) (n - p)
    · rw [if_pos h8] at hf; cases hf
    · rw [if_neg h8]
      exact pkF_whole _ _ _ _ (by
        rcases Nat.lt_or_ge (n - p) 8 with h | h
        · exact .inl (by omega)
        · exact .inr ⟨1, by omega⟩)
/-- A run of bytes that lie from a place on is read to its numbers; cut by a byte it is too short. -/
theorem rd1_told (zz : Nat → Nat) (n q : Nat) (z : Nat → Int) (nb P : Nat) (r : Bool × Nat × Nat) (hn : n ≤ 1024) (hq : q ≤ 64) (hzq : ∀ i, i < n → zz i < 2 ^ q) (hr : Shape zz n r)
    (hnb : P + (digs 9 (hd1 r)).length + bs1 q r ≤ nb) (hz1 : ∀ j, j < (digs 9 (hd1 r)).length → z (P + j) = (digs 9 (hd1 r)).getD j 0)
    (hz2 : ∀ j, j < bs1 q r → z (P + (digs 9 (hd1 r)).length + j) = (bd1 zz q r).getD j 0) :
    rd1 z nb q P (n - r.2.1) = (0, P + (digs 9 (hd1 r)).length + bs1 q r, (List.range r.2.2).map fun i => zz (r.2.1 + i)) := by
  obtain ⟨one, p, len⟩ := r
  obtain ⟨h1, h2, h3, h4⟩ := hr
  dsimp only at h1 h2 h3 h4 ⊢
  have hhd : hd1 (one, p, len) ≤ 2048 := hd1_le _ (by dsimp only; omega)
  obtain ⟨hn1, hn2⟩ := nx_digsh z P nb (hd1 (one, p, len)) (by omega) (by omega) hz1
  unfold rd1
  rw [hn1, if_pos rfl, hn2, Int.toNat_natCast]
  generalize (digs 9 (hd1 (one, p, len))).length = dl at *
  cases one
  · have hg8 : 8 * grp len = 8 * grp len := rfl
    have hgl : len ≤ 8 * grp len ∧ 8 * grp len ≤ len + 7 ∧ 1 ≤ grp len := by unfold grp; omega
    have e1 : hd1 (false, p, len) = 2 * grp len + 1 := rfl
    have e2 : bs1 q (false, p, len) = grp len * q := by show need (8 * grp len) q = _; exact need8c _ _
    have e3 : bd1 zz q (false, p, len) = bytesOf (need (8 * grp len) q) (packN q (full zz (false, p, len)) (8 * grp len)) := rfl
    rw [e3] at hz2
    rw [e2] at hz2 hnb ⊢
    rw [e1]
    have hfull : ∀ i, i < 8 * grp len → full zz (false, p, len) i < 2 ^ q := fun i hi => by
      show (if i < len then zz (p + i) else 0) < 2 ^ q
      by_cases c : i < len
      · rw [if_pos c]; exact hzq _ (by omega)
      · rw [if_neg c]; exact Nat.pow_pos (by decide)
    have hpl := packN_lt q (full zz (false, p, len)) (8 * grp len) hfull
    have hM : num (fun i => z (P + dl + i)) (grp len * q) = packN q (full zz (false, p, len)) (8 * grp len) := by
      rw [num_of (packN q (full zz (false, p, len)) (8 * grp len)) _ _ (fun i hi => by
        show z (P + dl + i) = _
        rw [hz2 i hi, need8c, List.getD_eq_getElem?_getD, bytesOf_get _ _ _ hi]; rfl)]
      refine Nat.mod_eq_of_lt ?_
      have e8 : (256 : Nat) ^ (grp len * q) = 2 ^ (8 * grp len * q) := by rw [Nat.mul_assoc]; exact (Nat.pow_mul 2 8 _).symm
      rw [e8]; exact hpl
    unfold rd2
    rw [show (2 * grp len + 1) / 2 = grp len by omega, if_neg (by omega), if_neg (by omega), if_neg (by unfold grp at *; omega), if_neg (by omega), hM]
    have hun : ∀ i, i < 8 * grp len → unN q (packN q (full zz (false, p, len)) (8 * grp len)) i = full zz (false, p, len) i := fun i hi => unN_back q _ _ hfull i hi
    rw [if_pos ((all_iff _ _ _).2 fun i hi hl => by
      rw [hun i hi]
      show (if i < len then zz (p + i) else 0) = 0
      rw [if_neg (by omega)])]
    have hmin : min (8 * grp len) (n - p) = len := by
      rcases h4 rfl with h | ⟨g, h⟩
      · omega
      · have : grp len = g := by unfold grp; omega
        omega
    rw [hmin]
    congr 2
    refine List.map_congr_left fun i hi => ?_
    have hi := List.mem_range.1 hi
    rw [hun i (by omega)]
    exact if_pos hi
  · have e1 : hd1 (true, p, len) = 2 * len := rfl
    have e2 : bs1 q (true, p, len) = need 1 q := rfl
    have e3 : bd1 zz q (true, p, len) = bytesOf (need 1 q) (zz p) := rfl
    rw [e3] at hz2
    rw [e2] at hz2 hnb ⊢
    rw [e1]
    have hzp : zz p < 2 ^ q := hzq p (by omega)
    have hM : num (fun i => z (P + dl + i)) (need 1 q) = zz p := by
      rw [num_of (zz p) _ _ (fun i hi => by
        show z (P + dl + i) = _
        rw [hz2 i hi, List.getD_eq_getElem?_getD, bytesOf_get _ _ _ hi]; rfl)]
      refine Nat.mod_eq_of_lt (Nat.lt_of_lt_of_le hzp ?_)
      have e8 : (256 : Nat) ^ need 1 q = 2 ^ (8 * need 1 q) := (Nat.pow_mul 2 8 _).symm
      rw [e8]
      exact Nat.pow_le_pow_right (by decide) (by unfold need; omega)
    unfold rd2
    rw [show 2 * len / 2 = len by omega, if_neg (by omega), if_pos (by omega), if_neg (by omega), if_neg (by omega), hM, if_pos hzp]
    congr 2
    apply List.ext_getElem?
    intro i
    rw [List.getElem?_replicate, List.getElem?_map]
    by_cases hi : i < len
    · rw [if_pos hi, List.getElem?_range hi]
      exact congrArg some (h3 rfl i hi).symm
    · rw [if_neg hi, List.getElem?_eq_none (by rw [List.length_range]; omega)]; rfl
theorem rd1_cut (zz : Nat → Nat) (n q : Nat) (z : Nat → Int) (nb P : Nat) (r : Bool × Nat × Nat) (hn : n ≤ 1024) (hr : Shape zz n r)
    (hnb : nb + 1 = P + (digs 9 (hd1 r)).length + bs1 q r) (hz1 : ∀ j, P + j < nb → j < (digs 9 (hd1 r)).length → z (P + j) = (digs 9 (hd1 r)).getD j 0) :
    (rd1 z nb q P (n - r.2.1)).1 = 1 := by
  obtain ⟨one, p, len⟩ := r
  obtain ⟨h1, h2, h3, h4⟩ := hr
  dsimp only at h1 h2 h3 h4 ⊢
  have hhd : hd1 (one, p, len) ≤ 2048 := hd1_le _ (by dsimp only; omega)
  unfold rd1
  rcases Nat.eq_zero_or_pos (bs1 q (one, p, len)) with h0 | h0
  · have hc := nx_cuth z P nb (hd1 (one, p, len)) (by omega) (by omega) (fun j hj => hz1 j (by omega) (by omega))
    rw [if_neg (by rw [hc]; decide)]
    exact hc
  · obtain ⟨hn1, hn2⟩ := nx_digsh z P nb (hd1 (one, p, len)) (by omega) (by omega) (fun j hj => hz1 j (by omega) hj)
    rw [hn1, if_pos rfl, hn2, Int.toNat_natCast]
    generalize (digs 9 (hd1 (one, p, len))).length = dl at *
    cases one
    · have hgl : 1 ≤ grp len := by unfold grp; omega
      have e1 : hd1 (false, p, len) = 2 * grp len + 1 := rfl
      have e2 : bs1 q (false, p, len) = grp len * q := by show need (8 * grp len) q = _; exact need8c _ _
      rw [e2] at hnb h0
      rw [e1]
      unfold rd2
      rw [show (2 * grp len + 1) / 2 = grp len by omega, if_neg (by omega), if_neg (by omega), if_neg (by unfold grp at *; omega), if_pos (by omega)]
    · have e1 : hd1 (true, p, len) = 2 * len := rfl
      have e2 : bs1 q (true, p, len) = need 1 q := rfl
      rw [e2] at hnb h0
      rw [e1]
      unfold rd2
      rw [show 2 * len / 2 = len by omega, if_neg (by omega), if_pos (by omega), if_neg (by omega), if_pos (by omega)]
/-- Runs that follow one another from a place on. -/
def Chain (zz : Nat → Nat) (n : Nat) : Nat → List (Bool × Nat × Nat) → Prop
  | _, [] => True
  | p, r :: l => r.2.1 = p ∧ Shape zz n r ∧ Chain zz n (p + r.2.2) l
def lenS : List (Bool × Nat × Nat) → Nat
  | [] => 0
  | r :: l => r.2.2 + lenS l
theorem runsF_chain (zz : Nat → Nat) (n : Nat) : ∀ k p, n ≤ p + k → p ≤ n → Chain zz n p (runsF zz n p k) ∧ p + lenS (runsF zz n p k) = n
  | 0, p, h, hp => ⟨trivial, by show p + 0 = n; omega⟩
  | k + 1, p, h, hp => by
    unfold runsF
    by_cases c : p < n
    · rw [if_pos c]
      have h1 := fst1_le (fun i => zz (p + i)) (n - p) (by omega)
      have ih := runsF_chain zz n k (p + (fst1 (fun i => zz (p + i)) (n - p)).2) (by omega) (by omega)
      exact ⟨⟨rfl, fst1_shape zz n p c, ih.1⟩, by have := ih.2; show p + ((fst1 (fun i => zz (p + i)) (n - p)).2 + lenS (runsF zz n (p + (fst1 (fun i => zz (p + i)) (n - p)).2) k)) = n; omega⟩
    · rw [if_neg c]; exact ⟨trivial, by show p + 0 = n; omega⟩
theorem Chain.snoc {zz : Nat → Nat} {n : Nat} {r : Bool × Nat × Nat} : ∀ {l : List (Bool × Nat × Nat)} {p : Nat}, Chain zz n p (l ++ [r]) → Chain zz n p l ∧ r.2.1 = p + lenS l ∧ Shape zz n r
  | [], p, h => ⟨trivial, h.1, h.2.1⟩
  | y :: l, p, h => by
    have ih := Chain.snoc (l := l) h.2.2
    exact ⟨⟨h.1, h.2.1, ih.1⟩, by rw [ih.2.1]; show p + y.2.2 + lenS l = p + (y.2.2 + lenS l); omega, ih.2.2⟩
theorem hrun_mid (zz : Nat → Nat) (n q : Nat) (z : Nat → Int) (nb : Nat) (hn : n ≤ 1024) (hq : q ≤ 64) (hzq : ∀ i, i < n → zz i < 2 ^ q) : ∀ (l : List (Bool × Nat × Nat)) (p P k0 : Nat), (∀ r, r ∈ l → clr zz n r = r) → Chain zz n p l →
    hrun z nb n q 1 k0 = (0, P, (List.range p).map zz) → P + hW zz n q l ≤ nb → (∀ j, j < hW zz n q l → z (P + j) = (hB zz n q l).getD j 0) →
    hrun z nb n q 1 (k0 + l.length) = (0, P + hW zz n q l, (List.range (p + lenS l)).map zz)
  | [], p, P, k0, _, _, h0, _, _ => h0
  | r :: l, p, P, k0, hc, hch, h0, hnb, hz => by
    obtain ⟨hp, hr, hch2⟩ := hch
    subst hp
    have hcr := hc r List.mem_cons_self
    have hw : hW zz n q (r :: l) = (digs 9 (hd1 r)).length + bs1 q r + hW zz n q l := by rw [hW, hcr]
    have hb : hB zz n q (r :: l) = digs 9 (hd1 r) ++ bd1 zz q r ++ hB zz n q l := by rw [hB, hcr]
    have hbl := bd1_length zz q r
    rw [hw] at hnb hz ⊢
    rw [hb] at hz
    have hrd := rd1_told zz n q z nb P r hn hq hzq hr (by omega) (fun j hj => by
      rw [hz j (by omega), List.append_assoc, List.getD_eq_getElem?_getD, List.getElem?_append_left hj, ← List.getD_eq_getElem?_getD]) (fun j hj => by
      rw [Nat.add_assoc, hz _ (by omega), List.append_assoc, List.getD_eq_getElem?_getD, List.getElem?_append_right (by omega), Nat.add_sub_cancel_left, List.getElem?_append_left (by omega), ← List.getD_eq_getElem?_getD])
    have hlt : r.2.1 < n := by have := hr.1; have := hr.2.1; omega
    have hlen : (hrun z nb n q 1 k0).2.2.length = r.2.1 := by rw [h0]; simp
    have hst := hrun_step (z := z) (nb := nb) (n := n) (q := q) (p0 := 1) (k := k0) (by rw [h0]) (by omega) (by rw [hlen, h0, hrd])
    rw [hlen, h0, hrd] at hst
    have e2 : (List.range r.2.1).map zz ++ ((List.range r.2.2).map fun i => zz (r.2.1 + i)) = (List.range (r.2.1 + r.2.2)).map zz := by
      rw [List.range_add, List.map_append, List.map_map]; rfl
    dsimp only at hst
    rw [e2] at hst
    have ih := hrun_mid zz n q z nb hn hq hzq l (r.2.1 + r.2.2) (P + (digs 9 (hd1 r)).length + bs1 q r) (k0 + 1) (fun y hy => hc y (List.mem_cons_of_mem _ hy)) hch2 hst (by omega) (fun j hj => by
      rw [show P + (digs 9 (hd1 r)).length + bs1 q r + j = P + ((digs 9 (hd1 r)).length + bs1 q r + j) by omega, hz _ (by omega), List.getD_eq_getElem?_getD, List.getElem?_append_right (by rw [List.length_append]; omega), List.length_append, hbl, Nat.add_sub_cancel_left, ← List.getD_eq_getElem?_getD])
    rw [show k0 + (r :: l).length = k0 + 1 + l.length by rw [List.length_cons]; omega, ih]
    congr 2
    · omega
    · show (List.range (r.2.1 + r.2.2 + lenS l)).map zz = (List.range (r.2.1 + (r.2.2 + lenS l))).map zz
      rw [Nat.add_assoc]
theorem hln_eq (x : Nat → Int) (n : Nat) : hln x n = 1 + hW (hz x) n (hq x n) (runsN (hz x) n) := by
  unfold hln hfm
  rw [List.length_append, hB_length]; rfl
/-- WHAT IS ENCODED IS DECODED AS IT WAS, whatever stands behind it. -/
theorem hres_told (x : Nat → Int) (n : Nat) (z : Nat → Int) (nb : Nat) (hn1 : 1 ≤ n) (hn : n ≤ 1024) (hx : ∀ i, i < n → -9223372036854775808 ≤ x i ∧ x i ≤ 9223372036854775807) (hnb : hln x n ≤ nb) (hz0 : ∀ i, i < hln x n → z i = (hfm x n).getD i 0) :
    hres z nb n = (0, hln x n, (List.range n).map x) := by
  have hq64 : hq x n ≤ 64 := most_le (hz x) n
  have hzl : ∀ i, i < n → hz x i < 18446744073709551616 := fun i hi => hz_lt x i (hx i hi)
  have hzq : ∀ i, i < n → hz x i < 2 ^ hq x n := hmost_pow (hz x) n hzl
  have he := hln_eq x n
  have h0 : z 0 = (hq x n : Int) := by rw [hz0 0 (by omega)]; rfl
  unfold hres
  rw [if_neg (by omega), h0, Int.toNat_natCast, if_neg (by omega)]
  have hch := runsF_chain (hz x) n n 0 (by omega) (by omega)
  have hm := hrun_mid (hz x) n (hq x n) z nb hn hq64 hzq (runsN (hz x) n) 0 1 0 (fun r hr => clr_eq _ _ _ hr) hch.1 rfl (by omega) (fun j hj => by
    rw [hz0 _ (by omega)]
    show ([(hq x n : Int)] ++ hB (hz x) n (hq x n) (runsN (hz x) n)).getD (1 + j) 0 = _
    rw [List.getD_eq_getElem?_getD, List.getElem?_append_right (by simp), List.length_singleton, Nat.add_sub_cancel_left, ← List.getD_eq_getElem?_getD])
  have hl : 0 + lenS (runsN (hz x) n) = n := hch.2
  rw [hl, Nat.zero_add] at hm
  have hrl := runsF_len (hz x) n n 0
  have hs := hrun_stop (z := z) (nb := nb) (n := n) (q := hq x n) (p0 := 1) (k := (runsN (hz x) n).length) (fun h => by rw [hm] at h; simp at h) (n - (runsN (hz x) n).length)
  rw [show (runsN (hz x) n).length + (n - (runsN (hz x) n).length) = n by unfold runsN at *; omega, hm] at hs
  rw [hs, ← he]
  dsimp only
  rw [List.map_map]
  congr 2
  refine List.map_congr_left fun i hi => ?_
  show zag (hz x i : Nat) = x i
  rw [← hz_int, zag_zg]
/-- Cut by a byte it is too short. -/
theorem hres_cut (x : Nat → Int) (n : Nat) (z : Nat → Int) (hn1 : 1 ≤ n) (hn : n ≤ 1024) (hx : ∀ i, i < n → -9223372036854775808 ≤ x i ∧ x i ≤ 9223372036854775807) (hz0 : ∀ i, i < hln x n - 1 → z i = (hfm x n).getD i 0) :
    (hres z (hln x n - 1) n).1 = 1 := by
  have hq64 : hq x n ≤ 64 := most_le (hz x) n
  have hzl : ∀ i, i < n → hz x i < 18446744073709551616 := fun i hi => hz_lt x i (hx i hi)
  have hzq : ∀ i, i < n → hz x i < 2 ^ hq x n := hmost_pow (hz x) n hzl
  have he := hln_eq x n
  have hch := runsF_chain (hz x) n n 0 (by omega) (by omega)
  have hl : 0 + lenS (runsN (hz x) n) = n := hch.2
  rcases List.eq_nil_or_concat (runsN (hz x) n) with hnil | ⟨pre, r, hpr⟩
  · rw [hnil] at hl; simp [lenS] at hl; omega
  rw [List.concat_eq_append] at hpr
  have hmem : ∀ y, y ∈ pre ++ [r] → clr (hz x) n y = y := fun y hy => clr_eq _ _ _ (by rw [hpr]; exact hy)
  obtain ⟨hc1, hc2, hc3⟩ := Chain.snoc (hpr ▸ hch.1 : Chain (hz x) n 0 (pre ++ [r]))
  have hw : hW (hz x) n (hq x n) (pre ++ [r]) = hW (hz x) n (hq x n) pre + ((digs 9 (hd1 r)).length + bs1 (hq x n) r) := by rw [hW_more, hmem r (by simp)]
  have hbm : hB (hz x) n (hq x n) (pre ++ [r]) = hB (hz x) n (hq x n) pre ++ (digs 9 (hd1 r) ++ bd1 (hz x) (hq x n) r) := by rw [hB_more, hmem r (by simp), List.append_assoc]
  rw [hpr, hw] at he
  have hdp : 1 ≤ (digs 9 (hd1 r)).length := by
    obtain ⟨m, hl, _⟩ := digs_told 9 (hd1 r) (by rw [pow128h]; have := hd1_le r (by have := hc3.2.1; omega); omega)
    omega
  have hF : ∀ j, (hfm x n).getD (1 + j) 0 = (hB (hz x) n (hq x n) pre ++ (digs 9 (hd1 r) ++ bd1 (hz x) (hq x n) r)).getD j 0 := fun j => by
    rw [← hbm, ← hpr]
    show ([(hq x n : Int)] ++ hB (hz x) n (hq x n) (runsN (hz x) n)).getD (1 + j) 0 = _
    rw [List.getD_eq_getElem?_getD, List.getElem?_append_right (by simp), List.length_singleton, Nat.add_sub_cancel_left, ← List.getD_eq_getElem?_getD]
  have hbl := hB_length (hz x) n (hq x n) pre
  have h0 : z 0 = (hq x n : Int) := by rw [hz0 0 (by omega)]; rfl
  unfold hres
  rw [if_neg (by omega), h0, Int.toNat_natCast, if_neg (by omega)]
  have hm := hrun_mid (hz x) n (hq x n) z (hln x n - 1) hn hq64 hzq pre 0 1 0 (fun r hr => hmem r (by simp [hr])) hc1 rfl (by omega) (fun j hj => by
    rw [hz0 _ (by omega), hF, List.getD_eq_getElem?_getD, List.getElem?_append_left (by omega), ← List.getD_eq_getElem?_getD])
  rw [Nat.zero_add] at hm
  have hlen : (hrun z (hln x n - 1) n (hq x n) 1 pre.length).2.2.length = r.2.1 := by rw [hm, hc2]; simp
  have hcut := rd1_cut (hz x) n (hq x n) z (hln x n - 1) (1 + hW (hz x) n (hq x n) pre) r hn hc3 (by omega) (fun j h1 h2 => by
    rw [hz0 _ (by omega), show 1 + hW (hz x) n (hq x n) pre + j = 1 + (hW (hz x) n (hq x n) pre + j) by omega, hF, List.getD_eq_getElem?_getD, List.getElem?_append_right (by omega), hbl, Nat.add_sub_cancel_left, List.getElem?_append_left h2, ← List.getD_eq_getElem?_getD])
  have hrl := runsF_len (hz x) n n 0
  have hpl : pre.length + 1 ≤ n := by
    have : (runsN (hz x) n).length = pre.length + 1 := by rw [hpr]; simp
    unfold runsN at this; omega
  have hf := hrun_fail (z := z) (nb := hln x n - 1) (n := n) (q := hq x n) (p0 := 1) (k := pre.length) (by rw [hm]) (by have := hc3.1; have := hc3.2.1; omega) (by rw [hlen, hm]; dsimp only; rw [hcut]; decide) (n - (pre.length + 1))
  rw [show pre.length + 1 + (n - (pre.length + 1)) = n by omega, hlen, hm] at hf
  dsimp only at hf
  rw [hcut] at hf
  exact hf
end Go.Proofs.Ythonjffojaljdaa
