/-
  WHAT IS TOLD OF REALS, more, no Go text in sight: kinds are as many as reals; what is among them may be; what is told of both of two rows is what is told of both behind each other, in whatever order. No condition but the ranges that each lemma names.
-/
import Derived.Test.YtjdcafeljdnfeaaStatD
namespace Go.Proofs.Ytjdcafeljdnfeaa
open Go.RowKit
set_option linter.unusedVariables false
def sumK (s : St) : Nat → Int
  | 0 => 0
  | j + 1 => sumK s j + s.k j
theorem sumK_bump (s : St) (b : Nat) (h : kd b ≤ 8) (j : Nat) (hj : j ≤ 9) : sumK (bump s b) j = sumK s j + if kd b < j then 1 else 0 := by
  induction j with
  | zero => simp [sumK]
  | succ j ih =>
    simp only [sumK]
    rw [ih (by omega)]
    have : (bump s b).k j = if j = kd b then s.k j + 1 else s.k j := rfl
    rw [this]
    by_cases e : j = kd b
    · subst e; simp; omega
    · rw [if_neg e]
      by_cases h2 : kd b < j
      · rw [if_pos h2, if_pos (by omega)]; omega
      · rw [if_neg h2, if_neg (by omega)]; omega
theorem sumK_wid (s : St) (a b : Nat) (j : Nat) : sumK (wid s a b) j = sumK s j := by
  induction j with
  | zero => rfl
  | succ j ih => simp only [sumK]; rw [ih]; rfl
theorem sumK_fold (l : Nat → Nat) (n : Nat) : sumK (fold l n) 9 = n := by
  induction n with
  | zero => rfl
  | succ n ih =>
    simp only [fold]
    have hb := sumK_bump (fold l n) (l n) (kd_le _) 9 (by omega)
    rw [if_pos (by have := kd_le (l n); omega), ih] at hb
    unfold stp
    split
    · rw [hb]; simp
    · rw [sumK_wid, hb]; simp
theorem any_fold' (l : Nat → Nat) (n : Nat) : 0 ≤ (fold l n).k 8 ∧ (fold l n).k 8 ≤ n ∧ ((fold l n).any = true ↔ (fold l n).k 8 < n) := by
  induction n with
  | zero => exact ⟨Int.le_refl _, Int.le_refl _, by simp [fold, st0]⟩
  | succ n ih =>
    obtain ⟨h0, h1, h2⟩ := ih
    simp only [fold]
    have hk : ∀ b, (bump (fold l n) b).k 8 = if 8 = kd b then (fold l n).k 8 + 1 else (fold l n).k 8 := fun _ => rfl
    unfold stp
    by_cases h : kd (l n) = 8
    · rw [if_pos h]
      have e : (bump (fold l n) (l n)).k 8 = (fold l n).k 8 + 1 := by rw [hk, if_pos h.symm]
      rw [e]
      refine ⟨by omega, by omega, ?_⟩
      show (fold l n).any = true ↔ _
      rw [h2]
      constructor <;> intro <;> omega
    · rw [if_neg h]
      have e : (wid (bump (fold l n) (l n)) (l n) (l n)).k 8 = (fold l n).k 8 := by
        show (bump (fold l n) (l n)).k 8 = _
        rw [hk, if_neg (fun x => h x.symm)]
      rw [e]
      refine ⟨h0, by omega, ?_⟩
      show true = true ↔ _
      constructor <;> intro
      · omega
      · rfl
theorem any_fold (l : Nat → Nat) (n : Nat) : 0 ≤ (fold l n).k 8 ∧ (fold l n).k 8 ≤ n ∧ (fold l n).any = decide ((fold l n).k 8 < n) := by
  obtain ⟨h0, h1, h2⟩ := any_fold' l n
  refine ⟨h0, h1, ?_⟩
  rw [Bool.eq_iff_iff, h2]; simp
/-- What is among them is told of. -/
def Cov (l : Nat → Nat) (s : St) (n : Nat) : Prop := ∀ i, i < n → (kd (l i) = 8 → 0 < s.k 8) ∧ (kd (l i) ≠ 8 → s.any = true ∧ rk s.mn ≤ rk (l i) ∧ rk (l i) ≤ rk s.mx)
theorem cov_fold (l : Nat → Nat) (n : Nat) : Cov l (fold l n) n := by
  induction n with
  | zero => intro i hi; omega
  | succ n ih =>
    have h0 := (any_fold l n).1
    simp only [fold]
    generalize fold l n = s at *
    have hk : (bump s (l n)).k 8 = if 8 = kd (l n) then s.k 8 + 1 else s.k 8 := rfl
    intro i hi
    unfold stp
    by_cases h : kd (l n) = 8
    · rw [if_pos h]
      rw [if_pos h.symm] at hk
      refine ⟨fun _ => by omega, fun h8 => ?_⟩
      have hin : i < n := by
        by_cases e : i = n
        · subst e; exact absurd h h8
        · omega
      exact (ih i hin).2 h8
    · rw [if_neg h]
      rw [if_neg (fun x => h x.symm)] at hk
      have ek : (wid (bump s (l n)) (l n) (l n)).k 8 = s.k 8 := hk
      have e1 : (wid (bump s (l n)) (l n) (l n)).mn = if (!s.any || decide (rk (l n) < rk s.mn)) = true then l n else s.mn := rfl
      have e2 : (wid (bump s (l n)) (l n) (l n)).mx = if (!s.any || decide (rk s.mx < rk (l n))) = true then l n else s.mx := rfl
      refine ⟨fun h8 => ?_, fun h8 => ⟨rfl, ?_, ?_⟩⟩
      · rw [ek]
        have hin : i < n := by
          by_cases e : i = n
          · subst e; exact absurd h8 h
          · omega
        exact (ih i hin).1 h8
      · rw [e1]
        by_cases e : i = n
        · subst e
          split
          · omega
          · rename_i hc; simp at hc; omega
        · obtain ⟨a1, a2, a3⟩ := (ih i (by omega)).2 h8
          rw [a1]
          split
          · rename_i hc; simp at hc; omega
          · exact a2
      · rw [e2]
        by_cases e : i = n
        · subst e
          split
          · omega
          · rename_i hc; simp at hc; omega
        · obtain ⟨a1, a2, a3⟩ := (ih i (by omega)).2 h8
          rw [a1]
          split
          · rename_i hc; simp at hc; omega
          · exact a3
theorem may_fold (l : Nat → Nat) (n i : Nat) (hi : i < n) : mayB (fold l n) (l i) = true := by
  have h := cov_fold l n i hi
  unfold mayB
  by_cases h8 : kd (l i) = 8
  · rw [if_pos h8]; exact decide_eq_true (h.1 h8)
  · rw [if_neg h8]
    obtain ⟨a1, a2, a3⟩ := h.2 h8
    rw [a1, decide_eq_false (by omega), decide_eq_false (by omega)]
    rfl
/-! Both of two rows. -/
theorem st_ext {s t : St} (h1 : s.cnt = t.cnt) (h2 : s.k = t.k) (h3 : s.whole = t.whole) (h4 : s.any = t.any) (h5 : s.mn = t.mn) (h6 : s.mx = t.mx) : s = t := by
  cases s; cases t; simp_all
theorem joi_cnt (s o : St) : (joi s o).cnt = s.cnt + o.cnt := by unfold joi; split <;> rfl
theorem joi_k (s o : St) : (joi s o).k = fun i => if i < 9 then s.k i + o.k i else s.k i := by unfold joi; split <;> rfl
theorem joi_whole (s o : St) : (joi s o).whole = s.whole + o.whole := by unfold joi; split <;> rfl
theorem joi_any (s o : St) : (joi s o).any = (s.any || o.any) := by
  unfold joi
  cases h : o.any
  · simp [both]
  · simp [wid]
theorem joi_mn (s o : St) : (joi s o).mn = if o.any = true then (if (!s.any || decide (rk o.mn < rk s.mn)) = true then o.mn else s.mn) else s.mn := by
  unfold joi; split <;> rfl
theorem joi_mx (s o : St) : (joi s o).mx = if o.any = true then (if (!s.any || decide (rk s.mx < rk o.mx)) = true then o.mx else s.mx) else s.mx := by
  unfold joi; split <;> rfl
theorem stp_cnt (s : St) (b : Nat) : (stp s b).cnt = s.cnt + 1 := by unfold stp; split <;> rfl
theorem stp_k (s : St) (b : Nat) : (stp s b).k = fun i => if i = kd b then s.k i + 1 else s.k i := by unfold stp; split <;> rfl
theorem stp_whole (s : St) (b : Nat) : (stp s b).whole = if wb b = true then s.whole + 1 else s.whole := by unfold stp; split <;> rfl
theorem stp_any (s : St) (b : Nat) : (stp s b).any = if kd b = 8 then s.any else true := by unfold stp; split <;> rfl
theorem stp_mn (s : St) (b : Nat) : (stp s b).mn = if kd b = 8 then s.mn else (if (!s.any || decide (rk b < rk s.mn)) = true then b else s.mn) := by unfold stp; split <;> rfl
theorem stp_mx (s : St) (b : Nat) : (stp s b).mx = if kd b = 8 then s.mx else (if (!s.any || decide (rk s.mx < rk b)) = true then b else s.mx) := by unfold stp; split <;> rfl
theorem joi_zero (s : St) : joi s st0 = s := by
  refine st_ext (by rw [joi_cnt]; simp [st0]) ?_ (by rw [joi_whole]; simp [st0]) (by rw [joi_any]; simp [st0]) (by rw [joi_mn]; simp [st0]) (by rw [joi_mx]; simp [st0])
  rw [joi_k]
  funext i
  simp [st0]
theorem joi_stp (s t : St) (b : Nat) : joi s (stp t b) = stp (joi s t) b := by
  have hle := kd_le b
  refine st_ext (by rw [joi_cnt, stp_cnt, stp_cnt, joi_cnt]; omega) ?_ (by rw [joi_whole, stp_whole, stp_whole, joi_whole]; split <;> omega) (by rw [joi_any, stp_any, stp_any, joi_any]; split <;> simp) ?_ ?_
  · rw [joi_k, stp_k, stp_k, joi_k]
    funext i
    simp only
    by_cases e : i = kd b
    · subst e
      simp [show kd b < 9 from by omega]; omega
    · rw [if_neg e, if_neg e]
  · rw [joi_mn, stp_mn, stp_mn, joi_mn, joi_any, stp_any]
    by_cases h8 : kd b = 8
    · simp only [if_pos h8]
    · simp only [if_neg h8, if_true]
      cases s.any <;> cases t.any <;> simp only [Bool.not_true, Bool.not_false, Bool.false_or, Bool.true_or, Bool.or_false, Bool.or_true, if_true, Bool.false_eq_true, if_false, decide_eq_true_eq] <;> (repeat' split) <;> first | rfl | omega
  · rw [joi_mx, stp_mx, stp_mx, joi_mx, joi_any, stp_any]
    by_cases h8 : kd b = 8
    · simp only [if_pos h8]
    · simp only [if_neg h8, if_true]
      cases s.any <;> cases t.any <;> simp only [Bool.not_true, Bool.not_false, Bool.false_or, Bool.true_or, Bool.or_false, Bool.or_true, if_true, Bool.false_eq_true, if_false, decide_eq_true_eq] <;> (repeat' split) <;> first | rfl | omega
/-- Two rows, one behind the other. -/
def app (n : Nat) (l r : Nat → Nat) : Nat → Nat := fun i => if i < n then l i else r (i - n)
theorem fold_app (n m : Nat) (l r : Nat → Nat) : fold (app n l r) (n + m) = joi (fold l n) (fold r m) := by
  induction m with
  | zero =>
    show fold (app n l r) n = joi (fold l n) st0
    rw [joi_zero]
    exact fold_congr n (fun i hi => by unfold app; rw [if_pos hi])
  | succ m ih =>
    show stp (fold (app n l r) (n + m)) (app n l r (n + m)) = joi (fold l n) (stp (fold r m) (r m))
    rw [ih, joi_stp]
    have : app n l r (n + m) = r m := by unfold app; rw [if_neg (by omega), Nat.add_sub_cancel_left]
    rw [this]
theorem rk_inj (a b : Nat) (ha : a < 18446744073709551616) (hb : b < 18446744073709551616) (h : rk a = rk b) : a = b := by
  unfold rk rnk sgn at h
  split at h <;> split at h <;> split at h <;> (try split at h) <;> omega
/-- What holds of all that is told. -/
def Valid (s : St) : Prop := s.mn < 18446744073709551616 ∧ s.mx < 18446744073709551616 ∧ (s.any = false → s.mn = 0 ∧ s.mx = 0) ∧ ∀ i, 9 ≤ i → s.k i = 0
theorem valid_fold (l : Nat → Nat) (n : Nat) (hl : ∀ i, i < n → l i < 18446744073709551616) : Valid (fold l n) := by
  have h4 := (small_fold l n hl).2.2.2.1
  have h5 := (small_fold l n hl).2.2.2.2
  refine ⟨h4, h5, ?_, ?_⟩
  · clear h4 h5 hl
    induction n with
    | zero => intro _; exact ⟨rfl, rfl⟩
    | succ n ih =>
      simp only [fold]
      rw [stp_any, stp_mn, stp_mx]
      split
      · exact ih
      · intro h; cases h
  · clear h4 h5 hl
    induction n with
    | zero => intro i _; rfl
    | succ n ih =>
      intro i hi
      simp only [fold]
      rw [stp_k]
      simp only
      rw [if_neg (by have := kd_le (l n); omega)]
      exact ih i hi
theorem joi_comm (s t : St) (hs : Valid s) (ht : Valid t) : joi s t = joi t s := by
  obtain ⟨a1, a2, a3, a4⟩ := hs
  obtain ⟨b1, b2, b3, b4⟩ := ht
  have i1 := rk_inj s.mn t.mn a1 b1
  have i2 := rk_inj s.mx t.mx a2 b2
  refine st_ext (by rw [joi_cnt, joi_cnt]; omega) ?_ (by rw [joi_whole, joi_whole]; omega) (by rw [joi_any, joi_any, Bool.or_comm]) ?_ ?_
  · rw [joi_k, joi_k]
    funext i
    by_cases h : i < 9
    · rw [if_pos h, if_pos h]; omega
    · rw [if_neg h, if_neg h, a4 i (by omega), b4 i (by omega)]
  · rw [joi_mn, joi_mn]
    cases hs : s.any <;> cases ht : t.any <;> simp only [Bool.not_true, Bool.not_false, Bool.false_or, Bool.true_or, if_true, Bool.false_eq_true, if_false, decide_eq_true_eq]
    · rw [(a3 hs).1, (b3 ht).1]
    · by_cases h1 : rk t.mn < rk s.mn
      · rw [if_pos h1, if_neg (by omega)]
      · rw [if_neg h1]
        by_cases h2 : rk s.mn < rk t.mn
        · rw [if_pos h2]
        · rw [if_neg h2]; exact i1 (by omega)
  · rw [joi_mx, joi_mx]
    cases hs : s.any <;> cases ht : t.any <;> simp only [Bool.not_true, Bool.not_false, Bool.false_or, Bool.true_or, if_true, Bool.false_eq_true, if_false, decide_eq_true_eq]
    · rw [(a3 hs).2, (b3 ht).2]
    · by_cases h1 : rk s.mx < rk t.mx
      · rw [if_pos h1, if_neg (by omega)]
      · rw [if_neg h1]
        by_cases h2 : rk t.mx < rk s.mx
        · rw [if_pos h2]
        · rw [if_neg h2]; exact i2 (by omega)
/-- A row turned round. -/
def rev (l : Nat → Nat) (n : Nat) : Nat → Nat := fun i => l (n - 1 - i)
theorem fold_rev (l : Nat → Nat) (n : Nat) (hl : ∀ i, i < n → l i < 18446744073709551616) : fold (rev l n) n = fold l n := by
  induction n with
  | zero => rfl
  | succ n ih =>
    have e : fold (rev l (n + 1)) (n + 1) = fold (app 1 (fun _ => l n) (rev l n)) (1 + n) := by
      rw [Nat.add_comm 1 n]
      refine fold_congr (n + 1) (fun i hi => ?_)
      unfold rev app
      by_cases h : i < 1
      · rw [if_pos h]; congr 1; omega
      · rw [if_neg h]; congr 1; omega
    rw [e, fold_app, ih (fun i hi => hl i (by omega)), joi_comm _ _ (valid_fold _ 1 (fun i _ => hl n (by omega))) (valid_fold l n (fun i hi => hl i (by omega)))]
    show joi (fold l n) (stp st0 (l n)) = stp (fold l n) (l n)
    rw [joi_stp, joi_zero]
end Go.Proofs.Ytjdcafeljdnfeaa
