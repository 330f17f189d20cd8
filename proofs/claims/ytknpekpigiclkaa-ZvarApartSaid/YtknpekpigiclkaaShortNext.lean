/-
  CONTRACT OF short.Next: the next number of short bytes off a cursor, or what is thrown. Conditions: at most 20000 bytes.
-/
import Derived.Test.YtknpekpigiclkaaShortDig
import Derived.Test.YtknpekpigiclkaaTrapLaw
namespace Go.Proofs.Ytknpekpigiclkaa
open Go.RowKit
set_option linter.unusedVariables false
/-- The bytes that are left, and nothing behind them. -/
def zt (z : Nat → Int) (at_ n : Nat) (i : Nat) : Int := if at_ + i < n then z (at_ + i) else 0
/-- What varint.Get tells of what is left. -/
def nx (z : Nat → Int) (at_ n : Nat) : Int × Int × Int := got (zt z at_ n) (n - at_) (seen z at_ n)
theorem zt_bytes {z : Nat → Int} {n : Nat} (hz : ∀ i, i < n → 0 ≤ z i ∧ z i ≤ 255) (at_ : Nat) (i : Nat) : 0 ≤ zt z at_ n i ∧ zt z at_ n i ≤ 255 := by
  unfold zt
  split
  · exact hz _ (by assumption)
  · omega
theorem last_congr {z y : Nat → Int} {n f : Nat} (h : IsLast z n f) (e : ∀ i, i < n → z i = y i) : IsLast y n f := by
  obtain ⟨h1, h2, h3⟩ := h
  exact ⟨h1, fun i hi => by rw [← e i (by omega)]; exact h2 i hi, fun hf => by rw [← e f hf]; exact h3 hf⟩
theorem seen_last (z : Nat → Int) (at_ n : Nat) : IsLast (zt z at_ n) (min (n - at_) 10) (seen z at_ n) :=
  last_congr (lf_last (fun i => z (at_ + i)) _) fun i hi => by unfold zt; rw [if_pos (by omega)]
theorem taken_last (z : Nat → Int) (at_ n : Nat) : IsLast (zt z at_ n) (min (taken z at_ n) 10) (seen z at_ n) := by
  obtain ⟨h1, h2, h3⟩ := seen_last z at_ n
  unfold taken
  split
  · rename_i h
    exact ⟨by omega, h2, fun _ => h3 h⟩
  · rename_i h
    exact ⟨by omega, h2, fun h => by omega⟩
theorem taken_le (z : Nat → Int) (at_ n : Nat) : taken z at_ n ≤ n - at_ ∧ taken z at_ n ≤ 10 := by
  obtain ⟨h1, h2, h3⟩ := seen_last z at_ n
  unfold taken
  split <;> omega
theorem got_taken (z : Nat → Int) (at_ n : Nat) : got (zt z at_ n) (taken z at_ n) (seen z at_ n) = nx z at_ n := by
  obtain ⟨h1, h2, h3⟩ := seen_last z at_ n
  unfold nx got taken
  by_cases h : seen z at_ n < min (n - at_) 10
  · rw [if_pos h, if_neg (by omega), if_neg (show ¬ seen z at_ n = min (n - at_) 10 by omega)]
  · rw [if_neg h, if_pos (by omega), if_pos (show seen z at_ n = min (n - at_) 10 by omega)]
    congr 2
    by_cases h5 : n - at_ < 10
    · rw [if_pos (by omega), if_pos h5]
    · rw [if_neg (by omega), if_neg h5]
theorem nx_ok {z : Nat → Int} {at_ n : Nat} (h : (nx z at_ n).2.2 = 0) : seen z at_ n < min (n - at_) 10 ∧ taken z at_ n = seen z at_ n + 1 ∧ (nx z at_ n).2.1 = ((seen z at_ n + 1 : Nat) : Int) := by
  obtain ⟨h1, h2, h3⟩ := seen_last z at_ n
  by_cases hs : seen z at_ n < min (n - at_) 10
  · refine ⟨hs, by unfold taken; rw [if_pos hs], ?_⟩
    unfold nx got at h ⊢
    rw [if_neg (by omega)] at h ⊢
    split at h
    · simp at h
    · rename_i g1
      rw [if_neg g1]
      split at h
      · simp at h
      · rename_i g2
        rw [if_neg g2]
  · exfalso
    unfold nx got at h
    rw [if_pos (by omega)] at h
    simp at h
    split at h <;> omega
set_option maxRecDepth 100000 in
set_option maxHeartbeats 1000000 in
theorem snext_any (bc n : Nat) (z : Nat → Int) (at_ : Nat) (hz : ∀ i, i < n → 0 ≤ z i ∧ z i ≤ 255) (hn : n ≤ 100000) (w : World) (h : CursorAt w bc n z at_) :
    Calls Try.prog 83 #[.pointer (some ⟨bc, 0, none⟩)] w fun e w' => Turned (· = bc) w w' ∧
      (((nx z at_ n).2.2 = 0 ∧ e = .returned (.int .u64 (nx z at_ n).1) ∧ CursorAt w' bc n z (at_ + (seen z at_ n + 1))) ∨
       (((nx z at_ n).2.2 != 0) = true ∧ e = .panicked [{ v := .iface 89 (.agg #[.int .i64 (nx z at_ n).2.2]), recovered := false }])) := by
  have H := Lib.hid h
  have hbc := h.lt
  have D := Lib.hid (sdigits_any bc w.heap.size n z at_ #[.int .u8 0, .int .u8 0, .int .u8 0, .int .u8 0, .int .u8 0, .int .u8 0, .int .u8 0, .int .u8 0, .int .u8 0, .int .u8 0] hz hn rfl hbc (w.alloc (.cells #[.int .u8 0, .int .u8 0, .int .u8 0, .int .u8 0, .int .u8 0, .int .u8 0, .int .u8 0, .int .u8 0, .int .u8 0, .int .u8 0] 129)) (h.below ((Below.refl w.heap.size w).alloc (Nat.le_refl _) _) hbc) (Lies.new _ _ _))
  have HNX := Lib.hid (fun (h0 : (nx z at_ n).2.2 = 0) => (nx_ok h0).2.1)
  have GT := Lib.hid (fun (br : Nat) (W : World) (hc : ∀ i, i < taken z at_ n → W.cell? ⟨br, i, none⟩ = some (.int .u8 (z (at_ + i)))) => (show Calls Try.prog 101 #[.slice (some ⟨br, 0, none⟩) (taken z at_ n) 10] W fun e w' => e = .returned (.tuple #[.int .u64 (nx z at_ n).1, .int .i64 (nx z at_ n).2.1, .int .i64 (nx z at_ n).2.2]) ∧ W = w' from by
    have := get_any (some ⟨br, 0, none⟩) br 0 (taken z at_ n) 10 (seen z at_ n) (zt z at_ n) (fun i => zt_bytes hz at_ i) (taken_le z at_ n).2 (by decide) (taken_last z at_ n) W (.inr rfl) (fun i hi => by
      rw [Nat.zero_add, hc i hi]
      have := (taken_le z at_ n).1
      unfold zt
      rw [if_pos (by omega)])
    rw [got_taken] at this
    exact this))
  obtain ⟨v, m, e, hvme⟩ : ∃ v m e, nx z at_ n = (v, m, e) := ⟨_, _, _, rfl⟩
  rw [hvme] at HNX GT ⊢
  clear h hz hvme
  simp only at HNX GT ⊢
  generalize seen z at_ n = f at *
  have hT : ∀ w' : World, Turned (fun i => i = bc ∨ i = w.heap.size) (w.alloc (.cells #[.int .u8 0, .int .u8 0, .int .u8 0, .int .u8 0, .int .u8 0, .int .u8 0, .int .u8 0, .int .u8 0, .int .u8 0, .int .u8 0] 129)) w' → Turned (· = bc) w w' := fun w' ht =>
    ((Turned.refl (· = bc) w).alloc _).trans' ht (fun i hi e => by rcases e with e | e <;> omega)
  have HT := Lib.hid hT
  clear hT
  by_cases h0 : e = 0
  · subst h0
    have hnx := HNX.out rfl
    clear HNX
    rw [hnx] at D GT
    clear hnx
    go_enter Try.func83, Try.ntmps83
    go_wp2_with (first
      | (go_at_call 102; refine D.out.mono ?_; rintro e w2 ⟨rfl, hcell, hc, ht⟩; have HCE := Lib.hid hcell; have HC := Lib.hid hc; have HT2 := Lib.hid (HT.out w2 ht); clear hcell hc ht)
      | (go_at_call 101; refine (GT.out _ _ HCE.out).mono ?_; rintro e w3 ⟨rfl, rfl⟩)
      | (go_at_call 103; refine (must_ok _ _).mono ?_; rintro e w4 ⟨rfl, rfl⟩))
    go_ret
    exact ⟨HT2.out, .inl ⟨trivial, rfl, HC.out⟩⟩
  · have hne : (e != 0) = true := by simpa using h0
    clear h0 HNX
    generalize taken z at_ n = k at *
    go_enter Try.func83, Try.ntmps83
    go_wp2_with (first
      | (go_at_call 102; refine D.out.mono ?_; rintro e w2 ⟨rfl, hcell, hc, ht⟩; have HCE := Lib.hid hcell; have HC := Lib.hid hc; have HT2 := Lib.hid (HT.out w2 ht); clear hcell hc ht)
      | (go_at_call 101; refine (GT.out _ _ HCE.out).mono ?_; rintro e w3 ⟨rfl, rfl⟩)
      | (go_at_call 103; refine (must_some _ _ hne _).mono ?_; rintro e w4 ⟨rfl, rfl⟩))
    exact ⟨rfl, HT2.out, .inr ⟨hne, rfl⟩⟩
end Go.Proofs.Ytknpekpigiclkaa
