/-
  CONTRACTS OF the document's own Pack and Unpack of bits: they tell what the program's tell. Conditions: those that each names.
-/
import Derived.Test.YthonjffojaljdaaBitsRefB
namespace Go.Proofs.Ythonjffojaljdaa
open Go.RowKit
set_option linter.unusedVariables false
theorem rpack_width (k : Int) (h : ¬ (0 ≤ k ∧ k ≤ 64)) (v : Value) (w : World) :
    Calls Try.prog 38 #[.int .i64 k, v] w fun e w' => e = .returned (.tuple #[.slice none 0 0, .int .i64 6]) ∧ w = w' := by
  have WN := Lib.hid (fun W => rWide_no k h W)
  clear h
  go_enter Try.func38, Try.ntmps38
  go_wp2_with (go_at_call 75; refine (WN.out _).mono ?_; rintro e w' ⟨rfl, rfl⟩)
  go_ret2
  exact ⟨rfl, rfl⟩
theorem rpack_count (k : Int) (h : 0 ≤ k ∧ k ≤ 64) (a : Option Addr) (len cap : Nat) (hl : 1024 < len) (w : World) :
    Calls Try.prog 38 #[.int .i64 k, .slice a len cap] w fun e w' => e = .returned (.tuple #[.slice none 0 0, .int .i64 7]) ∧ w = w' := by
  have WY := Lib.hid (fun W => rWide_yes k h.1 h.2 W)
  have hl2 : (1024 : Int) < len := by omega
  clear h hl
  go_enter Try.func38, Try.ntmps38
  go_wp2_with (first | (go_at_call 75; refine (WY.out _).mono ?_; rintro e w' ⟨rfl, rfl⟩))
  go_ret2
  exact ⟨rfl, rfl⟩
set_option maxRecDepth 100000 in
set_option maxHeartbeats 1000000 in
theorem rpack_any (k : Nat) (hk : k ≤ 64) (a : Option Addr) (len cap : Nat) (l : Nat → Nat) (f : Nat) (hl : len ≤ 1024) (hf : f ≤ len) (h1 : ∀ i, i < f → l i < 2 ^ k) (h2 : f < len → ¬ l f < 2 ^ k) (w : World) (h : U64s w a len l) :
    Calls Try.prog 38 #[.int .i64 k, .slice a len cap] w (PackEnd k l len f w) := by
  obtain ⟨i0, hi, hz0, hz1, hz2⟩ := info_parts boolInfo
  have WY := Lib.hid (fun W => rWide_yes k (by omega) (by omega) W)
  have hl2 : ¬ (1024 : Int) < len := by omega
  have H := Lib.hid h
  have H1 := Lib.hid h1
  have H2 := Lib.hid h2
  clear h h1 h2
  go_enter Try.func38, Try.ntmps38
  go_wp2_with (first | (go_at_call 75; refine (WY.out _).mono ?_; rintro e w' ⟨rfl, rfl⟩))
  go_loopw [6, 7] (fun v x wr => ∃ i : Nat, i ≤ f ∧ x = .int .i64 i ∧ wr.ownsRow w.heap.size 4 1 v (i * k) (bitsV (packN k l i) (i * k)) ∧ Below w.heap.size w wr) (fun _ x wr => len - (intOf x).toNat)
  case atStart => exact ⟨0, by omega, rfl, by rw [Nat.zero_mul]; exact World.ownsRow_nil _ _ _ _, Below.refl _ _⟩
  case round =>
    obtain ⟨i, hi1, rfl, ho, hb⟩ := hrel
    have hik : i * k ≤ 1024 * 64 := Nat.mul_le_mul (by omega) hk
    have hsz := hb.size
    by_cases hif : i < f
    · have hil : i < len := by omega
      obtain ⟨b, off, rfl, hblt, hc⟩ := (H.out.1.below hb).at_ hil
      have c0 : wr.cell? ⟨b, off + i, none⟩ = some (.int .u64 (l i : Nat)) := hc i hil
      have c1 : ∀ w1, Below wr.heap.size wr w1 → w1.cell? ⟨b, off + i, none⟩ = some (.int .u64 (l i : Nat)) := fun w1 h1 => (h1.cell (p := ⟨b, off + i, none⟩) hblt).trans (hc i hil)
      have C1 := Lib.hid c1
      have FY := Lib.hid (fun W => rfits_any (l i) k (H.out.2 i hil) hk true (by simpa using H1.out i hif) W)
      have RB := Lib.hid (fun W => rbits_any (l i) k (H.out.2 i hil) hk W)
      have AP := Lib.hid (bitsV_append (packN k l i) (i * k) (l i) k (packN_lt k l i (fun j hj => H1.out j (by omega))))
      have hpk : packN k l i + l i * 2 ^ (i * k) = packN k l (i + 1) := rfl
      rw [hpk, ← Nat.succ_mul] at AP
      have HO := Lib.hid ho
      have HB := Lib.hid hb
      have HIK := Lib.hid hik
      clear ho hb hc c1 hpk hik
      have i1 : (i : Int) < len := by omega
      generalize l i = u at *
      obtain ⟨m, hm⟩ : ∃ m, i * k = m := ⟨_, rfl⟩
      have HMM := Lib.hid hm
      rw [hm] at HO AP HIK
      have hm1 : m ≤ 65536 := HIK.out
      clear hm
      go_wp2_with (first | (go_at_call 47; refine (FY.out _).mono ?_; rintro e w' ⟨rfl, rfl⟩) | (go_at_call 76; refine (RB.out _).mono ?_; rintro e w2 ⟨x, rfl, hx, hb2⟩; obtain ⟨a2, cap2, rfl, hr2, hb2a⟩ := own_reads' hx; have HX := Lib.hid hr2; have HB2 := Lib.hid hb2; have q1 := C1.out _ hb2; obtain ⟨v3, w3, hrun, ho3, hg3, _⟩ := run_append_row (P := Try.prog) w2 w.heap.size 100 100 4 i0 (.bool false) 1 Try.underlying100 hi hz0 hz1 hz2 rfl _ m _ (owns_turned HO.out (Turned.of_below (S := fun _ => False) hb2 (fun i hi _ => hi)) (fun _ _ h => h)) a2 k cap2 _ hr2 (fun i _ => rfl) (by unfold maxLen; omega) (by omega) (by have := hb2.size; omega); have HR3 := Lib.hid hrun; have HO3 := Lib.hid ho3; have HG3 := Lib.hid hg3; clear hx hr2 hb2 hb2a hrun ho3 hg3) | (at_builtin; go_must (refine wpList_append_ran _ _ rfl _ _ 100 rfl _ _ _ rfl rfl HR3.out ?_)))
      go_roundw
      case rel =>
        refine ⟨i + 1, by omega, by go_num, ?_, ?_⟩
        · have h5 : m + k = (i + 1) * k := by rw [Nat.succ_mul, HMM.out]
          rw [← AP.out, ← h5]
          exact HO3.out
        · exact (HB.out.trans (HB2.out.mono hsz)).grown HG3.out (by have := HB2.out.size; omega) (fun j hj => (HO.out.lt j hj).1)
      case measure => simp [intOf]; omega
    · obtain rfl : i = f := by omega
      by_cases hil : i < len
      · obtain ⟨b, off, rfl, hblt, hc⟩ := (H.out.1.below hb).at_ hil
        have c0 : wr.cell? ⟨b, off + i, none⟩ = some (.int .u64 (l i : Nat)) := hc i hil
        have FN := Lib.hid (fun W => rfits_any (l i) k (H.out.2 i hil) hk false (by simpa using H2.out hil) W)
        have HB2 := Lib.hid hb
        have i1 : (i : Int) < len := by omega
        clear ho hb hc hik
        go_wp2_with (go_at_call 47; refine (FN.out _).mono ?_; rintro e w' ⟨rfl, rfl⟩)
        go_ret2
        unfold PackEnd
        rw [if_pos hil]
        exact ⟨rfl, HB2.out⟩
      · obtain rfl : i = len := by omega
        have hlt := packN_lt k l i (fun j hj => H1.out j hj)
        obtain ⟨a2, cap2, rfl, hr2, hb2a⟩ := own_reads' ho
        have RB := Lib.hid (rbytes_any a2 (i * k) cap2 (packN k l i) hlt (by omega) wr hr2)
        have HB2 := Lib.hid hb
        clear ho hb hik hr2 hb2a hlt
        go_wp2_with (go_at_call 77; refine RB.out.mono ?_; rintro e w2 ⟨x, rfl, hx, hb2⟩; have HX := Lib.hid hx; have HB3 := Lib.hid hb2; clear hx hb2)
        go_ret2
        unfold PackEnd
        rw [if_neg (by omega)]
        exact ⟨_, rfl, owns_base HX.out (fun j hj => by have := (HX.out.lt j hj).1; omega), HB2.out.trans (HB3.out.mono hsz)⟩
theorem small_of_bits (M p q : Nat) (hM : M < 2 ^ q) (h : ∀ i, p ≤ i → i < q → bitB M i = false) : M < 2 ^ p := by
  apply Nat.lt_pow_two_of_testBit
  intro i hi
  by_cases hq : i < q
  · have := h i hi hq
    rw [Nat.testBit_eq_decide_div_mod_eq]
    exact this
  · exact Nat.testBit_lt_two_pow (Nat.lt_of_lt_of_le hM (Nat.pow_le_pow_right (by decide) (by omega)))
theorem bit_of_small (M p i : Nat) (h : M < 2 ^ p) (hi : p ≤ i) : bitB M i = false := by
  unfold bitB
  have : M < 2 ^ i := Nat.lt_of_lt_of_le h (Nat.pow_le_pow_right (by decide) hi)
  rw [Nat.div_eq_of_lt this]; rfl
end Go.Proofs.Ythonjffojaljdaa
