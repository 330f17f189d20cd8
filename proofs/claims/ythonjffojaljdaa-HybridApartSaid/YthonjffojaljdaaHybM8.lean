/-
  TEXTS OF THIS PROOF, one behind the other: XBitsPut XBitsNew XBitsGet.
-/
import Derived.Test.YthonjffojaljdaaBitsRows
import Derived.Test.YthonjffojaljdaaBitsSmall
import Derived.WalkKit
import Derived.WalkLawsBesides
import Derived.WalkSpells
import Derived.ProofKit
import Derived.LoopTactic
import Derived.BigRegion
import Derived.Deep.RegionHeld3
import Derived.Deep.DeepMust
import Derived.IntWalk
import Derived.Outline
import Derived.Lib.Hide
import Derived.Lib.ItoaNum
import Derived.Test.YthonjffojaljdaaClone
import Derived.Deep.QuietTactic
import Derived.BigQuiet
import Derived.Lib.SliceRun
/-
  CONTRACT OF (*bits.Writer).Put, in any world where the writer lies: the error that it tells, or the number behind the bits that were there; only the writer and its own row turn. Conditions: at most 100000 bits.
-/
namespace Go.Proofs.Ythonjffojaljdaa
open Go.RowKit
set_option linter.unusedVariables false
set_option maxHeartbeats 1000000 in
set_option maxRecDepth 100000 in
theorem put_ok (bw : Nat) (v : Value) (N c u k : Nat) (hu : u < 18446744073709551616) (hk : k ≤ 64) (hf : u < 2 ^ k) (hc : c + k ≤ 100000) (w : World) (h : WriterAt w bw v N c) :
    Calls Try.prog 128 #[.pointer (some ⟨bw, 0, none⟩), .int .u64 u, .int .i64 k] w fun e w' => e = .returned (.int .i64 0) ∧
      ∃ v', WriterAt w' bw v' (N + u * 2 ^ c) (c + k) ∧ Turned (fun i => i = bw ∨ v.ownBlock = some i) w w' ∧ (∀ i, v'.ownBlock = some i → v.ownBlock = some i ∨ w.heap.size ≤ i) := by
  obtain ⟨i0, hi, hz0, hz1, hz2⟩ := info_parts byteInfo
  have FY := Lib.hid (fun W => fits_yes u k hk hu hf W)
  have WY := Lib.hid (fun W => isWidth_yes (k : Int) (by omega) (by omega) W)
  have hk' : (k : Int) ≤ 64 := by omega
  have H := Lib.hid h
  have HF := Lib.hid hf
  clear h hf
  go_enter Try.func128, Try.ntmps128
  go_wp2_with (first | (go_at_call 107; refine (WY.out _).mono ?_; rintro e w' ⟨rfl, rfl⟩) | (go_at_call 145; refine (FY.out _).mono ?_; rintro e w' ⟨rfl, rfl⟩))
  go_loopw [7] (fun i wr => ∃ (d : Nat) (v' : Value), d ≤ k ∧ i = .int .i64 d ∧ WriterAt wr bw v' (N + (u % 2 ^ d) * 2 ^ c) (c + d) ∧ Turned (fun i => i = bw ∨ v.ownBlock = some i) w wr ∧ (∀ i, v'.ownBlock = some i → v.ownBlock = some i ∨ w.heap.size ≤ i))
    (fun i wr => k - (intOf i).toNat)
  case atStart => exact ⟨0, v, by omega, rfl, by simpa [Nat.mod_one] using H.out, Turned.refl _ _, fun i hi => .inl hi⟩
  case round =>
    obtain ⟨d, v', hd, rfl, hw, ht, hv⟩ := hrel
    have HT := Lib.hid ht
    have HV := Lib.hid hv
    clear ht hv
    by_cases hdk : d < k
    · obtain ⟨hl, hown, hN0⟩ := hw
      have hN := Lib.hid hN0
      clear hN0
      obtain ⟨m, hm⟩ : ∃ m, c + d = m := ⟨_, rfl⟩
      rw [hm] at hl hown hN
      have hm47 : m ≤ 100000 := by omega
      have HM := Lib.hid hm
      clear hm
      have c0 : wr.cell? ⟨bw, 0, none⟩ = some v' := hl.cell 0
      have c1 : wr.cell? ⟨bw, 1, none⟩ = some (.int .i64 m) := hl.cell 1
      have f0 := hl.frozen 0
      have f1 := hl.frozen 1
      have hne : some bw ≠ v'.ownBlock := fun e => by have := (hown.lt bw e.symm).1; omega
      have HL := Lib.hid hl
      have HO := Lib.hid hown
      clear hl hown
      obtain ⟨M, hM⟩ : ∃ M, N + u % 2 ^ d * 2 ^ c = M := ⟨_, rfl⟩
      rw [hM] at HO hN
      obtain ⟨q, hq⟩ : ∃ q, m / 8 = q := ⟨_, rfl⟩
      have HMM := Lib.hid hM
      have HQ := Lib.hid hq
      clear hM hq
      by_cases h8 : m % 8 = 0
      case' pos =>
        have e8 : ((m : Int) % 8 == 0) = true := by rw [beq_iff_eq]; omega
        have hq1 : (m + 7) / 8 + 1 = q + 1 := by have := HQ.out; omega
        have h8 := Lib.hid h8
        have HQ1 := Lib.hid hq1
        clear hq1
        go_wp2_with (at_builtin; go_must (refine wpList_append_own_at _ rfl _ _ 26 rfl (bw + 1) 5 i0 (.int .u8 0) 1 1 Try.underlying26 hi hz0 hz1 hz2 rfl (by decide) _ _ _ rfl (HO.out.alloc _) ⟨wr.heap.size, 0, none⟩ 1 1 [.int .u8 0] rfl rfl (cell_one_new _ _ _) (by simp [Value.oneCell']) (by unfold maxLen; omega) (by omega) (by have := HL.out.lt; simp; omega) ?_); intro v2 w2 hown2 hgrow2 _ hat2; rw [HQ1.out] at hown2; obtain ⟨g2, cap2, rfl, hg2a, hg2b⟩ := hown2.form (by omega); have hl2 : Lies w2 bw 153 #[v', .int .i64 m] := (hgrow2.block bw (by have := HL.out.lt; simp; omega) hne).trans (HL.out.alloc _); have e0 := hl2.cell 0; have e1 := hl2.cell 1; have g0 := hl2.frozen 0; have g1 := hl2.frozen 1; have HL2 := Lib.hid hl2; have HO2 := Lib.hid hown2; have HG2 := Lib.hid hgrow2; have HA2 := Lib.hid hat2; clear hl2 hown2 hgrow2 hat2)
        obtain ⟨W1, hW1⟩ : ∃ W1, w2.setCell ⟨bw, 0, none⟩ (Value.slice (some ⟨g2, 0, none⟩) (q + 1) cap2) = W1 := ⟨_, rfl⟩
        have HL3 : Lies W1 bw 153 #[.slice (some ⟨g2, 0, none⟩) (q + 1) cap2, .int .i64 m] := by
          rw [← hW1]; exact HL2.out.set_ 0 _
        have HO3 : W1.ownsRow (bw + 1) 5 1 (.slice (some ⟨g2, 0, none⟩) (q + 1) cap2) (q + 1) (cellsOf (bytesOf (q + 1) M)) := by
          rw [← hW1, ← HQ.out, ← bytes_grow m M h8.out hN.out]; rw [HQ.out]; exact ownsRow_setCell_below HO2.out (by simp) _
        have HT3 : Turned (fun i => i = bw ∨ v.ownBlock = some i) w W1 := by
          rw [← hW1]
          exact ((HT.out.alloc _).grown HG2.out (fun i hi => by
            rcases HV.out i hi with h1 | h1
            · exact .inl (.inr h1)
            · exact .inr h1)).setCell (.inl (.inl rfl)) _
        have HV3 : v.ownBlock = some g2 ∨ w.heap.size ≤ g2 := by
          rcases HA2.out with h1 | h1
          · exact HV.out g2 h1.symm
          · have e : g2 = wr.heap.size + 1 := by simpa [Value.ownBlock] using h1
            have := HT.out.size
            exact .inr (by omega)
        rw [hW1]
      case' neg =>
        have e8 : ((m : Int) % 8 == 0) = false := by rw [beq_eq_false_iff_ne]; omega
        have hq1 : (m + 7) / 8 = q + 1 := by have := HQ.out; omega
        rw [hq1] at HO
        obtain ⟨g2, cap2, rfl, hg2a, hg2b⟩ := HO.out.form (by omega)
        have h8 := Lib.hid h8
        clear hq1
        go_wp2
        obtain ⟨W1, hW1⟩ : ∃ W1, wr = W1 := ⟨_, rfl⟩
        have HL3 : Lies W1 bw 153 #[.slice (some ⟨g2, 0, none⟩) (q + 1) cap2, .int .i64 m] := by rw [← hW1]; exact HL.out
        have HO3 : W1.ownsRow (bw + 1) 5 1 (.slice (some ⟨g2, 0, none⟩) (q + 1) cap2) (q + 1) (cellsOf (bytesOf (q + 1) M)) := by
          rw [← hW1]; exact HO.out
        have HT3 : Turned (fun i => i = bw ∨ v.ownBlock = some i) w W1 := by rw [← hW1]; exact HT.out
        have HV3 : v.ownBlock = some g2 ∨ w.heap.size ≤ g2 := HV.out g2 rfl
        rw [hW1]
      all_goals
        clear hW1 c0 c1 f0 f1 hne
        have hgb : g2 ≠ bw := by omega
        have d0 := HL3.cell 0
        have d1 := HL3.cell 1
        have d2 : W1.cell? ⟨g2, q, none⟩ = some (.int .u8 ((M / 256 ^ q % 256 : Nat) : Int)) := by
          rw [HO3.cellAt q (by omega)]
          simp [cellsOf, bytesOf]
        have d3 := HO3.frozenAt q
        have HL3 := Lib.hid HL3
        have HO3 := Lib.hid HO3
        have HT3 := Lib.hid HT3
        have HV3 := Lib.hid HV3
        have s0 : (0 : Int) ≤ (q : Int) := by omega
        have s2 : (q : Int) < (q : Int) + 1 := by omega
        have s3 : (q : Int) ≤ 100000 := by have := HQ.out; have := HM.out; omega
        have s1 : IntKind.i64.wrap (q : Int) = q := IntWalk.i64_in _ (by omega)
        have d4 := HL3.out.frozen 1
        have d5 := HL3.out.frozen 0
        go_region
        go_wp2
        all_goals
          obtain ⟨s, hs, hs0, hs1, hs2, hs3⟩ := step_min m k d hdk
          simp only [hs]
          have R := put_round (s := s) HL3.out HO3.out HT3.out (.inl rfl) (by rcases HV3.out with h | h; · exact .inl (.inr h)
                                                                              · exact .inr h) (by omega) hu HQ.out HMM.out HM.out hN.out HF.out hdk hs0 hs1 hs2 hs3
          have hlt : k - (d + s) < k - d := by omega
          first | rw [h8.out, Int.pow_zero, Int.mul_one] at R | skip
          refine ⟨⟨d + s, _, ?_, ?_, R.1, R.2, ?_⟩, ?_⟩
          · omega
          · go_num
          · intro i hi
            obtain rfl : g2 = i := by simpa [Value.ownBlock] using hi
            exact HV3.out
          · simp [intOf]; omega
    · obtain rfl : d = k := by omega
      have HW := Lib.hid hw
      clear hw
      go_wp2
      go_ret
      refine ⟨rfl, v', ?_, HT.out, HV.out⟩
      have := HW.out
      rwa [Nat.mod_eq_of_lt HF.out] at this
theorem put_width (bw : Nat) (u k : Int) (h : ¬ (0 ≤ k ∧ k ≤ 64)) (w : World) :
    Calls Try.prog 128 #[.pointer (some ⟨bw, 0, none⟩), .int .u64 u, .int .i64 k] w fun e w' => e = .returned (.int .i64 6) ∧ w = w' := by
  have WN := Lib.hid (fun W => isWidth_no k h W)
  clear h
  go_enter Try.func128, Try.ntmps128
  go_wp2_with (go_at_call 107; refine (WN.out _).mono ?_; rintro e w' ⟨rfl, rfl⟩)
  go_ret
  exact ⟨rfl, rfl⟩
theorem put_range (bw : Nat) (u k : Nat) (hu : u < 18446744073709551616) (hk : k ≤ 64) (hf : ¬ u < 2 ^ k) (w : World) :
    Calls Try.prog 128 #[.pointer (some ⟨bw, 0, none⟩), .int .u64 u, .int .i64 k] w fun e w' => e = .returned (.int .i64 4) ∧ w = w' := by
  have FN := Lib.hid (fun W => fits_no u k hk hu hf W)
  have WY := Lib.hid (fun W => isWidth_yes (k : Int) (by omega) (by omega) W)
  clear hf hk
  go_enter Try.func128, Try.ntmps128
  go_wp2_with (first | (go_at_call 107; refine (WY.out _).mono ?_; rintro e w' ⟨rfl, rfl⟩) | (go_at_call 145; refine (FN.out _).mono ?_; rintro e w' ⟨rfl, rfl⟩))
  go_ret
  exact ⟨rfl, rfl⟩
end Go.Proofs.Ythonjffojaljdaa


/-
  CONTRACTS OF slices.Clone over bytes, and of bits.NewWriter, Len, Bytes, NewReader, Left, in any world. Conditions: at most 100000 bytes or bits.
-/
namespace Go.Proofs.Ythonjffojaljdaa
open Go.RowKit
set_option linter.unusedVariables false
theorem newWriter_any (w : World) :
    Calls Try.prog 127 #[] w fun e w' => e = .returned (.pointer (some ⟨w.heap.size, 0, none⟩)) ∧ WriterAt w' w.heap.size (.slice none 0 0) 0 0 ∧ Below w.heap.size w w' := by
  go_enter Try.func127, Try.ntmps127
  go_wp2
  go_ret
  exact ⟨rfl, ⟨Lies.new _ _ _, World.ownsRow_nil _ _ _ _, by decide⟩, (Below.refl _ _).alloc (Nat.le_refl _) _⟩
/-- A reader of n bytes that is at a bit. -/
def ReaderAt (w : World) (br n : Nat) (z : Nat → Int) (at_ : Nat) : Prop :=
  ∃ a cap, Lies w br 173 #[.slice a n cap, .int .i64 at_] ∧ RowOf w a n (fun i => .int .u8 (z i)) ∧ ∀ p, a = some p → p.block < br
theorem newReader_any (a : Option Addr) (len cap : Nat) (z : Nat → Int) (hlen : len ≤ 100000) (w : World) (h : RowOf w a len (fun i => .int .u8 (z i))) :
    Calls Try.prog 140 #[.slice a len cap] w fun e w' => ∃ br, e = .returned (.pointer (some ⟨br, 0, none⟩)) ∧ ReaderAt w' br len z 0 ∧ w.heap.size ≤ br ∧ Below w.heap.size w w' := by
  have CL := Lib.hid (clone_any a len cap z hlen w h)
  clear h
  go_enter Try.func140, Try.ntmps140
  go_wp2_with (go_at_call 115; refine CL.out.mono ?_; rintro e w' ⟨v', rfl, hx, hb⟩; obtain ⟨a', cap', rfl, hr, hab⟩ := own_reads' hx; have HX := Lib.hid hx; have HB := Lib.hid hb; have HR := Lib.hid hr; have HA := Lib.hid hab; clear hx hb hr hab)
  go_ret
  exact ⟨_, rfl, ⟨a', cap', Lies.new _ _ _, HR.out.below ((Below.refl _ _).alloc (Nat.le_refl _) _), fun p hp => (HA.out p hp).2⟩, HB.out.size, HB.out.alloc HB.out.size _⟩
theorem left_any (br n : Nat) (z : Nat → Int) (at_ : Nat) (hn : n ≤ 100000) (hat : at_ ≤ 8 * n) (w : World) (h : ReaderAt w br n z at_) :
    Calls Try.prog 142 #[.pointer (some ⟨br, 0, none⟩)] w fun e w' => e = .returned (.int .i64 (8 * n - at_ : Nat)) ∧ ∃ k, w' = w.drewN k := by
  obtain ⟨a, cap, hl, _, _⟩ := h
  have c0 := hl.cell 0
  have c1 : w.cell? ⟨br, 1, none⟩ = some (.int .i64 at_) := hl.cell 1
  have he : 8 * (n : Int) - at_ = (8 * n - at_ : Nat) := by omega
  have HE := Lib.hid he
  have h1 : (at_ : Int) ≤ 8 * n := by omega
  clear hl he
  go_enter Try.func142, Try.ntmps142
  go_wp2
  go_quiet (fail)
  go_wp2
  go_ret
  exact ⟨ret_int HE.out, _, rfl⟩
end Go.Proofs.Ythonjffojaljdaa


/-
  CONTRACT OF (*bits.Reader).Get, in any world where the reader lies: the error that it tells, or the number of the next bits; only the reader turns. Conditions: at most 10000 bytes.
-/
namespace Go.Proofs.Ythonjffojaljdaa
open Go.RowKit
set_option linter.unusedVariables false
theorem ret_pair {k : IntKind} {a b : Int} {x : Value} (h : a = b) : Ending.returned (.tuple #[.int k a, x]) = .returned (.tuple #[.int k b, x]) := by rw [h]
theorem ReaderAt.drewN {w : World} {br n : Nat} {z : Nat → Int} {at_ : Nat} (h : ReaderAt w br n z at_) (k : Nat) : ReaderAt (w.drewN k) br n z at_ := h
theorem ReaderAt.below {w w' : World} {B br n : Nat} {z : Nat → Int} {at_ : Nat} (h : ReaderAt w br n z at_) (k : Below B w w') (hB : br < B) : ReaderAt w' br n z at_ := by
  obtain ⟨a, cap, hl, hr, hc⟩ := h
  exact ⟨a, cap, hl.below k hB, hr.turned (S := fun i => B ≤ i) (Turned.of_below k (fun i _ hi => by omega)) (fun p hp hs => by have := hc p hp; omega), hc⟩
theorem ReaderAt.lt {w : World} {br n : Nat} {z : Nat → Int} {at_ : Nat} (h : ReaderAt w br n z at_) : br < w.heap.size := by
  obtain ⟨a, cap, hl, _⟩ := h
  exact hl.lt
theorem get_or (z : Nat → Int) (n a0 d m : Nat) (hz : ∀ i, i < n → 0 ≤ z i ∧ z i ≤ 255) (hm : a0 + d = m) (hq : m / 8 < n) (hd : d < 64) :
    Go.bits .or .u64 (((num z n / 2 ^ a0 : Nat) : Int) % 2 ^ d) (IntKind.u64.wrap (IntKind.u64.wrap (z (m / 8) / 2 ^ (m % 8)) * 2 ^ d)) = ((num z n / 2 ^ a0 % 2 ^ (min 64 (d + (8 - m % 8))) : Nat) : Int) := by
  obtain ⟨x, hx⟩ : ∃ x : Nat, z (m / 8) = x := ⟨(z (m / 8)).toNat, by have := hz _ hq; omega⟩
  have hxb : x = num z n / 256 ^ (m / 8) % 256 := by rw [num_byte z n hz _ hq, hx]; simp
  have hy : x / 2 ^ (m % 8) = num z n / 2 ^ m % 2 ^ (8 - m % 8) := by rw [hxb]; exact get_byte _ _
  have e0 : ((num z n / 2 ^ a0 : Nat) : Int) % 2 ^ d = ((num z n / 2 ^ a0 % 2 ^ d : Nat) : Int) := by simp
  have e1 : IntKind.u64.wrap (z (m / 8) / 2 ^ (m % 8)) = z (m / 8) / 2 ^ (m % 8) := by
    have h1 := hz _ hq
    have h2 : z (m / 8) / 2 ^ (m % 8) = ((x / 2 ^ (m % 8) : Nat) : Int) := by rw [hx]; simp
    have h3 : x / 2 ^ (m % 8) ≤ x := Nat.div_le_self _ _
    rw [u64w, h2]; omega
  have e2 : IntKind.u64.wrap (z (m / 8) / 2 ^ (m % 8) * 2 ^ d) = ((x / 2 ^ (m % 8) % 2 ^ (64 - d) * 2 ^ d : Nat) : Int) := by
    rw [u64w, hx]
    have : (x : Int) / 2 ^ (m % 8) * 2 ^ d = ((x / 2 ^ (m % 8) * 2 ^ d : Nat) : Int) := by simp
    rw [this]
    have h64 : (18446744073709551616 : Nat) = 2 ^ (64 - d) * 2 ^ d := by rw [← Nat.pow_add, Nat.sub_add_cancel (by omega)]
    rw [show (18446744073709551616 : Int) = ((18446744073709551616 : Nat) : Int) from rfl, ← Int.natCast_emod, h64, Nat.mul_mod_mul_right]
  have hacc : num z n / 2 ^ a0 % 2 ^ d < 2 ^ d := Nat.mod_lt _ (Nat.pow_pos (by decide))
  have h2d : (2 : Nat) ^ d < 18446744073709551616 := by
    have : (2 : Nat) ^ d < 2 ^ 64 := Nat.pow_lt_pow_right (by decide) hd
    exact this
  have hY : x / 2 ^ (m % 8) % 2 ^ (64 - d) * 2 ^ d < 18446744073709551616 := by
    have h1 : x / 2 ^ (m % 8) % 2 ^ (64 - d) < 2 ^ (64 - d) := Nat.mod_lt _ (Nat.pow_pos (by decide))
    have h64 : (18446744073709551616 : Nat) = 2 ^ (64 - d) * 2 ^ d := by rw [← Nat.pow_add, Nat.sub_add_cancel (by omega)]
    rw [h64]
    exact Nat.mul_lt_mul_of_pos_right h1 (Nat.pow_pos (by decide))
  rw [e0, e1, e2, u64_or_nat _ _ (by omega) hY, or_add _ _ _ hacc, hy, ← hm]
  have hmm : num z n / 2 ^ (a0 + d) % 2 ^ (8 - (a0 + d) % 8) % 2 ^ (64 - d) = num z n / 2 ^ (a0 + d) % 2 ^ (min (8 - (a0 + d) % 8) (64 - d)) := by
    generalize num z n / 2 ^ (a0 + d) = Y
    generalize 8 - (a0 + d) % 8 = p
    generalize 64 - d = q
    by_cases h : p ≤ q
    · rw [Nat.min_eq_left h]
      have : Y % 2 ^ p < 2 ^ q := Nat.lt_of_lt_of_le (Nat.mod_lt _ (Nat.pow_pos (by decide))) (Nat.pow_le_pow_right (by decide) h)
      exact Nat.mod_eq_of_lt this
    · rw [Nat.min_eq_right (by omega)]
      exact Nat.mod_mod_of_dvd _ (Nat.pow_dvd_pow 2 (by omega))
  rw [hmm, get_step]
  congr 3
  omega
theorem get_and (X E k : Nat) (hk : k ≤ E) (hE : E ≤ 64) : Go.bits .and .u64 ((X : Int) % 2 ^ E) ((2 ^ k - 1 : Nat) : Int) = ((X % 2 ^ k : Nat) : Int) := by
  have e0 : (X : Int) % 2 ^ E = ((X % 2 ^ E : Nat) : Int) := by simp
  have h1 : X % 2 ^ E < 2 ^ E := Nat.mod_lt _ (Nat.pow_pos (by decide))
  have h2 := pow_le64 hE
  have h3 := pow_le64 (Nat.le_trans hk hE)
  have h4 : 0 < 2 ^ k := Nat.pow_pos (by decide)
  rw [e0, u64_and_nat _ _ (by omega) (by omega), and_low, Nat.mod_mod_of_dvd _ (Nat.pow_dvd_pow 2 hk)]
theorem get_width (br : Nat) (k : Int) (h : ¬ (0 ≤ k ∧ k ≤ 64)) (w : World) :
    Calls Try.prog 141 #[.pointer (some ⟨br, 0, none⟩), .int .i64 k] w fun e w' => e = .returned (.tuple #[.int .u64 0, .int .i64 6]) ∧ w = w' := by
  have WN := Lib.hid (fun W => isWidth_no k h W)
  clear h
  go_enter Try.func141, Try.ntmps141
  go_wp2_with (go_at_call 107; refine (WN.out _).mono ?_; rintro e w' ⟨rfl, rfl⟩)
  go_ret2
  exact ⟨rfl, rfl⟩
theorem get_short (br n : Nat) (z : Nat → Int) (at_ k : Nat) (hn : n ≤ 10000) (hat : at_ ≤ 8 * n) (hk : k ≤ 64) (hs : 8 * n - at_ < k) (w : World) (h : ReaderAt w br n z at_) :
    Calls Try.prog 141 #[.pointer (some ⟨br, 0, none⟩), .int .i64 k] w fun e w' => e = .returned (.tuple #[.int .u64 0, .int .i64 1]) ∧ ∃ j, w' = w.drewN j := by
  have WY := Lib.hid (fun W => isWidth_yes (k : Int) (by omega) (by omega) W)
  have LE := Lib.hid (left_any br n z at_ (by omega) hat w h)
  have hlt : ((8 * n - at_ : Nat) : Int) < k := by omega
  clear h hs
  generalize 8 * n - at_ = L at *
  go_enter Try.func141, Try.ntmps141
  go_wp2_with (first | (go_at_call 107; refine (WY.out _).mono ?_; rintro e w' ⟨rfl, rfl⟩) | (go_at_call 142; refine LE.out.mono ?_; rintro e w' ⟨rfl, j, rfl⟩))
  go_ret2
  exact ⟨rfl, _, rfl⟩
set_option maxRecDepth 100000 in
set_option maxHeartbeats 1000000 in
theorem get_ok (br n : Nat) (z : Nat → Int) (at_ k : Nat) (hz : ∀ i, i < n → 0 ≤ z i ∧ z i ≤ 255) (hn : n ≤ 10000) (hk : k ≤ 64) (hat : at_ + k ≤ 8 * n) (w : World) (h : ReaderAt w br n z at_) :
    Calls Try.prog 141 #[.pointer (some ⟨br, 0, none⟩), .int .i64 k] w fun e w' => e = .returned (.tuple #[.int .u64 ((num z n / 2 ^ at_ % 2 ^ k : Nat) : Int), .int .i64 0]) ∧
      ReaderAt w' br n z (at_ + k) ∧ Turned (· = br) w w' := by
  have WY := Lib.hid (fun W => isWidth_yes (k : Int) (by omega) (by omega) W)
  have LE := Lib.hid (left_any br n z at_ (by omega) (by omega) w h)
  have LO := Lib.hid (fun W => lowest_any k hk W)
  have hlt : ¬ ((8 * n - at_ : Nat) : Int) < k := by omega
  have hk' : (k : Int) ≤ 64 := by omega
  have H := Lib.hid h
  have HZ := Lib.hid hz
  clear h hz
  obtain ⟨L, hL⟩ : ∃ L, 8 * n - at_ = L := ⟨_, rfl⟩
  rw [hL] at LE hlt
  clear hL
  go_enter Try.func141, Try.ntmps141
  go_wp2_with (first | (go_at_call 107; refine (WY.out _).mono ?_; rintro e w' ⟨rfl, rfl⟩) | (go_at_call 142; refine LE.out.mono ?_; rintro e w' ⟨rfl, j, rfl⟩))
  go_loopw [6, 7] (fun x i wr => ∃ d E : Nat, d ≤ k ∧ i = .int .i64 d ∧ x = .int .u64 ((num z n / 2 ^ at_ % 2 ^ E : Nat) : Int) ∧ d ≤ E ∧ E ≤ 64 ∧ (d < k → E = d) ∧ ReaderAt wr br n z (at_ + d) ∧ Turned (· = br) w wr)
    (fun _ i wr => k - (intOf i).toNat)
  case atStart => exact ⟨0, 0, by omega, rfl, by simp [Nat.mod_one], by omega, by omega, fun _ => rfl, H.out.drewN _, (Turned.refl _ _).drewN _⟩
  case round =>
    obtain ⟨d, E, hd, rfl, rfl, hE1, hE2, hE3, hr, ht⟩ := hrel
    have HT := Lib.hid ht
    clear ht
    by_cases hdk : d < k
    · obtain rfl : E = d := hE3 hdk
      clear hE3 hE1
      obtain ⟨m, hm⟩ : ∃ m, at_ + E = m := ⟨_, rfl⟩
      rw [hm] at hr
      have hmn : m / 8 < n := by omega
      have HG := Lib.hid (get_or z n at_ E m HZ.out hm hmn (by omega))
      have zb := HZ.out (m / 8) hmn
      have HM := Lib.hid hm
      have hm3 : m ≤ 80000 := by omega
      clear hm
      obtain ⟨a, cap, hl, hrow, hcl⟩ := hr
      obtain ⟨b, off, rfl, hb, hc⟩ := hrow.at_ hmn
      have c0 := hl.cell 0
      have c1 : wr.cell? ⟨br, 1, none⟩ = some (.int .i64 m) := hl.cell 1
      have c2 : wr.cell? ⟨b, off + m / 8, none⟩ = some (.int .u8 (z (m / 8))) := hc _ hmn
      have f0 := hl.frozen 0
      have f1 := hl.frozen 1
      have HL := Lib.hid hl
      have HR := Lib.hid hrow
      have HC := Lib.hid hcl
      clear hl hrow hcl hc
      have q1 : (m : Int) / 8 < n := by omega
      have q0 : (0 : Int) ≤ (m : Int) / 8 := by omega
      generalize num z n / 2 ^ at_ = X at *
      go_wp2
      go_quiet (fail)
      go_wp2
      obtain ⟨s, hs, hs0, hs1, hs2, hs3⟩ := step_min m k E hdk
      simp only [hs]
      have HS := HM.out
      refine ⟨⟨E + s, min 64 (E + (8 - m % 8)), ?_, ?_, ?_, ?_, ?_, ?_, ?_, ?_⟩, ?_⟩
      · omega
      · go_num
      · rw [HG.out]
      · omega
      · omega
      · intro h; omega
      · have hl2 := ((HL.out.drewN nq).set_ 1 (.int .i64 ((m : Int) + s))).drew
        refine ⟨some ⟨b, off, none⟩, cap, ?_, ?_, HC.out⟩
        · rw [show at_ + (E + s) = m + s from by omega]; exact hl2
        · exact (HR.out.drewN nq).turned (S := (· = br)) ((Turned.refl (· = br) _).setCell (p := ⟨br, 1, none⟩) (.inl rfl) _) (fun p hp e => by have := HC.out p hp; omega)
      · exact (HT.out.drewN nq).setCell (p := ⟨br, 1, none⟩) (.inl rfl) _
      · simp [intOf]; omega
    · obtain rfl : d = k := by omega
      have HR := Lib.hid hr
      have hA := get_and (num z n / 2 ^ at_) E d hE1 hE2
      rw [show ((num z n / 2 ^ at_ : Nat) : Int) = (num z n : Int) / 2 ^ at_ from by simp] at hA
      have HA := Lib.hid hA
      clear hA
      clear hr
      go_wp2_with (go_at_call 146; refine (LO.out _).mono ?_; rintro e w' ⟨rfl, rfl⟩)
      go_ret2
      exact ⟨ret_pair HA.out, HR.out, HT.out⟩
end Go.Proofs.Ythonjffojaljdaa

