/-
  CONTRACT OF (*bits.Writer).Put, in any world where the writer lies: the error that it tells, or the number behind the bits that were there; only the writer and its own row turn. Conditions: at most 100000 bits.
-/
import Derived.Test.YthonjffojaljdaaBitsRows
import Derived.Test.YthonjffojaljdaaBitsSmall
import Derived.WalkKit
import Derived.WalkLawsBesides
import Derived.WalkSpells
import Derived.ProofKit
import Derived.LoopTactic
import Derived.BigRegion
import Derived.Deep.RegionHeld3
import Derived.Deep.DeepMust
import Derived.IntWalk
import Derived.Outline
import Derived.Lib.Hide
import Derived.Lib.ItoaNum
namespace Go.Proofs.Ythonjffojaljdaa
open Go.RowKit
set_option linter.unusedVariables false
set_option maxHeartbeats 1000000 in
set_option maxRecDepth 100000 in
theorem put_ok (bw : Nat) (v : Value) (N c u k : Nat) (hu : u < 18446744073709551616) (hk : k ≤ 64) (hf : u < 2 ^ k) (hc : c + k ≤ 100000) (w : World) (h : WriterAt w bw v N c) :
    Calls Try.prog 128 #[.pointer (some ⟨bw, 0, none⟩), .int .u64 u, .int .i64 k] w fun e w' => e = .returned (.int .i64 0) ∧
      ∃ v', WriterAt w' bw v' (N + u * 2 ^ c) (c + k) ∧ Turned (fun i => i = bw ∨ v.ownBlock = some i) w w' ∧ (∀ i, v'.ownBlock = some i → v.ownBlock = some i ∨ w.heap.size ≤ i) := by
  obtain ⟨i0, hi, hz0, hz1, hz2⟩ := info_parts byteInfo
  have FY := Lib.hid (fun W => fits_yes u k hk hu hf W)
  have WY := Lib.hid (fun W => isWidth_yes (k : Int) (by omega) (by omega) W)
  have hk' : (k : Int) ≤ 64 := by omega
  have H := Lib.hid h
  have HF := Lib.hid hf
  clear h hf
  go_enter Try.func128, Try.ntmps128
  go_wp2_with (first | (go_at_call 107; refine (WY.out _).mono ?_; rintro e w' ⟨rfl, rfl⟩) | (go_at_call 145; refine (FY.out _).mono ?_; rintro e w' ⟨rfl, rfl⟩))
  go_loopw [7] (fun i wr => ∃ (d : Nat) (v' : Value), d ≤ k ∧ i = .int .i64 d ∧ WriterAt wr bw v' (N + (u % 2 ^ d) * 2 ^ c) (c + d) ∧ Turned (fun i => i = bw ∨ v.ownBlock = some i) w wr ∧ (∀ i, v'.ownBlock = some i → v.ownBlock = some i ∨ w.heap.size ≤ i))
    (fun i wr => k - (intOf i).toNat)
  case atStart => exact ⟨0, v, by omega, rfl, by simpa [Nat.mod_one] using H.out, Turned.refl _ _, fun i hi => .inl hi⟩
  case round =>
    obtain ⟨d, v', hd, rfl, hw, ht, hv⟩ := hrel
    have HT := Lib.hid ht
    have HV := Lib.hid hv
    clear ht hv
    by_cases hdk : d < k
    · obtain ⟨hl, hown, hN0⟩ := hw
      have hN := Lib.hid hN0
      clear hN0
      obtain ⟨m, hm⟩ : ∃ m, c + d = m := ⟨_, rfl⟩
      rw [hm] at hl hown hN
      have hm47 : m ≤ 100000 := by omega
      have HM := Lib.hid hm
      clear hm
      have c0 : wr.cell? ⟨bw, 0, none⟩ = some v' := hl.cell 0
      have c1 : wr.cell? ⟨bw, 1, none⟩ = some (.int .i64 m) := hl.cell 1
      have f0 := hl.frozen 0
      have f1 := hl.frozen 1
      have hne : some bw ≠ v'.ownBlock := fun e => by have := (hown.lt bw e.symm).1; omega
      have HL := Lib.hid hl
      have HO := Lib.hid hown
      clear hl hown
      obtain ⟨M, hM⟩ : ∃ M, N + u % 2 ^ d * 2 ^ c = M := ⟨_, rfl⟩
      rw [hM] at HO hN
      obtain ⟨q, hq⟩ : ∃ q, m / 8 = q := ⟨_, rfl⟩
      have HMM := Lib.hid hM
      have HQ := Lib.hid hq
      clear hM hq
      by_cases h8 : m % 8 = 0
      case' pos =>
        have e8 : ((m : Int) % 8 == 0) = true := by rw [beq_iff_eq]; omega
        have hq1 : (m + 7) / 8 + 1 = q + 1 := by have := HQ.out; omega
        have h8 := Lib.hid h8
        have HQ1 := Lib.hid hq1
        clear hq1
        go_wp2_with (at_builtin; go_must (refine wpList_append_own_at _ rfl _ _ 26 rfl (bw + 1) 5 i0 (.int .u8 0) 1 1 Try.underlying26 hi hz0 hz1 hz2 rfl (by decide) _ _ _ rfl (HO.out.alloc _) ⟨wr.heap.size, 0, none⟩ 1 1 [.int .u8 0] rfl rfl (cell_one_new _ _ _) (by simp [Value.oneCell']) (by unfold maxLen; omega) (by omega) (by have := HL.out.lt; simp; omega) ?_); intro v2 w2 hown2 hgrow2 _ hat2; rw [HQ1.out] at hown2; obtain ⟨g2, cap2, rfl, hg2a, hg2b⟩ := hown2.form (by omega); have hl2 : Lies w2 bw 153 #[v', .int .i64 m] := (hgrow2.block bw (by have := HL.out.lt; simp; omega) hne).trans (HL.out.alloc _); have e0 := hl2.cell 0; have e1 := hl2.cell 1; have g0 := hl2.frozen 0; have g1 := hl2.frozen 1; have HL2 := Lib.hid hl2; have HO2 := Lib.hid hown2; have HG2 := Lib.hid hgrow2; have HA2 := Lib.hid hat2; clear hl2 hown2 hgrow2 hat2)
        obtain ⟨W1, hW1⟩ : ∃ W1, w2.setCell ⟨bw, 0, none⟩ (Value.slice (some ⟨g2, 0, none⟩) (q + 1) cap2) = W1 := ⟨_, rfl⟩
        have HL3 : Lies W1 bw 153 #[.slice (some ⟨g2, 0, none⟩) (q + 1) cap2, .int .i64 m] := by
          rw [← hW1]; exact HL2.out.set_ 0 _
        have HO3 : W1.ownsRow (bw + 1) 5 1 (.slice (some ⟨g2, 0, none⟩) (q + 1) cap2) (q + 1) (cellsOf (bytesOf (q + 1) M)) := by
          rw [← hW1, ← HQ.out, ← bytes_grow m M h8.out hN.out]; rw [HQ.out]; exact ownsRow_setCell_below HO2.out (by simp) _
        have HT3 : Turned (fun i => i = bw ∨ v.ownBlock = some i) w W1 := by
          rw [← hW1]
          exact ((HT.out.alloc _).grown HG2.out (fun i hi => by
            rcases HV.out i hi with h1 | h1
            · exact .inl (.inr h1)
            · exact .inr h1)).setCell (.inl (.inl rfl)) _
        have HV3 : v.ownBlock = some g2 ∨ w.heap.size ≤ g2 := by
          rcases HA2.out with h1 | h1
          · exact HV.out g2 h1.symm
          · have e : g2 = wr.heap.size + 1 := by simpa [Value.ownBlock] using h1
            have := HT.out.size
            exact .inr (by omega)
        rw [hW1]
      case' neg =>
        have e8 : ((m : Int) % 8 == 0) = false := by rw [beq_eq_false_iff_ne]; omega
        have hq1 : (m + 7) / 8 = q + 1 := by have := HQ.out; omega
        rw [hq1] at HO
        obtain ⟨g2, cap2, rfl, hg2a, hg2b⟩ := HO.out.form (by omega)
        have h8 := Lib.hid h8
        clear hq1
        go_wp2
        obtain ⟨W1, hW1⟩ : ∃ W1, wr = W1 := ⟨_, rfl⟩
        have HL3 : Lies W1 bw 153 #[.slice (some ⟨g2, 0, none⟩) (q + 1) cap2, .int .i64 m] := by rw [← hW1]; exact HL.out
        have HO3 : W1.ownsRow (bw + 1) 5 1 (.slice (some ⟨g2, 0, none⟩) (q + 1) cap2) (q + 1) (cellsOf (bytesOf (q + 1) M)) := by
          rw [← hW1]; exact HO.out
        have HT3 : Turned (fun i => i = bw ∨ v.ownBlock = some i) w W1 := by rw [← hW1]; exact HT.out
        have HV3 : v.ownBlock = some g2 ∨ w.heap.size ≤ g2 := HV.out g2 rfl
        rw [hW1]
      all_goals
        clear hW1 c0 c1 f0 f1 hne
        have hgb : g2 ≠ bw := by omega
        have d0 := HL3.cell 0
        have d1 := HL3.cell 1
        have d2 : W1.cell? ⟨g2, q, none⟩ = some (.int .u8 ((M / 256 ^ q % 256 : Nat) : Int)) := by
          rw [HO3.cellAt q (by omega)]
          simp [cellsOf, bytesOf]
        have d3 := HO3.frozenAt q
        have HL3 := Lib.hid HL3
        have HO3 := Lib.hid HO3
        have HT3 := Lib.hid HT3
        have HV3 := Lib.hid HV3
        have s0 : (0 : Int) ≤ (q : Int) := by omega
        have s2 : (q : Int) < (q : Int) + 1 := by omega
        have s3 : (q : Int) ≤ 100000 := by have := HQ.out; have := HM.out; omega
        have s1 : IntKind.i64.wrap (q : Int) = q := IntWalk.i64_in _ (by omega)
        have d4 := HL3.out.frozen 1
        have d5 := HL3.out.frozen 0
        go_region
        go_wp2
        all_goals
          obtain ⟨s, hs, hs0, hs1, hs2, hs3⟩ := step_min m k d hdk
          simp only [hs]
          have R := put_round (s := s) HL3.out HO3.out HT3.out (.inl rfl) (by rcases HV3.out with h | h; · exact .inl (.inr h)
                                                                              · exact .inr h) (by omega) hu HQ.out HMM.out HM.out hN.out HF.out hdk hs0 hs1 hs2 hs3
          have hlt : k - (d + s) < k - d := by omega
          first | rw [h8.out, Int.pow_zero, Int.mul_one] at R | skip
          refine ⟨⟨d + s, _, ?_, ?_, R.1, R.2, ?_⟩, ?_⟩
          · omega
          · go_num
          · intro i hi
            obtain rfl : g2 = i := by simpa [Value.ownBlock] using hi
            exact HV3.out
          · simp [intOf]; omega
    · obtain rfl : d = k := by omega
      have HW := Lib.hid hw
      clear hw
      go_wp2
      go_ret
      refine ⟨rfl, v', ?_, HT.out, HV.out⟩
      have := HW.out
      rwa [Nat.mod_eq_of_lt HF.out] at this
theorem put_width (bw : Nat) (u k : Int) (h : ¬ (0 ≤ k ∧ k ≤ 64)) (w : World) :
    Calls Try.prog 128 #[.pointer (some ⟨bw, 0, none⟩), .int .u64 u, .int .i64 k] w fun e w' => e = .returned (.int .i64 6) ∧ w = w' := by
  have WN := Lib.hid (fun W => isWidth_no k h W)
  clear h
  go_enter Try.func128, Try.ntmps128
  go_wp2_with (go_at_call 107; refine (WN.out _).mono ?_; rintro e w' ⟨rfl, rfl⟩)
  go_ret
  exact ⟨rfl, rfl⟩
theorem put_range (bw : Nat) (u k : Nat) (hu : u < 18446744073709551616) (hk : k ≤ 64) (hf : ¬ u < 2 ^ k) (w : World) :
    Calls Try.prog 128 #[.pointer (some ⟨bw, 0, none⟩), .int .u64 u, .int .i64 k] w fun e w' => e = .returned (.int .i64 4) ∧ w = w' := by
  have FN := Lib.hid (fun W => fits_no u k hk hu hf W)
  have WY := Lib.hid (fun W => isWidth_yes (k : Int) (by omega) (by omega) W)
  clear hf hk
  go_enter Try.func128, Try.ntmps128
  go_wp2_with (first | (go_at_call 107; refine (WY.out _).mono ?_; rintro e w' ⟨rfl, rfl⟩) | (go_at_call 145; refine (FN.out _).mono ?_; rintro e w' ⟨rfl, rfl⟩))
  go_ret
  exact ⟨rfl, rfl⟩
end Go.Proofs.Ythonjffojaljdaa
