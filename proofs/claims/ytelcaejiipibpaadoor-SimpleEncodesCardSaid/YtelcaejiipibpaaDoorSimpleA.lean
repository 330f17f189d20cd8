/-
  CONTRACTS OF simple.holds, fits, choose and word, in any world where the table of shapes lies. Conditions: selectors below 16, at most 1100 numbers of 64 bits.
-/
import Derived.Test.YtelcaejiipibpaaDoorSimpleN
import Derived.Test.YtelcaejiipibpaaDoorPlainB
import Derived.Laws.Tables
import Derived.Lib.BitFns
import Derived.Deep.DeepMust
import Derived.Deep.LoopGhost
namespace Go.Proofs.YtelcaejiipibpaaDoor
open Go.ChangeShapes Go.WideShapes Go.ChangeAt Go.RowKit
set_option linter.unusedVariables false
/-- THE TABLE OF SHAPES lies: each selector's count, and its width. -/
def SW (w : World) : Prop := ∀ s, s < 16 → w.cell? ⟨0, s * 2, none⟩ = some (.int .i64 (sMany s : Nat)) ∧ w.cell? ⟨0, s * 2 + 1, none⟩ = some (.int .i64 (sBits s : Nat))
theorem SW.lt {w : World} (h : SW w) : 0 < w.heap.size := World.block_lt_of_cell? w _ (h 0 (by decide)).1
theorem SW.below {w w' : World} (h : SW w) (hb : Below w.heap.size w w') : SW w' := fun s hs =>
  ⟨(hb.cell (p := ⟨0, s * 2, none⟩) h.lt).trans (h s hs).1, (hb.cell (p := ⟨0, s * 2 + 1, none⟩) h.lt).trans (h s hs).2⟩
theorem eq_one (z : Nat) : ((z : Int) == 1) = decide (z = 1) := by
  by_cases h : z = 1
  · subst h; rfl
  · rw [decide_eq_false h]; exact beq_eq_false_iff_ne.mpr (by omega)
theorem div_none (z k : Nat) : ((z : Int) / 2 ^ k == 0) = decide (z < 2 ^ k) := by
  have e : (z : Int) / 2 ^ k = ((z / 2 ^ k : Nat) : Int) := by rw [Int.natCast_ediv]; simp
  rw [e]
  by_cases h : z < 2 ^ k
  · rw [decide_eq_true h, Nat.div_eq_of_lt h]; rfl
  · rw [decide_eq_false h]
    refine beq_eq_false_iff_ne.mpr fun h0 => ?_
    have h1 : z / 2 ^ k = 0 := by omega
    have := Nat.div_eq_zero_iff.1 h1
    have := Nat.two_pow_pos k
    omega
theorem sholds_any (k z : Nat) (hk : k ≤ 63) (hz : z < 18446744073709551616) (w : World) : Calls Tryd.prog 40 #[.int .i64 k, .int .u64 z] w fun e w' => e = .returned (.bool (sHolds k z)) ∧ w = w' := by
  unfold sHolds
  by_cases h0 : k = 0
  · subst h0
    rw [if_pos rfl, ← eq_one]
    go_enter Tryd.func40, Tryd.ntmps40
    go_wp2
    go_ret
    exact ⟨rfl, rfl⟩
  · rw [if_neg h0, ← div_none]
    have k1 : ((k : Int) == 0) = false := beq_eq_false_iff_ne.mpr (by omega)
    go_enter Tryd.func40, Tryd.ntmps40
    go_wp2
    go_ret
    exact ⟨rfl, rfl⟩
set_option maxRecDepth 100000 in
set_option maxHeartbeats 1000000 in
theorem sfits_any (s n cap : Nat) (a : Option Addr) (z : Nat → Nat) (hs : s < 16) (hn : n ≤ 1100) (hc : n ≤ cap) (hcm : cap ≤ maxLen) (hz : ∀ i, i < n → z i < 18446744073709551616) (w : World) (h : RowOf w a n (fun i => .int .u64 (z i : Nat))) (hT : SW w) :
    Calls Tryd.prog 60 #[.int .i64 s, .slice a n cap] w fun e w' => e = .returned (.bool (sFits z n s)) ∧ w = w' := by
  obtain ⟨c1, c2⟩ := hT s hs
  obtain ⟨t1, t2, t3, t4, t5⟩ := s_table s hs
  have hF := sFits_iff z n s
  obtain ⟨B, hB⟩ : ∃ B, sFits z n s = B := ⟨_, rfl⟩
  rw [hB] at hF ⊢
  have HF := Lib.hid hF
  clear hB hF
  have HH := Lib.hid (fun v (hv : v < 18446744073709551616) W => sholds_any (sBits s) v (by omega) hv W)
  have HR := Lib.hid h
  have HZ := Lib.hid hz
  clear h hz hT
  generalize sMany s = m at *
  generalize sBits s = k at *
  have s0 : (0 : Int) ≤ s := by omega
  have s1 : (s : Int) < 16 := by omega
  by_cases hm : n < m
  · obtain rfl : B = false := by
      cases B
      · rfl
      · have := (HF.out.1 rfl).1; omega
    have m1 : (n : Int) < m := by omega
    go_enter Tryd.func60, Tryd.ntmps60
    go_wp2
    go_ret
    exact ⟨rfl, rfl⟩
  · have m1 : ¬ (n : Int) < m := by omega
    have m2 : (m : Int) ≤ cap := by omega
    have m0 : (0 : Int) ≤ m := by omega
    go_enter Tryd.func60, Tryd.ntmps60
    go_wp2
    go_loop [20] (fun x => ∃ i : Nat, i ≤ m ∧ x = .int .i64 i ∧ ∀ j, j < i → sHolds k (z j) = true) (fun x => m - (intOf x).toNat)
    case atStart => exact ⟨0, Nat.zero_le _, rfl, fun j hj => absurd hj (Nat.not_lt_zero _)⟩
    case round =>
      obtain ⟨i, him, rfl, hu⟩ := hrel
      have HU := Lib.hid hu
      clear hu
      by_cases hil : i < m
      · have j1 : (i : Int) < m := by omega
        have j0 : (0 : Int) ≤ i := by omega
        obtain ⟨b, off, rfl, hblt, hcl⟩ := HR.out.at_ (i := i) (by omega)
        have d0 := hcl i (by omega)
        have HH2 := Lib.hid (HH.out (z i) (HZ.out i (by omega)))
        clear hcl
        obtain ⟨v, hv⟩ : ∃ v, z i = v := ⟨_, rfl⟩
        have HV := Lib.hid hv
        rw [hv] at d0 HH2
        clear hv
        cases hb : sHolds k v
        · rw [hb] at HH2
          obtain rfl : B = false := by
            cases B
            · rfl
            · have := (HF.out.1 rfl).2 i hil
              rw [HV.out, hb] at this; cases this
          clear hb HF
          go_wp2_with (go_at_call 40; refine (HH2.out _).mono ?_; rintro e w1 ⟨rfl, rfl⟩)
          go_ret
          exact ⟨rfl, rfl⟩
        · rw [hb] at HH2
          have HB := Lib.hid hb
          clear hb
          go_wp2_with (go_at_call 40; refine (HH2.out _).mono ?_; rintro e w1 ⟨rfl, rfl⟩)
          go_round
          case rel => exact ⟨i + 1, by omega, by go_num, fun j hj => by
            rcases Nat.lt_or_ge j i with h1 | h1
            · exact HU.out j h1
            · obtain rfl : j = i := by omega
              rw [HV.out]; exact HB.out⟩
          case measure => simp [intOf]; omega
      · obtain rfl : i = m := by omega
        have j1 : ¬ (i : Int) < i := by omega
        obtain rfl : B = true := HF.out.2 ⟨by omega, HU.out⟩
        clear HF
        go_wp2
        go_ret
        exact ⟨rfl, rfl⟩
theorem schoose_any (n cap : Nat) (a : Option Addr) (z : Nat → Nat) (hn1 : 1 ≤ n) (hn : n ≤ 1100) (hc : n ≤ cap) (hcm : cap ≤ maxLen) (hz : ∀ i, i < n → z i < 2 ^ 60) (w : World) (h : RowOf w a n (fun i => .int .u64 (z i : Nat))) (hT : SW w) :
    Calls Tryd.prog 51 #[.slice a n cap] w fun e w' => e = .returned (.int .i64 (sSel z n : Nat)) ∧ w = w' := by
  have e60 : (2 : Nat) ^ 60 = 1152921504606846976 := by decide
  obtain ⟨h1, h2, h3⟩ := sSel_spec z n hn1 (hz 0 (by omega))
  have FI := Lib.hid (fun (s : Nat) (hs : s < 16) => sfits_any s n cap a z hs hn hc hcm (fun i hi => by have := hz i hi; omega) w h hT)
  have H1 := Lib.hid h1
  have H3 := Lib.hid h3
  clear h hT hz h1 h3 e60
  generalize sSel z n = S at *
  go_enter Tryd.func51, Tryd.ntmps51
  go_wp2
  go_loop [3] (fun x => ∃ t : Nat, t ≤ S ∧ x = .int .i64 t) (fun x => S - (intOf x).toNat)
  case atStart => exact ⟨0, Nat.zero_le _, rfl⟩
  case round =>
    obtain ⟨t, hts, rfl⟩ := hrel
    have F2 := FI.out t (by omega)
    by_cases ht : t < S
    · rw [H3.out t ht] at F2
      have F2 := Lib.hid F2
      go_wp2_with (go_at_call 60; refine F2.out.mono ?_; rintro e w1 ⟨rfl, rfl⟩)
      go_round
      case rel => exact ⟨t + 1, by omega, by go_num⟩
      case measure => simp [intOf]; omega
    · obtain rfl : t = S := by omega
      rw [H1.out] at F2
      have F2 := Lib.hid F2
      go_wp2_with (go_at_call 60; refine F2.out.mono ?_; rintro e w1 ⟨rfl, rfl⟩)
      go_ret
      exact ⟨rfl, rfl⟩
theorem word_or (A v c k s T : Nat) (hA : A < 2 ^ c) (hv : v < 2 ^ k) (hc : c + k ≤ 60) (hs : s < 16) (hT : T = s * 2 ^ 60) : Go.bits .or .u64 ((A : Int) + (T : Int)) (IntKind.u64.wrap ((v : Int) * 2 ^ c)) = ((A + v * 2 ^ c + T : Nat) : Int) := by
  have e60 : (2 : Nat) ^ 60 = 1152921504606846976 := by decide
  have hAv : A + v * 2 ^ c < 2 ^ 60 := by
    have h1 : (v + 1) * 2 ^ c ≤ 2 ^ k * 2 ^ c := Nat.mul_le_mul_right _ hv
    rw [← Nat.pow_add] at h1
    have h2 : (2 : Nat) ^ (k + c) ≤ 2 ^ 60 := Nat.pow_le_pow_right (by decide) (by omega)
    rw [Nat.add_mul, Nat.one_mul] at h1
    omega
  have e1 : (v : Int) * 2 ^ c = ((v * 2 ^ c : Nat) : Int) := by rw [Int.natCast_mul, Int.natCast_pow]; rfl
  have hw : IntKind.u64.wrap ((v : Int) * 2 ^ c) = ((v * 2 ^ c : Nat) : Int) := by
    rw [e1]
    simp only [IntKind.wrap, IntKind.bits, IntKind.signed]
    generalize v * 2 ^ c = V at *
    simp
    omega
  rw [hw, show (A : Int) + (T : Int) = ((A + T : Nat) : Int) by omega, u64_or_nat _ _ (by omega) (by omega)]
  congr 1
  rw [hT, ← or_add A s 60 (by omega), Nat.or_assoc, Nat.or_comm (s * 2 ^ 60), ← Nat.or_assoc, or_add A v c hA, or_add _ s 60 hAv]
set_option maxRecDepth 100000 in
set_option maxHeartbeats 1000000 in
theorem sword_any (s n cap : Nat) (a : Option Addr) (z : Nat → Nat) (hs : s < 16) (hn : n = sMany s) (hh : ∀ i, i < n → sHolds (sBits s) (z i) = true) (w : World) (h : RowOf w a n (fun i => .int .u64 (z i : Nat))) (hT : SW w) :
    Calls Tryd.prog 38 #[.int .i64 s, .slice a n cap] w fun e w' => e = .returned (.int .u64 ((sNums z s + s * 2 ^ 60 : Nat) : Int)) ∧ w = w' := by
  obtain ⟨c1, c2⟩ := hT s hs
  obtain ⟨t1, t2, t3, t4, t5⟩ := s_table s hs
  have hN : sNums z s = if sBits s = 0 then 0 else sPack (sBits s) z n := by unfold sNums; rw [hn]
  have HR := Lib.hid h
  rw [← hn] at t1 t2 t3 t5 c1
  generalize sNums z s = NN at *
  generalize sBits s = k at *
  clear h hT hn
  have s0 : (0 : Int) ≤ s := by omega
  have s1 : (s : Int) < 16 := by omega
  obtain ⟨T, hT⟩ : ∃ T, s * 2 ^ 60 = T := ⟨_, rfl⟩
  rw [hT]
  have hTT : (s : Int) * 1152921504606846976 = (T : Int) := by omega
  have hTs : T = s * 2 ^ 60 := hT.symm
  have HTS := Lib.hid hTs
  have hT64 : T < 18446744073709551616 := by omega
  have hTi : (T : Int) < 18446744073709551616 := by omega
  clear hT hTs
  by_cases h0 : k = 0
  · rw [if_pos h0] at hN
    subst hN h0
    rw [Nat.zero_add]
    go_enter Tryd.func38, Tryd.ntmps38
    go_wp2
    go_ret
    exact ⟨rfl, rfl⟩
  · rw [if_neg h0] at hN
    have k1 : ((k : Int) == 0) = false := beq_eq_false_iff_ne.mpr (by omega)
    subst hN
    have HK := Lib.hid (show ∀ i, i < n → z i < 2 ^ k from fun i hi => by
      have := hh i hi
      unfold sHolds at this
      rw [if_neg h0] at this
      exact of_decide_eq_true this)
    clear hh
    have HB := Lib.hid (show ∀ i, i < n → i * k + k ≤ 60 from fun i hi => by
      have h1 : (i + 1) * k ≤ n * k := Nat.mul_le_mul_right k hi
      rw [Nat.add_mul, Nat.one_mul] at h1
      omega)
    have HP := Lib.hid (show ∀ i, i ≤ n → sPack k z i < 2 ^ (i * k) from fun i hi => sPack_lt k z i (fun j hj => HK.out j (by omega)))
    clear t3
    go_enter Tryd.func38, Tryd.ntmps38
    go_wp2
    go_loop [5, 21] (fun x y => ∃ i : Nat, i ≤ n ∧ y = .int .i64 i ∧ x = .int .u64 ((sPack k z i + T : Nat) : Int)) (fun _ y => n - (intOf y).toNat)
    case atStart => exact ⟨0, Nat.zero_le _, rfl, by simp [sPack]⟩
    case round =>
      obtain ⟨i, hin, rfl, rfl⟩ := hrel
      by_cases hil : i < n
      · have j1 : (i : Int) < n := by omega
        have j0 : (0 : Int) ≤ i := by omega
        obtain ⟨b, off, rfl, hblt, hcl⟩ := HR.out.at_ hil
        have d0 := hcl i hil
        have hk2 := HB.out i hil
        have hv := HK.out i hil
        have hp := HP.out i hin
        have hS : sPack k z (i + 1) = sPack k z i + z i * 2 ^ (i * k) := rfl
        have HS := Lib.hid hS
        generalize sPack k z i = A at *
        generalize z i = v at *
        obtain ⟨c, hc⟩ : ∃ c, i * k = c := ⟨_, rfl⟩
        have hcI : (i : Int) * (k : Int) = (c : Int) := by rw [← hc, Int.natCast_mul]
        rw [hc] at hk2 hp HS
        clear hcl hc
        have HO := Lib.hid (word_or A v c k s T hp hv hk2 hs HTS.out)
        have hcb : c ≤ 60 := by omega
        clear hp hv hk2 hS
        go_wp2
        go_round
        case rel => exact ⟨i + 1, by omega, by go_num, by rw [HO.out, HS.out]⟩
        case measure => simp [intOf]; omega
      · obtain rfl : i = n := by omega
        have j1 : ¬ (i : Int) < i := by omega
        go_wp2
        go_ret
        exact ⟨rfl, rfl⟩
end Go.Proofs.YtelcaejiipibpaaDoor
