/-
  CONTRACTS OF the document's own cut and length of layer 11 (corduroyref11), in any world. Conditions: at most 1024 offsets, which lie in memory as told; a width of at most 64.
-/
import Derived.Test.YtakoalghpkpdfaaPforS
import Derived.Test.YtakoalghpkpdfaaPforE
import Derived.Test.YtakoalghpkpdfaaVarPutRow
import Derived.Test.YtakoalghpkpdfaaPlainA
namespace Go.Proofs.Ytakoalghpkpdfaa
open Go.RowKit
set_option linter.unusedVariables false
theorem low_more (v j : Nat) : v % 2 ^ (j + 1) = v % 2 ^ j + v / 2 ^ j % 2 * 2 ^ j := by
  rw [Nat.mod_pow_succ, Nat.mul_comm]
theorem half_more (v j : Nat) : v / 2 ^ (j + 1) = v / 2 ^ j / 2 := by rw [Nat.pow_succ, Nat.div_div_eq_div_mul]
set_option maxRecDepth 100000 in
theorem cut_any (v q : Nat) (hv : v < 18446744073709551616) (hq : q ≤ 64) (w : World) :
    Calls Try.prog 68 #[.int .u64 v, .int .i64 q] w fun e w' => e = .returned (.tuple #[.int .u64 (v / 2 ^ q : Nat), .int .u64 (v % 2 ^ q : Nat)]) ∧ w = w' := by
  go_enter Try.func68, Try.ntmps68
  go_wp2
  go_loop [0, 6, 7] (fun o l k => ∃ j : Nat, j ≤ q ∧ k = .int .i64 j ∧ o = .int .u64 (v / 2 ^ j : Nat) ∧ l = .int .u64 (v % 2 ^ j : Nat)) (fun _ _ k => q - (intOf k).toNat)
  case atStart => exact ⟨0, by omega, rfl, by simp, by simp [Nat.mod_one]⟩
  case round =>
    obtain ⟨j, hj, rfl, rfl, rfl⟩ := hrel
    by_cases hjq : j < q
    · have k1 : (j : Int) < q := by omega
      have k0 : (0 : Int) ≤ j := by omega
      have h1 := low_more v j
      have h2 := half_more v j
      have hA : v / 2 ^ j < 18446744073709551616 := Nat.lt_of_le_of_lt (Nat.div_le_self _ _) hv
      have hB : v % 2 ^ (j + 1) < 18446744073709551616 := Nat.lt_of_le_of_lt (Nat.mod_le _ _) hv
      have hp : v / 2 ^ j % 2 * 2 ^ j < 18446744073709551616 := by omega
      have hC : v % 2 ^ j < 18446744073709551616 := by omega
      rw [h1] at hB
      obtain ⟨S, hS⟩ : ∃ S, v / 2 ^ j % 2 * 2 ^ j = S := ⟨_, rfl⟩
      have e1 : (((v / 2 ^ j : Nat) : Int) % 2 * 2 ^ j) = (S : Int) := by rw [← hS]; simp
      rw [hS] at hB h1 hp
      have H1 := Lib.hid h1
      have H2 := Lib.hid h2
      clear h1 h2 hS
      generalize v / 2 ^ j = A at *
      generalize v % 2 ^ j = C at *
      go_wp2
      go_round
      case rel => exact ⟨j + 1, by omega, by go_num, by rw [H2.out]; simp, by rw [H1.out]; simp⟩
      case measure => simp [intOf]; omega
    · obtain rfl : j = q := by omega
      have k1 : ¬ (j : Int) < j := by omega
      go_wp2
      go_ret2
      exact ⟨rfl, rfl⟩
theorem rpd_any (u : Nat) (hu : u < 18446744073709551616) (W : World) : Calls Try.prog 69 #[.int .u64 (u : Nat)] W fun e W' => ∃ a c, e = .returned (.slice a (dn u) c) ∧ Below W.heap.size W W' := by
  refine (rput_any u hu W).mono ?_
  rintro e w1 ⟨x, rfl, ho, hb⟩
  rw [← dg_eq u hu] at ho
  obtain ⟨a1, c1, rfl, _⟩ := own_bytes ho
  exact ⟨a1, c1, rfl, hb⟩
set_option maxRecDepth 100000 in
set_option maxHeartbeats 1000000 in
theorem rlength_any (a : Option Addr) (m cap q : Nat) (v : Nat → Nat) (hm : m ≤ 1024) (hq : q ≤ 64) (hv : ∀ i, i < m → v i < 18446744073709551616) (w : World) (hrow : RowOf w a m (fun i => .int .u64 (v i : Nat))) :
    Calls Try.prog 29 #[.slice a m cap, .int .i64 q] w fun e w' => e = .returned (.int .i64 (pS dn v m q : Nat)) ∧ Below w.heap.size w w' := by
  have H := Lib.hid hrow
  have HV := Lib.hid hv
  have hmq : m * q ≤ 65536 := Nat.mul_le_mul hm hq
  have hmqi : (m : Int) * q ≤ 65536 := by rw [← Int.natCast_mul]; omega
  have hmq0 : 0 ≤ (m : Int) * q := by rw [← Int.natCast_mul]; omega
  have hnd : ((m : Int) * q + 7) / 8 = (need m q : Nat) := by unfold need; rw [← Int.natCast_mul]; omega
  have hnl := need_le m q hm hq
  have HND := Lib.hid hnd
  clear hrow hv hnd hmq
  go_enter Try.func29, Try.ntmps29
  go_wp2
  rw [HND.out]
  generalize hN : need m q = nd at *
  go_loopw [5, 6, 7, 8] (fun s c g i wr => ∃ k : Nat, k ≤ m ∧ i = .int .i64 k ∧ g = .int .i64 ((exS v q k).2 : Nat) ∧ c = .int .i64 ((exS v q k).1.length : Nat) ∧ s = .int .i64 ((9 + nd + exW dn (exS v q k).1 : Nat) : Int) ∧ Below w.heap.size w wr) (fun _ _ _ i _ => m - (intOf i).toNat)
  case atStart => exact ⟨0, by omega, rfl, rfl, rfl, by simp [exS, exW], Below.refl _ _⟩
  case round =>
    obtain ⟨k, hk, rfl, rfl, rfl, rfl, hb⟩ := hrel
    have hsz := hb.size
    have hg := exS_gap v q k
    have hl := exS_len v q k
    have hw := exW_le dn dn_le (exS v q k).1
    by_cases hkm : k < m
    · have k1 : (k : Int) < m := by omega
      have k0 : (0 : Int) ≤ k := by omega
      obtain ⟨b, off, rfl, hblt, hc⟩ := (H.out.below hb).at_ hkm
      have c0 := hc k hkm
      have hvk := HV.out k hkm
      have CU := Lib.hid (cut_any (v k) q hvk hq)
      have HS := Lib.hid (show exS v q (k + 1) = if v k / 2 ^ q = 0 then ((exS v q k).1, (exS v q k).2 + 1) else ((exS v q k).1 ++ [((exS v q k).2, v k / 2 ^ q)], 0) from rfl)
      have HBW := Lib.hid hb
      clear hb hc
      have hH2 : v k / 2 ^ q < 18446744073709551616 := Nat.lt_of_le_of_lt (Nat.div_le_self _ _) hvk
      obtain ⟨Hh, hH⟩ : ∃ Hh, v k / 2 ^ q = Hh := ⟨_, rfl⟩
      rw [hH] at CU HS hH2
      obtain ⟨C, hC⟩ : ∃ C, v k % 2 ^ q = C := ⟨_, rfl⟩
      rw [hC] at CU
      clear hH hC
      generalize v k = y at *
      generalize exS v q k = s at *
      by_cases hz : Hh = 0
      · subst hz
        have HSk := Lib.hid (show exS v q (k + 1) = (s.1, s.2 + 1) by rw [HS.out, if_pos rfl])
        clear HS
        go_wp2_with (go_at_call 68; refine (CU.out _).mono ?_; rintro e w1 ⟨rfl, rfl⟩)
        go_roundw
        case rel => exact ⟨k + 1, by omega, by go_num, by rw [HSk.out]; go_num, by rw [HSk.out], by rw [HSk.out]; simp, HBW.out⟩
        case measure => simp [intOf]; omega
      · have hz' : ¬ (Hh : Int) = 0 := by omega
        have HSk := Lib.hid (show exS v q (k + 1) = (s.1 ++ [(s.2, Hh)], 0) by rw [HS.out, if_neg hz])
        have hmo := exW_more dn (s.2, Hh) s.1
        have d1 := dn_le s.2
        have d2 := dn_le Hh
        have HMO := Lib.hid hmo
        clear HS hmo
        obtain ⟨G, hG⟩ : ∃ G, s.2 = G := ⟨_, rfl⟩
        rw [hG] at hg d1 HMO HSk ⊢
        have hGl : G < 18446744073709551616 := by omega
        go_wp2_with (first
          | (go_at_call 68; refine (CU.out _).mono ?_; rintro e w1 ⟨rfl, rfl⟩)
          | (go_at_call 69; refine (rpd_any _ (by assumption) _).mono ?_; rintro e w1 ⟨a1, c1, rfl, hb⟩; have HBW := Lib.hid (HBW.out.trans (hb.mono HBW.out.size)); clear hb))
        go_roundw
        case rel => exact ⟨k + 1, by omega, by go_num, by rw [HSk.out]; go_num, by rw [HSk.out]; simp, by rw [HSk.out, HMO.out]; exact congrArg (Value.int .i64) (by simp; omega), HBW.out⟩
        case measure => simp [intOf]; omega
    · obtain rfl : k = m := by omega
      have k1 : ¬ (k : Int) < k := by omega
      have d1 := dn_le (exS v q k).1.length
      have HBW := Lib.hid hb
      have HP := Lib.hid (show pS dn v k q = 9 + nd + exW dn (exS v q k).1 + dn (exS v q k).1.length by unfold pS; rw [hN])
      clear hb
      generalize exW dn (exS v q k).1 = E at *
      generalize (exS v q k).1.length = Lk at *
      have hLk : Lk < 18446744073709551616 := by omega
      go_wp2_with (go_at_call 69; refine (rpd_any _ (by assumption) _).mono ?_; rintro e w1 ⟨a1, c1, rfl, hb⟩; have HB1 := Lib.hid hb; clear hb)
      go_ret
      exact ⟨by rw [HP.out]; simp, HBW.out.trans (HB1.out.mono HBW.out.size)⟩
end Go.Proofs.Ytakoalghpkpdfaa
