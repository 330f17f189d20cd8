/-
  CONTRACTS OF the document's own Number (corduroyref03) and Decode (corduroyref07), in any world. Conditions: at most 20000 bytes, which lie in memory as told.
-/
import Derived.Test.YtknpekpigiclkaaPlainD
namespace Go.Proofs.Ytknpekpigiclkaa
open Go.RowKit
set_option linter.unusedVariables false
/-- A number from its highest byte down. -/
theorem num_up (z : Nat → Int) : ∀ k, num z (k + 1) = (z 0).toNat + 256 * num (fun j => z (j + 1)) k
  | 0 => by simp [num]
  | k + 1 => by
    have h := num_up z k
    show num z (k + 1) + (z (k + 1)).toNat * 256 ^ (k + 1) = _
    rw [h]
    show _ = (z 0).toNat + 256 * (num (fun j => z (j + 1)) k + (z (k + 1)).toNat * 256 ^ k)
    rw [Nat.pow_succ]
    generalize 256 ^ k = P
    generalize (z (k + 1)).toNat = q
    generalize num (fun j => z (j + 1)) k = N
    have e : q * (P * 256) = 256 * (q * P) := by rw [← Nat.mul_assoc, Nat.mul_comm]
    omega
set_option maxRecDepth 100000 in
set_option maxHeartbeats 1000000 in
theorem rnumber3_any (a : Option Addr) (k cap : Nat) (z : Nat → Int) (hk : k ≤ 8) (hz : ∀ i, i < k → 0 ≤ z i ∧ z i ≤ 255) (w : World) (h : RowOf w a k (fun i => .int .u8 (z i))) :
    Calls Try.prog 40 #[.slice a k cap] w fun e w' => e = .returned (.int .u64 (num z k : Nat)) ∧ w = w' := by
  have H := Lib.hid h
  have HZ := Lib.hid hz
  clear h hz
  go_enter Try.func40, Try.ntmps40
  go_wp2
  go_loop [3, 4] (fun v i => ∃ m : Nat, m ≤ k ∧ i = .int .i64 ((k : Int) - 1 - m) ∧ v = .int .u64 (num (fun j => z (k - m + j)) m : Nat)) (fun _ i => (intOf i + 1).toNat)
  case atStart => exact ⟨0, by omega, by go_num, rfl⟩
  case round =>
    obtain ⟨m, hm, rfl, rfl⟩ := hrel
    by_cases hml : m < k
    · obtain ⟨j, hj⟩ : ∃ j, k - (m + 1) = j := ⟨_, rfl⟩
      obtain ⟨I, hI⟩ : ∃ I : Int, (k : Int) - 1 - m = I := ⟨_, rfl⟩
      rw [hI]
      obtain rfl : I = (j : Int) := by omega
      clear hI
      have j0 : (0 : Int) ≤ j := by omega
      have j1 : (j : Int) < k := by omega
      obtain ⟨b, off, rfl, _, hcell⟩ := H.out.at_ (show j < k by omega)
      have c0 := hcell j (by omega)
      have zb := HZ.out j (by omega)
      clear hcell
      have hup := num_up (fun t => z (j + t)) m
      have hlt := num_lt (fun t => z (j + t)) (m + 1) (fun i hi => HZ.out _ (by omega))
      rw [show (fun t => (fun t => z (j + t)) (t + 1)) = (fun t => z (k - m + t)) from by funext t; show z (j + (t + 1)) = z (k - m + t); congr 1; omega] at hup
      simp only [Nat.add_zero] at hup
      have hp : (256 : Nat) ^ (m + 1) ≤ 256 ^ 8 := Nat.pow_le_pow_right (by decide) (by omega)
      have h8 : (256 : Nat) ^ 8 = 18446744073709551616 := by decide
      rw [h8] at hp
      generalize (256 : Nat) ^ (m + 1) = P at *
      obtain ⟨y, hy⟩ : ∃ y : Nat, z j = y := ⟨(z j).toNat, by omega⟩
      rw [hy] at c0 zb hup
      rw [Int.toNat_natCast] at hup
      generalize num (fun t => z (k - m + t)) m = N at *
      obtain ⟨M, hM⟩ : ∃ M, num (fun t => z (j + t)) (m + 1) = M := ⟨_, rfl⟩
      rw [hM] at hup hlt
      have HM := Lib.hid hM
      have HJ := Lib.hid hj
      have HW := Lib.hid (show IntKind.u64.wrap (256 * (N : Int) + (y : Int)) = (M : Int) from by rw [u64w]; omega)
      clear hup hlt hp h8 hM hj hy zb
      go_wp2
      go_round
      case rel => exact ⟨m + 1, by omega, by have := HJ.out; go_num, by rw [HJ.out, HM.out, ← HW.out]; simp only [u64w]; congr 1; omega⟩
      case measure => simp [intOf]
    · obtain rfl : m = k := by omega
      go_wp2
      go_ret
      exact ⟨by simp, rfl⟩
theorem rdecode_out (a : Option Addr) (nb cap : Nat) (n : Int) (hb : blk n = false) (w : World) :
    Calls Try.prog 32 #[.slice a nb cap, .int .i64 n] w fun e w' => e = .returned (.tuple #[.slice none 0 0, .int .i64 7]) ∧ w = w' := by
  have BK := rblock_any n
  rw [hb] at BK
  have BK := Lib.hid BK
  clear hb
  go_enter Try.func32, Try.ntmps32
  go_wp2_with (go_at_call 35; refine (BK.out _).mono ?_; rintro e w1 ⟨rfl, rfl⟩)
  go_ret2
  exact ⟨rfl, rfl⟩
theorem dns_succ (z : Nat → Int) (n : Nat) : dns z (n + 1) = dns z n ++ [dn z n] := by simp [dns, List.range_succ]
set_option maxRecDepth 100000 in
set_option maxHeartbeats 1000000 in
theorem rdecode_in (a : Option Addr) (nb cap n : Nat) (z : Nat → Int) (hz : ∀ i, i < nb → 0 ≤ z i ∧ z i ≤ 255) (hnb : nb ≤ 100000) (hcap : nb ≤ cap) (hcm : cap ≤ maxLen) (hb : blk n = true) (w : World) (hrow : RowOf w a nb (fun i => .int .u8 (z i))) :
    Calls Try.prog 32 #[.slice a nb cap, .int .i64 n] w fun e w' => ∃ a c, e = .returned (.tuple #[.slice a (pnums z n nb).length c, .int .i64 (perr n nb)]) ∧
      RowOf w' a (pnums z n nb).length (fun i => .int .i64 ((pnums z n nb).getD i 0)) ∧ Below w.heap.size w w' := by
  obtain ⟨i0, hi, hz0, hz1, hz2⟩ := info_parts longInfo
  have hn : n ≤ 1024 := by have := of_decide_eq_true hb; omega
  have BK := rblock_any n
  rw [hb] at BK
  have BK := Lib.hid BK
  have H := Lib.hid hrow
  have HZ := Lib.hid hz
  have hw8 : IntKind.i64.wrap (8 * (n : Int)) = 8 * (n : Int) := IntWalk.i64_in _ (by omega)
  clear hb hrow hz
  by_cases h1 : nb < 8 * n
  · have hp : perr n nb = 1 := by unfold perr; rw [if_pos h1]
    have hq : pnums z n nb = [] := by unfold pnums; rw [if_neg (by omega)]
    rw [hp, hq]
    have g1 : (nb : Int) < 8 * (n : Int) := by omega
    clear h1 hp hq
    go_enter Try.func32, Try.ntmps32
    go_wp2_with (go_at_call 35; refine (BK.out _).mono ?_; rintro e w1 ⟨rfl, rfl⟩)
    go_ret2
    exact ⟨none, 0, rfl, .inl rfl, Below.refl _ _⟩
  by_cases h2 : 8 * n < nb
  · have hp : perr n nb = 2 := by unfold perr; rw [if_neg h1, if_pos h2]
    have hq : pnums z n nb = [] := by unfold pnums; rw [if_neg (by omega)]
    rw [hp, hq]
    have g1 : ¬ (nb : Int) < 8 * (n : Int) := by omega
    have g2 : 8 * (n : Int) < (nb : Int) := by omega
    clear h1 h2 hp hq
    go_enter Try.func32, Try.ntmps32
    go_wp2_with (go_at_call 35; refine (BK.out _).mono ?_; rintro e w1 ⟨rfl, rfl⟩)
    go_ret2
    exact ⟨none, 0, rfl, .inl rfl, Below.refl _ _⟩
  have hp : perr n nb = 0 := by unfold perr; rw [if_neg h1, if_neg h2]
  have hq : pnums z n nb = dns z n := by unfold pnums; rw [if_pos hp]
  rw [hp, hq]
  obtain rfl : nb = 8 * n := by omega
  have HL := Lib.hid (dns_length z n)
  have m3 : (cap : Int) ≤ 9223372036854775807 := by unfold maxLen at hcm; omega
  clear h1 h2 hp hq
  go_enter Try.func32, Try.ntmps32
  go_wp2_with (go_at_call 35; refine (BK.out _).mono ?_; rintro e w1 ⟨rfl, rfl⟩)
  go_loopw [6, 7] (fun v x wr => ∃ i : Nat, i ≤ n ∧ x = .int .i64 i ∧ wr.ownsRow w.heap.size 2 1 v i (rowV (fun i => .int .i64 (dn z i)) i) ∧ Below w.heap.size w wr) (fun _ x _ => n - (intOf x).toNat)
  case atStart => exact ⟨0, by omega, rfl, World.ownsRow_nil _ _ _ _, Below.refl _ _⟩
  case round =>
    obtain ⟨i, hin, rfl, ho, hb⟩ := hrel
    have hsz := hb.size
    by_cases hlt : i < n
    · have i1 : (i : Int) < n := by omega
      have i2 : (0 : Int) ≤ i := by omega
      have s1 : (8 * (i : Int)).toNat = 8 * i := by omega
      have s2 : (8 * (i : Int) + 8).toNat = 8 * i + 8 := by omega
      have s3 : IntKind.i64.wrap (8 * (i : Int)) = 8 * (i : Int) := IntWalk.i64_in _ (by omega)
      have s4 : IntKind.i64.wrap (8 * (i : Int) + 8) = 8 * (i : Int) + 8 := IntWalk.i64_in _ (by omega)
      have s5 : 8 * (i : Int) + 8 ≤ cap := by omega
      have s6 : (0 : Int) ≤ 8 * (i : Int) := by omega
      have s7 : ¬ cap = 8 * i := by omega
      have s8 : (0 : Int) ≤ 8 * (i : Int) + 8 := by omega
      have s9 : 8 * i ≤ 8 * i + 8 := by omega
      have hsub : RowOf wr (a.map (fun x => x.add (8 * i))) 8 (fun j => .int .u8 (z (8 * i + j))) := by
        obtain ⟨b, off, rfl, _, hc⟩ := (H.out.below hb).at_ (i := 0) (by omega)
        refine .inr ⟨b, off + 8 * i, ?_, fun j hj => ?_⟩
        · simp only [Option.map_some, Addr.add]
          split
          · rename_i h; rw [h]; rfl
          · rfl
        · rw [Nat.add_assoc]; exact hc (8 * i + j) (by omega)
      have NU := Lib.hid (fun c => rnumber3_any (a.map (fun x => x.add (8 * i))) 8 c (fun j => z (8 * i + j)) (by decide) (fun j hj => HZ.out _ (by omega)) wr hsub)
      have RS := Lib.hid (rowV_succ (fun i => Value.int .i64 (dn z i)) i)
      have hdn : wrap64 (num (fun j => z (8 * i + j)) 8 : Nat) = dn z i := rfl
      generalize num (fun j => z (8 * i + j)) 8 = N at *
      have HDN := Lib.hid hdn
      have HOW := Lib.hid ho
      have HBW := Lib.hid hb
      clear ho hb hsub hdn
      go_wp2_with (first
        | (go_at_call 40; refine (NU.out _).mono ?_; rintro e w1 ⟨rfl, rfl⟩)
        | (at_builtin; go_must (refine wpList_append_own_at _ rfl _ _ 50 rfl w.heap.size 2 i0 (.int .i64 0) 1 8 Try.underlying50 hi hz0 hz1 hz2 rfl (by decide) _ _ _ rfl (HOW.out.alloc _) ⟨wr.heap.size, 0, none⟩ 1 1 [.int .i64 (wrap64 (N : Nat))] rfl rfl (cell_one_new _ _ _) (by simp [Value.oneCell']) (by unfold maxLen; omega) (by omega) (by simp; omega) ?_); intro v2 w2 hown2 hgrow2 _ _; have HO2 := Lib.hid hown2; have HG2 := Lib.hid hgrow2; clear hown2 hgrow2))
      go_roundw
      case rel => exact ⟨i + 1, by omega, by go_num, by rw [RS.out, ← HDN.out]; exact HO2.out, (HBW.out.alloc hsz _).grown HG2.out (by simp; omega) (fun j hj => (HOW.out.lt j hj).1)⟩
      case measure => simp [intOf]; omega
    · obtain rfl : i = n := by omega
      obtain ⟨a5, c5, rfl, hr5, _⟩ := own_reads' ho
      have HR5 := Lib.hid hr5
      have HBW := Lib.hid hb
      clear ho hb hr5
      go_wp2
      go_ret2
      refine ⟨a5, c5, ?_, ?_, HBW.out⟩
      · rw [HL.out]; rfl
      · rw [HL.out]; exact HR5.out.congr fun j hj => by rw [dns_getD z i j hj]
end Go.Proofs.Ytknpekpigiclkaa
