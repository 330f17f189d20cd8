/-
  CONTRACT OF pfor.lows, in any world. Conditions: at most 1024 offsets, which lie in memory as told; a width of at most 64.
-/
import Derived.Test.YthonjffojaljdaaBitsUnpackRow
import Derived.Test.YthonjffojaljdaaWidA
import Derived.Test.YthonjffojaljdaaBitsNum
namespace Go.Proofs.Ythonjffojaljdaa
open Go.RowKit
set_option linter.unusedVariables false
set_option maxRecDepth 100000 in
set_option maxHeartbeats 1000000 in
theorem lows_any (a : Option Addr) (m cap q : Nat) (v : Nat → Nat) (hm : m ≤ 1024) (hq : q ≤ 64) (hv : ∀ i, i < m → v i < 18446744073709551616) (w : World) (hrow : RowOf w a m (fun i => .int .u64 (v i : Nat))) :
    Calls Try.prog 112 #[.slice a m cap, .int .i64 q] w fun e w' => ∃ x, e = .returned x ∧ w'.ownsRow w.heap.size 40 1 x m (rowV (fun i => .int .u64 (v i % 2 ^ q : Nat)) m) ∧ Below w.heap.size w w' := by
  obtain ⟨i0, hi, hz0, hz1, hz2⟩ := info_parts u64Info
  have H := Lib.hid hrow
  have HV := Lib.hid hv
  have hlow := u64_low q hq
  have hp := pow_le64 hq
  have hp0 : 0 < 2 ^ q := Nat.pow_pos (by decide)
  have HP := Lib.hid hp
  have HP0 := Lib.hid hp0
  clear hrow hv hp hp0
  go_enter Try.func112, Try.ntmps112
  go_wp2_with (at_make; go_must (refine wpList_make_full _ rfl _ _ 58 rfl w.heap.size 40 i0 (.int .u64 0) 1 Try.underlying58 hi hz0 hz1 _ _ _ _ m rfl rfl rfl rfl (by rw [hz2]; omega) (by unfold maxLen; omega) (Nat.le_refl _) ?_); intro w2 hown hg; rw [show (Value.int .u64 0).cells = #[Value.int .u64 0] from rfl, rowV_zero] at hown; have HO := Lib.hid hown; have HG := Lib.hid hg; clear hown hg)
  have HB2 := Lib.hid ((Below.refl w.heap.size w).grown HG.out (Nat.le_refl _) (fun k hk => by cases hk))
  obtain ⟨g, hg⟩ : ∃ g, w.heap.size = g := ⟨_, rfl⟩
  rw [hg] at HO HB2
  rw [hg]
  clear HG
  go_loopw [13] (fun x wr => ∃ i : Nat, i ≤ m ∧ x = .int .i64 i ∧ wr.ownsRow g 40 1 (.slice (some ⟨g, 0, none⟩) m m) m (rowV (fun j => .int .u64 (if j < i then (v j % 2 ^ q : Nat) else 0 : Int)) m) ∧ Below g w wr) (fun x wr => m - (intOf x).toNat)
  case atStart => exact ⟨0, by omega, rfl, by simpa using HO.out, HB2.out⟩
  case round =>
    obtain ⟨i, hin, rfl, ho, hb⟩ := hrel
    by_cases hlt : i < m
    · obtain ⟨b, off, rfl, hblt, hc⟩ := (H.out.below (hg ▸ hb)).at_ hlt
      have c0 := hc i hlt
      have hvi := HV.out i hlt
      have q0 := ho.cellAt i (by omega)
      rw [rowV_get _ hlt] at q0
      have q1 := ho.frozenAt i
      have HO3 := Lib.hid ho
      have HB3 := Lib.hid hb
      clear ho hb hc
      have i1 : (i : Int) < m := by omega
      have ha : Go.bits .and .u64 (v i : Int) ((2 ^ q - 1 : Nat) : Int) = ((v i % 2 ^ q : Nat) : Int) := by
        rw [u64_and_nat _ _ hvi (by have := HP.out; have := HP0.out; omega), and_low]
      go_wp2
      go_roundw
      case rel =>
        refine ⟨i + 1, by omega, by go_num, ?_, ?_⟩
        · have h1 := (HO3.out.stored i (.int .u64 (v i % 2 ^ q : Nat))).1
          rw [rowV_set] at h1
          rw [rowV_congr (g := fun j => if j = i then .int .u64 (v i % 2 ^ q : Nat) else .int .u64 (if j < i then (v j % 2 ^ q : Nat) else 0 : Int)) (fun j hj => by
            by_cases e : j = i
            · subst e; simp
            · rw [if_neg e]
              by_cases e2 : j < i
              · rw [if_pos e2, if_pos (by omega)]
              · rw [if_neg e2, if_neg (by omega)])]
          exact h1
        · exact HB3.out.setCell (p := ⟨g, i, none⟩) (Nat.le_refl _) _
      case measure => simp [intOf]; omega
    · obtain rfl : i = m := by omega
      have i1 : ¬ (i : Int) < i := by omega
      rw [rowV_congr (g := fun j => .int .u64 (v j % 2 ^ q : Nat)) (fun j hj => by rw [if_pos hj])] at ho
      have HO3 := Lib.hid ho
      have HB3 := Lib.hid hb
      clear ho hb
      go_wp2
      go_ret
      exact ⟨_, rfl, HO3.out, HB3.out⟩
end Go.Proofs.Ythonjffojaljdaa
