/-
  CONTRACT OF short.Zigs, in any world. Conditions: at most 1024 numbers of 64 bits, which lie in memory as told.
-/
import Derived.Test.YtelcaejiipibpaaDoorVarZig
import Derived.Test.YtelcaejiipibpaaDoorBitsUnpackRow
import Derived.Test.YtelcaejiipibpaaDoorPlainB
import Derived.Deep.DeepMust
namespace Go.Proofs.YtelcaejiipibpaaDoor
open Go.RowKit
set_option linter.unusedVariables false
/-- A block's zigzags. -/
def hz (x : Nat → Int) (i : Nat) : Nat := (zg (x i)).toNat
theorem hz_int (x : Nat → Int) (i : Nat) : zg (x i) = (hz x i : Int) := by
  have : 0 ≤ zg (x i) := by unfold zg; split <;> omega
  unfold hz; omega
theorem hz_lt (x : Nat → Int) (i : Nat) (h : -9223372036854775808 ≤ x i ∧ x i ≤ 9223372036854775807) : hz x i < 18446744073709551616 := by
  unfold hz zg; split <;> omega
set_option maxRecDepth 100000 in
set_option maxHeartbeats 1000000 in
theorem zigs_any (a : Option Addr) (m cap : Nat) (x : Nat → Int) (hm : m ≤ 1024) (hx : ∀ i, i < m → -9223372036854775808 ≤ x i ∧ x i ≤ 9223372036854775807) (w : World) (hrow : RowOf w a m (fun i => .int .i64 (x i))) :
    Calls Tryd.prog 36 #[.slice a m cap] w fun e w' => e = .returned (.slice (some ⟨w.heap.size, 0, none⟩) m m) ∧ w'.ownsRow w.heap.size 48 1 (.slice (some ⟨w.heap.size, 0, none⟩) m m) m (rowV (fun i => .int .u64 (hz x i : Nat)) m) ∧ Below w.heap.size w w' := by
  obtain ⟨i0, hi, hz0, hz1, hz2⟩ := info_parts u64Info
  have H := Lib.hid hrow
  have HX := Lib.hid hx
  clear hrow hx
  go_enter Tryd.func36, Tryd.ntmps36
  go_wp2_with (at_make; go_must (refine wpList_make_full _ rfl _ _ 57 rfl w.heap.size 48 i0 (.int .u64 0) 1 Tryd.underlying57 hi hz0 hz1 _ _ _ _ m rfl rfl rfl rfl (by rw [hz2]; omega) (by unfold maxLen; omega) (Nat.le_refl _) ?_); intro w2 hown hg; rw [show (Value.int .u64 0).cells = #[Value.int .u64 0] from rfl, rowV_zero] at hown; have HO := Lib.hid hown; have HG := Lib.hid hg; clear hown hg)
  have HB2 := Lib.hid ((Below.refl w.heap.size w).grown HG.out (Nat.le_refl _) (fun k hk => by cases hk))
  obtain ⟨g, hg⟩ : ∃ g, w.heap.size = g := ⟨_, rfl⟩
  rw [hg] at HO HB2
  rw [hg]
  clear HG
  go_loopw [11] (fun q wr => ∃ i : Nat, i ≤ m ∧ q = .int .i64 i ∧ wr.ownsRow g 48 1 (.slice (some ⟨g, 0, none⟩) m m) m (rowV (fun j => .int .u64 (if j < i then (hz x j : Nat) else 0 : Int)) m) ∧ Below g w wr) (fun q wr => m - (intOf q).toNat)
  case atStart => exact ⟨0, by omega, rfl, by simpa using HO.out, HB2.out⟩
  case round =>
    obtain ⟨i, hin, rfl, ho, hb⟩ := hrel
    by_cases hlt : i < m
    · obtain ⟨b, off, rfl, hblt, hc⟩ := (H.out.below (hg ▸ hb)).at_ hlt
      have c0 := hc i hlt
      have hxi := HX.out i hlt
      have ZG := zig_any (x i) hxi.1 hxi.2
      rw [hz_int] at ZG
      have ZG := Lib.hid ZG
      have q0 := ho.cellAt i (by omega)
      rw [rowV_get _ hlt] at q0
      have q1 := ho.frozenAt i
      have HO3 := Lib.hid ho
      have HB3 := Lib.hid hb
      clear ho hb hc hxi
      have i1 : (i : Int) < m := by omega
      go_wp2_with (go_at_call 52; refine (ZG.out _).mono ?_; rintro e w3 ⟨rfl, rfl⟩)
      go_roundw
      case rel =>
        refine ⟨i + 1, by omega, by go_num, ?_, ?_⟩
        · have h1 := (HO3.out.stored i (.int .u64 (hz x i : Nat))).1
          rw [rowV_set] at h1
          rw [rowV_congr (g := fun j => if j = i then .int .u64 (hz x i : Nat) else .int .u64 (if j < i then (hz x j : Nat) else 0 : Int)) (fun j hj => by
            by_cases e : j = i
            · subst e; simp
            · rw [if_neg e]
              by_cases e2 : j < i
              · rw [if_pos e2, if_pos (by omega)]
              · rw [if_neg e2, if_neg (by omega)])]
          exact h1
        · exact HB3.out.setCell (p := ⟨g, i, none⟩) (Nat.le_refl _) _
      case measure => simp [intOf]; omega
    · obtain rfl : i = m := by omega
      have i1 : ¬ (i : Int) < i := by omega
      rw [rowV_congr (g := fun j => .int .u64 (hz x j : Nat)) (fun j hj => by rw [if_pos hj])] at ho
      have HO3 := Lib.hid ho
      have HB3 := Lib.hid hb
      clear ho hb
      go_wp2
      go_ret
      exact ⟨rfl, HO3.out, HB3.out⟩
end Go.Proofs.YtelcaejiipibpaaDoor
