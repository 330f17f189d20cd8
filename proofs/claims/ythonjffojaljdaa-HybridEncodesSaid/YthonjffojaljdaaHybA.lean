/-
  CONTRACTS OF short.Zigs and of hybrid.alike, in any world. Conditions: at most 1024 numbers, which lie in memory as told.
-/
import Derived.Test.YthonjffojaljdaaHybN
import Derived.Test.YthonjffojaljdaaBitsUnpackRow
import Derived.Test.YthonjffojaljdaaVarZig
import Derived.Test.YthonjffojaljdaaWidA
import Derived.RangeFuncBox
namespace Go.Proofs.Ythonjffojaljdaa
open Go.RowKit
set_option linter.unusedVariables false
set_option maxRecDepth 100000 in
theorem other_any (x : Nat) (bx : Nat) (a : Option Addr) (m cap : Nat) (z : Nat → Nat) (hm : 0 < m) (w : World) (hb : Boxed w bx 58 (.slice a m cap)) (h : RowOf w a m (fun i => .int .u64 (z i : Nat))) :
    Calls Try.prog 144 #[.int .u64 x, .pointer (some ⟨bx, 0, none⟩)] w fun e w' => e = .returned (.bool (decide (x ≠ z 0))) ∧ w = w' := by
  obtain ⟨b, off, rfl, hblt, hc⟩ := h.at_ hm
  have c0 := hc 0 hm
  rw [Nat.add_zero] at c0
  have c1 := hb.cell
  have hd : decide (x ≠ z 0) = !((x : Int) == (z 0 : Nat)) := by
    by_cases e : x = z 0
    · subst e; simp
    · have : ¬ ((x : Int) = (z 0 : Nat)) := by omega
      simp [e, this]
  have HD := Lib.hid hd
  have g0 : (0 : Int) < m := by omega
  clear hc hd
  generalize z 0 = y at *
  go_enter Try.func144, Try.ntmps144
  go_wp2
  go_ret
  exact ⟨by rw [HD.out]; rfl, rfl⟩
/-- What a search tells. -/
def idxm (f m : Nat) : Int := if f < m then (f : Int) else -1
set_option maxRecDepth 100000 in
theorem index_al (bx : Nat) (a : Option Addr) (m cap f : Nat) (z : Nat → Nat) (hm : m ≤ 1024) (h1 : f ≤ m) (h2 : ∀ i, i < f → z i = z 0) (h3 : f < m → z f ≠ z 0) (w : World) (hb : Boxed w bx 58 (.slice a m cap)) (h : RowOf w a m (fun i => .int .u64 (z i : Nat))) :
    Calls Try.prog 143 #[.slice a m cap, .func (.func 144) #[] #[.pointer (some ⟨bx, 0, none⟩)]] w fun e w' => e = .returned (.int .i64 (idxm f m)) ∧ w = w' := by
  have OT := Lib.hid (fun (x : Nat) (h0 : 0 < m) => other_any x bx a m cap z h0 w hb h)
  have H := Lib.hid h
  have H2 := Lib.hid h2
  have H3 := Lib.hid h3
  clear h h2 h3 hb
  go_enter Try.func143, Try.ntmps143
  go_wp2_with fail
  go_loop [5, 8] (fun _ i => ∃ k : Nat, k ≤ f ∧ i = .int .i64 k) (fun _ i => m - (intOf i).toNat)
  case atStart => exact ⟨0, by omega, rfl⟩
  case round =>
    obtain ⟨k, hk, rfl⟩ := hrel
    by_cases hlt : k < m
    · have g1 : (k : Int) < m := by omega
      obtain ⟨b, off, rfl, hblt, hc⟩ := H.out.at_ hlt
      have c0 := hc k hlt
      have OK := Lib.hid (OT.out (z k) (by omega))
      clear hc
      by_cases hkf : k < f
      · have HD := Lib.hid (show decide (z k ≠ z 0) = false from decide_eq_false (fun e => e (H2.out k hkf)))
        go_wp2_with fail
        refine OK.out.mono ?_
        rintro e w' ⟨rfl, rfl⟩
        rw [HD.out]
        go_wp2
        go_round
        case rel => exact ⟨k + 1, by omega, by go_num⟩
        case measure => simp [intOf]; omega
      · have hke : k = f := by omega
        have HD := Lib.hid (show decide (z k ≠ z 0) = true by rw [hke]; exact decide_eq_true (H3.out (by omega)))
        have HE := Lib.hid hke
        clear hke
        go_wp2_with fail
        refine OK.out.mono ?_
        rintro e w' ⟨rfl, rfl⟩
        rw [HD.out]
        go_wp2
        go_ret
        refine ⟨?_, rfl⟩
        have := HE.out
        subst this
        rw [show idxm k m = k from if_pos hlt]
        rfl
    · have hke : f = m := by omega
      have HE := Lib.hid hke
      have g1 : ¬ (k : Int) < m := by omega
      clear hke
      go_wp2
      go_ret
      refine ⟨?_, rfl⟩
      rw [show idxm f m = -1 from if_neg (by have := HE.out; omega)]
      rfl
set_option maxRecDepth 100000 in
theorem alike_any (a : Option Addr) (m cap : Nat) (z : Nat → Nat) (hm : m ≤ 1024) (w : World) (h : RowOf w a m (fun i => .int .u64 (z i : Nat))) :
    Calls Try.prog 125 #[.slice a m cap] w fun e w' => e = .returned (.int .i64 (al z m : Nat)) ∧ Below w.heap.size w w' := by
  obtain ⟨h1, h2, h3⟩ := al_spec z m
  have HB := Lib.hid ((Below.refl w.heap.size w).alloc (Nat.le_refl _) (.cells #[.slice a m cap] 58))
  have IX := Lib.hid (index_al w.heap.size a m cap (al z m) z hm h1 h2 h3 (w.alloc (.cells #[.slice a m cap] 58)) (Boxed.new w _ _) (h.below HB.out))
  clear h h2 h3
  generalize al z m = f at *
  by_cases hf : f < m
  · rw [show idxm f m = f from if_pos hf] at IX
    have g1 : ¬ ((f : Nat) : Int) < 0 := by omega
    go_enter Try.func125, Try.ntmps125
    go_wp2_with (go_at_call 143; refine IX.out.mono ?_; rintro e w1 ⟨rfl, rfl⟩)
    go_ret
    exact ⟨rfl, HB.out⟩
  · rw [show idxm f m = -1 from if_neg hf] at IX
    obtain rfl : f = m := by omega
    go_enter Try.func125, Try.ntmps125
    go_wp2_with (go_at_call 143; refine IX.out.mono ?_; rintro e w1 ⟨rfl, rfl⟩)
    go_ret
    exact ⟨rfl, HB.out⟩
end Go.Proofs.Ythonjffojaljdaa
