/-
  TEXTS OF THIS PROOF, one behind the other: XHybA XHybB.
-/
import Derived.Test.YthonjffojaljdaaHybN
import Derived.Test.YthonjffojaljdaaBitsUnpackRow
import Derived.Test.YthonjffojaljdaaVarZig
import Derived.Test.YthonjffojaljdaaHybM5
import Derived.RangeFuncBox
/-
  CONTRACTS OF short.Zigs and of hybrid.alike, in any world. Conditions: at most 1024 numbers, which lie in memory as told.
-/
namespace Go.Proofs.Ythonjffojaljdaa
open Go.RowKit
set_option linter.unusedVariables false
set_option maxRecDepth 100000 in
theorem other_any (x : Nat) (bx : Nat) (a : Option Addr) (m cap : Nat) (z : Nat → Nat) (hm : 0 < m) (w : World) (hb : Boxed w bx 58 (.slice a m cap)) (h : RowOf w a m (fun i => .int .u64 (z i : Nat))) :
    Calls Try.prog 144 #[.int .u64 x, .pointer (some ⟨bx, 0, none⟩)] w fun e w' => e = .returned (.bool (decide (x ≠ z 0))) ∧ w = w' := by
  obtain ⟨b, off, rfl, hblt, hc⟩ := h.at_ hm
  have c0 := hc 0 hm
  rw [Nat.add_zero] at c0
  have c1 := hb.cell
  have hd : decide (x ≠ z 0) = !((x : Int) == (z 0 : Nat)) := by
    by_cases e : x = z 0
    · subst e; simp
    · have : ¬ ((x : Int) = (z 0 : Nat)) := by omega
      simp [e, this]
  have HD := Lib.hid hd
  have g0 : (0 : Int) < m := by omega
  clear hc hd
  generalize z 0 = y at *
  go_enter Try.func144, Try.ntmps144
  go_wp2
  go_ret
  exact ⟨by rw [HD.out]; rfl, rfl⟩
/-- What a search tells. -/
def idxm (f m : Nat) : Int := if f < m then (f : Int) else -1
set_option maxRecDepth 100000 in
theorem index_al (bx : Nat) (a : Option Addr) (m cap f : Nat) (z : Nat → Nat) (hm : m ≤ 1024) (h1 : f ≤ m) (h2 : ∀ i, i < f → z i = z 0) (h3 : f < m → z f ≠ z 0) (w : World) (hb : Boxed w bx 58 (.slice a m cap)) (h : RowOf w a m (fun i => .int .u64 (z i : Nat))) :
    Calls Try.prog 143 #[.slice a m cap, .func (.func 144) #[] #[.pointer (some ⟨bx, 0, none⟩)]] w fun e w' => e = .returned (.int .i64 (idxm f m)) ∧ w = w' := by
  have OT := Lib.hid (fun (x : Nat) (h0 : 0 < m) => other_any x bx a m cap z h0 w hb h)
  have H := Lib.hid h
  have H2 := Lib.hid h2
  have H3 := Lib.hid h3
  clear h h2 h3 hb
  go_enter Try.func143, Try.ntmps143
  go_wp2_with fail
  go_loop [5, 8] (fun _ i => ∃ k : Nat, k ≤ f ∧ i = .int .i64 k) (fun _ i => m - (intOf i).toNat)
  case atStart => exact ⟨0, by omega, rfl⟩
  case round =>
    obtain ⟨k, hk, rfl⟩ := hrel
    by_cases hlt : k < m
    · have g1 : (k : Int) < m := by omega
      obtain ⟨b, off, rfl, hblt, hc⟩ := H.out.at_ hlt
      have c0 := hc k hlt
      have OK := Lib.hid (OT.out (z k) (by omega))
      clear hc
      by_cases hkf : k < f
      · have HD := Lib.hid (show decide (z k ≠ z 0) = false from decide_eq_false (fun e => e (H2.out k hkf)))
        go_wp2_with fail
        refine OK.out.mono ?_
        rintro e w' ⟨rfl, rfl⟩
        rw [HD.out]
        go_wp2
        go_round
        case rel => exact ⟨k + 1, by omega, by go_num⟩
        case measure => simp [intOf]; omega
      · have hke : k = f := by omega
        have HD := Lib.hid (show decide (z k ≠ z 0) = true by rw [hke]; exact decide_eq_true (H3.out (by omega)))
        have HE := Lib.hid hke
        clear hke
        go_wp2_with fail
        refine OK.out.mono ?_
        rintro e w' ⟨rfl, rfl⟩
        rw [HD.out]
        go_wp2
        go_ret
        refine ⟨?_, rfl⟩
        have := HE.out
        subst this
        rw [show idxm k m = k from if_pos hlt]
        rfl
    · have hke : f = m := by omega
      have HE := Lib.hid hke
      have g1 : ¬ (k : Int) < m := by omega
      clear hke
      go_wp2
      go_ret
      refine ⟨?_, rfl⟩
      rw [show idxm f m = -1 from if_neg (by have := HE.out; omega)]
      rfl
set_option maxRecDepth 100000 in
theorem alike_any (a : Option Addr) (m cap : Nat) (z : Nat → Nat) (hm : m ≤ 1024) (w : World) (h : RowOf w a m (fun i => .int .u64 (z i : Nat))) :
    Calls Try.prog 125 #[.slice a m cap] w fun e w' => e = .returned (.int .i64 (al z m : Nat)) ∧ Below w.heap.size w w' := by
  obtain ⟨h1, h2, h3⟩ := al_spec z m
  have HB := Lib.hid ((Below.refl w.heap.size w).alloc (Nat.le_refl _) (.cells #[.slice a m cap] 58))
  have IX := Lib.hid (index_al w.heap.size a m cap (al z m) z hm h1 h2 h3 (w.alloc (.cells #[.slice a m cap] 58)) (Boxed.new w _ _) (h.below HB.out))
  clear h h2 h3
  generalize al z m = f at *
  by_cases hf : f < m
  · rw [show idxm f m = f from if_pos hf] at IX
    have g1 : ¬ ((f : Nat) : Int) < 0 := by omega
    go_enter Try.func125, Try.ntmps125
    go_wp2_with (go_at_call 143; refine IX.out.mono ?_; rintro e w1 ⟨rfl, rfl⟩)
    go_ret
    exact ⟨rfl, HB.out⟩
  · rw [show idxm f m = -1 from if_neg hf] at IX
    obtain rfl : f = m := by omega
    go_enter Try.func125, Try.ntmps125
    go_wp2_with (go_at_call 143; refine IX.out.mono ?_; rintro e w1 ⟨rfl, rfl⟩)
    go_ret
    exact ⟨rfl, HB.out⟩
end Go.Proofs.Ythonjffojaljdaa


/-
  CONTRACT OF hybrid.first, in any world. Conditions: from 1 to 1024 numbers, which lie in memory as told.
-/
namespace Go.Proofs.Ythonjffojaljdaa
open Go.RowKit
set_option linter.unusedVariables false
theorem run_info : (Try.prog.info? 83).map (·.size) = some 2 := by kernel_rfl
set_option maxRecDepth 100000 in
set_option maxHeartbeats 1000000 in
theorem first_any (b off m cap : Nat) (z : Nat → Nat) (h0 : 0 < m) (hm : m ≤ 1024) (hmc : m ≤ cap) (w : World) (h : RowOf w (some ⟨b, off, none⟩) m (fun i => .int .u64 (z i : Nat))) :
    Calls Try.prog 96 #[.slice (some ⟨b, off, none⟩) m cap] w fun e w' => e = .returned (.agg #[.bool (fst1 z m).1, .slice (some ⟨b, off, none⟩) (fst1 z m).2 cap]) ∧ Below w.heap.size w w' := by
  have HB := Lib.hid ((Below.refl w.heap.size w).alloc (Nat.le_refl _) (.cells #[.bool false, .slice none 0 0] 83))
  have HL := Lib.hid (Lies.new w 83 #[.bool false, .slice none 0 0])
  by_cases h8 : 8 ≤ al z m
  · have AL := Lib.hid (alike_any (some ⟨b, off, none⟩) m cap z hm (w.alloc (.cells #[.bool false, .slice none 0 0] 83)) (h.below HB.out))
    have hf : fst1 z m = (true, al z m) := if_pos h8
    have hle := (al_spec z m).1
    rw [hf]
    clear h hf
    generalize al z m = f at *
    have g1 : (8 : Int) ≤ f := by omega
    have g2 : (0 : Int) ≤ f := by omega
    have g3 : (f : Int) ≤ cap := by omega
    go_enter Try.func96, Try.ntmps96
    go_wp2_with (go_at_call 125; refine AL.out.mono ?_; rintro e w1 ⟨rfl, hb⟩; have HB1 := Lib.hid hb; have l1 := HL.out.below hb (by simp); have HL1 := Lib.hid l1; have c0 := l1.cell 0; have c1 := l1.cell 1; have f0 := l1.frozen 0; have f1 := l1.frozen 1; clear hb)
    refine bodyPost_ret (v := .agg #[.bool true, .slice (some ⟨b, off, none⟩) f cap]) (results_cell_row (by rfl) _ _ w.heap.size 83 #[.bool true, .slice (some ⟨b, off, none⟩) f cap] (0, 0) _ (by rfl) ((HL1.out.set_ 0 (.bool true)).set_ 1 (.slice (some ⟨b, off, none⟩) f cap)) Try.underlying83 rfl run_info) rfl ⟨rfl, ?_⟩
    exact ((HB.out.trans (HB1.out.mono HB.out.size)).setCell (p := ⟨w.heap.size, 0, none⟩) (Nat.le_refl _) _).setCell (p := ⟨w.heap.size, 1, none⟩) (Nat.le_refl _) _
  · have hle := al_spec z m
    have hf : fst1 z m = (false, pkF z m (min 8 m) m) := if_neg h8
    have AL := Lib.hid (alike_any (some ⟨b, off, none⟩) m cap z hm (w.alloc (.cells #[.bool false, .slice none 0 0] 83)) (h.below HB.out))
    have H := Lib.hid h
    rw [hf]
    obtain ⟨R, hR⟩ : ∃ R, pkF z m (min 8 m) m = R := ⟨_, rfl⟩
    rw [hR]
    have HR := Lib.hid hR
    have hl1 := hle.1
    clear h hf hle hR
    generalize al z m = f at *
    have g1 : ¬ (8 : Int) ≤ f := by omega
    go_enter Try.func96, Try.ntmps96
    go_wp2_with (go_at_call 125; refine AL.out.mono ?_; rintro e w1 ⟨rfl, hb⟩; have HB1 := Lib.hid (HB.out.trans (hb.mono HB.out.size)); have HL1 := Lib.hid (HL.out.below hb (by simp)); clear hb)
    go_loopw [4] (fun i wr => ∃ t fu : Nat, t ≤ m ∧ 1 ≤ t ∧ m ≤ t + fu ∧ pkF z m t fu = R ∧ i = .int .i64 t ∧ Below w.heap.size w wr ∧ Lies wr w.heap.size 83 #[.bool false, .slice none 0 0]) (fun i _ => m - (intOf i).toNat)
    case atStart => exact ⟨min 8 m, m, by omega, by omega, by omega, HR.out, congrArg (Value.int .i64) (by omega), HB1.out, HL1.out⟩
    case round =>
      obtain ⟨t, fu, ht, ht1, htf, hpk, rfl, hb, hl⟩ := hrel
      have c1 := hl.cell 1
      have c2 := hl.cell 0
      have f0 := hl.frozen 0
      have f1 := hl.frozen 1
      have HBX := Lib.hid hb
      have HLX := Lib.hid hl
      have k0 : (0 : Int) ≤ t := by omega
      have k2 : (t : Int) ≤ m := by omega
      have k3 : (m : Int) ≤ cap := by omega
      have k4 : (t : Int) ≤ cap := by omega
      by_cases htm : t < m
      · have k1 : (t : Int) < m := by omega
        have hrs : RowOf wr (some ⟨b, off + t, none⟩) (m - t) (fun i => .int .u64 ((fun j => z (t + j)) i : Nat)) := by
          obtain ⟨b', o', he, _, hc⟩ := (H.out.below hb).at_ (i := 0) h0
          cases he
          exact .inr ⟨b, off + t, rfl, fun i hi => by have := hc (t + i) (by omega); rwa [← Nat.add_assoc] at this⟩
        have AT := Lib.hid (alike_any (some ⟨b, off + t, none⟩) (m - t) (cap - t) (fun j => z (t + j)) (by omega) wr hrs)
        have HAL := Lib.hid (show al (fun j => z (t + j)) (m - t) = al (fun j => z (t + j)) (m - t) from rfl)
        obtain ⟨fu', rfl⟩ : ∃ fu', fu = fu' + 1 := ⟨fu - 1, by omega⟩
        have HPK := Lib.hid hpk
        clear hb hl hrs hpk
        by_cases h8t : al (fun j => z (t + j)) (m - t) < 8
        · have HP2 := Lib.hid (show pkF z m (min (t + 8) m) fu' = R by rw [← HPK.out]; exact (if_pos ⟨htm, h8t⟩).symm)
          clear HPK HAL
          generalize al (fun j => z (t + j)) (m - t) = ft at *
          have k5 : (ft : Int) < 8 := by omega
          go_wp2_with (go_at_call 125; refine AT.out.mono ?_; rintro e w2 ⟨rfl, hb⟩; have HLX := Lib.hid (HLX.out.below hb HLX.out.lt); have HBX := Lib.hid (HBX.out.trans (hb.mono HBX.out.size)); clear hb)
          go_roundw
          case rel => exact ⟨min (t + 8) m, fu', by omega, by omega, by omega, HP2.out, congrArg (Value.int .i64) (by omega), HBX.out, HLX.out⟩
          case measure => simp [intOf]; omega
        · have HRT := Lib.hid (show R = t by rw [← HPK.out]; exact if_neg (fun h => h8t h.2))
          clear HPK HAL
          generalize al (fun j => z (t + j)) (m - t) = ft at *
          have k5 : ¬ (ft : Int) < 8 := by omega
          go_wp2_with (go_at_call 125; refine AT.out.mono ?_; rintro e w2 ⟨rfl, hb⟩; have hl2 := HLX.out.below hb HLX.out.lt; have d1 := hl2.cell 1; have d2 := hl2.cell 0; have e0 := hl2.frozen 0; have e1 := hl2.frozen 1; have HLX := Lib.hid hl2; have HBX := Lib.hid (HBX.out.trans (hb.mono HBX.out.size)); clear hb hl2)
          refine bodyPost_ret (v := .agg #[.bool false, .slice (some ⟨b, off, none⟩) t cap]) (results_cell_row (by rfl) _ _ w.heap.size 83 #[.bool false, .slice (some ⟨b, off, none⟩) t cap] (0, 0) _ (by rfl) ((HLX.out.set_ 0 (.bool false)).set_ 1 (.slice (some ⟨b, off, none⟩) t cap)) Try.underlying83 rfl run_info) rfl ⟨by rw [HRT.out], ?_⟩
          exact (HBX.out.setCell (p := ⟨w.heap.size, 0, none⟩) (Nat.le_refl _) _).setCell (p := ⟨w.heap.size, 1, none⟩) (Nat.le_refl _) _
      · obtain rfl : t = m := by omega
        have k1 : ¬ (t : Int) < t := by omega
        have HRT := Lib.hid (show R = t by
          have := pkF_le z t fu t (Nat.le_refl _)
          omega)
        clear hpk hb hl
        go_wp2
        refine bodyPost_ret (v := .agg #[.bool false, .slice (some ⟨b, off, none⟩) t cap]) (results_cell_row (by rfl) _ _ w.heap.size 83 #[.bool false, .slice (some ⟨b, off, none⟩) t cap] (0, 0) _ (by rfl) ((HLX.out.set_ 0 (.bool false)).set_ 1 (.slice (some ⟨b, off, none⟩) t cap)) Try.underlying83 rfl run_info) rfl ⟨by rw [HRT.out], ?_⟩
        exact (HBX.out.setCell (p := ⟨w.heap.size, 0, none⟩) (Nat.le_refl _) _).setCell (p := ⟨w.heap.size, 1, none⟩) (Nat.le_refl _) _
end Go.Proofs.Ythonjffojaljdaa

