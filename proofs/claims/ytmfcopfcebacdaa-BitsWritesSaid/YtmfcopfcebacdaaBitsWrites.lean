/-
  THE STATEMENT corduroylaw01.BitsWrites: for any numbers and any widths the call returns true and leaves its arguments as they were. No condition.
-/
import Derived.Test.YtmfcopfcebacdaaBitsBoth
import Derived.Deep.RegionHeldLaw
namespace Go.Proofs.Ytmfcopfcebacdaa.bitsWrites
open Go.ChangeShapes Go.WideShapes Go.ChangeAt Go.RowKit
set_option linter.unusedVariables false
theorem writes_skip (a0 a1 : Option Addr) (len0 cap0 len1 cap1 : Nat) (w : World) (h : 60 < len0 ∨ 60 < len1) :
    Calls Try.prog 3 #[.slice a0 len0 cap0, .slice a1 len1 cap1] w fun e w' => e = .returned (.bool true) ∧ Below w.heap.size w w' := by
  by_cases h1 : 60 < len0
  · have h' : (60 : Int) < len0 := by omega
    clear h
    go_enter Try.func3, Try.ntmps3
    go_wp2
    go_ret
    exact ⟨rfl, Below.refl _ _⟩
  · have h' : ¬ (60 : Int) < len0 := by omega
    have h2 : (60 : Int) < len1 := by omega
    clear h
    go_enter Try.func3, Try.ntmps3
    go_wp2
    go_ret
    exact ⟨rfl, Below.refl _ _⟩
/-- Rows of two element types lie in two blocks. -/
theorem owns_two {w : World} {b b' : Nat} {e e' : TypeId} {n n' : Nat} {v v' : Value} {xs xs' : List Value} (h : w.ownsRow b e 1 v n xs) (h' : w.ownsRow b' e' 1 v' n' xs') (hne : e ≠ e') : ∀ i, v.ownBlock = some i → v'.ownBlock ≠ some i := by
  intro i hi hi'
  rcases h.2 with ⟨rfl, _⟩ | ⟨g, c, cur, rfl, _, hg, _⟩
  · cases hi
  · rcases h'.2 with ⟨rfl, _⟩ | ⟨g', c', cur', rfl, _, hg', _⟩
    · cases hi'
    · injection hi with hi
      injection hi' with hi'
      simp only at hi hi'
      subst hi hi'
      rw [hg] at hg'
      injection hg' with hg'
      injection hg' with _ ht
      exact hne ht
/-- What Put turns leaves the other row, and all that lay. -/
theorem put_keeps {w wr w2 : World} {bw c m : Nat} {v va : Value} {N : Nat} (hw : WriterAt wr bw v N c) (ho : wr.ownsRow w.heap.size 4 1 va m (bitsV N c)) (hb : Below w.heap.size w wr) (hbw : w.heap.size ≤ bw)
    (ht : Turned (fun i => i = bw ∨ v.ownBlock = some i) wr w2) : w2.ownsRow w.heap.size 4 1 va m (bitsV N c) ∧ Below w.heap.size w w2 :=
  ⟨owns_turned ho ht (fun i hi hs => by
    rcases hs with rfl | hs
    · exact owns_apart ho hw.1 (by decide) hi
    · exact owns_two ho hw.2.1 (by decide) i hi hs), hb.trans (put_below hw ht hbw |>.mono (Nat.le_refl _))⟩
/-- What an append to the row turns leaves the writer. -/
theorem writer_grown {w2 w3 : World} {bw : Nat} {v va : Value} {N c m base : Nat} {xs : List Value} (hw : WriterAt w2 bw v N c) (ho : w2.ownsRow base 4 1 va m xs) (hg : w2.grownBy w3 va.ownBlock) : WriterAt w3 bw v N c :=
  ⟨(hg.block bw hw.1.lt (fun e => owns_apart ho hw.1 (by decide) e.symm)).trans hw.1, owns_turned hw.2.1 (S := fun i => va.ownBlock = some i) ⟨hg.os, hg.tape, hg.output, hg.size, fun k hk hn => hg.block k hk (fun e => hn e.symm)⟩ (fun i hi hs => owns_two hw.2.1 ho (by decide) i hi hs), hw.2.2⟩
theorem writer_below {w w' : World} {bw : Nat} {v : Value} {N c : Nat} (h : WriterAt w bw v N c) (hb : Below w.heap.size w w') : WriterAt w' bw v N c :=
  ⟨h.1.below hb h.1.lt, owns_turned h.2.1 (S := fun _ => False) (Turned.of_below hb (fun i hi _ => hi)) (fun _ _ h => h), h.2.2⟩
theorem owns_below {w w' : World} {b : Nat} {e : TypeId} {n : Nat} {v : Value} {xs : List Value} (h : w.ownsRow b e 1 v n xs) (hb : Below w.heap.size w w') : w'.ownsRow b e 1 v n xs :=
  owns_turned h (S := fun _ => False) (Turned.of_below hb (fun i hi _ => hi)) (fun _ _ h => h)
set_option maxRecDepth 100000 in
set_option maxHeartbeats 4000000 in
theorem writes_walk (a0 a1 : Option Addr) (n cap0 m cap1 : Nat) (l : Nat → Nat) (y : Nat → Int) (w : World) (hn : n ≤ 60) (hm : m ≤ 60) (H0 : U64s w a0 n l) (H1 : RowOf w a1 m (fun i => .int .i64 (y i))) :
    Calls Try.prog 3 #[.slice a0 n cap0, .slice a1 m cap1] w fun e w' => e = .returned (.bool true) ∧ Below w.heap.size w w' := by
  obtain ⟨i0, hi, hz0, hz1, hz2⟩ := info_parts boolInfo
  have h' : ¬ (60 : Int) < n := by omega
  have h'' : ¬ (60 : Int) < m := by omega
  have HLU := Lib.hid H0.2
  have H0 := Lib.hid H0.1
  have H1 := Lib.hid H1
  have NW := Lib.hid (newWriter_any w)
  go_enter Try.func3, Try.ntmps3
  go_wp2_with (go_at_call 15; refine NW.out.mono ?_; rintro e w1 ⟨rfl, hw, hb⟩; have HW := Lib.hid hw; have HB := Lib.hid hb; clear hw hb)
  obtain ⟨bw, hbw⟩ : ∃ bw, w.heap.size = bw := ⟨_, rfl⟩
  rw [hbw] at HW
  rw [hbw]
  have HBW := Lib.hid hbw
  clear hbw
  go_loopw [6, 7] (fun va x wr => ∃ (i c N : Nat) (v : Value), i ≤ n ∧ i ≤ m ∧ x = .int .i64 i ∧ c ≤ 64 * i ∧ WriterAt wr bw v N c ∧ wr.ownsRow w.heap.size 4 1 va c (bitsV N c) ∧ Below w.heap.size w wr) (fun _ x wr => n - (intOf x).toNat)
  case atStart => exact ⟨0, 0, 0, _, by omega, by omega, rfl, by omega, HW.out, World.ownsRow_nil _ _ _ _, HB.out⟩
  case round =>
    obtain ⟨i, c, N, v, hin, him, rfl, hc, hw, ho, hb⟩ := hrel
    by_cases hlt : i < n ∧ i < m
    · obtain ⟨h1, h2⟩ := hlt
      have i1 : (i : Int) < n := by omega
      have i2 : (i : Int) < m := by omega
      have i0' : (0 : Int) ≤ i := by omega
      obtain ⟨b0, off0, rfl, hb0, hc0⟩ := H0.out.at_ h1
      obtain ⟨b1, off1, rfl, hb1, hc1⟩ := H1.out.at_ h2
      have CC : ∀ W, Below w.heap.size w W → W.cell? ⟨b0, off0 + i, none⟩ = some (.int .u64 (l i : Nat)) ∧ W.cell? ⟨b1, off1 + i, none⟩ = some (.int .i64 (y i)) := fun W hW =>
        ⟨(hW.cell (p := ⟨b0, off0 + i, none⟩) hb0).trans (hc0 i h1), (hW.cell (p := ⟨b1, off1 + i, none⟩) hb1).trans (hc1 i h2)⟩
      have CC := Lib.hid CC
      obtain ⟨c0, c1⟩ := CC.out wr hb
      have hu := HLU.out i h1
      clear hc0 hc1
      generalize l i = u at *
      generalize y i = x at *
      have HWR := Lib.hid hw
      have HO := Lib.hid ho
      have HB2 := Lib.hid hb
      clear hw ho hb
      by_cases hx : 0 ≤ x ∧ x ≤ 64
      · obtain ⟨k, rfl⟩ : ∃ k : Nat, x = k := ⟨x.toNat, by omega⟩
        have WY := Lib.hid (fun W => rWide_yes k hx.1 hx.2 W)
        have hk : k ≤ 64 := by omega
        clear hx
        by_cases hf : u < 2 ^ k
        · have PU := Lib.hid (fun W hW => put_ok bw v N c u k hu hk hf (by omega) W hW)
          have FY := Lib.hid (fun W => rfits_any u k hu hk true (by simpa using hf) W)
          have RB := Lib.hid (fun W => rbits_any u k hu hk W)
          clear hu hf
          have WD : WriterAt wr.drew bw v N c := HWR.out
          have WD := Lib.hid WD
          go_wp2
          go_region_held3 (fun w' => w'.cell? ⟨b0, off0 + i, none⟩ = some (.int .u64 (u : Nat)) ∧ w'.cell? ⟨b1, off1 + i, none⟩ = some (.int .i64 k)) (first | (exact ⟨q1, q2⟩) | go_keep)
            ((go_at_call 16; refine (PU.out _ WD.out).mono ?_; rintro e w2 ⟨rfl, v2, hw2, ht2, _⟩; obtain ⟨ho2, hb2⟩ := put_keeps (wr := wr.drew) HWR.out HO.out HB2.out.drew (by have := HBW.out; omega) ht2; obtain ⟨q1, q2⟩ := CC.out w2 hb2; have HW2 := Lib.hid hw2; have HO2 := Lib.hid ho2; have HB3 := Lib.hid hb2; clear hw2 ht2 ho2 hb2))
          go_wp2_with (go_at_call 17; refine (WY.out _).mono ?_; rintro e w3 ⟨rfl, rfl⟩)
          go_region_held3 (fun w' => w'.cell? ⟨b0, off0 + i, none⟩ = some (.int .u64 (u : Nat)) ∧ w'.cell? ⟨b1, off1 + i, none⟩ = some (.int .i64 k)) (first | (exact ⟨q1, q2⟩) | go_keep)
            ((go_at_call 18; refine (FY.out _).mono ?_; rintro e w3 ⟨rfl, rfl⟩))
          go_wp2
          go_region_held3 (fun w' => w'.cell? ⟨b0, off0 + i, none⟩ = some (.int .u64 (u : Nat)) ∧ w'.cell? ⟨b1, off1 + i, none⟩ = some (.int .i64 k)) (first | (exact ⟨q1, q2⟩) | (exact ⟨q3, q4⟩) | (exact ⟨q5, q6⟩) | go_keep)
            (first
              | (go_at_call 19; refine (RB.out _).mono ?_; rintro e w3 ⟨x3, rfl, hx3, hb3⟩; obtain ⟨a3, cap3, rfl, hr3, _⟩ := own_reads' hx3; have hb3' : Below w2.heap.size w2 w3 := ⟨hb3.os, hb3.tape, hb3.output, hb3.size, hb3.block⟩; obtain ⟨v4, w4, hrun, ho4, hg4, _⟩ := run_append_row (P := Try.prog) w3 w.heap.size 26 26 4 i0 (.bool false) 1 Try.underlying26 hi hz0 hz1 hz2 rfl _ c _ (owns_below HO2.out hb3') a3 k cap3 _ hr3 (fun i _ => rfl) (by unfold maxLen; omega) (by omega) (by have := HB3.out.size; have := hb3'.size; omega); have HR4 := Lib.hid hrun; have HO4 := Lib.hid ho4; have hB3 : Below w.heap.size w w3 := HB3.out.trans (hb3'.mono HB3.out.size); have HW4 := Lib.hid (writer_grown (writer_below HW2.out hb3') (owns_below HO2.out hb3') hg4); have HB4 := Lib.hid (hB3.grown hg4 hB3.size (fun j hj => (HO2.out.lt j hj).1)); obtain ⟨q3, q4⟩ := CC.out w3 hB3; obtain ⟨q5, q6⟩ := CC.out w4 HB4.out; clear hx3 hr3 hb3 hb3' hrun ho4 hg4 hB3)
              | (refine step_append_ran _ _ (by rfl) _ _ 26 (by rfl) _ _ _ (by rfl) (by rfl) HR4.out ?_))
          obtain ⟨NN, hNN⟩ : ∃ NN, N + u * 2 ^ c = NN := ⟨_, rfl⟩
          obtain ⟨cc, hcc0⟩ : ∃ cc, c + k = cc := ⟨_, rfl⟩
          have HOt : w4.ownsRow w.heap.size 4 1 v4 cc (bitsV NN cc) := by
            have h1 := HO4.out
            rw [show bitsV N c ++ rowV (fun i => Value.bool (bitB u i)) k = bitsV (N + u * 2 ^ c) (c + k) from bitsV_append N c u k HWR.out.2.2, hNN, hcc0] at h1
            exact h1
          have HOt := Lib.hid HOt
          have HWt : WriterAt w4 bw v2 NN cc := by rw [← hNN, ← hcc0]; exact HW4.out
          have HWt := Lib.hid HWt
          have HBt := HB4
          obtain ⟨vv, hvv⟩ : ∃ vv, v2 = vv := ⟨_, rfl⟩
          rw [hvv] at HWt
          have hcct : cc ≤ 3840 := by omega
          have hc64 : cc ≤ 64 * (i + 1) := by omega
          clear hNN hcc0 hvv q1 q2 q3 q4 q5 q6
          obtain ⟨a9, cap9, rfl, hr9, _⟩ := own_reads' HOt.out
          go_wp2
          have e0 : ((cc : Int) != (cc : Int)) = false := by simp
          have HR9 := Lib.hid (show RowOf w4.drew a9 cc _ from hr9)
          have HOd := Lib.hid (show w4.drew.ownsRow w.heap.size 4 1 (.slice a9 cc cap9) cc (bitsV NN cc) from HOt.out)
          have HBd := Lib.hid HBt.out.drew
          have hcc : cc ≤ 3840 := hcct
          have hwd : WriterAt w4.drew bw vv NN cc := HWt.out
          have HWd := Lib.hid hwd
          clear hr9 hwd
          go_region_held_law (fun _ => True) (trivial)
            (first
              | (go_at_call 20; refine (len_any bw vv NN cc _ HWd.out).mono ?_; rintro e w7 ⟨rfl, rfl⟩)
              | (go_at_call 21; refine (wbytes_any bw vv NN cc (by omega) _ HWd.out).mono ?_; rintro e w5 ⟨v5, rfl, ho5, hb5⟩; obtain ⟨a5, c5, rfl, k5⟩ := own_conv ho5; have q7 := k5 w5 (Below.refl _ _); have HR5 := Lib.hid (HR9.out.below hb5); have HB5 := Lib.hid hb5; have K5 := Lib.hid k5; clear ho5 hb5 k5)
              | (go_at_call 22; refine (rbytes_any a9 cc cap9 NN HWt.out.2.2 (by omega) _ HR5.out).mono ?_; rintro e w6 ⟨v6, rfl, ho6, hb6⟩; obtain ⟨a6, c6, rfl, k6⟩ := own_conv ho6; have q8 := k6 w6 (Below.refl _ _); have q9 := K5.out w6 hb6; have HB6 := Lib.hid hb6; clear ho6 hb6 k6))
          all_goals
            go_wp2
            go_roundw
            case rel => exact ⟨i + 1, cc, NN, vv, by omega, by omega, by go_num, hc64, writer_below (writer_below HWd.out HB5.out) HB6.out, owns_below (owns_below HOd.out HB5.out) HB6.out, (HBd.out.trans (HB5.out.mono HBd.out.size)).trans (HB6.out.mono (by have := HBd.out.size; have := HB5.out.size; omega))⟩
            case measure => simp [intOf]; omega
        · have PU := Lib.hid (fun W => put_range bw u k hu hk hf W)
          have FN := Lib.hid (fun W => rfits_any u k hu hk false (by simpa using hf) W)
          clear hu hf
          go_wp2
          go_region_held3 (fun w' => w'.cell? ⟨b0, off0 + i, none⟩ = some (.int .u64 (u : Nat)) ∧ w'.cell? ⟨b1, off1 + i, none⟩ = some (.int .i64 k)) (go_keep)
            ((go_at_call 16; refine (PU.out _).mono ?_; rintro e w2 ⟨rfl, rfl⟩))
          go_wp2_with (go_at_call 17; refine (WY.out _).mono ?_; rintro e w3 ⟨rfl, rfl⟩)
          go_region_held3 (fun w' => w'.cell? ⟨b0, off0 + i, none⟩ = some (.int .u64 (u : Nat)) ∧ w'.cell? ⟨b1, off1 + i, none⟩ = some (.int .i64 k)) (go_keep)
            ((go_at_call 18; refine (FN.out _).mono ?_; rintro e w3 ⟨rfl, rfl⟩))
          go_wp2
          obtain ⟨NN, hNN⟩ : ∃ NN, N = NN := ⟨_, rfl⟩
          obtain ⟨cc, hcc0⟩ : ∃ cc, c = cc := ⟨_, rfl⟩
          obtain ⟨vv, hvv⟩ : ∃ vv, v = vv := ⟨_, rfl⟩
          have hWt := HWR.out
          have hOt := HO.out
          rw [hNN, hcc0, hvv] at hWt
          rw [hNN, hcc0] at hOt
          have HWt := Lib.hid hWt
          have HOt := Lib.hid hOt
          have HBt := HB2
          have hcct : cc ≤ 3840 := by omega
          have hc64 : cc ≤ 64 * (i + 1) := by omega
          clear hNN hcc0 hvv hWt hOt
          obtain ⟨a9, cap9, rfl, hr9, _⟩ := own_reads' HOt.out
          go_wp2
          have e0 : ((cc : Int) != (cc : Int)) = false := by simp
          have HR9 := Lib.hid (show RowOf wr.drew.drew.drew a9 cc _ from hr9)
          have HOd := Lib.hid (show wr.drew.drew.drew.ownsRow w.heap.size 4 1 (.slice a9 cc cap9) cc (bitsV NN cc) from HOt.out)
          have HBd := Lib.hid HBt.out.drew.drew.drew
          have hcc : cc ≤ 3840 := hcct
          have hwd : WriterAt wr.drew.drew.drew bw vv NN cc := HWt.out
          have HWd := Lib.hid hwd
          clear hr9 hwd
          go_region_held_law (fun _ => True) (trivial)
            (first
              | (go_at_call 20; refine (len_any bw vv NN cc _ HWd.out).mono ?_; rintro e w7 ⟨rfl, rfl⟩)
              | (go_at_call 21; refine (wbytes_any bw vv NN cc (by omega) _ HWd.out).mono ?_; rintro e w5 ⟨v5, rfl, ho5, hb5⟩; obtain ⟨a5, c5, rfl, k5⟩ := own_conv ho5; have q7 := k5 w5 (Below.refl _ _); have HR5 := Lib.hid (HR9.out.below hb5); have HB5 := Lib.hid hb5; have K5 := Lib.hid k5; clear ho5 hb5 k5)
              | (go_at_call 22; refine (rbytes_any a9 cc cap9 NN HWt.out.2.2 (by omega) _ HR5.out).mono ?_; rintro e w6 ⟨v6, rfl, ho6, hb6⟩; obtain ⟨a6, c6, rfl, k6⟩ := own_conv ho6; have q8 := k6 w6 (Below.refl _ _); have q9 := K5.out w6 hb6; have HB6 := Lib.hid hb6; clear ho6 hb6 k6))
          all_goals
            go_wp2
            go_roundw
            case rel => exact ⟨i + 1, cc, NN, vv, by omega, by omega, by go_num, hc64, writer_below (writer_below HWd.out HB5.out) HB6.out, owns_below (owns_below HOd.out HB5.out) HB6.out, (HBd.out.trans (HB5.out.mono HBd.out.size)).trans (HB6.out.mono (by have := HBd.out.size; have := HB5.out.size; omega))⟩
            case measure => simp [intOf]; omega
      · have PU := Lib.hid (fun W => put_width bw u x hx W)
        have WN := Lib.hid (fun W => rWide_no x hx W)
        clear hu hx
        go_wp2
        go_region_held3 (fun w' => w'.cell? ⟨b0, off0 + i, none⟩ = some (.int .u64 (u : Nat)) ∧ w'.cell? ⟨b1, off1 + i, none⟩ = some (.int .i64 x)) (go_keep)
          ((go_at_call 16; refine (PU.out _).mono ?_; rintro e w2 ⟨rfl, rfl⟩))
        go_wp2_with (go_at_call 17; refine (WN.out _).mono ?_; rintro e w3 ⟨rfl, rfl⟩)
        obtain ⟨NN, hNN⟩ : ∃ NN, N = NN := ⟨_, rfl⟩
        obtain ⟨cc, hcc0⟩ : ∃ cc, c = cc := ⟨_, rfl⟩
        obtain ⟨vv, hvv⟩ : ∃ vv, v = vv := ⟨_, rfl⟩
        have hWt := HWR.out
        have hOt := HO.out
        rw [hNN, hcc0, hvv] at hWt
        rw [hNN, hcc0] at hOt
        have HWt := Lib.hid hWt
        have HOt := Lib.hid hOt
        have HBt := HB2
        have hcct : cc ≤ 3840 := by omega
        have hc64 : cc ≤ 64 * (i + 1) := by omega
        clear hNN hcc0 hvv hWt hOt
        obtain ⟨a9, cap9, rfl, hr9, _⟩ := own_reads' HOt.out
        go_wp2
        have e0 : ((cc : Int) != (cc : Int)) = false := by simp
        have HR9 := Lib.hid (show RowOf wr.drew.drew a9 cc _ from hr9)
        have HOd := Lib.hid (show wr.drew.drew.ownsRow w.heap.size 4 1 (.slice a9 cc cap9) cc (bitsV NN cc) from HOt.out)
        have HBd := Lib.hid HBt.out.drew.drew
        have hcc : cc ≤ 3840 := hcct
        have hwd : WriterAt wr.drew.drew bw vv NN cc := HWt.out
        have HWd := Lib.hid hwd
        clear hr9 hwd
        go_region_held_law (fun _ => True) (trivial)
          (first
            | (go_at_call 20; refine (len_any bw vv NN cc _ HWd.out).mono ?_; rintro e w7 ⟨rfl, rfl⟩)
            | (go_at_call 21; refine (wbytes_any bw vv NN cc (by omega) _ HWd.out).mono ?_; rintro e w5 ⟨v5, rfl, ho5, hb5⟩; obtain ⟨a5, c5, rfl, k5⟩ := own_conv ho5; have q7 := k5 w5 (Below.refl _ _); have HR5 := Lib.hid (HR9.out.below hb5); have HB5 := Lib.hid hb5; have K5 := Lib.hid k5; clear ho5 hb5 k5)
            | (go_at_call 22; refine (rbytes_any a9 cc cap9 NN HWt.out.2.2 (by omega) _ HR5.out).mono ?_; rintro e w6 ⟨v6, rfl, ho6, hb6⟩; obtain ⟨a6, c6, rfl, k6⟩ := own_conv ho6; have q8 := k6 w6 (Below.refl _ _); have q9 := K5.out w6 hb6; have HB6 := Lib.hid hb6; clear ho6 hb6 k6))
        all_goals
          go_wp2
          go_roundw
          case rel => exact ⟨i + 1, cc, NN, vv, by omega, by omega, by go_num, hc64, writer_below (writer_below HWd.out HB5.out) HB6.out, owns_below (owns_below HOd.out HB5.out) HB6.out, (HBd.out.trans (HB5.out.mono HBd.out.size)).trans (HB6.out.mono (by have := HBd.out.size; have := HB5.out.size; omega))⟩
          case measure => simp [intOf]; omega
    · have HB2 := Lib.hid hb
      clear hw ho hb
      by_cases h1 : i < n
      · have i1 : (i : Int) < n := by omega
        have i2 : ¬ (i : Int) < m := by omega
        clear hlt
        go_wp2_with (go_at_call 23; refine (awake_any _).mono ?_; rintro e w4 ⟨rfl, hb4⟩; have HB4 := Lib.hid hb4; clear hb4)
        go_ret
        exact ⟨rfl, HB2.out.trans (HB4.out.mono HB2.out.size)⟩
      · have i1 : ¬ (i : Int) < n := by omega
        clear hlt
        go_wp2_with (go_at_call 23; refine (awake_any _).mono ?_; rintro e w4 ⟨rfl, hb4⟩; have HB4 := Lib.hid hb4; clear hb4)
        go_ret
        exact ⟨rfl, HB2.out.trans (HB4.out.mono HB2.out.size)⟩
theorem walk (a0 : Option Addr) (len0 cap0 : Nat) (z0 : List Int) (a1 : Option Addr) (len1 cap1 : Nat) (z1 : List Int) (w : World) (b0 : IsRow .u64 w a0 len0 cap0 z0) (b1 : IsRow .i64 w a1 len1 cap1 z1) :
    Calls Try.prog 3 #[.slice a0 len0 cap0, .slice a1 len1 cap1] w fun e w' => e = .returned (.bool true) ∧ Below w.heap.size w w' := by
  by_cases h : 60 < len0 ∨ 60 < len1
  · exact writes_skip a0 a1 len0 cap0 len1 cap1 w h
  · exact writes_walk a0 a1 len0 cap0 len1 cap1 _ (fun i => z1.getD i 0) w (by omega) (by omega) b0.u64s b1.ints
theorem own : ownKnob Try.prog.godebug = none := by kernel_rfl
set_option maxRecDepth 100000 in
theorem contract (H : Type) (enc : TypeId × Value → H) (W : World) (base : Nat) (args : Array Value) (ds gs : List (DataW H)) (before : List MemPlace)
    (hval : ∀ (j : Nat) t v, Try.f3.params[j]? = some t → args[j]? = some v → Value.okWide Try.prog W .any base t v)
    (hW : DataW.Whole enc Try.prog Try.f3.params.toList Rows.bitsWritesSpec.vars false W args.toList ds gs before) :
    Calls Try.prog 3 args W fun e W' => ∃ v, e = .returned v ∧ Rows.bitsWritesSpec.post enc Try.prog Try.f3 false true false false W args v W' := by
  have hW' := hW
  obtain ⟨p, q, hA0, hV, rfl, hfz, hnd⟩ := hW
  have hA : DataW.TrodAll enc Try.prog W 0 (fun _ => true) true Try.f3.params.toList args.toList ds p := hA0
  rw [Try.params3] at hA hval
  obtain ⟨v0, vs0, d0, ds0, p0, q0, hargs, rfl, rfl, h0, r0⟩ := trodAll_cons hA
  obtain ⟨v1, vs1, d1, ds1, p1, q1, rfl, rfl, rfl, h1, r1⟩ := trodAll_cons r0
  obtain ⟨rfl, rfl, rfl⟩ := trodAll_nil r1
  obtain rfl : args = #[v0, v1] := by cases args; simp_all
  obtain ⟨rfl, rfl⟩ := trodVars_none hV
  have hWhole := hW'
  obtain ⟨a0, len0, cap0, rfl⟩ := okWide_slice Try.underlying22 (hval 0 22 v0 rfl rfl)
  have k0 := h0
  have lt0 : ∀ x ∈ p0, x.block < W.heap.size := by obtain ⟨m, hm⟩ := k0; exact DataW.trod_lt m _ _ _ hm
  obtain ⟨z0, b0⟩ : ∃ zs, IsRow .u64 W a0 len0 cap0 zs := by
    obtain ⟨fuel, hf⟩ := h0
    rcases open_ints Try.underlying22 Try.underlying29 (by kernel_rfl) hf with ⟨hcs, _⟩ | ⟨x, l, c, zs, hcs, _, hl, hm, hz, _, hcell, hwz⟩
    · simp [Value.cells] at hcs
      obtain ⟨rfl, rfl, rfl⟩ := hcs
      exact ⟨[], isRow_nil _ _⟩
    · simp [Value.cells] at hcs
      obtain ⟨rfl, rfl, rfl⟩ := hcs
      exact ⟨zs, isRow_of hl hm (by simpa using hz) hcell hwz⟩
  obtain ⟨a1, len1, cap1, rfl⟩ := okWide_slice Try.underlying23 (hval 1 23 v1 rfl rfl)
  have k1 := h1
  have lt1 : ∀ x ∈ p1, x.block < W.heap.size := by obtain ⟨m, hm⟩ := k1; exact DataW.trod_lt m _ _ _ hm
  obtain ⟨z1, b1⟩ : ∃ zs, IsRow .i64 W a1 len1 cap1 zs := by
    obtain ⟨fuel, hf⟩ := h1
    rcases open_ints Try.underlying23 Try.underlying3 (by kernel_rfl) hf with ⟨hcs, _⟩ | ⟨x, l, c, zs, hcs, _, hl, hm, hz, _, hcell, hwz⟩
    · simp [Value.cells] at hcs
      obtain ⟨rfl, rfl, rfl⟩ := hcs
      exact ⟨[], isRow_nil _ _⟩
    · simp [Value.cells] at hcs
      obtain ⟨rfl, rfl, rfl⟩ := hcs
      exact ⟨zs, isRow_of hl hm (by simpa using hz) hcell hwz⟩
  clear hA0
  refine (walk a0 len0 cap0 z0 a1 len1 cap1 z1 W b0 b1).mono fun e W' ⟨he, hg⟩ => ?_
  subst he
  exact ⟨_, rfl, _, _, _, [], _, [], hW', trodAll_mk1 (shut_bool Try.underlying4 _), (trodAll_cons_mk (Below.trod laidOut (by kernel_rfl) (of_decide_eq_true (by kernel_rfl)) k0 hg lt0) (trodAll_cons_mk (Below.trod laidOut (by kernel_rfl) (of_decide_eq_true (by kernel_rfl)) k1 hg lt1) trodAll_mk0)), rfl, hg.frame _, fun h => by cases h⟩

set_option maxRecDepth 100000 in
theorem lifted (os : Os) (started : os.Started) (H : Type) (enc : TypeId × Value → H) :
    ReturnsInHanded {} Try.checked os 3 .any (Rows.bitsWritesSpec.pre6 enc Try.prog Try.f3 Rows.bitsWritesRow.domain false) (Rows.bitsWritesSpec.post enc Try.prog Try.f3 false true false false) := by
  refine returnsInHanded_of_change (C := Try.checked) own started (by kernel_rfl) Try.func3
    (ChangeSpec.witness6 (enc := enc) (C := Try.checked) false ⟨#[], #[.slice none 0 0, .slice none 0 0], []⟩ 8 (by kernel_rfl) (by kernel_rfl) (by kernel_rfl) (by kernel_rfl)) ?_
  intro W base args ds gs before hval hW _ _
  exact contract H enc W base args ds gs before hval hW

/-- ████ THE STATEMENT ████ -/
theorem proved : Rows.BitsWritesSaid :=
  OpenClaim.holds_of_wide 3 Try.f3 rfl rfl rfl rfl rfl rfl rfl ⟨rfl, rfl, rfl, rfl, rfl⟩ rfl rfl rfl rfl rfl (by kernel_rfl) Try.func3 (by kernel_rfl)
    (of_decide_eq_true (by kernel_rfl)) (by unfold Func.isWrapper; first | (rw [if_pos (by decide +kernel)]; kernel_rfl) | (rw [if_neg (by decide +kernel)]; exact ⟨rfl, rfl⟩))
    (fun os started H enc _ => lifted os started H enc)
end Go.Proofs.Ytmfcopfcebacdaa.bitsWrites
