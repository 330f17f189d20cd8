/-
  CONTRACTS OF Zvar's Decode, in any world. Conditions: at most 20000 bytes, which lie in memory as told.
-/
import Derived.Test.YtknpekpigiclkaaRead
import Derived.Test.YtknpekpigiclkaaShortNext
import Derived.Test.YtknpekpigiclkaaVarZig
import Derived.Test.YtknpekpigiclkaaPlainD
namespace Go.Proofs.Ytknpekpigiclkaa
open Go.ChangeShapes Go.WideShapes Go.ChangeAt Go.RowKit
set_option linter.unusedVariables false
/-- What comes of so many numbers: the error, the place, the numbers. -/
def zrun (z : Nat → Int) (nb : Nat) : Nat → Int × Nat × List Int
  | 0 => (0, 0, [])
  | k + 1 => if (zrun z nb k).1 = 0 then (if (nx z (zrun z nb k).2.1 nb).2.2 = 0 then (0, (zrun z nb k).2.1 + (seen z (zrun z nb k).2.1 nb + 1), (zrun z nb k).2.2 ++ [zag (nx z (zrun z nb k).2.1 nb).1])
      else ((nx z (zrun z nb k).2.1 nb).2.2, (zrun z nb k).2.1, (zrun z nb k).2.2)) else zrun z nb k
theorem zrun_stop {z : Nat → Int} {nb k : Nat} (h : (zrun z nb k).1 ≠ 0) : ∀ j, zrun z nb (k + j) = zrun z nb k
  | 0 => rfl
  | j + 1 => by
    have ih := zrun_stop h j
    show zrun z nb (k + j + 1) = _
    rw [zrun, ih, if_neg h]
theorem zrun_step {z : Nat → Int} {nb k : Nat} (h : (zrun z nb k).1 = 0) (g : (nx z (zrun z nb k).2.1 nb).2.2 = 0) :
    zrun z nb (k + 1) = (0, (zrun z nb k).2.1 + (seen z (zrun z nb k).2.1 nb + 1), (zrun z nb k).2.2 ++ [zag (nx z (zrun z nb k).2.1 nb).1]) := by rw [zrun, if_pos h, if_pos g]
theorem zrun_fail {z : Nat → Int} {nb k : Nat} (h : (zrun z nb k).1 = 0) (g : ¬ (nx z (zrun z nb k).2.1 nb).2.2 = 0) (j : Nat) :
    (zrun z nb (k + 1 + j)).1 = (nx z (zrun z nb k).2.1 nb).2.2 := by
  have e : zrun z nb (k + 1) = ((nx z (zrun z nb k).2.1 nb).2.2, (zrun z nb k).2.1, (zrun z nb k).2.2) := by rw [zrun, if_pos h, if_neg g]
  rw [zrun_stop (k := k + 1) (by rw [e]; exact g) j, e]
theorem zrun_length {z : Nat → Int} {nb : Nat} : ∀ k, (zrun z nb k).1 = 0 → (zrun z nb k).2.2.length = k
  | 0, _ => rfl
  | k + 1, h => by
    by_cases h0 : (zrun z nb k).1 = 0
    · have ih := zrun_length k h0
      by_cases g : (nx z (zrun z nb k).2.1 nb).2.2 = 0
      · rw [zrun_step h0 g]; simp [ih]
      · rw [zrun, if_pos h0, if_neg g] at h; exact absurd h g
    · rw [zrun, if_neg h0] at h; exact absurd h h0
theorem zrun_le {z : Nat → Int} {nb : Nat} : ∀ k, (zrun z nb k).2.2.length ≤ k
  | 0 => Nat.le_refl _
  | k + 1 => by
    have ih := zrun_le (z := z) (nb := nb) k
    rw [zrun]
    split
    · split
      · simp; omega
      · exact Nat.le_succ_of_le ih
    · exact Nat.le_succ_of_le ih
theorem nx_bd {z : Nat → Int} {n : Nat} (hz : ∀ i, i < n → 0 ≤ z i ∧ z i ≤ 255) (at_ : Nat) : 0 ≤ (nx z at_ n).1 ∧ (nx z at_ n).1 ≤ 18446744073709551615 := by
  obtain ⟨h1, h2, h3⟩ := seen_last z at_ n
  have hb := zt_bytes hz at_
  unfold nx got
  generalize zt z at_ n = y at *
  generalize seen z at_ n = f at *
  split
  · simp
  · rename_i g0
    split
    · simp
    · rename_i g1
      split
      · simp
      · show 0 ≤ vals y (f + 1) ∧ vals y (f + 1) ≤ 18446744073709551615
        obtain ⟨N, e, hN⟩ := vals_bd y (f + 1)
        by_cases hf : f = 9
        · subst hf
          obtain ⟨M, e9, hM⟩ := vals_bd y 9
          have e10 : vals y 10 = vals y 9 + y 9 % 128 * 128 ^ 9 := rfl
          have p9 : (128 : Nat) ^ 9 = 9223372036854775808 := by decide
          have q9 : (128 : Int) ^ 9 = 9223372036854775808 := by decide
          have := hb 9
          rw [p9] at hM
          rw [q9] at e10
          have : y 9 ≤ 1 := by omega
          have hy : y 9 % 128 = y 9 := by omega
          rw [hy] at e10
          show 0 ≤ vals y 10 ∧ vals y 10 ≤ _
          omega
        · have hp : (128 : Nat) ^ (f + 1) ≤ 128 ^ 9 := Nat.pow_le_pow_right (by decide) (by omega)
          have p9 : (128 : Nat) ^ 9 = 9223372036854775808 := by decide
          omega
set_option maxRecDepth 100000 in
set_option maxHeartbeats 2000000 in
theorem zdecode1_any (pn bc nb n : Nat) (z : Nat → Int) (hz : ∀ i, i < nb → 0 ≤ z i ∧ z i ≤ 255) (hnb : nb ≤ 100000) (hn : n ≤ 1024) (w : World) (hp : w.cell? ⟨pn, 0, none⟩ = some (.int .i64 n)) (h : CursorAt w bc nb z 0) :
    Calls Try.prog 81 (#[.pointer (some ⟨bc, 0, none⟩)] ++ #[.pointer (some ⟨pn, 0, none⟩)]) w (DoEnd bc nb z (zrun z nb n).1 (zrun z nb n).2.2 (zrun z nb n).2.1 w) := by
  obtain ⟨i0, hi, hz0, hz1, hz2⟩ := info_parts longInfo
  obtain ⟨m, xs, at1, hm1, hm2, hm3⟩ : ∃ m xs at1, (zrun z nb n).1 = m ∧ (zrun z nb n).2.2 = xs ∧ (zrun z nb n).2.1 = at1 := ⟨_, _, _, rfl, rfl, rfl⟩
  rw [hm1, hm2, hm3]
  have HM := Lib.hid (And.intro hm1 (And.intro hm2 hm3))
  have H := Lib.hid h
  have HZ := Lib.hid hz
  clear h hz hm1 hm2 hm3
  show Calls Try.prog 81 #[.pointer (some ⟨bc, 0, none⟩), .pointer (some ⟨pn, 0, none⟩)] w _
  go_enter Try.func81, Try.ntmps81
  go_wp2_with (at_make; refine wpList_make_full _ rfl _ _ 50 rfl (bc + 1) 2 i0 (.int .i64 0) 1 Try.underlying50 hi hz0 hz1 _ _ _ _ n rfl rfl rfl rfl ?hb ?hm ?hs ?hk)
  case hb => rw [hz2]; omega
  case hm => unfold maxLen; omega
  case hs => have := H.out.lt; omega
  case hk =>
    intro w2 hown hg
    have hown : w2.ownsRow (bc + 1) 2 1 (.slice (some ⟨w.heap.size, 0, none⟩) n n) n (rowV (fun _ => .int .i64 0) n) := by
      rw [← rowV_zeroI, Nat.mul_one]; exact hown
    have HO := Lib.hid hown
    have hb2 : Below w.heap.size w w2 := (Below.refl w.heap.size w).grown hg (Nat.le_refl _) (fun k hk => by cases hk)
    have HB2 := Lib.hid hb2
    obtain ⟨g, hgg⟩ : ∃ g, w.heap.size = g := ⟨_, rfl⟩
    rw [hgg] at HO
    rw [hgg]
    have hbg : bc < g := by have := H.out.lt; omega
    have H2 := Lib.hid (H.out.below hb2 H.out.lt)
    have T2 := Lib.hid (show Turned (· = bc) w w2 from Turned.of_below hb2 (fun i hi _ => hi))
    clear hown hg hb2
    go_wp2
    go_loopw [10] (fun x wr => ∃ i : Nat, i ≤ n ∧ x = .int .i64 i ∧ (zrun z nb i).1 = 0 ∧ CursorAt wr bc nb z (zrun z nb i).2.1 ∧ wr.ownsRow (bc + 1) 2 1 (.slice (some ⟨g, 0, none⟩) n n) n (rowV (fun j => .int .i64 ((zrun z nb i).2.2.getD j 0)) n) ∧ Turned (· = bc) w wr) (fun x wr => n - (intOf x).toNat)
    case atStart => exact ⟨0, by omega, rfl, rfl, H2.out, by simpa [zrun] using HO.out, T2.out⟩
    case round =>
      obtain ⟨i, hin, rfl, hr0, hc, ho, ht⟩ := hrel
      by_cases hlt : i < n
      · have i1 : (i : Int) < n := by omega
        have i2 : (0 : Int) ≤ i := by omega
        have HO3 := Lib.hid ho
        have HT3 := Lib.hid ht
        have KT := Lib.hid (fun (w3 : World) (ht3 : Turned (· = bc) wr w3) => owns_turned HO3.out ht3 (fun j hj (e : j = bc) => by
          have : g = j := by simpa [Value.ownBlock] using hj
          omega))
        have NX := snext_any bc nb z (zrun z nb i).2.1 HZ.out hnb wr hc
        have hlen := zrun_length i hr0
        have hbd := nx_bd HZ.out (zrun z nb i).2.1
        by_cases hs : (nx z (zrun z nb i).2.1 nb).2.2 = 0
        · have hst := zrun_step hr0 hs
          have NX : Calls Try.prog 83 #[.pointer (some ⟨bc, 0, none⟩)] wr fun e w' => Turned (· = bc) wr w' ∧ e = .returned (.int .u64 (nx z (zrun z nb i).2.1 nb).1) ∧ CursorAt w' bc nb z ((zrun z nb i).2.1 + (seen z (zrun z nb i).2.1 nb + 1)) := NX.mono fun e w' ⟨h1, h2⟩ => by
            rcases h2 with ⟨_, h3, h4⟩ | ⟨h3, _⟩
            · exact ⟨h1, h3, h4⟩
            · rw [hs] at h3; cases h3
          have ZG := Lib.hid (zag_any (nx z (zrun z nb i).2.1 nb).1 hbd.1 hbd.2)
          generalize (nx z (zrun z nb i).2.1 nb).1 = v at *
          generalize seen z (zrun z nb i).2.1 nb = f at *
          generalize (zrun z nb i).2.1 = p at *
          generalize (zrun z nb i).2.2 = l at *
          have HST := Lib.hid hst
          have HLEN := Lib.hid hlen
          have NX := Lib.hid NX
          clear hc ho ht hs hst hlen hbd hr0
          go_wp2_with (first
            | (go_at_call 83; refine NX.out.mono ?_; rintro e w3 ⟨ht3, rfl, hc3⟩; have ho3 := KT.out w3 ht3; have q0 := ho3.cellAt i (by omega); rw [rowV_get _ hlt] at q0; have q1 := ho3.frozenAt i; have HC4 := Lib.hid hc3; have HT4 := Lib.hid ht3; have HO4 := Lib.hid ho3; clear hc3 ht3 ho3)
            | (go_at_call 82; refine (ZG.out _).mono ?_; rintro e w4 ⟨rfl, rfl⟩))
          go_roundw
          case rel =>
            refine ⟨i + 1, by omega, by go_num, by rw [HST.out], ?_, ?_, (HT3.out.trans HT4.out).setCell (p := ⟨g, i, none⟩) (.inr (by show w.heap.size ≤ g; omega)) _⟩
            · rw [HST.out]
              exact HC4.out.below (B := bc + 1) ((Below.refl _ _).setCell (p := ⟨g, i, none⟩) (by show bc + 1 ≤ g; omega) _) (by omega)
            · have h1 := (HO4.out.stored i (.int .i64 (zag v))).1
              rw [rowV_set] at h1
              rw [HST.out, rowV_congr (g := fun j => if j = i then .int .i64 (zag v) else .int .i64 (l.getD j 0)) (fun j hj => by
                have hl := HLEN.out
                by_cases e : j = i
                · subst e
                  rw [if_pos rfl, List.getD_eq_getElem?_getD, List.getElem?_append_right (by omega), hl, Nat.sub_self]; rfl
                · rw [if_neg e, List.getD_eq_getElem?_getD, List.getD_eq_getElem?_getD]
                  by_cases e2 : j < i
                  · rw [List.getElem?_append_left (by omega)]
                  · rw [List.getElem?_eq_none (by simp; omega), List.getElem?_eq_none (by omega)])]
              exact h1
          case measure => simp [intOf]; omega
        · have hm : (zrun z nb n).1 = (nx z (zrun z nb i).2.1 nb).2.2 := by
            have := zrun_fail hr0 hs (n - (i + 1))
            rw [show i + 1 + (n - (i + 1)) = n by omega] at this
            exact this
          rw [HM.out.1] at hm
          have NX : Calls Try.prog 83 #[.pointer (some ⟨bc, 0, none⟩)] wr fun e w' => Turned (· = bc) wr w' ∧ (m != 0) = true ∧ e = .panicked [{ v := .iface 89 (.agg #[.int .i64 m]), recovered := false }] := NX.mono fun e w' ⟨h1, h2⟩ => by
            rcases h2 with ⟨h3, _⟩ | ⟨h3, h4⟩
            · exact absurd h3 hs
            · rw [hm]; exact ⟨h1, h3, h4⟩
          have NX := Lib.hid NX
          clear hc ho ht hs hlen hbd hr0 hm HM
          go_wp2_with (go_at_call 83; refine NX.out.mono ?_; rintro e w3 ⟨ht3, hm3, rfl⟩; have HT4 := Lib.hid ht3; have HM3 := Lib.hid hm3; clear ht3 hm3)
          exact ⟨rfl, HT3.out.trans HT4.out, .inr ⟨HM3.out, rfl⟩⟩
      · obtain rfl : i = n := by omega
        obtain rfl : 0 = m := hr0.symm.trans HM.out.1
        have hlen := zrun_length i hr0
        rw [HM.out.2.1] at hlen ho
        rw [HM.out.2.2] at hc
        have HC := Lib.hid hc
        have HO3 := Lib.hid ho
        have HT3 := Lib.hid ht
        have HL := Lib.hid hlen
        clear hc ho ht HM hr0 hlen
        go_wp2
        go_ret
        obtain ⟨a5, c5, he, hr5, _⟩ := own_reads' HO3.out
        injection he with e1 e2 e3
        subst e1 e3
        refine ⟨HT3.out, .inl ⟨rfl, some ⟨g, 0, none⟩, i, ?_, ?_, HC.out⟩⟩
        · rw [HL.out]; rfl
        · rw [HL.out]; exact hr5
end Go.Proofs.Ytknpekpigiclkaa
