/-
  CONTRACT OF short.digits: the bytes up to the last one of a number's short bytes, off a cursor, laid into an array of the caller's. Conditions: at most 20000 bytes.
-/
import Derived.Test.YtknpekpigiclkaaCurNext
import Derived.Test.YtknpekpigiclkaaCurAwake
import Derived.Test.YtknpekpigiclkaaVarGet
import Derived.ArgAppend
import Derived.Deep.LoopGhost
namespace Go.Proofs.Ytknpekpigiclkaa
open Go.RowKit
set_option linter.unusedVariables false
/-- The place of the last byte of a number: the first one below 128, if there is one. -/
def lf (z : Nat → Int) : Nat → Nat
  | 0 => 0
  | k + 1 => if lf z k < k then lf z k else if z k < 128 then k else k + 1
theorem lf_last (z : Nat → Int) : ∀ k, IsLast z k (lf z k)
  | 0 => ⟨Nat.le_refl _, fun i hi => by simp [lf] at hi, fun h => by simp [lf] at h⟩
  | k + 1 => by
    obtain ⟨h1, h2, h3⟩ := lf_last z k
    unfold lf
    by_cases h : lf z k < k
    · rw [if_pos h]; exact ⟨by omega, h2, fun _ => h3 h⟩
    · rw [if_neg h]
      have hk : lf z k = k := by omega
      rw [hk] at h2
      by_cases hz : z k < 128
      · rw [if_pos hz]; exact ⟨by omega, h2, fun _ => hz⟩
      · rw [if_neg hz]
        refine ⟨Nat.le_refl _, fun i hi => ?_, fun h => by omega⟩
        by_cases e : i = k
        · subst e; exact hz
        · exact h2 i (by omega)
theorem last_eq {z : Nat → Int} {n f : Nat} (h : IsLast z n f) : f = lf z n := by
  obtain ⟨h1, h2, h3⟩ := h
  obtain ⟨g1, g2, g3⟩ := lf_last z n
  rcases Nat.lt_trichotomy f (lf z n) with h | h | h
  · exact absurd (h3 (by omega)) (g2 f h)
  · exact h
  · exact absurd (g3 (by omega)) (h2 _ h)
theorem setCells_one (w : World) (b o : Nat) (v : Value) : w.setCells b o [v] = w.setCell ⟨b, o, none⟩ v := by simp [World.setCells]
/-- So many bytes are looked at. -/
def seen (z : Nat → Int) (at_ n : Nat) : Nat := lf (fun i => z (at_ + i)) (min (n - at_) 10)
def taken (z : Nat → Int) (at_ n : Nat) : Nat := if seen z at_ n < min (n - at_) 10 then seen z at_ n + 1 else seen z at_ n
set_option maxRecDepth 100000 in
set_option maxHeartbeats 2000000 in
theorem sdigits_any (bc br n : Nat) (z : Nat → Int) (at_ : Nat) (cs : Array Value) (hz : ∀ i, i < n → 0 ≤ z i ∧ z i ≤ 255) (hn : n ≤ 100000) (hcs : cs.size = 10) (hbb : bc < br) (w : World) (h : CursorAt w bc n z at_) (hl : Lies w br 129 cs) :
    Calls Try.prog 102 #[.pointer (some ⟨bc, 0, none⟩), .slice (some ⟨br, 0, none⟩) 0 10] w fun e w' => e = .returned (.slice (some ⟨br, 0, none⟩) (taken z at_ n) 10) ∧
      (∀ i, i < taken z at_ n → w'.cell? ⟨br, i, none⟩ = some (.int .u8 (z (at_ + i)))) ∧ CursorAt w' bc n z (at_ + taken z at_ n) ∧ Turned (fun i => i = bc ∨ i = br) w w' := by
  obtain ⟨i0, hi, hz0, hz1, hz2⟩ := info_parts byteInfo
  have H := Lib.hid h
  have HL := Lib.hid hl
  have HZ := Lib.hid hz
  have HCS := Lib.hid hcs
  clear h hl hz hcs
  go_enter Try.func102, Try.ntmps102
  go_wp2
  go_loopg [1] 10 (fun g v wr => ∃ (k : Nat) (cs : Array Value), k ≤ 10 ∧ g = 10 - k ∧ v = .slice (some ⟨br, 0, none⟩) k 10 ∧ Lies wr br 129 cs ∧ cs.size = 10 ∧ (∀ i, i < k → cs[i]? = some (.int .u8 (z (at_ + i)))) ∧ CursorAt wr bc n z (at_ + k) ∧ (∀ i, i < k → ¬ z (at_ + i) < 128) ∧ Turned (fun i => i = bc ∨ i = br) w wr)
  case atStart => exact ⟨0, cs, by omega, by omega, rfl, HL.out, HCS.out, fun i hi => by omega, H.out, fun i hi => by omega, Turned.refl _ _⟩
  case round =>
    obtain ⟨k, cs, hk, hgk, rfl, hl, hcs, hcell, hc, hlast, ht⟩ := hrel
    have hle := hc.le
    have HL := Lib.hid hl
    have HCS := Lib.hid hcs
    have HCE := Lib.hid hcell
    have HC := Lib.hid hc
    have HLA := Lib.hid hlast
    have HT := Lib.hid ht
    have HGK := Lib.hid hgk
    have LE := Lib.hid (cleft_any bc n z (at_ + k) hn wr hc)
    clear hl hcs hcell hc hlast ht hgk
    by_cases h10 : k < 10
    · have k1 : (k : Int) < 10 := by omega
      by_cases hend : at_ + k < n
      · have LL := Lib.hid (show (0 : Int) < ((n - (at_ + k) : Nat) : Int) from by omega)
        have U := Lib.hid (fun j => u8_ok bc n z (at_ + k) HZ.out hn (by omega) (wr.drewN j) (HC.out.drewN j))
        have hzk := HZ.out (at_ + k) hend
        have hnum : (num (fun i => z (at_ + k + i)) 1 : Int) = z (at_ + k) := by simp [num]; omega
        obtain ⟨y, hy⟩ : ∃ y, z (at_ + k) = y := ⟨_, rfl⟩
        rw [hy] at hnum
        obtain ⟨L, hL⟩ : ∃ L, n - (at_ + k) = L := ⟨_, rfl⟩
        rw [hL] at LE LL
        have l0 := LL.out
        have HY := Lib.hid hy
        have HNUM := Lib.hid hnum
        have HZK := Lib.hid (show 0 ≤ y ∧ y ≤ 255 from by rw [← hy]; exact hzk)
        clear hy hnum hL hzk
        by_cases h128 : y < 128
        · have SEEN := Lib.hid (show seen z at_ n = k from (last_eq (z := fun i => z (at_ + i)) (f := k) ⟨by omega, HLA.out, fun _ => by show z (at_ + k) < 128; rw [HY.out]; exact h128⟩).symm)
          have TAK := Lib.hid (show taken z at_ n = k + 1 from by unfold taken; rw [SEEN.out, if_pos (by omega)])
          go_wp2_with (first
            | (go_at_call 24; refine LE.out.mono ?_; rintro e w2 ⟨rfl, j, rfl⟩)
            | (go_at_call 64; refine (U.out _).mono ?_; rintro e w4 ⟨rfl, hc4, ht4⟩
               rw [HNUM.out]
               have ht4 : Turned (fun i => i = bc) wr w4 := ⟨ht4.os, ht4.tape, ht4.output, ht4.size, ht4.block⟩
               have hl4 : Lies w4 br 129 cs := HL.out.turned ht4 (fun (e : br = bc) => by omega)
               have hl5 := hl4.alloc (.cells #[.int .u8 y] 5)
               have hlt := hl4.lt
               have hkc : k < cs.size := by rw [HCS.out]; exact h10
               have hrun := run_append_room_cells (P := Try.prog) (w4.alloc (.cells #[.int .u8 y] 5)) 34 34 5 i0 Try.underlying34 hi br 0 k 10 ⟨w4.heap.size, 0, none⟩ 1 1 [.int .u8 y] (by rw [hz1]; rfl) (cell_one_new _ _ _) (by simp [Value.oneCell']) (by omega)
                 (fun j hj => by obtain rfl : j = 0 := (by simpa using hj); rw [hz1, hl5.cell]; simp [hkc]) (fun j hj => by obtain rfl : j = 0 := (by simpa using hj); exact hl5.frozen _)
               rw [hz1, Nat.mul_one, Nat.zero_add, setCells_one] at hrun
               have HRUN := Lib.hid hrun
               have HL5 := Lib.hid (hl5.set_ k (.int .u8 y))
               have HC5 := Lib.hid ((hc4.below ((Below.refl w4.heap.size w4).alloc (Nat.le_refl _) (.cells #[.int .u8 y] 5)) hc4.lt).turned ((Turned.refl (fun i => i = br) _).setCell (p := ⟨br, k, none⟩) (.inl rfl) (.int .u8 y)) (fun i hi (e : i = br) => by omega))
               have HT5 := Lib.hid ((HT.out.trans (((ht4.mono (fun i _ e => .inl e)).alloc (.cells #[.int .u8 y] 5)))).setCell (p := ⟨br, k, none⟩) (.inl (.inr rfl)) (.int .u8 y))
               clear hrun hc4 ht4 hl4 hl5 hlt hkc)
            | (at_builtin; go_must (refine wpList_append_ran _ _ rfl _ _ 34 rfl _ _ _ rfl rfl HRUN.out ?_)))
          go_ret
          have HCELL := Lib.hid (fun i (hi : i < k + 1) => (show (cs.setIfInBounds k (.int .u8 y))[i]? = some (.int .u8 (z (at_ + i))) from by
            by_cases e : i = k
            · subst e; rw [Array.getElem?_setIfInBounds_self_of_lt (by rw [HCS.out]; exact h10), HY.out]
            · rw [Array.getElem?_setIfInBounds_ne (Ne.symm e)]; exact HCE.out i (by omega)))
          refine ⟨by rw [TAK.out]; rfl, fun i hi => ?_, by rw [TAK.out]; exact HC5.out, HT5.out⟩
          rw [TAK.out] at hi
          exact (HL5.out.cell i).trans (HCELL.out i hi)
        · have H128 := Lib.hid h128
          go_wp2_with (first
            | (go_at_call 24; refine LE.out.mono ?_; rintro e w2 ⟨rfl, j, rfl⟩)
            | (go_at_call 64; refine (U.out _).mono ?_; rintro e w4 ⟨rfl, hc4, ht4⟩
               rw [HNUM.out]
               have ht4 : Turned (fun i => i = bc) wr w4 := ⟨ht4.os, ht4.tape, ht4.output, ht4.size, ht4.block⟩
               have hl4 : Lies w4 br 129 cs := HL.out.turned ht4 (fun (e : br = bc) => by omega)
               have hl5 := hl4.alloc (.cells #[.int .u8 y] 5)
               have hlt := hl4.lt
               have hkc : k < cs.size := by rw [HCS.out]; exact h10
               have hrun := run_append_room_cells (P := Try.prog) (w4.alloc (.cells #[.int .u8 y] 5)) 34 34 5 i0 Try.underlying34 hi br 0 k 10 ⟨w4.heap.size, 0, none⟩ 1 1 [.int .u8 y] (by rw [hz1]; rfl) (cell_one_new _ _ _) (by simp [Value.oneCell']) (by omega)
                 (fun j hj => by obtain rfl : j = 0 := (by simpa using hj); rw [hz1, hl5.cell]; simp [hkc]) (fun j hj => by obtain rfl : j = 0 := (by simpa using hj); exact hl5.frozen _)
               rw [hz1, Nat.mul_one, Nat.zero_add, setCells_one] at hrun
               have HRUN := Lib.hid hrun
               have HL5 := Lib.hid (hl5.set_ k (.int .u8 y))
               have HC5 := Lib.hid ((hc4.below ((Below.refl w4.heap.size w4).alloc (Nat.le_refl _) (.cells #[.int .u8 y] 5)) hc4.lt).turned ((Turned.refl (fun i => i = br) _).setCell (p := ⟨br, k, none⟩) (.inl rfl) (.int .u8 y)) (fun i hi (e : i = br) => by omega))
               have HT5 := Lib.hid ((HT.out.trans (((ht4.mono (fun i _ e => .inl e)).alloc (.cells #[.int .u8 y] 5)))).setCell (p := ⟨br, k, none⟩) (.inl (.inr rfl)) (.int .u8 y))
               clear hrun hc4 ht4 hl4 hl5 hlt hkc)
            | (at_builtin; go_must (refine wpList_append_ran _ _ rfl _ _ 34 rfl _ _ _ rfl rfl HRUN.out ?_)))
          go_roundg (10 - (k + 1))
          case measure => have := HGK.out; omega
          case rel =>
            have HCELL := Lib.hid (fun i (hi : i < k + 1) => (show (cs.setIfInBounds k (.int .u8 y))[i]? = some (.int .u8 (z (at_ + i))) from by
              by_cases e : i = k
              · subst e; rw [Array.getElem?_setIfInBounds_self_of_lt (by rw [HCS.out]; exact h10), HY.out]
              · rw [Array.getElem?_setIfInBounds_ne (Ne.symm e)]; exact HCE.out i (by omega)))
            refine ⟨k + 1, cs.setIfInBounds k (.int .u8 y), by omega, rfl, rfl, HL5.out, by rw [Array.size_setIfInBounds]; exact HCS.out, HCELL.out, HC5.out, fun i hi => ?_, HT5.out⟩
            by_cases e : i = k
            · subst e; rw [HY.out]; exact H128.out
            · exact HLA.out i (by omega)
      · obtain rfl : n = at_ + k := by omega
        have SEEN := Lib.hid (show seen z at_ (at_ + k) = k from (last_eq (z := fun i => z (at_ + i)) (f := k) ⟨by omega, HLA.out, fun h => by omega⟩).symm)
        have TAK := Lib.hid (show taken z at_ (at_ + k) = k from by unfold taken; rw [SEEN.out, if_neg (by omega)])
        rw [Nat.sub_self] at LE
        clear hend
        go_wp2_with (go_at_call 24; refine LE.out.mono ?_; rintro e w2 ⟨rfl, j, rfl⟩)
        go_ret
        refine ⟨by rw [TAK.out]; rfl, fun i hi => ?_, by rw [TAK.out]; exact HC.out.drewN _, HT.out.drewN _⟩
        rw [TAK.out] at hi
        exact ((HL.out.drewN _).cell i).trans (HCE.out i hi)
    · obtain rfl : k = 10 := by omega
      have SEEN := Lib.hid (show seen z at_ n = 10 from (last_eq (z := fun i => z (at_ + i)) (f := 10) ⟨by omega, HLA.out, fun h => by omega⟩).symm)
      have TAK := Lib.hid (show taken z at_ n = 10 from by unfold taken; rw [SEEN.out, if_neg (by omega)])
      clear h10 LE
      go_wp2
      go_ret
      refine ⟨by rw [TAK.out]; rfl, fun i hi => ?_, by rw [TAK.out]; exact HC.out, HT.out⟩
      rw [TAK.out] at hi
      exact (HL.out.cell i).trans (HCE.out i hi)
end Go.Proofs.Ytknpekpigiclkaa
