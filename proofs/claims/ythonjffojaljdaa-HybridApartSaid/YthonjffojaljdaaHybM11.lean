/-
  TEXTS OF THIS PROOF, one behind the other: XShortDig XShortNext.
-/
import Derived.Test.YthonjffojaljdaaHybM7
import Derived.Test.YthonjffojaljdaaCurAwake
import Derived.Test.YthonjffojaljdaaVarGet
import Derived.ArgAppend
import Derived.Deep.LoopGhost
import Derived.Test.YthonjffojaljdaaHybM6
/-
  CONTRACT OF short.digits: the bytes up to the last one of a number's short bytes, off a cursor, laid into an array of the caller's. Conditions: at most 20000 bytes.
-/
namespace Go.Proofs.Ythonjffojaljdaa
open Go.RowKit
set_option linter.unusedVariables false
/-- The place of the last byte of a number: the first one below 128, if there is one. -/
def lf (z : Nat → Int) : Nat → Nat
  | 0 => 0
  | k + 1 => if lf z k < k then lf z k else if z k < 128 then k else k + 1
theorem lf_last (z : Nat → Int) : ∀ k, IsLast z k (lf z k)
  | 0 => ⟨Nat.le_refl _, fun i hi => by simp [lf] at hi, fun h => by simp [lf] at h⟩
  | k + 1 => by
    obtain ⟨h1, h2, h3⟩ := lf_last z k
    unfold lf
    by_cases h : lf z k < k
    · rw [if_pos h]; exact ⟨by omega, h2, fun _ => h3 h⟩
    · rw [if_neg h]
      have hk : lf z k = k := by omega
      rw [hk] at h2
      by_cases hz : z k < 128
      · rw [if_pos hz]; exact ⟨by omega, h2, fun _ => hz⟩
      · rw [if_neg hz]
        refine ⟨Nat.le_refl _, fun i hi => ?_, fun h => by omega⟩
        by_cases e : i = k
        · subst e; exact hz
        · exact h2 i (by omega)
theorem last_eq {z : Nat → Int} {n f : Nat} (h : IsLast z n f) : f = lf z n := by
  obtain ⟨h1, h2, h3⟩ := h
  obtain ⟨g1, g2, g3⟩ := lf_last z n
  rcases Nat.lt_trichotomy f (lf z n) with h | h | h
  · exact absurd (h3 (by omega)) (g2 f h)
  · exact h
  · exact absurd (g3 (by omega)) (h2 _ h)
theorem setCells_one (w : World) (b o : Nat) (v : Value) : w.setCells b o [v] = w.setCell ⟨b, o, none⟩ v := by simp [World.setCells]
/-- So many bytes are looked at. -/
def seen (z : Nat → Int) (at_ n : Nat) : Nat := lf (fun i => z (at_ + i)) (min (n - at_) 10)
def taken (z : Nat → Int) (at_ n : Nat) : Nat := if seen z at_ n < min (n - at_) 10 then seen z at_ n + 1 else seen z at_ n
set_option maxRecDepth 100000 in
set_option maxHeartbeats 2000000 in
theorem sdigits_any (bc br n : Nat) (z : Nat → Int) (at_ : Nat) (cs : Array Value) (hz : ∀ i, i < n → 0 ≤ z i ∧ z i ≤ 255) (hn : n ≤ 100000) (hcs : cs.size = 10) (hbb : bc < br) (w : World) (h : CursorAt w bc n z at_) (hl : Lies w br 138 cs) :
    Calls Try.prog 119 #[.pointer (some ⟨bc, 0, none⟩), .slice (some ⟨br, 0, none⟩) 0 10] w fun e w' => e = .returned (.slice (some ⟨br, 0, none⟩) (taken z at_ n) 10) ∧
      (∀ i, i < taken z at_ n → w'.cell? ⟨br, i, none⟩ = some (.int .u8 (z (at_ + i)))) ∧ CursorAt w' bc n z (at_ + taken z at_ n) ∧ Turned (fun i => i = bc ∨ i = br) w w' := by
  obtain ⟨i0, hi, hz0, hz1, hz2⟩ := info_parts byteInfo
  have H := Lib.hid h
  have HL := Lib.hid hl
  have HZ := Lib.hid hz
  have HCS := Lib.hid hcs
  clear h hl hz hcs
  go_enter Try.func119, Try.ntmps119
  go_wp2
  go_loopg [1] 10 (fun g v wr => ∃ (k : Nat) (cs : Array Value), k ≤ 10 ∧ g = 10 - k ∧ v = .slice (some ⟨br, 0, none⟩) k 10 ∧ Lies wr br 138 cs ∧ cs.size = 10 ∧ (∀ i, i < k → cs[i]? = some (.int .u8 (z (at_ + i)))) ∧ CursorAt wr bc n z (at_ + k) ∧ (∀ i, i < k → ¬ z (at_ + i) < 128) ∧ Turned (fun i => i = bc ∨ i = br) w wr)
  case atStart => exact ⟨0, cs, by omega, by omega, rfl, HL.out, HCS.out, fun i hi => by omega, H.out, fun i hi => by omega, Turned.refl _ _⟩
  case round =>
    obtain ⟨k, cs, hk, hgk, rfl, hl, hcs, hcell, hc, hlast, ht⟩ := hrel
    have hle := hc.le
    have HL := Lib.hid hl
    have HCS := Lib.hid hcs
    have HCE := Lib.hid hcell
    have HC := Lib.hid hc
    have HLA := Lib.hid hlast
    have HT := Lib.hid ht
    have HGK := Lib.hid hgk
    have LE := Lib.hid (cleft_any bc n z (at_ + k) hn wr hc)
    clear hl hcs hcell hc hlast ht hgk
    by_cases h10 : k < 10
    · have k1 : (k : Int) < 10 := by omega
      by_cases hend : at_ + k < n
      · have LL := Lib.hid (show (0 : Int) < ((n - (at_ + k) : Nat) : Int) from by omega)
        have U := Lib.hid (fun j => u8_ok bc n z (at_ + k) HZ.out hn (by omega) (wr.drewN j) (HC.out.drewN j))
        have hzk := HZ.out (at_ + k) hend
        have hnum : (num (fun i => z (at_ + k + i)) 1 : Int) = z (at_ + k) := by simp [num]; omega
        obtain ⟨y, hy⟩ : ∃ y, z (at_ + k) = y := ⟨_, rfl⟩
        rw [hy] at hnum
        obtain ⟨L, hL⟩ : ∃ L, n - (at_ + k) = L := ⟨_, rfl⟩
        rw [hL] at LE LL
        have l0 := LL.out
        have HY := Lib.hid hy
        have HNUM := Lib.hid hnum
        have HZK := Lib.hid (show 0 ≤ y ∧ y ≤ 255 from by rw [← hy]; exact hzk)
        clear hy hnum hL hzk
        by_cases h128 : y < 128
        · have SEEN := Lib.hid (show seen z at_ n = k from (last_eq (z := fun i => z (at_ + i)) (f := k) ⟨by omega, HLA.out, fun _ => by show z (at_ + k) < 128; rw [HY.out]; exact h128⟩).symm)
          have TAK := Lib.hid (show taken z at_ n = k + 1 from by unfold taken; rw [SEEN.out, if_pos (by omega)])
          go_wp2_with (first
            | (go_at_call 116; refine LE.out.mono ?_; rintro e w2 ⟨rfl, j, rfl⟩)
            | (go_at_call 41; refine (U.out _).mono ?_; rintro e w4 ⟨rfl, hc4, ht4⟩
               rw [HNUM.out]
               have ht4 : Turned (fun i => i = bc) wr w4 := ⟨ht4.os, ht4.tape, ht4.output, ht4.size, ht4.block⟩
               have hl4 : Lies w4 br 138 cs := HL.out.turned ht4 (fun (e : br = bc) => by omega)
               have hl5 := hl4.alloc (.cells #[.int .u8 y] 5)
               have hlt := hl4.lt
               have hkc : k < cs.size := by rw [HCS.out]; exact h10
               have hrun := run_append_room_cells (P := Try.prog) (w4.alloc (.cells #[.int .u8 y] 5)) 26 26 5 i0 Try.underlying26 hi br 0 k 10 ⟨w4.heap.size, 0, none⟩ 1 1 [.int .u8 y] (by rw [hz1]; rfl) (cell_one_new _ _ _) (by simp [Value.oneCell']) (by omega)
                 (fun j hj => by obtain rfl : j = 0 := (by simpa using hj); rw [hz1, hl5.cell]; simp [hkc]) (fun j hj => by obtain rfl : j = 0 := (by simpa using hj); exact hl5.frozen _)
               rw [hz1, Nat.mul_one, Nat.zero_add, setCells_one] at hrun
               have HRUN := Lib.hid hrun
               have HL5 := Lib.hid (hl5.set_ k (.int .u8 y))
               have HC5 := Lib.hid ((hc4.below ((Below.refl w4.heap.size w4).alloc (Nat.le_refl _) (.cells #[.int .u8 y] 5)) hc4.lt).turned ((Turned.refl (fun i => i = br) _).setCell (p := ⟨br, k, none⟩) (.inl rfl) (.int .u8 y)) (fun i hi (e : i = br) => by omega))
               have HT5 := Lib.hid ((HT.out.trans (((ht4.mono (fun i _ e => .inl e)).alloc (.cells #[.int .u8 y] 5)))).setCell (p := ⟨br, k, none⟩) (.inl (.inr rfl)) (.int .u8 y))
               clear hrun hc4 ht4 hl4 hl5 hlt hkc)
            | (at_builtin; go_must (refine wpList_append_ran _ _ rfl _ _ 26 rfl _ _ _ rfl rfl HRUN.out ?_)))
          go_ret
          have HCELL := Lib.hid (fun i (hi : i < k + 1) => (show (cs.setIfInBounds k (.int .u8 y))[i]? = some (.int .u8 (z (at_ + i))) from by
            by_cases e : i = k
            · subst e; rw [Array.getElem?_setIfInBounds_self_of_lt (by rw [HCS.out]; exact h10), HY.out]
            · rw [Array.getElem?_setIfInBounds_ne (Ne.symm e)]; exact HCE.out i (by omega)))
          refine ⟨by rw [TAK.out]; rfl, fun i hi => ?_, by rw [TAK.out]; exact HC5.out, HT5.out⟩
          rw [TAK.out] at hi
          exact (HL5.out.cell i).trans (HCELL.out i hi)
        · have H128 := Lib.hid h128
          go_wp2_with (first
            | (go_at_call 116; refine LE.out.mono ?_; rintro e w2 ⟨rfl, j, rfl⟩)
            | (go_at_call 41; refine (U.out _).mono ?_; rintro e w4 ⟨rfl, hc4, ht4⟩
               rw [HNUM.out]
               have ht4 : Turned (fun i => i = bc) wr w4 := ⟨ht4.os, ht4.tape, ht4.output, ht4.size, ht4.block⟩
               have hl4 : Lies w4 br 138 cs := HL.out.turned ht4 (fun (e : br = bc) => by omega)
               have hl5 := hl4.alloc (.cells #[.int .u8 y] 5)
               have hlt := hl4.lt
               have hkc : k < cs.size := by rw [HCS.out]; exact h10
               have hrun := run_append_room_cells (P := Try.prog) (w4.alloc (.cells #[.int .u8 y] 5)) 26 26 5 i0 Try.underlying26 hi br 0 k 10 ⟨w4.heap.size, 0, none⟩ 1 1 [.int .u8 y] (by rw [hz1]; rfl) (cell_one_new _ _ _) (by simp [Value.oneCell']) (by omega)
                 (fun j hj => by obtain rfl : j = 0 := (by simpa using hj); rw [hz1, hl5.cell]; simp [hkc]) (fun j hj => by obtain rfl : j = 0 := (by simpa using hj); exact hl5.frozen _)
               rw [hz1, Nat.mul_one, Nat.zero_add, setCells_one] at hrun
               have HRUN := Lib.hid hrun
               have HL5 := Lib.hid (hl5.set_ k (.int .u8 y))
               have HC5 := Lib.hid ((hc4.below ((Below.refl w4.heap.size w4).alloc (Nat.le_refl _) (.cells #[.int .u8 y] 5)) hc4.lt).turned ((Turned.refl (fun i => i = br) _).setCell (p := ⟨br, k, none⟩) (.inl rfl) (.int .u8 y)) (fun i hi (e : i = br) => by omega))
               have HT5 := Lib.hid ((HT.out.trans (((ht4.mono (fun i _ e => .inl e)).alloc (.cells #[.int .u8 y] 5)))).setCell (p := ⟨br, k, none⟩) (.inl (.inr rfl)) (.int .u8 y))
               clear hrun hc4 ht4 hl4 hl5 hlt hkc)
            | (at_builtin; go_must (refine wpList_append_ran _ _ rfl _ _ 26 rfl _ _ _ rfl rfl HRUN.out ?_)))
          go_roundg (10 - (k + 1))
          case measure => have := HGK.out; omega
          case rel =>
            have HCELL := Lib.hid (fun i (hi : i < k + 1) => (show (cs.setIfInBounds k (.int .u8 y))[i]? = some (.int .u8 (z (at_ + i))) from by
              by_cases e : i = k
              · subst e; rw [Array.getElem?_setIfInBounds_self_of_lt (by rw [HCS.out]; exact h10), HY.out]
              · rw [Array.getElem?_setIfInBounds_ne (Ne.symm e)]; exact HCE.out i (by omega)))
            refine ⟨k + 1, cs.setIfInBounds k (.int .u8 y), by omega, rfl, rfl, HL5.out, by rw [Array.size_setIfInBounds]; exact HCS.out, HCELL.out, HC5.out, fun i hi => ?_, HT5.out⟩
            by_cases e : i = k
            · subst e; rw [HY.out]; exact H128.out
            · exact HLA.out i (by omega)
      · obtain rfl : n = at_ + k := by omega
        have SEEN := Lib.hid (show seen z at_ (at_ + k) = k from (last_eq (z := fun i => z (at_ + i)) (f := k) ⟨by omega, HLA.out, fun h => by omega⟩).symm)
        have TAK := Lib.hid (show taken z at_ (at_ + k) = k from by unfold taken; rw [SEEN.out, if_neg (by omega)])
        rw [Nat.sub_self] at LE
        clear hend
        go_wp2_with (go_at_call 116; refine LE.out.mono ?_; rintro e w2 ⟨rfl, j, rfl⟩)
        go_ret
        refine ⟨by rw [TAK.out]; rfl, fun i hi => ?_, by rw [TAK.out]; exact HC.out.drewN _, HT.out.drewN _⟩
        rw [TAK.out] at hi
        exact ((HL.out.drewN _).cell i).trans (HCE.out i hi)
    · obtain rfl : k = 10 := by omega
      have SEEN := Lib.hid (show seen z at_ n = 10 from (last_eq (z := fun i => z (at_ + i)) (f := 10) ⟨by omega, HLA.out, fun h => by omega⟩).symm)
      have TAK := Lib.hid (show taken z at_ n = 10 from by unfold taken; rw [SEEN.out, if_neg (by omega)])
      clear h10 LE
      go_wp2
      go_ret
      refine ⟨by rw [TAK.out]; rfl, fun i hi => ?_, by rw [TAK.out]; exact HC.out, HT.out⟩
      rw [TAK.out] at hi
      exact (HL.out.cell i).trans (HCE.out i hi)
end Go.Proofs.Ythonjffojaljdaa


/-
  CONTRACT OF short.Next: the next number of short bytes off a cursor, or what is thrown. Conditions: at most 20000 bytes.
-/
namespace Go.Proofs.Ythonjffojaljdaa
open Go.RowKit
set_option linter.unusedVariables false
/-- The bytes that are left, and nothing behind them. -/
def zt (z : Nat → Int) (at_ n : Nat) (i : Nat) : Int := if at_ + i < n then z (at_ + i) else 0
/-- What varint.Get tells of what is left. -/
def nx (z : Nat → Int) (at_ n : Nat) : Int × Int × Int := got (zt z at_ n) (n - at_) (seen z at_ n)
theorem zt_bytes {z : Nat → Int} {n : Nat} (hz : ∀ i, i < n → 0 ≤ z i ∧ z i ≤ 255) (at_ : Nat) (i : Nat) : 0 ≤ zt z at_ n i ∧ zt z at_ n i ≤ 255 := by
  unfold zt
  split
  · exact hz _ (by assumption)
  · omega
theorem last_congr {z y : Nat → Int} {n f : Nat} (h : IsLast z n f) (e : ∀ i, i < n → z i = y i) : IsLast y n f := by
  obtain ⟨h1, h2, h3⟩ := h
  exact ⟨h1, fun i hi => by rw [← e i (by omega)]; exact h2 i hi, fun hf => by rw [← e f hf]; exact h3 hf⟩
theorem seen_last (z : Nat → Int) (at_ n : Nat) : IsLast (zt z at_ n) (min (n - at_) 10) (seen z at_ n) :=
  last_congr (lf_last (fun i => z (at_ + i)) _) fun i hi => by unfold zt; rw [if_pos (by omega)]
theorem taken_last (z : Nat → Int) (at_ n : Nat) : IsLast (zt z at_ n) (min (taken z at_ n) 10) (seen z at_ n) := by
  obtain ⟨h1, h2, h3⟩ := seen_last z at_ n
  unfold taken
  split
  · rename_i h
    exact ⟨by omega, h2, fun _ => h3 h⟩
  · rename_i h
    exact ⟨by omega, h2, fun h => by omega⟩
theorem taken_le (z : Nat → Int) (at_ n : Nat) : taken z at_ n ≤ n - at_ ∧ taken z at_ n ≤ 10 := by
  obtain ⟨h1, h2, h3⟩ := seen_last z at_ n
  unfold taken
  split <;> omega
theorem got_taken (z : Nat → Int) (at_ n : Nat) : got (zt z at_ n) (taken z at_ n) (seen z at_ n) = nx z at_ n := by
  obtain ⟨h1, h2, h3⟩ := seen_last z at_ n
  unfold nx got taken
  by_cases h : seen z at_ n < min (n - at_) 10
  · rw [if_pos h, if_neg (by omega), if_neg (show ¬ seen z at_ n = min (n - at_) 10 by omega)]
  · rw [if_neg h, if_pos (by omega), if_pos (show seen z at_ n = min (n - at_) 10 by omega)]
    congr 2
    by_cases h5 : n - at_ < 10
    · rw [if_pos (by omega), if_pos h5]
    · rw [if_neg (by omega), if_neg h5]
theorem nx_ok {z : Nat → Int} {at_ n : Nat} (h : (nx z at_ n).2.2 = 0) : seen z at_ n < min (n - at_) 10 ∧ taken z at_ n = seen z at_ n + 1 ∧ (nx z at_ n).2.1 = ((seen z at_ n + 1 : Nat) : Int) := by
  obtain ⟨h1, h2, h3⟩ := seen_last z at_ n
  by_cases hs : seen z at_ n < min (n - at_) 10
  · refine ⟨hs, by unfold taken; rw [if_pos hs], ?_⟩
    unfold nx got at h ⊢
    rw [if_neg (by omega)] at h ⊢
    split at h
    · simp at h
    · rename_i g1
      rw [if_neg g1]
      split at h
      · simp at h
      · rename_i g2
        rw [if_neg g2]
  · exfalso
    unfold nx got at h
    rw [if_pos (by omega)] at h
    simp at h
    split at h <;> omega
set_option maxRecDepth 100000 in
set_option maxHeartbeats 1000000 in
theorem snext_any (bc n : Nat) (z : Nat → Int) (at_ : Nat) (hz : ∀ i, i < n → 0 ≤ z i ∧ z i ≤ 255) (hn : n ≤ 100000) (w : World) (h : CursorAt w bc n z at_) :
    Calls Try.prog 85 #[.pointer (some ⟨bc, 0, none⟩)] w fun e w' => Turned (· = bc) w w' ∧
      (((nx z at_ n).2.2 = 0 ∧ e = .returned (.int .u64 (nx z at_ n).1) ∧ CursorAt w' bc n z (at_ + (seen z at_ n + 1))) ∨
       (((nx z at_ n).2.2 != 0) = true ∧ e = .panicked [{ v := .iface 137 (.agg #[.int .i64 (nx z at_ n).2.2]), recovered := false }])) := by
  have H := Lib.hid h
  have hbc := h.lt
  have D := Lib.hid (sdigits_any bc w.heap.size n z at_ #[.int .u8 0, .int .u8 0, .int .u8 0, .int .u8 0, .int .u8 0, .int .u8 0, .int .u8 0, .int .u8 0, .int .u8 0, .int .u8 0] hz hn rfl hbc (w.alloc (.cells #[.int .u8 0, .int .u8 0, .int .u8 0, .int .u8 0, .int .u8 0, .int .u8 0, .int .u8 0, .int .u8 0, .int .u8 0, .int .u8 0] 138)) (h.below ((Below.refl w.heap.size w).alloc (Nat.le_refl _) _) hbc) (Lies.new _ _ _))
  have HNX := Lib.hid (fun (h0 : (nx z at_ n).2.2 = 0) => (nx_ok h0).2.1)
  have GT := Lib.hid (fun (br : Nat) (W : World) (hc : ∀ i, i < taken z at_ n → W.cell? ⟨br, i, none⟩ = some (.int .u8 (z (at_ + i)))) => (show Calls Try.prog 118 #[.slice (some ⟨br, 0, none⟩) (taken z at_ n) 10] W fun e w' => e = .returned (.tuple #[.int .u64 (nx z at_ n).1, .int .i64 (nx z at_ n).2.1, .int .i64 (nx z at_ n).2.2]) ∧ W = w' from by
    have := get_any (some ⟨br, 0, none⟩) br 0 (taken z at_ n) 10 (seen z at_ n) (zt z at_ n) (fun i => zt_bytes hz at_ i) (taken_le z at_ n).2 (by decide) (taken_last z at_ n) W (.inr rfl) (fun i hi => by
      rw [Nat.zero_add, hc i hi]
      have := (taken_le z at_ n).1
      unfold zt
      rw [if_pos (by omega)])
    rw [got_taken] at this
    exact this))
  obtain ⟨v, m, e, hvme⟩ : ∃ v m e, nx z at_ n = (v, m, e) := ⟨_, _, _, rfl⟩
  rw [hvme] at HNX GT ⊢
  clear h hz hvme
  simp only at HNX GT ⊢
  generalize seen z at_ n = f at *
  have hT : ∀ w' : World, Turned (fun i => i = bc ∨ i = w.heap.size) (w.alloc (.cells #[.int .u8 0, .int .u8 0, .int .u8 0, .int .u8 0, .int .u8 0, .int .u8 0, .int .u8 0, .int .u8 0, .int .u8 0, .int .u8 0] 138)) w' → Turned (· = bc) w w' := fun w' ht =>
    ((Turned.refl (· = bc) w).alloc _).trans' ht (fun i hi e => by rcases e with e | e <;> omega)
  have HT := Lib.hid hT
  clear hT
  by_cases h0 : e = 0
  · subst h0
    have hnx := HNX.out rfl
    clear HNX
    rw [hnx] at D GT
    clear hnx
    go_enter Try.func85, Try.ntmps85
    go_wp2_with (first
      | (go_at_call 119; refine D.out.mono ?_; rintro e w2 ⟨rfl, hcell, hc, ht⟩; have HCE := Lib.hid hcell; have HC := Lib.hid hc; have HT2 := Lib.hid (HT.out w2 ht); clear hcell hc ht)
      | (go_at_call 118; refine (GT.out _ _ HCE.out).mono ?_; rintro e w3 ⟨rfl, rfl⟩)
      | (go_at_call 120; refine (must_ok _ _).mono ?_; rintro e w4 ⟨rfl, rfl⟩))
    go_ret
    exact ⟨HT2.out, .inl ⟨trivial, rfl, HC.out⟩⟩
  · have hne : (e != 0) = true := by simpa using h0
    clear h0 HNX
    generalize taken z at_ n = k at *
    go_enter Try.func85, Try.ntmps85
    go_wp2_with (first
      | (go_at_call 119; refine D.out.mono ?_; rintro e w2 ⟨rfl, hcell, hc, ht⟩; have HCE := Lib.hid hcell; have HC := Lib.hid hc; have HT2 := Lib.hid (HT.out w2 ht); clear hcell hc ht)
      | (go_at_call 118; refine (GT.out _ _ HCE.out).mono ?_; rintro e w3 ⟨rfl, rfl⟩)
      | (go_at_call 120; refine (must_some _ _ hne _).mono ?_; rintro e w4 ⟨rfl, rfl⟩))
    exact ⟨rfl, HT2.out, .inr ⟨hne, rfl⟩⟩
end Go.Proofs.Ythonjffojaljdaa

