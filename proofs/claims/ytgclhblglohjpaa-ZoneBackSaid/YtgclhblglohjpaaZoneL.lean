/-
  CONTRACT OF what zone.Load tries (zone.Load$1), in any world: the zones of bytes, a row of its own, or what is thrown. Conditions: at most 100000 bytes, which lie in memory as told.
-/
import Derived.Test.YtgclhblglohjpaaZoneJ
import Derived.Test.YtgclhblglohjpaaCurNext
import Derived.Test.YtgclhblglohjpaaTrap
namespace Go.Proofs.Ytgclhblglohjpaa
open Go.RowKit
set_option linter.unusedVariables false
set_option linter.unusedSimpArgs false
/-- The numbers of the zone that stands behind so many others. -/
def zC (z : Nat → Int) (k : Nat) : Int := (num (fun i => z (4 + 26 * k + i)) 2 : Nat)
def zL (z : Nat → Int) (k : Nat) : Int := wrap64 (num (fun i => z (4 + 26 * k + 2 + i)) 8 : Nat)
def zH (z : Nat → Int) (k : Nat) : Int := wrap64 (num (fun i => z (4 + 26 * k + 2 + 8 + i)) 8 : Nat)
def zS (z : Nat → Int) (k : Nat) : Int := wrap64 (num (fun i => z (4 + 26 * k + 2 + 8 + 8 + i)) 8 : Nat)
/-- How many zones are told. -/
def zN (z : Nat → Int) : Nat := num (fun i => z (0 + i)) 4
/-- Whether that zone is there, and may be. -/
def zgood (z : Nat → Int) (nb k : Nat) : Prop := 4 + 26 * (k + 1) ≤ nb ∧ zrt (zC z k) (zL z k) (zH z k) (zS z k) = true
/-- What is wrong, f zones being right. -/
def zerr (z : Nat → Int) (nb f : Nat) : Int := if nb < 4 then 1 else if f < zN z then (if nb < 4 + 26 * (f + 1) then 1 else 4) else if 4 + 26 * f < nb then 2 else 0
set_option maxRecDepth 100000 in
set_option maxHeartbeats 4000000 in
theorem load1_any (pb nb cap : Nat) (a : Option Addr) (z : Nat → Int) (hz : ∀ i, i < nb → 0 ≤ z i ∧ z i ≤ 255) (hnb : nb ≤ 100000) (f : Nat) (hf0 : 4 ≤ nb → f ≤ zN z ∧ (∀ i, i < f → zgood z nb i) ∧ (f < zN z → ¬ zgood z nb f)) (w : World)
    (hb : w.cell? ⟨pb, 0, none⟩ = some (.slice a nb cap)) (hrow : RowOf w a nb (fun i => .int .u8 (z i))) :
    Calls Try.prog 60 #[.pointer (some ⟨pb, 0, none⟩)] w fun e w' => Below w.heap.size w w' ∧
      ((zerr z nb f = 0 ∧ ∃ v, e = .returned v ∧ w'.ownsRow w.heap.size 40 4 v f (zcells (zC z) (zL z) (zH z) (zS z) f)) ∨
        ((zerr z nb f != 0) = true ∧ e = .panicked [{ v := .iface 153 (.agg #[.int .i64 (zerr z nb f)]), recovered := false }])) := by
  obtain ⟨i0, hi, hz0, hz1, hz2⟩ := info_parts zoneInfo
  obtain ⟨er, her⟩ : ∃ er, zerr z nb f = er := ⟨_, rfl⟩
  rw [her]
  have CN := Lib.hid (cnew_any a nb cap z hnb w hrow)
  have HZ := Lib.hid hz
  have HE := Lib.hid her
  have HF := Lib.hid hf0
  have CT := Lib.hid (fun n W => check_ok n W)
  have CF := Lib.hid (fun n h W => check_some n h W)
  clear hrow hz her hf0
  go_enter Try.func60, Try.ntmps60
  by_cases h4 : nb < 4
  · obtain rfl : 1 = er := by have := HE.out; unfold zerr at this; rw [if_pos h4] at this; exact this
    go_wp2_with (first
      | (go_at_call 25; refine CN.out.mono ?_; rintro e w1 ⟨bc, rfl, hc1, hbc, hb1⟩; have HC := Lib.hid hc1; have HB := Lib.hid hb1; clear hc1 hb1)
      | (go_at_call 61; refine (u32_short _ nb z 0 hnb (by omega) (by omega) _ HC.out).mono ?_; rintro e w2 ⟨rfl, j, rfl⟩))
    exact ⟨rfl, ⟨HB.out.os, HB.out.tape, HB.out.output, HB.out.size, HB.out.block⟩, .inr ⟨by decide, rfl⟩⟩
  obtain ⟨hfn, hall, hstop⟩ := HF.out (by omega)
  have HALL := Lib.hid hall
  have HSTOP := Lib.hid hstop
  clear hall hstop
  have NLT := Lib.hid (show zN z < 4294967296 from by
    have := num_lt (fun i => z (0 + i)) 4 (fun i hi => HZ.out _ (by omega))
    unfold zN; simpa using this)
  have N0 := Lib.hid (show num (fun i => z (0 + i)) 4 = zN z from rfl)
  go_wp2_with (first
    | (go_at_call 25; refine CN.out.mono ?_; rintro e w1 ⟨bc, rfl, hc1, hbc, hb1⟩; have HC := Lib.hid hc1; have HB := Lib.hid hb1; have HBC := Lib.hid hbc; clear hc1 hb1 hbc)
    | (go_at_call 61; refine (u32_ok _ nb z 0 HZ.out hnb (by omega) _ HC.out).mono ?_; rintro e w2 ⟨rfl, hc2, ht2⟩; rw [N0.out]; have HC2 := Lib.hid hc2; have HT2 := Lib.hid ht2; clear hc2 ht2))
  have hb2 : Below w.heap.size w w2 := HB.out.trans (HT2.out.below fun i hi => ⟨by have := HB.out.size; omega, fun (e : i = bc) => by have := HBC.out; omega⟩)
  have HB2 := Lib.hid hb2
  clear hb2 HB HT2 HC
  go_loopw [3, 9] (fun v i wr => ∃ k : Nat, k ≤ f ∧ i = .int .u32 k ∧ CursorAt wr bc nb z (4 + 26 * k) ∧ wr.ownsRow (bc + 1) 40 4 v k (zcells (zC z) (zL z) (zH z) (zS z) k) ∧ Below w.heap.size w wr) (fun _ i _ => zN z - (intOf i).toNat)
  case atStart => exact ⟨0, by omega, rfl, by simpa using HC2.out, World.ownsRow_nil _ _ _ _, HB2.out⟩
  case round =>
    obtain ⟨k, hk, rfl, hc, ho, hb⟩ := hrel
    have HC := Lib.hid hc
    have HO := Lib.hid ho
    have HB := Lib.hid hb
    have hcl := hc.lt
    have hcle := hc.le
    clear hc ho hb HC2 HB2
    by_cases hkn : k < zN z
    · have k1 : (k : Int) < zN z := by omega
      have k0 : (0 : Int) ≤ k := by omega
      have k2 : (k : Int) + 1 < 4294967296 := by have := NLT.out; omega
      have k3 : ((k : Int) + 1) % 4294967296 = k + 1 := by omega
      by_cases h26 : 4 + 26 * (k + 1) ≤ nb
      · obtain ⟨c, hcc⟩ : ∃ c, zC z k = c := ⟨_, rfl⟩
        obtain ⟨l, hll⟩ : ∃ c, zL z k = c := ⟨_, rfl⟩
        obtain ⟨h, hhh⟩ : ∃ c, zH z k = c := ⟨_, rfl⟩
        obtain ⟨s, hss⟩ : ∃ c, zS z k = c := ⟨_, rfl⟩
        have EC := Lib.hid (show ((num (fun i => z (4 + 26 * k + i)) 2 : Nat) : Int) = c from hcc)
        obtain ⟨N1, hN1⟩ : ∃ N, num (fun i => z (4 + 26 * k + 2 + i)) 8 = N := ⟨_, rfl⟩
        obtain ⟨N2, hN2⟩ : ∃ N, num (fun i => z (4 + 26 * k + 2 + 8 + i)) 8 = N := ⟨_, rfl⟩
        obtain ⟨N3, hN3⟩ : ∃ N, num (fun i => z (4 + 26 * k + 2 + 8 + 8 + i)) 8 = N := ⟨_, rfl⟩
        have wl : wrap64 (N1 : Int) = l := by rw [← hN1]; exact hll
        have wh : wrap64 (N2 : Int) = h := by rw [← hN2]; exact hhh
        have ws : wrap64 (N3 : Int) = s := by rw [← hN3]; exact hss
        have EL := Lib.hid hN1
        have EH := Lib.hid hN2
        have ES := Lib.hid hN3
        clear hN1 hN2 hN3
        have RS := Lib.hid (show zcells (zC z) (zL z) (zH z) (zS z) (k + 1) = zcells (zC z) (zL z) (zH z) (zS z) k ++ (zV c l h s).toList from by rw [← hcc, ← hll, ← hhh, ← hss]; rfl)
        have ZG := Lib.hid (show k < f → zrt c l h s = true from fun hk => by have := (HALL.out k hk).2; rwa [hcc, hll, hhh, hss] at this)
        have ZB := Lib.hid (show k = f → zrt c l h s = false from fun hk => by
          subst hk
          have := HSTOP.out hkn
          cases hzr : zrt c l h s with
          | false => rfl
          | true => exact absurd ⟨h26, by rw [hcc, hll, hhh, hss]; exact hzr⟩ this)
        have hcw : wrap64 c = c := by
          have := num_lt (fun i => z (4 + 26 * k + i)) 2 (fun i hi => HZ.out _ (by omega))
          have e : (256 : Nat) ^ 2 = 65536 := by decide
          have := EC.out
          unfold wrap64
          omega
        clear hcc hll hhh hss
        by_cases hkf : k < f
        · have MB := Lib.hid (maybe_any c l h s)
          rw [ZG.out hkf] at MB
          go_wp2_with (first
            | (go_at_call 62; refine (u16_ok _ nb z _ HZ.out hnb (by omega) _ HC.out).mono ?_; rintro e w3 ⟨rfl, hc3, ht3⟩; rw [EC.out]; have HCX := Lib.hid (hc3.below ((Below.refl w3.heap.size w3).alloc (Nat.le_refl _) (.cells #[.int .i64 c, .int .i64 0, .int .i64 0, .int .i64 0] 40)) hc3.lt); have LZ := Lib.hid (Lies.new w3 40 #[.int .i64 c, .int .i64 0, .int .i64 0, .int .i64 0]); have HT := Lib.hid (ht3.alloc (.cells #[.int .i64 c, .int .i64 0, .int .i64 0, .int .i64 0] 40)); have HBW := Lib.hid (show wr.heap.size ≤ w3.heap.size from ht3.size); clear hc3 ht3 HC; have HC := HCX; clear HCX)
            | (go_at_call 63; refine (u64_ok _ nb z _ HZ.out hnb (by omega) _ HC.out).mono ?_; rintro e w4 ⟨rfl, hc4, ht4⟩; rw [EL.out]; clear EL; have lz4 := LZ.out.turned ht4 (fun e => by have := HBW.out; omega); have c0 := lz4.cell 0; have c1 := lz4.cell 1; have c2 := lz4.cell 2; have c3 := lz4.cell 3; have f1 := lz4.frozen 1; have f2 := lz4.frozen 2; have f3 := lz4.frozen 3; have ht5 := HT.out.trans ht4; clear LZ HT HC; have LZ := Lib.hid lz4; have HT := Lib.hid ht5; have HC := Lib.hid hc4; clear lz4 ht5 hc4 ht4)
            | (go_at_call 63; refine (u64_ok _ nb z _ HZ.out hnb (by omega) _ HC.out).mono ?_; rintro e w4 ⟨rfl, hc4, ht4⟩; rw [EH.out]; clear EH; have lz4 := LZ.out.turned ht4 (fun e => by have := HBW.out; omega); have c0 := lz4.cell 0; have c1 := lz4.cell 1; have c2 := lz4.cell 2; have c3 := lz4.cell 3; have f1 := lz4.frozen 1; have f2 := lz4.frozen 2; have f3 := lz4.frozen 3; have ht5 := HT.out.trans ht4; clear LZ HT HC; have LZ := Lib.hid lz4; have HT := Lib.hid ht5; have HC := Lib.hid hc4; clear lz4 ht5 hc4 ht4)
            | (go_at_call 63; refine (u64_ok _ nb z _ HZ.out hnb (by omega) _ HC.out).mono ?_; rintro e w4 ⟨rfl, hc4, ht4⟩; rw [ES.out]; clear ES; have lz4 := LZ.out.turned ht4 (fun e => by have := HBW.out; omega); have c0 := lz4.cell 0; have c1 := lz4.cell 1; have c2 := lz4.cell 2; have c3 := lz4.cell 3; have f1 := lz4.frozen 1; have f2 := lz4.frozen 2; have f3 := lz4.frozen 3; have ht5 := HT.out.trans ht4; clear LZ HT HC; have LZ := Lib.hid lz4; have HT := Lib.hid ht5; have HC := Lib.hid hc4; clear lz4 ht5 hc4 ht4)
            | (go_at_call 54; refine (MB.out _).mono ?_; rintro e w6 ⟨rfl, hb6⟩; have hbb := (((Below.refl (bc + 1) w4).setCell (p := ⟨w3.heap.size, 1, none⟩) (by have := HBW.out; show bc + 1 ≤ w3.heap.size; omega) (.int .i64 l)).setCell (p := ⟨w3.heap.size, 2, none⟩) (by have := HBW.out; show bc + 1 ≤ w3.heap.size; omega) (.int .i64 h)).setCell (p := ⟨w3.heap.size, 3, none⟩) (by have := HBW.out; show bc + 1 ≤ w3.heap.size; omega) (.int .i64 s); have hcs : bc + 1 ≤ w4.heap.size := HC.out.lt; have hb46 := hbb.trans (hb6.mono (by simpa using hcs)); have lz6 : Lies w6 w3.heap.size 40 #[.int .i64 c, .int .i64 l, .int .i64 h, .int .i64 s] := Lies.below (((LZ.out.set_ 1 (.int .i64 l)).set_ 2 (.int .i64 h)).set_ 3 (.int .i64 s)) hb6 (by simpa using LZ.out.lt); have ht6 := (((HT.out.setCell (p := ⟨w3.heap.size, 1, none⟩) (.inr HBW.out) (.int .i64 l)).setCell (p := ⟨w3.heap.size, 2, none⟩) (.inr HBW.out) (.int .i64 h)).setCell (p := ⟨w3.heap.size, 3, none⟩) (.inr HBW.out) (.int .i64 s)).trans (Turned.of_below hb6 (fun i hi _ => hi)); have hc6 := HC.out.below hb46 (by omega); have ho6 := owns_turned HO.out ht6 (fun i e h => by have := (HO.out.lt i e).1; omega); obtain ⟨v2, w8, hrun, ho8, hg8, _, _⟩ := run_append_own_at (P := Try.prog) (w6.alloc (.cells (zV c l h s) 40)) (bc + 1) 27 27 40 i0 (.agg #[.int .i64 0, .int .i64 0, .int .i64 0, .int .i64 0]) 4 32 Try.underlying27 hi hz0 hz1 hz2 rfl (by decide) _ k _ (World.ownsRow.alloc ho6 _) ⟨w6.heap.size, 0, none⟩ 1 1 (zV c l h s).toList rfl (fun j u hj => by
                have h := (Lies.new w6 40 (zV c l h s)).cell j
                have hadd : (⟨w6.heap.size, 0, none⟩ : Addr).add j = ⟨w6.heap.size, j, none⟩ := by unfold Addr.add; split <;> simp_all
                rw [hadd]
                exact h.trans (by simpa using hj)) (by simp [zV, Value.oneCell']) (by unfold maxLen; omega) (by omega) (by have := hc6.lt; simp; omega); have hb8 : Below (bc + 1) w6 w8 := (((Below.refl (bc + 1) w6).alloc hc6.lt _).grown hg8 (by have := hc6.lt; simp; omega) (fun j hj => (ho6.lt j hj).1)); rw [← RS.out] at ho8; have c0 := lz6.cell 0; have c1 := lz6.cell 1; have c2 := lz6.cell 2; have c3 := lz6.cell 3; have hbw6 : Below w.heap.size w w6 := HB.out.trans (ht6.below fun i hi => ⟨by have := HB.out.size; omega, fun (e : i = bc) => by have := HBC.out; omega⟩); have HB8 := Lib.hid (hbw6.trans (hb8.mono (by have := HBC.out; omega))); have HC8 := Lib.hid (hc6.below hb8 (by omega)); have HO8 := Lib.hid ho8; have HRUN := Lib.hid (show (Builtin.append_ #[27, 27] 27 #[_, .slice (some ⟨w6.heap.size, 0, none⟩) 1 1]).run Try.prog (w6.alloc (.cells #[.int .i64 c, .int .i64 l, .int .i64 h, .int .i64 s] 40)) = .ok v2 w8 from hrun); clear hbb hcs hb46 lz6 ht6 hc6 ho6 hrun ho8 hg8 hb8 hbw6 hb6)
            | (go_at_call 64; refine (CT.out _ _).mono ?_; rintro e w7 ⟨rfl, rfl⟩)
            | (at_builtin; go_must (refine wpList_append_ran _ _ rfl _ _ 27 rfl _ _ _ rfl rfl HRUN.out ?_)))
          go_roundw
          case rel => exact ⟨k + 1, by omega, by go_num, by rw [show 4 + 26 * (k + 1) = 4 + 26 * k + 2 + 8 + 8 + 8 by omega]; exact HC8.out, HO8.out, HB8.out⟩
          case measure => simp [intOf]; omega
        · obtain rfl : k = f := by omega
          obtain rfl : 4 = er := by
            have := HE.out
            unfold zerr at this
            rw [if_neg h4, if_pos hkn, if_neg (by omega)] at this
            exact this
          have MB := Lib.hid (maybe_any c l h s)
          rw [ZB.out rfl] at MB
          go_wp2_with (first
            | (go_at_call 62; refine (u16_ok _ nb z _ HZ.out hnb (by omega) _ HC.out).mono ?_; rintro e w3 ⟨rfl, hc3, ht3⟩; rw [EC.out]; have HCX := Lib.hid (hc3.below ((Below.refl w3.heap.size w3).alloc (Nat.le_refl _) (.cells #[.int .i64 c, .int .i64 0, .int .i64 0, .int .i64 0] 40)) hc3.lt); have LZ := Lib.hid (Lies.new w3 40 #[.int .i64 c, .int .i64 0, .int .i64 0, .int .i64 0]); have HT := Lib.hid (ht3.alloc (.cells #[.int .i64 c, .int .i64 0, .int .i64 0, .int .i64 0] 40)); have HBW := Lib.hid (show wr.heap.size ≤ w3.heap.size from ht3.size); clear hc3 ht3 HC; have HC := HCX; clear HCX)
            | (go_at_call 63; refine (u64_ok _ nb z _ HZ.out hnb (by omega) _ HC.out).mono ?_; rintro e w4 ⟨rfl, hc4, ht4⟩; rw [EL.out]; clear EL; have lz4 := LZ.out.turned ht4 (fun e => by have := HBW.out; omega); have c0 := lz4.cell 0; have c1 := lz4.cell 1; have c2 := lz4.cell 2; have c3 := lz4.cell 3; have f1 := lz4.frozen 1; have f2 := lz4.frozen 2; have f3 := lz4.frozen 3; have ht5 := HT.out.trans ht4; clear LZ HT HC; have LZ := Lib.hid lz4; have HT := Lib.hid ht5; have HC := Lib.hid hc4; clear lz4 ht5 hc4 ht4)
            | (go_at_call 63; refine (u64_ok _ nb z _ HZ.out hnb (by omega) _ HC.out).mono ?_; rintro e w4 ⟨rfl, hc4, ht4⟩; rw [EH.out]; clear EH; have lz4 := LZ.out.turned ht4 (fun e => by have := HBW.out; omega); have c0 := lz4.cell 0; have c1 := lz4.cell 1; have c2 := lz4.cell 2; have c3 := lz4.cell 3; have f1 := lz4.frozen 1; have f2 := lz4.frozen 2; have f3 := lz4.frozen 3; have ht5 := HT.out.trans ht4; clear LZ HT HC; have LZ := Lib.hid lz4; have HT := Lib.hid ht5; have HC := Lib.hid hc4; clear lz4 ht5 hc4 ht4)
            | (go_at_call 63; refine (u64_ok _ nb z _ HZ.out hnb (by omega) _ HC.out).mono ?_; rintro e w4 ⟨rfl, hc4, ht4⟩; rw [ES.out]; clear ES; have lz4 := LZ.out.turned ht4 (fun e => by have := HBW.out; omega); have c0 := lz4.cell 0; have c1 := lz4.cell 1; have c2 := lz4.cell 2; have c3 := lz4.cell 3; have f1 := lz4.frozen 1; have f2 := lz4.frozen 2; have f3 := lz4.frozen 3; have ht5 := HT.out.trans ht4; clear LZ HT HC; have LZ := Lib.hid lz4; have HT := Lib.hid ht5; have HC := Lib.hid hc4; clear lz4 ht5 hc4 ht4)
            | (go_at_call 54; refine (MB.out _).mono ?_; rintro e w6 ⟨rfl, hb6⟩; have ht6 := (((HT.out.setCell (p := ⟨w3.heap.size, 1, none⟩) (.inr HBW.out) (.int .i64 l)).setCell (p := ⟨w3.heap.size, 2, none⟩) (.inr HBW.out) (.int .i64 h)).setCell (p := ⟨w3.heap.size, 3, none⟩) (.inr HBW.out) (.int .i64 s)).trans (Turned.of_below hb6 (fun i hi _ => hi)); have HB8 := Lib.hid (show Below w.heap.size w w6 from HB.out.trans (ht6.below fun i hi => ⟨by have := HB.out.size; omega, fun (e : i = bc) => by have := HBC.out; omega⟩)); clear ht6 hb6)
            | (go_at_call 64; refine (CF.out _ (by decide) _).mono ?_; rintro e w7 ⟨rfl, rfl⟩))
          exact ⟨rfl, HB8.out, .inr ⟨by decide, rfl⟩⟩
      · have hkf : k = f := by
          by_cases e : k < f
          · exact absurd (HALL.out k e).1 h26
          · omega
        subst hkf
        obtain rfl : 1 = er := by
          have := HE.out
          unfold zerr at this
          rw [if_neg h4, if_pos hkn, if_pos (by omega)] at this
          exact this
        have HT0 := Lib.hid (Turned.refl (· = bc) wr)
        have hca : nb < 4 + 26 * k + 2 ∨ (4 + 26 * k + 2 ≤ nb ∧ nb < 4 + 26 * k + 2 + 8) ∨ (4 + 26 * k + 2 + 8 ≤ nb ∧ nb < 4 + 26 * k + 2 + 8 + 8) ∨ (4 + 26 * k + 2 + 8 + 8 ≤ nb ∧ nb < 4 + 26 * k + 2 + 8 + 8 + 8) := by omega
        rcases hca with hca | ⟨hcb, hca⟩ | ⟨hcb, hca⟩ | ⟨hcb, hca⟩
        · go_wp2_with (go_at_call 62; refine (u16_short _ nb z _ hnb (by omega) (by omega) _ HC.out).mono ?_; rintro e w3 ⟨rfl, j, rfl⟩)
          exact ⟨rfl, ⟨HB.out.os, HB.out.tape, HB.out.output, HB.out.size, HB.out.block⟩, .inr ⟨by decide, rfl⟩⟩
        · go_wp2_with (first
            | (go_at_call 62; refine (u16_ok _ nb z _ HZ.out hnb (by omega) _ HC.out).mono ?_; rintro e w3 ⟨rfl, hc3, ht3⟩; have HCX := Lib.hid (hc3.below ((Below.refl w3.heap.size w3).alloc (Nat.le_refl _) (.cells #[.int .i64 (wrap64 ((num (fun i => z (4 + 26 * k + i)) 2 : Nat) : Int)), .int .i64 0, .int .i64 0, .int .i64 0] 40)) hc3.lt); have HT := Lib.hid (HT0.out.trans (ht3.alloc (.cells #[.int .i64 (wrap64 ((num (fun i => z (4 + 26 * k + i)) 2 : Nat) : Int)), .int .i64 0, .int .i64 0, .int .i64 0] 40))); clear hc3 ht3 HC; have HC := HCX; clear HCX)
            | (go_at_call 63; refine (u64_short _ nb z _ hnb (by omega) (by omega) _ HC.out).mono ?_; rintro e w4 ⟨rfl, j, rfl⟩)
            | (go_at_call 63; refine (u64_ok _ nb z _ HZ.out hnb (by omega) _ HC.out).mono ?_; rintro e w4 ⟨rfl, hc4, ht4⟩; have ht5 := HT.out.trans ht4; clear HT HC; have HT := Lib.hid ht5; have HC := Lib.hid hc4; clear ht5 hc4 ht4))
          have hbf : Below w.heap.size w _ := HB.out.trans (HT.out.below fun i hi => ⟨by have := HB.out.size; omega, fun (e : i = bc) => by have := HBC.out; omega⟩)
          exact ⟨rfl, ⟨hbf.os, hbf.tape, hbf.output, hbf.size, hbf.block⟩, .inr ⟨by decide, rfl⟩⟩
        · go_wp2_with (first
            | (go_at_call 62; refine (u16_ok _ nb z _ HZ.out hnb (by omega) _ HC.out).mono ?_; rintro e w3 ⟨rfl, hc3, ht3⟩; have HCX := Lib.hid (hc3.below ((Below.refl w3.heap.size w3).alloc (Nat.le_refl _) (.cells #[.int .i64 (wrap64 ((num (fun i => z (4 + 26 * k + i)) 2 : Nat) : Int)), .int .i64 0, .int .i64 0, .int .i64 0] 40)) hc3.lt); have HT := Lib.hid (HT0.out.trans (ht3.alloc (.cells #[.int .i64 (wrap64 ((num (fun i => z (4 + 26 * k + i)) 2 : Nat) : Int)), .int .i64 0, .int .i64 0, .int .i64 0] 40))); clear hc3 ht3 HC; have HC := HCX; clear HCX)
            | (go_at_call 63; refine (u64_short _ nb z _ hnb (by omega) (by omega) _ HC.out).mono ?_; rintro e w4 ⟨rfl, j, rfl⟩)
            | (go_at_call 63; refine (u64_ok _ nb z _ HZ.out hnb (by omega) _ HC.out).mono ?_; rintro e w4 ⟨rfl, hc4, ht4⟩; have ht5 := HT.out.trans ht4; clear HT HC; have HT := Lib.hid ht5; have HC := Lib.hid hc4; clear ht5 hc4 ht4))
          have hbf : Below w.heap.size w _ := HB.out.trans (HT.out.below fun i hi => ⟨by have := HB.out.size; omega, fun (e : i = bc) => by have := HBC.out; omega⟩)
          exact ⟨rfl, ⟨hbf.os, hbf.tape, hbf.output, hbf.size, hbf.block⟩, .inr ⟨by decide, rfl⟩⟩
        · go_wp2_with (first
            | (go_at_call 62; refine (u16_ok _ nb z _ HZ.out hnb (by omega) _ HC.out).mono ?_; rintro e w3 ⟨rfl, hc3, ht3⟩; have HCX := Lib.hid (hc3.below ((Below.refl w3.heap.size w3).alloc (Nat.le_refl _) (.cells #[.int .i64 (wrap64 ((num (fun i => z (4 + 26 * k + i)) 2 : Nat) : Int)), .int .i64 0, .int .i64 0, .int .i64 0] 40)) hc3.lt); have HT := Lib.hid (HT0.out.trans (ht3.alloc (.cells #[.int .i64 (wrap64 ((num (fun i => z (4 + 26 * k + i)) 2 : Nat) : Int)), .int .i64 0, .int .i64 0, .int .i64 0] 40))); clear hc3 ht3 HC; have HC := HCX; clear HCX)
            | (go_at_call 63; refine (u64_short _ nb z _ hnb (by omega) (by omega) _ HC.out).mono ?_; rintro e w4 ⟨rfl, j, rfl⟩)
            | (go_at_call 63; refine (u64_ok _ nb z _ HZ.out hnb (by omega) _ HC.out).mono ?_; rintro e w4 ⟨rfl, hc4, ht4⟩; have ht5 := HT.out.trans ht4; clear HT HC; have HT := Lib.hid ht5; have HC := Lib.hid hc4; clear ht5 hc4 ht4))
          have hbf : Below w.heap.size w _ := HB.out.trans (HT.out.below fun i hi => ⟨by have := HB.out.size; omega, fun (e : i = bc) => by have := HBC.out; omega⟩)
          exact ⟨rfl, ⟨hbf.os, hbf.tape, hbf.output, hbf.size, hbf.block⟩, .inr ⟨by decide, rfl⟩⟩
    · obtain rfl : k = zN z := by omega
      obtain rfl : f = zN z := by omega
      by_cases hl : 4 + 26 * zN z < nb
      · obtain rfl : 2 = er := by
          have := HE.out
          unfold zerr at this
          rw [if_neg h4, if_neg (by omega), if_pos hl] at this
          exact this
        have EN := Lib.hid (cend_long bc nb z _ hnb hl wr HC.out)
        go_wp2_with (go_at_call 65; refine EN.out.mono ?_; rintro e w3 ⟨rfl, j, rfl⟩)
        exact ⟨rfl, ⟨HB.out.os, HB.out.tape, HB.out.output, HB.out.size, HB.out.block⟩, .inr ⟨by decide, rfl⟩⟩
      · obtain rfl : 0 = er := by
          have := HE.out
          unfold zerr at this
          rw [if_neg h4, if_neg (by omega), if_neg hl] at this
          exact this
        have hcx := HC.out
        obtain ⟨at_, hat⟩ : ∃ x, 4 + 26 * zN z = x := ⟨_, rfl⟩
        rw [hat] at hcx hcle hl
        obtain rfl : at_ = nb := by omega
        have EN := Lib.hid (cend_ok bc at_ z hnb wr hcx)
        clear hcx
        go_wp2_with (go_at_call 65; refine EN.out.mono ?_; rintro e w3 ⟨rfl, j, rfl⟩)
        go_ret
        exact ⟨⟨HB.out.os, HB.out.tape, HB.out.output, HB.out.size, HB.out.block⟩, _, rfl, owns_base (w := wr) HO.out (fun i e => by have := (HO.out.lt i e).1; have := HBC.out; omega)⟩
end Go.Proofs.Ytgclhblglohjpaa
