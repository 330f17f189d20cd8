/-
  CONTRACT OF what xor.Decode tries (xor.Decode$1), in any world: reals of one's own, or what is thrown. Conditions: at most 10000 bytes, which lie in memory as told; from 1 to 1024 reals.
-/
import Derived.Test.YtejiboinkapkcaaDoorXorH
import Derived.Test.YtejiboinkapkcaaDoorXorC
import Derived.LoopTactic
namespace Go.Proofs.YtejiboinkapkcaaDoor
open Go.RowKit
set_option linter.unusedVariables false
set_option linter.unusedSimpArgs false
/-- A source's place and window as they may be. -/
def DS.ok (B : Nat) (s : DS) : Prop := s.at_ ≤ B ∧ ((s.t = 64 ∧ s.e = 0) ∨ s.t + s.e ≤ 63)
theorem shl_lt (V t e : Nat) (h : V < 2 ^ (64 - t - e)) (hte : t + e ≤ 63) : V * 2 ^ e < 18446744073709551616 := by
  have h1 : V * 2 ^ e < 2 ^ (64 - t - e) * 2 ^ e := Nat.mul_lt_mul_of_pos_right h (Nat.pow_pos (by decide))
  rw [← Nat.pow_add] at h1
  have h2 : (2 : Nat) ^ (64 - t - e + e) ≤ 2 ^ 64 := Nat.pow_le_pow_right (by decide) (by omega)
  have h3 : (2 : Nat) ^ 64 = 18446744073709551616 := by decide
  omega
theorem dtail_ok {M B : Nat} {s : DS} (hs : s.ok B) (h : (dtail M B s).1 = 0) : (dtail M B s).2.2.ok B ∧ (dtail M B s).2.1 < 18446744073709551616 := by
  unfold dtail at h ⊢
  split at h
  · cases h
  · rename_i h1
    split at h
    · cases h
    · rename_i h2
      rw [if_neg h1, if_neg h2]
      have hte : s.t + s.e ≤ 63 := by rcases hs.2 with h | h; exact absurd h h1; exact h
      exact ⟨⟨by show s.at_ + (64 - s.t - s.e) ≤ B; omega, .inr hte⟩, shl_lt _ s.t s.e (Nat.mod_lt _ (Nat.pow_pos (by decide))) hte⟩
theorem dnext_ok {M B : Nat} {s : DS} (hs : s.ok B) (h : (dnext M B s).1 = 0) : (dnext M B s).2.2.ok B ∧ (dnext M B s).2.1 < 18446744073709551616 := by
  unfold dnext at h ⊢
  split at h
  · cases h
  rename_i h1
  rw [if_neg h1]
  split at h
  · rename_i h2
    rw [if_pos h2]
    exact ⟨⟨by show s.at_ + 1 ≤ B; omega, hs.2⟩, by show 0 < _; decide⟩
  rename_i h2
  rw [if_neg h2]
  split at h
  · cases h
  rename_i h3
  rw [if_neg h3]
  split at h
  · rename_i h4
    rw [if_pos h4]
    exact dtail_ok ⟨by show s.at_ + 1 + 1 ≤ B; omega, hs.2⟩ h
  rename_i h4
  rw [if_neg h4]
  split at h
  · cases h
  rename_i h5
  rw [if_neg h5]
  split at h
  · cases h
  rename_i h6
  rw [if_neg h6]
  exact dtail_ok ⟨by show s.at_ + 1 + 1 + 5 + 6 ≤ B; omega, .inr (by dsimp only; omega)⟩ h
/-- What comes of so many numbers: the error, the place, the last number, all. -/
structure DR where
  er : Int
  s : DS
  v : Nat
  xs : List Nat
def drun (M B : Nat) : Nat → DR
  | 0 => ⟨0, ⟨64, 64, 0⟩, M / 2 ^ 0 % 2 ^ 64, [M / 2 ^ 0 % 2 ^ 64]⟩
  | k + 1 => if (drun M B k).er = 0 then
      (if (dnext M B (drun M B k).s).1 = 0 then ⟨0, (dnext M B (drun M B k).s).2.2, (drun M B k).v ^^^ (dnext M B (drun M B k).s).2.1, (drun M B k).xs ++ [(drun M B k).v ^^^ (dnext M B (drun M B k).s).2.1]⟩
        else ⟨(dnext M B (drun M B k).s).1, (drun M B k).s, (drun M B k).v, (drun M B k).xs⟩)
      else drun M B k
theorem drun_stop {M B k : Nat} (h : (drun M B k).er ≠ 0) : ∀ j, drun M B (k + j) = drun M B k
  | 0 => rfl
  | j + 1 => by
    have ih := drun_stop h j
    show drun M B (k + j + 1) = _
    rw [drun, ih, if_neg h]
theorem drun_step {M B k : Nat} (h : (drun M B k).er = 0) (g : (dnext M B (drun M B k).s).1 = 0) : drun M B (k + 1) = ⟨0, (dnext M B (drun M B k).s).2.2, (drun M B k).v ^^^ (dnext M B (drun M B k).s).2.1, (drun M B k).xs ++ [(drun M B k).v ^^^ (dnext M B (drun M B k).s).2.1]⟩ := by rw [drun, if_pos h, if_pos g]
theorem drun_fail {M B k : Nat} (h : (drun M B k).er = 0) (g : ¬ (dnext M B (drun M B k).s).1 = 0) (j : Nat) : (drun M B (k + 1 + j)).er = (dnext M B (drun M B k).s).1 := by
  have e : drun M B (k + 1) = ⟨(dnext M B (drun M B k).s).1, (drun M B k).s, (drun M B k).v, (drun M B k).xs⟩ := by rw [drun, if_pos h, if_neg g]
  rw [drun_stop (k := k + 1) (by rw [e]; exact g) j, e]
theorem drun_ok {M B : Nat} (hB : 64 ≤ B) : ∀ k, (drun M B k).er = 0 → (drun M B k).s.ok B ∧ (drun M B k).v < 18446744073709551616 ∧ (drun M B k).xs.length = k + 1 ∧ ∀ x ∈ (drun M B k).xs, x < 18446744073709551616
  | 0, _ => ⟨⟨hB, .inl ⟨rfl, rfl⟩⟩, Nat.mod_lt _ (by decide), rfl, fun x hx => by simp only [drun, List.mem_singleton] at hx; subst hx; exact Nat.mod_lt _ (by decide)⟩
  | k + 1, h => by
    by_cases h0 : (drun M B k).er = 0
    · obtain ⟨h1, h2, h3, h4⟩ := drun_ok hB k h0
      by_cases g : (dnext M B (drun M B k).s).1 = 0
      · rw [drun_step h0 g]
        obtain ⟨g1, g2⟩ := dnext_ok h1 g
        refine ⟨g1, xor_lt h2 g2, by simp [h3], fun x hx => ?_⟩
        rcases List.mem_append.mp hx with hx | hx
        · exact h4 x hx
        · rw [List.mem_singleton] at hx; subst hx; exact xor_lt h2 g2
      · rw [drun, if_pos h0, if_neg g] at h
        exact absurd h g
    · rw [drun, if_neg h0] at h
      exact absurd h h0
/-- What is wrong with bytes as the form of so many reals. -/
def derr (M B n : Nat) : Int :=
  if B < 64 then 1 else if (drun M B (n - 1)).er ≠ 0 then (drun M B (n - 1)).er
  else if 8 ≤ B - (drun M B (n - 1)).s.at_ then 2
  else if M / 2 ^ (drun M B (n - 1)).s.at_ % 2 ^ (B - (drun M B (n - 1)).s.at_) = 0 then 0 else 3
theorem fromBits_any (V : Nat) (hV : V < 18446744073709551616) (w : World) : Calls Tryd.prog 32 #[.int .i64 (wrap64 V)] w fun e w' => e = .returned (.float .f64 V) ∧ w = w' := by
  have hf := call_frombits
  have h1 : IntKind.u64.wrap (wrap64 (V : Int)) = V := by rw [u64w]; unfold wrap64; omega
  go_enter Tryd.func32, Tryd.ntmps32
  go_wp2
  go_ret
  exact ⟨rfl, rfl⟩
theorem SrcAt.drewN {w : World} {bs br n : Nat} {z : Nat → Int} {s : DS} (h : SrcAt w bs br n z s) (k : Nat) : SrcAt (w.drewN k) bs br n z s := ⟨h.1.drewN k, h.2.1.drewN k, h.2.2⟩
/-- How what is tried ends. -/
def D1End (M B n : Nat) (w : World) (e : Ending) (w' : World) : Prop :=
  Below w.heap.size w w' ∧ ((derr M B n = 0 ∧ ∃ v, e = .returned v ∧ w'.ownsRow w.heap.size 45 1 v n (rowV (fun i => .float .f64 ((drun M B (n - 1)).xs.getD i 0)) n)) ∨ ((derr M B n != 0) = true ∧ e = thrown1 (derr M B n)))
set_option maxRecDepth 100000 in
set_option maxHeartbeats 4000000 in
theorem decode1_any (pb pn nb cap n : Nat) (a : Option Addr) (z : Nat → Int) (hz : ∀ i, i < nb → 0 ≤ z i ∧ z i ≤ 255) (hnb : nb ≤ 10000) (hn1 : 1 ≤ n) (hn : n ≤ 1024) (w : World) (hpb : w.cell? ⟨pb, 0, none⟩ = some (.slice a nb cap)) (hpn : w.cell? ⟨pn, 0, none⟩ = some (.int .i64 n)) (h : RowOf w a nb (fun i => .int .u8 (z i))) :
    Calls Tryd.prog 29 #[.pointer (some ⟨pb, 0, none⟩), .pointer (some ⟨pn, 0, none⟩)] w (D1End (num z nb) (8 * nb) n w) := by
  obtain ⟨i0, hi, hz0, hz1, hz2⟩ := info_parts f64Info
  have hpnl := World.block_lt_of_cell? w _ hpn
  have NR := Lib.hid (newReader_any a nb cap z (by omega) w h)
  have NO := Lib.hid (fun W => none_any W)
  have CT := Lib.hid (fun n W => check_ok n W)
  have HZ := Lib.hid hz
  have HPN := Lib.hid hpn
  clear h hpn
  by_cases hB : 8 * nb < 64
  · have HE := Lib.hid (show derr (num z nb) (8 * nb) n = 1 from by unfold derr; rw [if_pos hB])
    go_enter Tryd.func29, Tryd.ntmps29
    go_wp2_with (first
      | (go_at_call 30; refine NR.out.mono ?_; rintro e w1 ⟨br, rfl, hr1, hbr, hb1⟩; have HR1 := Lib.hid hr1; have HB1 := Lib.hid hb1; have HBR := Lib.hid hbr; clear hr1 hb1 hbr)
      | (go_at_call 23; refine (NO.out _).mono ?_; rintro e w2 ⟨rfl, hb2⟩; have hr2 := HR1.out.below hb2 HR1.out.lt; have hbr2 : br < w2.heap.size := hr2.lt; have HS := Lib.hid (show SrcAt (w2.alloc (.cells #[.pointer (some ⟨br, 0, none⟩), .int .i64 64, .int .i64 0] 64)) w2.heap.size br nb z ⟨0, 64, 0⟩ from ⟨Lies.new w2 64 _, hr2.below ((Below.refl _ _).alloc (Nat.le_refl _) _) hbr2, hbr2⟩); have HB3 := Lib.hid ((HB1.out.trans (hb2.mono HB1.out.size)).alloc (HB1.out.trans (hb2.mono HB1.out.size)).size (.cells #[.pointer (some ⟨br, 0, none⟩), .int .i64 64, .int .i64 0] 64)); have HBS := Lib.hid (show w.heap.size ≤ br ∧ w.heap.size ≤ w2.heap.size from ⟨HBR.out, (HB1.out.trans (hb2.mono HB1.out.size)).size⟩); clear hr2 hb2 hbr2 HR1 HB1)
      | (go_at_call 31; refine (number_short _ br nb z 0 64 hnb (by decide) (by omega) (by omega) _ (src_cells HS.out).1 HS.out.2.1 64 rfl).mono ?_; rintro e w4 ⟨rfl, q, rfl⟩))
    exact ⟨rfl, ⟨HB3.out.os, HB3.out.tape, HB3.out.output, HB3.out.size, HB3.out.block⟩, .inr ⟨by rw [HE.out]; decide, by rw [HE.out]⟩⟩
  · have hV : num z nb / 2 ^ 0 % 2 ^ 64 < 18446744073709551616 := Nat.mod_lt _ (by decide)
    have D0 := Lib.hid (show drun (num z nb) (8 * nb) 0 = ⟨0, ⟨64, 64, 0⟩, num z nb / 2 ^ 0 % 2 ^ 64, [num z nb / 2 ^ 0 % 2 ^ 64]⟩ from rfl)
    have FB := Lib.hid (fun W => fromBits_any _ hV W)
    have N64 := Lib.hid (fun bs br W hc hr => number_ok bs br nb z 0 64 hz hnb (by decide) (by omega) W hc hr 64 rfl)
    generalize num z nb / 2 ^ 0 % 2 ^ 64 = V at *
    obtain ⟨er, her⟩ : ∃ er, derr (num z nb) (8 * nb) n = er := ⟨_, rfl⟩
    have HER := Lib.hid her
    unfold D1End
    rw [her]
    clear her
    go_enter Tryd.func29, Tryd.ntmps29
    go_wp2_with (first
      | (go_at_call 30; refine NR.out.mono ?_; rintro e w1 ⟨br, rfl, hr1, hbr, hb1⟩; have HR1 := Lib.hid hr1; have HB1 := Lib.hid hb1; have HBR := Lib.hid hbr; clear hr1 hb1 hbr)
      | (go_at_call 23; refine (NO.out _).mono ?_; rintro e w2 ⟨rfl, hb2⟩; have hr2 := HR1.out.below hb2 HR1.out.lt; have hbr2 : br < w2.heap.size := hr2.lt; have HS := Lib.hid (show SrcAt (w2.alloc (.cells #[.pointer (some ⟨br, 0, none⟩), .int .i64 64, .int .i64 0] 64)) w2.heap.size br nb z ⟨0, 64, 0⟩ from ⟨Lies.new w2 64 _, hr2.below ((Below.refl _ _).alloc (Nat.le_refl _) _) hbr2, hbr2⟩); have HB3 := Lib.hid ((HB1.out.trans (hb2.mono HB1.out.size)).alloc (HB1.out.trans (hb2.mono HB1.out.size)).size (.cells #[.pointer (some ⟨br, 0, none⟩), .int .i64 64, .int .i64 0] 64)); have HBS := Lib.hid (show w.heap.size ≤ br ∧ w.heap.size ≤ w2.heap.size from ⟨HBR.out, (HB1.out.trans (hb2.mono HB1.out.size)).size⟩); clear hr2 hb2 hbr2 HR1 HB1)
      | (go_at_call 31; refine (N64.out _ br _ (src_cells HS.out).1 HS.out.2.1).mono ?_; rintro e w4 ⟨rfl, hr4, ht4⟩; have hs4 := HS.out.read (k := 64) hr4 ht4; have hb4 := HB3.out.trans (ht4.below fun i hi => ⟨by have := HB3.out.size; omega, fun (e : i = br) => by have := HBS.out.1; omega⟩); have cpn := (hb4.cell (p := ⟨pn, 0, none⟩) hpnl).trans HPN.out; clear HS; have HS := Lib.hid hs4; have HB4 := Lib.hid hb4; clear hs4 hb4 hr4 ht4)
      | (go_at_call 32; refine (FB.out _).mono ?_; rintro e w5 ⟨rfl, rfl⟩; have cpn2 := ((Below.refl w4.heap.size w4).alloc (Nat.le_refl _) (.cells #[.float .f64 V] 45)).cell (p := ⟨pn, 0, none⟩) (Nat.lt_of_lt_of_le hpnl HB4.out.size) |>.trans cpn))
    have hs4 := HB4.out.size
    have hbs4 := HS.out.lt.1
    have HO := Lib.hid (show (w4.alloc (.cells #[.float .f64 V] 45)).ownsRow (w2.heap.size + 1) 45 1 (.slice (some ⟨w4.heap.size, 0, none⟩) 1 1) 1 [.float .f64 V] from World.ownsRow_lit w4 #[.float .f64 V] 1 (by omega) (by decide) rfl)
    have HSA := Lib.hid (HS.out.below ((Below.refl _ _).alloc (Nat.le_refl _) (.cells #[.float .f64 V] 45)))
    have HBA := Lib.hid (HB4.out.alloc hs4 (.cells #[.float .f64 V] 45))
    have HBB := Lib.hid (And.intro HBS.out HS.out.2.2)
    clear HS HB4 HB3 HBS cpn cpn2 HBR hs4 hbs4
    generalize w4.alloc (.cells #[.float .f64 V] 45) = w5 at *
    generalize w2.heap.size = bs at *
    generalize w4.heap.size = g0 at *
    go_loopw [4, 5, 19] (fun v l i wr => ∃ k : Nat, k ≤ n - 1 ∧ i = .int .i64 k ∧ (drun (num z nb) (8 * nb) k).er = 0 ∧ v = .int .u64 ((drun (num z nb) (8 * nb) k).v : Nat) ∧ SrcAt wr bs br nb z (drun (num z nb) (8 * nb) k).s ∧ wr.ownsRow (bs + 1) 45 1 l (k + 1) (rowV (fun j => .float .f64 ((drun (num z nb) (8 * nb) k).xs.getD j 0)) (k + 1)) ∧ Below w.heap.size w wr) (fun _ _ i _ => n - (intOf i).toNat)
    case atStart => exact ⟨0, by omega, rfl, rfl, by rw [D0.out], by rw [D0.out]; exact HSA.out, by rw [D0.out]; exact HO.out, HBA.out⟩
    case round =>
      obtain ⟨k, hk, rfl, hr0, rfl, hs, ho, hb⟩ := hrel
      have hok := drun_ok (M := num z nb) (by omega) k hr0
      have HS := Lib.hid hs
      have HO := Lib.hid ho
      have HB := Lib.hid hb
      clear hs ho hb HSA HBA D0
      by_cases hkn : k < n - 1
      · have k1 : (k : Int) < (n : Int) - 1 := by omega
        have k0 : (0 : Int) ≤ k := by omega
        have NX := next_any bs br nb z (drun (num z nb) (8 * nb) k).s HZ.out hnb hok.1.1 hok.1.2 wr HS.out
        unfold NextEnd at NX
        have hdk := fun h => dnext_ok (M := num z nb) hok.1 h
        by_cases hd : (dnext (num z nb) (8 * nb) (drun (num z nb) (8 * nb) k).s).1 = 0
        · have hst := drun_step hr0 hd
          have hxx := (hdk hd).2
          have hvl := hok.2.1
          have hlen := hok.2.2.1
          have NX := Lib.hid (NX.mono (R' := fun e w' => e = .returned (.int .u64 ((dnext (num z nb) (8 * nb) (drun (num z nb) (8 * nb) k).s).2.1 : Nat)) ∧ SrcAt w' bs br nb z (dnext (num z nb) (8 * nb) (drun (num z nb) (8 * nb) k).s).2.2 ∧ Turned (fun i => i = bs ∨ i = br) wr w') fun e w' ⟨ht, hq⟩ => by
            rcases hq with ⟨_, h2, h3⟩ | ⟨h2, _⟩
            · exact ⟨h2, h3, ht⟩
            · rw [hd] at h2; cases h2)
          have HST := Lib.hid hst
          have HLEN := Lib.hid hlen
          clear hst hdk hd hok hlen hr0
          generalize (drun (num z nb) (8 * nb) k).xs = xs at *
          generalize (dnext (num z nb) (8 * nb) (drun (num z nb) (8 * nb) k).s).2.2 = s' at *
          generalize (dnext (num z nb) (8 * nb) (drun (num z nb) (8 * nb) k).s).2.1 = x at *
          generalize (drun (num z nb) (8 * nb) k).v = v at *
          have hxy := bits_xor_u64_nat v x hvl hxx
          have hvx := xor_lt hvl hxx
          have FX := Lib.hid (fun W => fromBits_any _ hvx W)
          generalize v ^^^ x = y at *
          go_wp2_with (first
            | (go_at_call 33; refine NX.out.mono ?_; rintro e w6 ⟨rfl, hs6, ht6⟩; have ho6 := owns_turned HO.out ht6 (fun i e h => by have := (HO.out.lt i e).1; have := HBB.out.2; omega); have hb6 := HB.out.trans (ht6.below fun i hi => ⟨by have := HB.out.size; omega, fun e => by have := HBB.out.1; omega⟩); clear HO HB HS; have HO := Lib.hid ho6; have HB := Lib.hid hb6; have HS := Lib.hid hs6; clear ho6 hb6 hs6 ht6)
            | (go_at_call 32; refine (FX.out _).mono ?_; rintro e w7 ⟨rfl, rfl⟩)
            | (at_builtin; go_must (refine wpList_append_own_at _ rfl _ _ 23 rfl (bs + 1) 45 i0 (.float .f64 0) 1 8 Tryd.underlying23 hi hz0 hz1 hz2 rfl (by decide) _ _ _ rfl (HO.out.alloc _) ⟨w6.heap.size, 0, none⟩ 1 1 [.float .f64 y] rfl rfl (cell_one_new _ _ _) (by simp [Value.oneCell']) (by unfold maxLen; omega) (by omega) (by have := HS.out.lt.1; simp; omega) ?_); intro v2 w8 hown2 hgrow2 _ _; have HO2 := Lib.hid hown2; have HG2 := Lib.hid hgrow2; clear hown2 hgrow2))
          go_roundw
          case rel =>
            have hb8 : Below (bs + 1) w6 w8 := ((Below.refl (bs + 1) w6).alloc HS.out.lt.1 _).grown HG2.out (by have := HS.out.lt.1; simp; omega) (fun j hj => (HO.out.lt j hj).1)
            refine ⟨k + 1, by omega, by go_num, by rw [HST.out], by rw [HST.out], ?_, ?_, HB.out.trans (hb8.mono (by have := HBB.out.1; omega))⟩
            · rw [HST.out]; exact ⟨HS.out.1.below hb8 (by omega), HS.out.2.1.below hb8 (by have := HBB.out.2; omega), HS.out.2.2⟩
            · rw [HST.out]
              show w8.ownsRow _ _ _ _ (k + 1 + 1) (rowV (fun j => .float .f64 ((xs ++ [y]).getD j 0)) (k + 1 + 1))
              rw [rowV_succ, rowV_congr (g := fun j => .float .f64 (xs.getD j 0)) (fun j hj => by rw [List.getD_eq_getElem?_getD, List.getD_eq_getElem?_getD, List.getElem?_append_left (by rw [HLEN.out]; exact hj)]), show (xs ++ [y]).getD (k + 1) 0 = y by rw [List.getD_eq_getElem?_getD, List.getElem?_append_right (by rw [HLEN.out]; exact Nat.le_refl _), HLEN.out, Nat.sub_self]; rfl]
              exact HO2.out
          case measure => simp [intOf]; omega
        · have hm : derr (num z nb) (8 * nb) n = (dnext (num z nb) (8 * nb) (drun (num z nb) (8 * nb) k).s).1 := by
            have h1 := drun_fail hr0 hd (n - 1 - (k + 1))
            rw [show k + 1 + (n - 1 - (k + 1)) = n - 1 by omega] at h1
            unfold derr
            rw [if_neg hB, if_pos (by rw [h1]; exact hd), h1]
          rw [HER.out] at hm
          have NX := NX.mono (R' := fun e w' => e = thrown1 (dnext (num z nb) (8 * nb) (drun (num z nb) (8 * nb) k).s).1 ∧ Turned (fun i => i = bs ∨ i = br) wr w') fun e w' ⟨ht, hq⟩ => by
            rcases hq with ⟨h2, _⟩ | ⟨_, h2⟩
            · exact absurd h2 hd
            · exact ⟨h2, ht⟩
          rw [← hm] at NX hd
          have NX := Lib.hid NX
          have hd0 : (er != 0) = true := by simpa using hd
          clear hm hdk hok hr0 hd
          go_wp2_with (go_at_call 33; refine NX.out.mono ?_; rintro e w6 ⟨rfl, ht6⟩; have HB6 := Lib.hid (HB.out.trans (ht6.below fun i hi => ⟨by have := HB.out.size; omega, fun e => by have := HBB.out.1; omega⟩)); clear ht6)
          exact ⟨rfl, HB6.out, .inr ⟨hd0, rfl⟩⟩
      · obtain rfl : k = n - 1 := by omega
        have k1 : ¬ (((n - 1 : Nat) : Int) < (n : Int) - 1) := by omega
        have her : derr (num z nb) (8 * nb) n = er := HER.out
        unfold derr at her
        rw [if_neg hB, if_neg (by rw [hr0]; simp)] at her
        have hat := hok.1.1
        obtain ⟨A, hA⟩ : ∃ A, (drun (num z nb) (8 * nb) (n - 1)).s.at_ = A := ⟨_, rfl⟩
        obtain ⟨L, hL⟩ : ∃ L, 8 * nb - A = L := ⟨_, rfl⟩
        have LE := Lib.hid (fun W hr => left_any br nb z (drun (num z nb) (8 * nb) (n - 1)).s.at_ (by omega) hat W hr)
        have NB := Lib.hid (fun (h8 : ¬ 8 ≤ L) W hc hr => number_ok bs br nb z (drun (num z nb) (8 * nb) (n - 1)).s.at_ L HZ.out hnb (by omega) (by omega) W hc hr (L : Nat) rfl)
        rw [hA, hL] at LE her
        rw [hA] at NB
        have HNN := Lib.hid (show n - 1 + 1 = n by omega)
        have hnx := HO.out
        rw [HNN.out] at hnx
        obtain ⟨a9, c9, rfl, hr9, _⟩ := own_reads' hnx
        clear HO
        have HO := Lib.hid hnx
        clear hnx hr9 hok hr0
        have c0 := (src_cells HS.out).1
        by_cases h8 : 8 ≤ L
        · rw [if_pos h8] at her
          subst her
          have h8i : ¬ (L : Int) < 8 := by omega
          have h8d : decide ((L : Int) < 8) = false := decide_eq_false h8i
          have CF := Lib.hid (fun W => check_some 2 (by decide) W)
          go_wp2_with (first
            | (go_at_call 35; refine (LE.out _ (by rw [← hA]; exact HS.out.2.1)).mono ?_; rintro e w6 ⟨rfl, j, rfl⟩)
            | (go_at_call 34; refine (CF.out _).mono ?_; rintro e w7 ⟨rfl, rfl⟩))
          exact ⟨rfl, below_drawn HB.out j, .inr ⟨by decide, rfl⟩⟩
        · rw [if_neg h8] at her
          have h8i : (L : Int) < 8 := by omega
          have h8d : decide ((L : Int) < 8) = true := decide_eq_true h8i
          have NB := NB.out h8
          obtain ⟨R, hR⟩ : ∃ R, num z nb / 2 ^ A % 2 ^ L = R := ⟨_, rfl⟩
          rw [hR] at NB her
          have NB := Lib.hid NB
          have CF := Lib.hid (fun W => check_some 3 (by decide) W)
          have HHA := Lib.hid hA
          clear hR
          have G1 := Lib.hid True.intro
          have G2 := Lib.hid True.intro
          have G3 := Lib.hid True.intro
          by_cases hR0 : R = 0
          · subst hR0
            rw [if_pos rfl] at her
            subst her
            go_wp2_with (first
              | (go_at_call 35; clear G1; refine (LE.out _ (by rw [← HHA.out]; exact HS.out.2.1)).mono ?_; rintro e w6 ⟨rfl, j1, rfl⟩; have c0 := (src_cells (HS.out.drewN j1)).1)
              | (go_at_call 35; clear G2; refine (LE.out _ (by rw [← HHA.out]; exact (HS.out.drewN j1).2.1)).mono ?_; rintro e w6 ⟨rfl, j2, rfl⟩; have c0 := (src_cells (HS.out.drewN (j1 + j2))).1)
              | (go_at_call 31; refine (NB.out (wr.drewN (j1 + j2)) (src_cells (HS.out.drewN (j1 + j2))).1 (by rw [← HHA.out]; exact (HS.out.drewN (j1 + j2)).2.1)).mono ?_; rintro e w8 ⟨rfl, _, ht8⟩; have hod := owns_turned HO.out ((Turned.refl (fun _ => False) _).drewN (j1 + j2)) (fun _ _ h => h); have HO8 := Lib.hid (owns_turned hod ht8 (fun i e h => by have := (hod.lt i e).1; have := HBB.out.2; omega)); have hbd := below_drawn HB.out (j1 + j2); have HB8 := Lib.hid (hbd.trans (ht8.below fun i hi => ⟨by have := hbd.size; omega, fun (e : i = br) => by have := HBB.out.1; omega⟩)); clear ht8 hod hbd)
              | (go_at_call 34; refine (CT.out _ _).mono ?_; rintro e w7 ⟨rfl, rfl⟩))
            go_ret
            exact ⟨HB8.out, _, rfl, owns_base HO8.out (fun i e => by have := (HO8.out.lt i e).1; have := HBB.out.1; omega)⟩
          · rw [if_neg hR0] at her
            subst her
            have hRi : ((R : Int) == 0) = false := by rw [beq_eq_false_iff_ne]; omega
            go_wp2_with (first
              | (go_at_call 35; clear G1; refine (LE.out _ (by rw [← HHA.out]; exact HS.out.2.1)).mono ?_; rintro e w6 ⟨rfl, j1, rfl⟩; have c0 := (src_cells (HS.out.drewN j1)).1)
              | (go_at_call 35; clear G2; refine (LE.out _ (by rw [← HHA.out]; exact (HS.out.drewN j1).2.1)).mono ?_; rintro e w6 ⟨rfl, j2, rfl⟩; have c0 := (src_cells (HS.out.drewN (j1 + j2))).1)
              | (go_at_call 31; refine (NB.out (wr.drewN (j1 + j2)) (src_cells (HS.out.drewN (j1 + j2))).1 (by rw [← HHA.out]; exact (HS.out.drewN (j1 + j2)).2.1)).mono ?_; rintro e w8 ⟨rfl, _, ht8⟩; have hod := owns_turned HO.out ((Turned.refl (fun _ => False) _).drewN (j1 + j2)) (fun _ _ h => h); have HO8 := Lib.hid (owns_turned hod ht8 (fun i e h => by have := (hod.lt i e).1; have := HBB.out.2; omega)); have hbd := below_drawn HB.out (j1 + j2); have HB8 := Lib.hid (hbd.trans (ht8.below fun i hi => ⟨by have := hbd.size; omega, fun (e : i = br) => by have := HBB.out.1; omega⟩)); clear ht8 hod hbd)
              | (go_at_call 34; clear G3; refine (CT.out _ _).mono ?_; rintro e w7 ⟨rfl, rfl⟩)
              | (go_at_call 34; refine (CF.out _).mono ?_; rintro e w7 ⟨rfl, rfl⟩))
            exact ⟨rfl, HB8.out, .inr ⟨by decide, rfl⟩⟩
end Go.Proofs.YtejiboinkapkcaaDoor
