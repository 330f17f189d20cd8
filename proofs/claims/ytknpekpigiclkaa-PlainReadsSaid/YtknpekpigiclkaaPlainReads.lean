/-
  THE STATEMENT corduroylaw07.PlainReads: for any bytes, any count and any three numbers the call returns true and leaves its arguments as they were. No condition.
-/
import Derived.Test.YtknpekpigiclkaaPlainC
import Derived.Test.YtknpekpigiclkaaPlainR
import Derived.Test.YtknpekpigiclkaaSameI
import Derived.Test.YtknpekpigiclkaaIsRow
import Derived.Test.YtknpekpigiclkaaArr
import Derived.Deep.LoopGhost
import Derived.Deep.CutRange
import Derived.Deep.CutBlock
import Derived.RegionTactic
namespace Go.Proofs.Ytknpekpigiclkaa.plainReads
open Go.ChangeShapes Go.WideShapes Go.ChangeAt Go.RowKit
set_option linter.unusedVariables false
set_option maxRecDepth 100000 in
set_option maxHeartbeats 4000000 in
theorem main (a : Option Addr) (nb cap : Nat) (n x0 y0 u0 : Int) (z : Nat → Int) (hcap : nb ≤ cap) (hcm : cap ≤ maxLen) (hz : ∀ i, i < nb → i < 500 → 0 ≤ z i ∧ z i ≤ 255) (W : World) (h : RowOf W a nb (fun i => .int .u8 (z i))) :
    Calls Try.prog 7 #[.slice a nb cap, .int .i64 n, .agg #[.int .i64 x0, .int .i64 y0, .int .i64 u0]] W fun e w' => e = .returned (.bool true) ∧ Below W.heap.size W w' := by
  have hmf : ∀ (fn : Fn) (first cap : Array Value) (w : World), (Instr.makeFunc fn first cap).run Try.prog w = .ok (.func fn first cap) w := fun _ _ _ _ => rfl
  obtain ⟨s, hs⟩ : ∃ s, W.heap.size = s := ⟨_, rfl⟩
  rw [hs]
  have HS := Lib.hid hs
  have H := Lib.hid h
  have HZ := Lib.hid hz
  have HCAP := Lib.hid (And.intro hcap hcm)
  obtain ⟨W0, hW0⟩ : ∃ W0, W.alloc (.cells #[.int .i64 x0, .int .i64 y0, .int .i64 u0] 64) = W0 := ⟨_, rfl⟩
  have hl0 : Lies W0 s 64 #[.int .i64 x0, .int .i64 y0, .int .i64 u0] := by rw [← hW0, ← hs]; exact Lies.new _ _ _
  have hb0 : Below s W W0 := by rw [← hW0, ← hs]; exact (Below.refl _ W).alloc (Nat.le_refl _) _
  have q0 := hl0.drew.cell 0
  have q1 := hl0.drew.cell 1
  have q2 := hl0.drew.cell 2
  have r0 := hl0.cell 0
  have r1 := hl0.cell 1
  have r2 := hl0.cell 2
  have HB0 := Lib.hid hb0
  have HL0 := Lib.hid hl0
  have hlt0 : s < W0.heap.size := hl0.lt
  have hsz0 : W0.heap.size = s + 1 := by rw [← hW0, ← hs]; simp
  clear h hz hcap hcm hl0 hb0
  go_enter Try.func7, Try.ntmps7
  go_upto_region 1 with fail
  (try rw [hW0])
  go_cut [7, 8, 9] from 15 to 97 (fun s7 s8 s9 wx => ∃ g7 g8 g9 : Nat, s7 = .pointer (some ⟨g7, 0, none⟩) ∧ s8 = .pointer (some ⟨g8, 0, none⟩) ∧ s9 = .pointer (some ⟨g9, 0, none⟩) ∧ wx.cell? ⟨g7, 0, none⟩ = some (.int .i64 x0) ∧ wx.cell? ⟨g8, 0, none⟩ = some (.int .i64 y0) ∧ wx.cell? ⟨g9, 0, none⟩ = some (.int .i64 u0) ∧ Below s W wx)
  case first =>
    go_region
    all_goals
      go_wp2_with fail
      go_meet
      refine ⟨_, _, _, rfl, rfl, rfl, ?_, ?_, ?_, (((HB0.out.alloc (by omega) _).alloc (by simp; omega) _).alloc (by simp; omega) _).drew⟩
      all_goals (simp [go_sem, hsz0]; done)
  case rest =>
    obtain ⟨g7, g8, g9, rfl, rfl, rfl, c7, c8, c9, hbc⟩ := hcut
    have BC := Lib.hid hbc
    have l7 : g7 < wc.heap.size := World.block_lt_of_cell? wc _ c7
    have l8 : g8 < wc.heap.size := World.block_lt_of_cell? wc _ c8
    have l9 : g9 < wc.heap.size := World.block_lt_of_cell? wc _ c9
    clear hbc q0 q1 q2 r0 r1 r2 HL0 HB0 hW0 hlt0 hsz0
    by_cases h500 : 500 < nb
    · have e1 : (500 : Int) < nb := by omega
      clear h500
      go_wp2
      go_ret
      exact ⟨rfl, BC.out⟩
    have e1 : ¬ (500 : Int) < nb := by omega
    by_cases h100 : 100 < x0
    · clear h500
      go_wp2
      go_ret
      exact ⟨rfl, BC.out⟩
    obtain ⟨M, hM⟩ : ∃ M, x0.toNat = M := ⟨_, rfl⟩
    have hM100 : M ≤ 100 := by omega
    have hz : ∀ i, i < nb → 0 ≤ z i ∧ z i ≤ 255 := fun i hi => HZ.out i hi (by omega)
    obtain ⟨E, hE⟩ : ∃ E, er4 nb y0 u0 M = E := ⟨_, rfl⟩
    have hrw : RowOf wc a nb (fun i => .int .u8 (z i)) := H.out.below (by rw [hs]; exact BC.out)
    have hv4 := v4s_length z M
    obtain ⟨ys, r, hyr, RD⟩ : ∃ (ys : List Int) (r : Int), ((blk n = true ∧ r = rerr E (4 * M) nb ∧ ys = rnums E (4 * M) nb (v4s z M)) ∨ (blk n = false ∧ r = 7 ∧ ys = [])) ∧
        Calls Try.prog 36 #[.slice a nb cap, .int .i64 n, .func (.func 37) #[] #[.pointer (some ⟨g7, 0, none⟩), .pointer (some ⟨g8, 0, none⟩), .pointer (some ⟨g9, 0, none⟩)]] wc fun e w' =>
          ∃ a c, e = .returned (.tuple #[.slice a ys.length c, .int .i64 r]) ∧ RowOf w' a ys.length (fun i => .int .i64 (ys.getD i 0)) ∧ Below wc.heap.size wc w' := by
      cases hb : blk n
      · exact ⟨[], 7, .inr ⟨rfl, rfl, rfl⟩, (read_out _ _ n nb cap a hb wc).mono fun e w' ⟨he, hw⟩ => ⟨none, 0, he, .inl rfl, hw⟩⟩
      · refine ⟨_, _, .inl ⟨rfl, rfl, rfl⟩, read_any 37 #[.pointer (some ⟨g7, 0, none⟩), .pointer (some ⟨g8, 0, none⟩), .pointer (some ⟨g9, 0, none⟩)] n nb cap a z E (v4s z M) (4 * M) hb (by omega) (by omega) wc hrw (fun _ _ => by simp [go_sem]) (fun W1 bc hb1 hbc hc => ?_)⟩
        rw [← hE]
        exact reads1_any g7 g8 g9 bc nb M x0 y0 u0 z hz (by omega) hM (by omega) W1 ((hb1.cell (p := ⟨g7, 0, none⟩) l7).trans c7) ((hb1.cell (p := ⟨g8, 0, none⟩) l8).trans c8) ((hb1.cell (p := ⟨g9, 0, none⟩) l9).trans c9) (by show g7 < bc; omega) (by show g8 < bc; omega) (by show g9 < bc; omega) hc
    have RD := Lib.hid RD
    have HYR := Lib.hid hyr
    have HM := Lib.hid hM
    have HE := Lib.hid hE
    have HZ' := Lib.hid hz
    have HV4 := Lib.hid hv4
    clear hrw hyr hM hE hz h500 hv4
    go_upto_block 0 with (go_at_call 36; refine RD.out.mono ?_; rintro e w4 ⟨a4, c4, rfl, hr4, hb4⟩; have HR4 := Lib.hid hr4; have B4 := Lib.hid (BC.out.trans (hb4.mono (by have := BC.out.size; omega))); have QQ := Lib.hid (And.intro ((hb4.cell (p := ⟨g7, 0, none⟩) l7).trans c7) (And.intro ((hb4.cell (p := ⟨g8, 0, none⟩) l8).trans c8) ((hb4.cell (p := ⟨g9, 0, none⟩) l9).trans c9))); have LQ := Lib.hid (And.intro (Nat.lt_of_lt_of_le l7 hb4.size) (And.intro (Nat.lt_of_lt_of_le l8 hb4.size) (Nat.lt_of_lt_of_le l9 hb4.size))); clear hr4 hb4)
    clear c7 c8 c9
    go_cut [12, 13] from 14 to 97 (fun s12 s13 wx => s12 = .int .i64 E ∧ (∃ (a5 : Option Addr) (k5 c5 : Nat), s13 = .slice a5 k5 c5 ∧ (E = 0 → k5 = M ∧ RowOf wx a5 M (fun i => .int .i64 (v4 z i)))) ∧ Below w4.heap.size w4 wx)
    case first =>
      obtain ⟨i0, hi, hz0, hz1, hz2⟩ := info_parts longInfo
      have hsz4 := B4.out.size
      go_wp2_with fail
      go_loopg [12, 13, 14] M (fun g s12 s13 x wr => ∃ k : Nat, k ≤ M ∧ g = M - k ∧ x = .int .i64 k ∧ s12 = .int .i64 (er4 nb y0 u0 k) ∧ (∃ len : Nat, wr.ownsRow w4.heap.size 2 1 s13 len (rowV (fun i => .int .i64 (v4 z i)) len) ∧ (er4 nb y0 u0 k = 0 → len = k)) ∧ Below w4.heap.size w4 wr)
      case atStart => exact ⟨0, by omega, by omega, rfl, rfl, ⟨0, World.ownsRow_nil _ _ _ _, fun _ => rfl⟩, Below.refl _ _⟩
      case round =>
        obtain ⟨k, hk, hgk, rfl, rfl, ⟨len, ho, hlen⟩, hb⟩ := hrel
        have hsz := hb.size
        have d7 := (hb.cell (p := ⟨g7, 0, none⟩) LQ.out.1).trans QQ.out.1
        have d8 := (hb.cell (p := ⟨g8, 0, none⟩) LQ.out.2.1).trans QQ.out.2.1
        have d9 := (hb.cell (p := ⟨g9, 0, none⟩) LQ.out.2.2).trans QQ.out.2.2
        have HGK := Lib.hid hgk
        have HB := Lib.hid hb
        have i2 : (0 : Int) ≤ k := by omega
        obtain ⟨m, hm⟩ : ∃ m, er4 nb y0 u0 k = m := ⟨_, rfl⟩
        rw [hm] at hlen ⊢
        by_cases hlt : k < M
        · have i1 : (k : Int) < x0 := by have := HM.out; omega
          by_cases h0 : m = 0
          · subst h0
            obtain rfl : len = k := hlen rfl
            have HO := Lib.hid ho
            have HE0 := Lib.hid (show er4 nb y0 u0 (len + 1) = (if (len : Int) = y0 ∧ u0 ≠ 0 then u0 else if nb < 4 * len + 4 then 1 else 0) from by rw [er4, if_pos hm])
            clear hgk ho hb hlen hm
            by_cases hbh : (len : Int) = y0
            · have e1 : ((len : Int) == y0) = true := by simpa using hbh
              by_cases hu : u0 = 0
              · have NB := Lib.hid (show ¬ ((len : Int) = y0 ∧ u0 ≠ 0) from fun h => h.2 hu)
                rw [hu] at d9
                clear hbh hu
                by_cases hb1 : nb < 4 * len + 4
                · have s0 : (nb : Int) < 4 * (len : Int) + 4 := by omega
                  have s3 : IntKind.i64.wrap (4 * (len : Int)) = 4 * (len : Int) := IntWalk.i64_in _ (by omega)
                  have s4 : IntKind.i64.wrap (4 * (len : Int) + 4) = 4 * (len : Int) + 4 := IntWalk.i64_in _ (by omega)
                  have he : er4 nb y0 u0 (len + 1) = 1 := by rw [HE0.out, if_neg NB.out, if_pos hb1]
                  have HE1 := Lib.hid he
                  clear he hb1
                  go_wp2
                  go_roundg (M - (len + 1))
                  case measure => have := HGK.out; omega
                  case rel => exact ⟨len + 1, by omega, rfl, by go_num, by rw [HE1.out], ⟨len, HO.out, fun h => by rw [HE1.out] at h; exact absurd h (by decide)⟩, HB.out⟩
                · have he : er4 nb y0 u0 (len + 1) = 0 := by rw [HE0.out, if_neg NB.out, if_neg hb1]
                  have HE1 := Lib.hid he
                  clear he
                  have s0 : ¬ (nb : Int) < 4 * (len : Int) + 4 := by omega
                  have hcap := HCAP.out
                  have m3 : (cap : Int) ≤ 9223372036854775807 := by have := hcap.2; unfold maxLen at this; omega
                  have s1 : (4 * (len : Int)).toNat = 4 * len := by omega
                  have s2 : (4 * (len : Int) + 4).toNat = 4 * len + 4 := by omega
                  have s3 : IntKind.i64.wrap (4 * (len : Int)) = 4 * (len : Int) := IntWalk.i64_in _ (by omega)
                  have s4 : IntKind.i64.wrap (4 * (len : Int) + 4) = 4 * (len : Int) + 4 := IntWalk.i64_in _ (by omega)
                  have s5 : 4 * (len : Int) + 4 ≤ cap := by omega
                  have s6 : (0 : Int) ≤ 4 * (len : Int) := by omega
                  have s7 : ¬ cap = 4 * len := by omega
                  have s8 : (0 : Int) ≤ 4 * (len : Int) + 4 := by omega
                  have s9 : 4 * len ≤ 4 * len + 4 := by omega
                  have hsub : RowOf wr (a.map (fun x => x.add (4 * len))) 4 (fun j => .int .u8 (z (4 * len + j))) := by
                    obtain ⟨b, off, rfl, _, hc⟩ := (H.out.below (by rw [hs]; exact B4.out.trans (HB.out.mono (by have := B4.out.size; omega)))).at_ (i := 0) (by omega)
                    refine .inr ⟨b, off + 4 * len, ?_, fun j hj => ?_⟩
                    · simp only [Option.map_some, Addr.add]
                      split
                      · rename_i h; rw [h]; rfl
                      · rfl
                    · rw [Nat.add_assoc]; exact hc (4 * len + j) (by omega)
                  have NU := Lib.hid (fun c => rnumber3_any (a.map (fun x => x.add (4 * len))) 4 c (fun j => z (4 * len + j)) (by decide) (fun j hj => HZ'.out _ (by omega)) wr hsub)
                  have RS := Lib.hid (rowV_succ (fun i => Value.int .i64 (v4 z i)) len)
                  have hN := num_lt (fun j => z (4 * len + j)) 4 (fun j hj => HZ'.out _ (by omega))
                  have hv : v4 z len = (num (fun j => z (4 * len + j)) 4 : Nat) := rfl
                  generalize num (fun j => z (4 * len + j)) 4 = N at *
                  have hw := v4_wrap N (by have : (256 : Nat) ^ 4 = 4294967296 := by decide
                                           omega)
                  have HV := Lib.hid hv
                  have HSZ := Lib.hid hsz
                  clear hsub hcap hN hv hsz hb1
                  go_wp2_with (first
                    | (go_at_call 40; refine (NU.out _).mono ?_; rintro e w1 ⟨rfl, rfl⟩)
                    | (at_builtin; go_must (refine wpList_append_own_at _ rfl _ _ 50 rfl w4.heap.size 2 i0 (.int .i64 0) 1 8 Try.underlying50 hi hz0 hz1 hz2 rfl (by decide) _ _ _ rfl (HO.out.alloc _) ⟨wr.heap.size, 0, none⟩ 1 1 [.int .i64 (N : Nat)] rfl rfl (cell_one_new _ _ _) (by simp [Value.oneCell']) (by unfold maxLen; omega) (by omega) (by have := HSZ.out; simp; omega) ?_); intro v2 w2 hown2 hgrow2 _ _; have HO2 := Lib.hid hown2; have HG2 := Lib.hid hgrow2; clear hown2 hgrow2))
                  go_roundg (M - (len + 1))
                  case measure => have := HGK.out; omega
                  case rel => exact ⟨len + 1, by omega, rfl, by go_num, by rw [HE1.out], ⟨len + 1, by rw [RS.out, HV.out]; exact HO2.out, fun _ => rfl⟩, (HB.out.alloc HSZ.out _).grown HG2.out (by have := HSZ.out; simp; omega) (fun j hj => (HO.out.lt j hj).1)⟩
              · have HE1 := Lib.hid (show er4 nb y0 u0 (len + 1) = u0 from by rw [HE0.out, if_pos ⟨hbh, hu⟩])
                have e2 : (u0 == 0) = false := by simpa using hu
                have HU := Lib.hid hu
                clear hbh hu
                go_wp2
                go_roundg (M - (len + 1))
                case measure => have := HGK.out; omega
                case rel => exact ⟨len + 1, by omega, rfl, by go_num, by rw [HE1.out], ⟨len, HO.out, fun h => by rw [HE1.out] at h; exact absurd h HU.out⟩, HB.out⟩
            · have e1 : ((len : Int) == y0) = false := by simpa using hbh
              have NB := Lib.hid (show ¬ ((len : Int) = y0 ∧ u0 ≠ 0) from fun h => hbh h.1)
              clear hbh
              by_cases hb1 : nb < 4 * len + 4
              · have s0 : (nb : Int) < 4 * (len : Int) + 4 := by omega
                have s3 : IntKind.i64.wrap (4 * (len : Int)) = 4 * (len : Int) := IntWalk.i64_in _ (by omega)
                have s4 : IntKind.i64.wrap (4 * (len : Int) + 4) = 4 * (len : Int) + 4 := IntWalk.i64_in _ (by omega)
                have he : er4 nb y0 u0 (len + 1) = 1 := by rw [HE0.out, if_neg NB.out, if_pos hb1]
                have HE1 := Lib.hid he
                clear he hb1
                go_wp2
                go_roundg (M - (len + 1))
                case measure => have := HGK.out; omega
                case rel => exact ⟨len + 1, by omega, rfl, by go_num, by rw [HE1.out], ⟨len, HO.out, fun h => by rw [HE1.out] at h; exact absurd h (by decide)⟩, HB.out⟩
              · have he : er4 nb y0 u0 (len + 1) = 0 := by rw [HE0.out, if_neg NB.out, if_neg hb1]
                have HE1 := Lib.hid he
                clear he
                have s0 : ¬ (nb : Int) < 4 * (len : Int) + 4 := by omega
                have hcap := HCAP.out
                have m3 : (cap : Int) ≤ 9223372036854775807 := by have := hcap.2; unfold maxLen at this; omega
                have s1 : (4 * (len : Int)).toNat = 4 * len := by omega
                have s2 : (4 * (len : Int) + 4).toNat = 4 * len + 4 := by omega
                have s3 : IntKind.i64.wrap (4 * (len : Int)) = 4 * (len : Int) := IntWalk.i64_in _ (by omega)
                have s4 : IntKind.i64.wrap (4 * (len : Int) + 4) = 4 * (len : Int) + 4 := IntWalk.i64_in _ (by omega)
                have s5 : 4 * (len : Int) + 4 ≤ cap := by omega
                have s6 : (0 : Int) ≤ 4 * (len : Int) := by omega
                have s7 : ¬ cap = 4 * len := by omega
                have s8 : (0 : Int) ≤ 4 * (len : Int) + 4 := by omega
                have s9 : 4 * len ≤ 4 * len + 4 := by omega
                have hsub : RowOf wr (a.map (fun x => x.add (4 * len))) 4 (fun j => .int .u8 (z (4 * len + j))) := by
                  obtain ⟨b, off, rfl, _, hc⟩ := (H.out.below (by rw [hs]; exact B4.out.trans (HB.out.mono (by have := B4.out.size; omega)))).at_ (i := 0) (by omega)
                  refine .inr ⟨b, off + 4 * len, ?_, fun j hj => ?_⟩
                  · simp only [Option.map_some, Addr.add]
                    split
                    · rename_i h; rw [h]; rfl
                    · rfl
                  · rw [Nat.add_assoc]; exact hc (4 * len + j) (by omega)
                have NU := Lib.hid (fun c => rnumber3_any (a.map (fun x => x.add (4 * len))) 4 c (fun j => z (4 * len + j)) (by decide) (fun j hj => HZ'.out _ (by omega)) wr hsub)
                have RS := Lib.hid (rowV_succ (fun i => Value.int .i64 (v4 z i)) len)
                have hN := num_lt (fun j => z (4 * len + j)) 4 (fun j hj => HZ'.out _ (by omega))
                have hv : v4 z len = (num (fun j => z (4 * len + j)) 4 : Nat) := rfl
                generalize num (fun j => z (4 * len + j)) 4 = N at *
                have hw := v4_wrap N (by have : (256 : Nat) ^ 4 = 4294967296 := by decide
                                         omega)
                have HV := Lib.hid hv
                have HSZ := Lib.hid hsz
                clear hsub hcap hN hv hsz hb1
                go_wp2_with (first
                  | (go_at_call 40; refine (NU.out _).mono ?_; rintro e w1 ⟨rfl, rfl⟩)
                  | (at_builtin; go_must (refine wpList_append_own_at _ rfl _ _ 50 rfl w4.heap.size 2 i0 (.int .i64 0) 1 8 Try.underlying50 hi hz0 hz1 hz2 rfl (by decide) _ _ _ rfl (HO.out.alloc _) ⟨wr.heap.size, 0, none⟩ 1 1 [.int .i64 (N : Nat)] rfl rfl (cell_one_new _ _ _) (by simp [Value.oneCell']) (by unfold maxLen; omega) (by omega) (by have := HSZ.out; simp; omega) ?_); intro v2 w2 hown2 hgrow2 _ _; have HO2 := Lib.hid hown2; have HG2 := Lib.hid hgrow2; clear hown2 hgrow2))
                go_roundg (M - (len + 1))
                case measure => have := HGK.out; omega
                case rel => exact ⟨len + 1, by omega, rfl, by go_num, by rw [HE1.out], ⟨len + 1, by rw [RS.out, HV.out]; exact HO2.out, fun _ => rfl⟩, (HB.out.alloc HSZ.out _).grown HG2.out (by have := HSZ.out; simp; omega) (fun j hj => (HO.out.lt j hj).1)⟩
          · have e1 : (m == 0) = false := by simpa using h0
            have HX := Lib.hid (show m = E from by
              have h := er4_stop (nb := nb) (bh := y0) (e := u0) (k := k) (by rw [hm]; exact h0) (M - k)
              rw [show k + (M - k) = M by omega, hm, HE.out] at h
              exact h.symm)
            have H0 := Lib.hid h0
            obtain ⟨a5, c5, rfl, hr5, _⟩ := own_reads' ho
            clear hgk ho hb hlen hm h0 hr5
            go_wp2
            go_meet
            exact ⟨by rw [HX.out], ⟨a5, _, c5, rfl, fun h => absurd (HX.out.trans h) H0.out⟩, HB.out⟩
        · obtain rfl : k = M := by omega
          have i1 : ¬ (k : Int) < x0 := by have := HM.out; omega
          obtain rfl : m = E := hm.symm.trans HE.out
          obtain ⟨a5, c5, rfl, hr5, _⟩ := own_reads' ho
          have HR5 := Lib.hid hr5
          have HLEN := Lib.hid hlen
          clear hgk ho hb hlen hm hr5
          go_wp2
          go_meet
          exact ⟨rfl, ⟨a5, _, c5, rfl, fun h => ⟨HLEN.out h, by rw [← HLEN.out h]; exact HR5.out⟩⟩, HB.out⟩
    case rest =>
      obtain ⟨rfl, ⟨a5, k5, c5, rfl, hrow⟩, hb5⟩ := hcut
      have AW := Lib.hid (fun W => awake7_any W)
      have RB := fun W => rblock_any n W
      have B5 := Lib.hid (B4.out.trans (hb5.mono (by have := B4.out.size; omega)))
      have HR5 := HR4.out.below hb5
      have hw4 : IntKind.i64.wrap (4 * (M : Int)) = 4 * (M : Int) := IntWalk.i64_in _ (by omega)
      clear hb5 RD
      rcases HYR.out with ⟨hb, hr, hy⟩ | ⟨hb, hr, hy⟩
      · rw [hb] at RB
        have RB := Lib.hid RB
        by_cases hE0 : E = 0
        · subst hE0
          obtain ⟨rfl, hr5⟩ := hrow rfl
          by_cases hlen : 4 * k5 < nb
          · obtain rfl : r = 2 := by rw [hr]; simp [rerr, hlen]
            obtain rfl : ys = [] := by rw [hy]; unfold rnums; rw [if_neg (by rw [← hr]; decide)]
            have e2 : 4 * (k5 : Int) < nb := by omega
            clear hr hy hrow hr5 hb HYR hlen
            have SM := Lib.hid (samei a4 none 0 0 c4 0 (fun _ => 0) (fun _ => 0) (by decide) wc (.inl rfl) (.inl rfl) true (by simp))
            go_wp2_with (first
              | (go_at_call 35; refine (RB.out _).mono ?_; rintro e w6 ⟨rfl, rfl⟩)
              | (go_at_call 33; refine SM.out.mono ?_; rintro e w7 ⟨rfl, hb7⟩; have B7 := Lib.hid (B5.out.trans (hb7.mono (by have := B5.out.size; omega))); clear hb7)
              | (go_at_call 30; refine (AW.out _).mono ?_; rintro e w8 ⟨rfl, hb8⟩; have B8 := Lib.hid (B7.out.trans (hb8.mono (by have := B7.out.size; omega))); clear hb8))
            go_ret
            exact ⟨rfl, B8.out⟩
          · obtain rfl : r = 0 := by rw [hr]; simp [rerr, hlen]
            obtain rfl : ys = v4s z k5 := by rw [hy]; unfold rnums; rw [if_pos hr.symm]
            have e2 : ¬ 4 * (k5 : Int) < nb := by omega
            have hv := HV4.out
            rw [hv] at HR5 ⊢
            have SM := Lib.hid (samei a4 a5 k5 k5 c4 c5 (v4 z) (v4 z) (by omega) wc (HR5.congr fun i hi => by rw [v4s_getD z k5 i hi]) hr5 true (by simp))
            clear hr hy hrow hr5 hb HYR hlen hv
            go_wp2_with (first
              | (go_at_call 35; refine (RB.out _).mono ?_; rintro e w6 ⟨rfl, rfl⟩)
              | (go_at_call 33; refine SM.out.mono ?_; rintro e w7 ⟨rfl, hb7⟩; have B7 := Lib.hid (B5.out.trans (hb7.mono (by have := B5.out.size; omega))); clear hb7)
              | (go_at_call 30; refine (AW.out _).mono ?_; rintro e w8 ⟨rfl, hb8⟩; have B8 := Lib.hid (B7.out.trans (hb8.mono (by have := B7.out.size; omega))); clear hb8))
            go_ret
            exact ⟨rfl, B8.out⟩
        · have hne : (E != 0) = true := by simpa using hE0
          have hne2 : (E == 0) = false := by simpa using hE0
          obtain rfl : r = E := by rw [hr]; unfold rerr; rw [if_neg hE0]
          obtain rfl : ys = [] := by rw [hy]; unfold rnums; rw [if_neg (by rw [← hr]; exact hE0)]
          clear hr hy hrow hb HYR hE0
          have SM := Lib.hid (samei a4 none 0 0 c4 0 (fun _ => 0) (fun _ => 0) (by decide) wc (.inl rfl) (.inl rfl) true (by simp))
          go_wp2_with (first
            | (go_at_call 35; refine (RB.out _).mono ?_; rintro e w6 ⟨rfl, rfl⟩)
            | (go_at_call 33; refine SM.out.mono ?_; rintro e w7 ⟨rfl, hb7⟩; have B7 := Lib.hid (B5.out.trans (hb7.mono (by have := B5.out.size; omega))); clear hb7)
            | (go_at_call 30; refine (AW.out _).mono ?_; rintro e w8 ⟨rfl, hb8⟩; have B8 := Lib.hid (B7.out.trans (hb8.mono (by have := B7.out.size; omega))); clear hb8))
          go_ret
          exact ⟨rfl, B8.out⟩
      · rw [hb] at RB
        have RB := Lib.hid RB
        subst hr hy
        by_cases hE0 : E = 0
        · subst hE0
          obtain ⟨rfl, hr5⟩ := hrow rfl
          by_cases hlen : 4 * k5 < nb
          · have e2 : 4 * (k5 : Int) < nb := by omega
            clear hrow hr5 hb HYR hlen
            have SM := Lib.hid (samei a4 none 0 0 c4 0 (fun _ => 0) (fun _ => 0) (by decide) wc (.inl rfl) (.inl rfl) true (by simp))
            go_wp2_with (first
              | (go_at_call 35; refine (RB.out _).mono ?_; rintro e w6 ⟨rfl, rfl⟩)
              | (go_at_call 33; refine SM.out.mono ?_; rintro e w7 ⟨rfl, hb7⟩; have B7 := Lib.hid (B5.out.trans (hb7.mono (by have := B5.out.size; omega))); clear hb7)
              | (go_at_call 30; refine (AW.out _).mono ?_; rintro e w8 ⟨rfl, hb8⟩; have B8 := Lib.hid (B7.out.trans (hb8.mono (by have := B7.out.size; omega))); clear hb8))
            go_ret
            exact ⟨rfl, B8.out⟩
          · have e2 : ¬ 4 * (k5 : Int) < nb := by omega
            clear hrow hr5 hb HYR hlen
            have SM := Lib.hid (samei a4 none 0 0 c4 0 (fun _ => 0) (fun _ => 0) (by decide) wc (.inl rfl) (.inl rfl) true (by simp))
            go_wp2_with (first
              | (go_at_call 35; refine (RB.out _).mono ?_; rintro e w6 ⟨rfl, rfl⟩)
              | (go_at_call 33; refine SM.out.mono ?_; rintro e w7 ⟨rfl, hb7⟩; have B7 := Lib.hid (B5.out.trans (hb7.mono (by have := B5.out.size; omega))); clear hb7)
              | (go_at_call 30; refine (AW.out _).mono ?_; rintro e w8 ⟨rfl, hb8⟩; have B8 := Lib.hid (B7.out.trans (hb8.mono (by have := B7.out.size; omega))); clear hb8))
            go_ret
            exact ⟨rfl, B8.out⟩
        · have hne : (E != 0) = true := by simpa using hE0
          have hne2 : (E == 0) = false := by simpa using hE0
          clear hrow hb HYR hE0
          have SM := Lib.hid (samei a4 none 0 0 c4 0 (fun _ => 0) (fun _ => 0) (by decide) wc (.inl rfl) (.inl rfl) true (by simp))
          go_wp2_with (first
            | (go_at_call 35; refine (RB.out _).mono ?_; rintro e w6 ⟨rfl, rfl⟩)
            | (go_at_call 33; refine SM.out.mono ?_; rintro e w7 ⟨rfl, hb7⟩; have B7 := Lib.hid (B5.out.trans (hb7.mono (by have := B5.out.size; omega))); clear hb7)
            | (go_at_call 30; refine (AW.out _).mono ?_; rintro e w8 ⟨rfl, hb8⟩; have B8 := Lib.hid (B7.out.trans (hb8.mono (by have := B7.out.size; omega))); clear hb8))
          go_ret
          exact ⟨rfl, B8.out⟩
theorem walk (a : Option Addr) (nb cap : Nat) (zs : List Int) (n x0 y0 u0 : Int) (W : World) (b : IsRow .u8 W a nb cap zs) (bn : -9223372036854775808 ≤ n ∧ n ≤ 9223372036854775807) (b3 : (Lit.int .i64 x0).wf = true ∧ (Lit.int .i64 y0).wf = true ∧ (Lit.int .i64 u0).wf = true) :
    Calls Try.prog 7 #[.slice a nb cap, .int .i64 n, .agg #[.int .i64 x0, .int .i64 y0, .int .i64 u0]] W fun e w' => e = .returned (.bool true) ∧ Below W.heap.size W w' := by
  obtain ⟨b1, b2, b3, b4, b5⟩ := b
  have hrow : RowOf W a nb (fun i => .int .u8 (zs.getD i 0)) := by
    rcases b5 with b5 | ⟨b, off, rfl, hb, hc⟩
    · exact .inl (by omega)
    · exact .inr ⟨b, off, rfl, fun i hi => hc i (by omega)⟩
  have hz : ∀ i, i < nb → 0 ≤ zs.getD i 0 ∧ zs.getD i 0 ≤ 255 := fun i hi =>
    bounds_u8 (b4 (zs.getD i 0) (by rw [List.getD_eq_getElem?_getD, List.getElem?_eq_getElem (by omega)]; simp))
  exact main a nb cap n x0 y0 u0 (fun i => zs.getD i 0) b1 b2 (fun i hi _ => hz i hi) W hrow
theorem own : ownKnob Try.prog.godebug = none := by kernel_rfl
set_option maxRecDepth 100000 in
theorem contract (H : Type) (enc : TypeId × Value → H) (W : World) (base : Nat) (args : Array Value) (ds gs : List (DataW H)) (before : List MemPlace)
    (hval : ∀ (j : Nat) t v, Try.f7.params[j]? = some t → args[j]? = some v → Value.okWide Try.prog W .any base t v)
    (hW : DataW.Whole enc Try.prog Try.f7.params.toList Rows.plainReadsSpec.vars false W args.toList ds gs before) :
    Calls Try.prog 7 args W fun e W' => ∃ v, e = .returned v ∧ Rows.plainReadsSpec.post enc Try.prog Try.f7 false true false false W args v W' := by
  have hW' := hW
  obtain ⟨p, q, hA0, hV, rfl, hfz, hnd⟩ := hW
  have hA : DataW.TrodAll enc Try.prog W 0 (fun _ => true) true Try.f7.params.toList args.toList ds p := hA0
  rw [Try.params7] at hA hval
  obtain ⟨v0, vs0, d0, ds0, p0, q0, hargs, rfl, rfl, h0, r0⟩ := trodAll_cons hA
  obtain ⟨v1, vs1, d1, ds1, p1, q1, rfl, rfl, rfl, h1, r1⟩ := trodAll_cons r0
  obtain ⟨v2, vs2, d2, ds2, p2, q2, rfl, rfl, rfl, h2, r2⟩ := trodAll_cons r1
  obtain ⟨rfl, rfl, rfl⟩ := trodAll_nil r2
  obtain rfl : args = #[v0, v1, v2] := by cases args; simp_all
  obtain ⟨rfl, rfl⟩ := trodVars_none hV
  have hWhole := hW'
  obtain ⟨a0, len0, cap0, rfl⟩ := okWide_slice Try.underlying34 (hval 0 34 v0 rfl rfl)
  have k0 := h0
  have lt0 : ∀ x ∈ p0, x.block < W.heap.size := by obtain ⟨m, hm⟩ := k0; exact DataW.trod_lt m _ _ _ hm
  obtain ⟨z0, b0⟩ : ∃ zs, IsRow .u8 W a0 len0 cap0 zs := by
    obtain ⟨fuel, hf⟩ := h0
    rcases open_ints Try.underlying34 Try.underlying5 (by kernel_rfl) hf with ⟨hcs, _⟩ | ⟨x, l, c, zs, hcs, _, hl, hm, hz, _, hcell, hwz⟩
    · simp [Value.cells] at hcs
      obtain ⟨rfl, rfl, rfl⟩ := hcs
      exact ⟨[], isRow_nil _ _⟩
    · simp [Value.cells] at hcs
      obtain ⟨rfl, rfl, rfl⟩ := hcs
      exact ⟨zs, isRow_of hl hm (by simpa using hz) hcell hwz⟩
  obtain ⟨a1, rfl, rfl, rfl, w1⟩ := open_int Try.underlying3 (hval 1 3 v1 rfl rfl) h1
  have b1 := bounds_i64 w1
  obtain ⟨x2, y2, u2, rfl, rfl, rfl, w2x, w2y, w2u⟩ := open_arr3 Try.underlying64 Try.underlying3 (by kernel_rfl) (by kernel_rfl) (hval 2 64 v2 rfl rfl) h2
  have b2 := And.intro w2x (And.intro w2y w2u)
  clear hA0
  refine (walk a0 len0 cap0 z0 a1 x2 y2 u2 W b0 b1 b2).mono fun e W' ⟨he, hg⟩ => ?_
  subst he
  exact ⟨_, rfl, _, _, _, [], _, [], hW', trodAll_mk1 (shut_bool Try.underlying4 _), (trodAll_cons_mk (Below.trod laidOut (by kernel_rfl) (of_decide_eq_true (by kernel_rfl)) k0 hg lt0) (trodAll_cons_mk (shut_int Try.underlying3 w1) (trodAll_cons_mk (shut_arr3 Try.underlying64 Try.underlying3 (by kernel_rfl) (by kernel_rfl) w2x w2y w2u) trodAll_mk0))), rfl, hg.frame _, fun h => by cases h⟩

set_option maxRecDepth 100000 in
theorem lifted (os : Os) (started : os.Started) (H : Type) (enc : TypeId × Value → H) :
    ReturnsInHanded {} Try.checked os 7 .any (Rows.plainReadsSpec.pre6 enc Try.prog Try.f7 Rows.plainReadsRow.domain false) (Rows.plainReadsSpec.post enc Try.prog Try.f7 false true false false) := by
  refine returnsInHanded_of_change (C := Try.checked) own started (by kernel_rfl) Try.func7
    (ChangeSpec.witness6 (enc := enc) (C := Try.checked) false ⟨#[], #[.slice none 0 0, .int .i64 0, .agg #[.int .i64 0, .int .i64 0, .int .i64 0]], []⟩ 8 (by kernel_rfl) (by kernel_rfl) (by kernel_rfl) (by kernel_rfl)) ?_
  intro W base args ds gs before hval hW _ _
  exact contract H enc W base args ds gs before hval hW

/-- ████ THE STATEMENT ████ -/
theorem proved : Rows.PlainReadsSaid :=
  OpenClaim.holds_of_wide 7 Try.f7 rfl rfl rfl rfl rfl rfl rfl ⟨rfl, rfl, rfl, rfl, rfl⟩ rfl rfl rfl rfl rfl (by kernel_rfl) Try.func7 (by kernel_rfl)
    (of_decide_eq_true (by kernel_rfl)) (by unfold Func.isWrapper; first | (rw [if_pos (by decide +kernel)]; kernel_rfl) | (rw [if_neg (by decide +kernel)]; exact ⟨rfl, rfl⟩))
    (fun os started H enc _ => lifted os started H enc)
end Go.Proofs.Ytknpekpigiclkaa.plainReads
