/-
  CONTRACT OF the document's own Decode of reals' bits (corduroyref22.Decode), in any world. Conditions: at most 10000 bytes, which lie in memory as told; from 1 to 1024 reals.
-/
import Derived.Test.YtejiboinkapkcaaDoorXorJ
import Derived.Test.YtejiboinkapkcaaDoorBitsRef
import Derived.LoopTactic
import Derived.Deep.LoopGhost
namespace Go.Proofs.YtejiboinkapkcaaDoor
open Go.RowKit
set_option linter.unusedVariables false
set_option linter.unusedSimpArgs false
theorem bit_test (M i : Nat) : bitB M i = M.testBit i := by unfold bitB; rw [Nat.testBit_eq_decide_div_mod_eq]
theorem rest_zero {M A L : Nat} (h : ∀ i, A ≤ i → i < A + L → bitB M i = false) : M / 2 ^ A % 2 ^ L = 0 := by
  apply Nat.eq_of_testBit_eq
  intro i
  rw [Nat.testBit_mod_two_pow, Nat.zero_testBit, Nat.testBit_div_two_pow]
  by_cases hi : i < L
  · have := h (A + i) (by omega) (by omega)
    rw [bit_test] at this
    rw [Nat.add_comm i A, this]; simp
  · simp [hi]
theorem rest_some {M A L i : Nat} (h1 : A ≤ i) (h2 : i < A + L) (h : bitB M i = true) : M / 2 ^ A % 2 ^ L ≠ 0 := fun h0 => by
  have h3 : (M / 2 ^ A % 2 ^ L).testBit (i - A) = true := by
    rw [Nat.testBit_mod_two_pow, Nat.testBit_div_two_pow, show i - A + A = i by omega, ← bit_test, h]
    simp; omega
  rw [h0, Nat.zero_testBit] at h3
  cases h3
theorem bit_no {M i : Nat} (h : M / 2 ^ i % 2 = 0) : bitB M i = false := by unfold bitB; rw [h]; rfl
theorem bit_yes {M i : Nat} (h : ¬ M / 2 ^ i % 2 = 0) : bitB M i = true := by unfold bitB; exact decide_eq_true (by omega)
theorem drun_last {M B : Nat} : ∀ k, (drun M B k).er = 0 → (drun M B k).xs.length = k + 1 ∧ (drun M B k).xs.getD k 0 = (drun M B k).v
  | 0, _ => ⟨rfl, rfl⟩
  | k + 1, h => by
    by_cases h0 : (drun M B k).er = 0
    · obtain ⟨h1, _⟩ := drun_last k h0
      by_cases g : (dnext M B (drun M B k).s).1 = 0
      · rw [drun_step h0 g]
        refine ⟨by simp [h1], ?_⟩
        simp only
        rw [List.getD_eq_getElem?_getD, List.getElem?_append_right (by rw [h1]; exact Nat.le_refl _), h1, Nat.sub_self]; rfl
      · rw [drun, if_pos h0, if_neg g] at h
        exact absurd h g
    · rw [drun, if_neg h0] at h
      exact absurd h h0
theorem row_more {w' : World} {base k y : Nat} {v : Value} {xs : List Nat} (hl : xs.length = k + 1) (h : w'.ownsRow base 41 1 v (k + 1 + 1) (rowV (fun j => .int .u64 (xs.getD j 0 : Nat)) (k + 1) ++ [.int .u64 (y : Nat)])) : w'.ownsRow base 41 1 v (k + 1 + 1) (rowV (fun j => .int .u64 ((xs ++ [y]).getD j 0 : Nat)) (k + 1 + 1)) := by
  rw [rowV_succ, rowV_congr (g := fun j => .int .u64 (xs.getD j 0 : Nat)) (fun j hj => by rw [List.getD_eq_getElem?_getD, List.getD_eq_getElem?_getD, List.getElem?_append_left (by rw [hl]; exact hj)]), show (xs ++ [y]).getD (k + 1) 0 = y by rw [List.getD_eq_getElem?_getD, List.getElem?_append_right (by rw [hl]; exact Nat.le_refl _), hl, Nat.sub_self]; rfl]
  exact h
theorem rnumber_lit (a : Option Addr) (n cap : Nat) (z : Nat → Int) (hz : ∀ i, i < n → 0 ≤ z i ∧ z i ≤ 255) (hn : n ≤ 10000) (f k : Nat) (hk : k ≤ 64) (hf : f + k ≤ 8 * n) (w : World) (h : RowOf w a n (fun i => .int .u8 (z i))) (F K : Int) (hF : F = (f : Int)) (hK : K = (k : Int)) :
    Calls Tryd.prog 36 #[.slice a n cap, .int .i64 F, .int .i64 K] w fun e w' => e = .returned (.int .u64 ((num z n / 2 ^ f % 2 ^ k : Nat) : Int)) ∧ w = w' := by
  subst hF hK
  exact number_any a n cap z hz hn f k hk hf w h
theorem dbl (X j e : Nat) (hj : j < e) (h : X * 2 ^ e < 18446744073709551616) : IntKind.u64.wrap (2 * ((X * 2 ^ j : Nat) : Int)) = ((X * 2 ^ (j + 1) : Nat) : Int) ∧ 2 * ((X * 2 ^ j : Nat) : Int) % 18446744073709551616 = ((X * 2 ^ (j + 1) : Nat) : Int) := by
  have h1 : X * 2 ^ (j + 1) ≤ X * 2 ^ e := Nat.mul_le_mul_left _ (Nat.pow_le_pow_right (by decide) hj)
  have h2 : X * 2 ^ (j + 1) = 2 * (X * 2 ^ j) := by rw [Nat.pow_succ, Nat.mul_comm (2 ^ j) 2, Nat.mul_left_comm]
  rw [u64w, h2]
  rw [h2] at h1
  generalize X * 2 ^ j = Y at *
  generalize X * 2 ^ e = Z at *
  omega
theorem wrapN {N : Nat} (h : N < 1000) : wrap64 (N : Int) = N := by unfold wrap64; omega
theorem rblock2_any (n : Int) (w : World) : Calls Tryd.prog 10 #[.int .i64 n] w fun e w' => e = .returned (.bool (decide (1 ≤ n ∧ n ≤ 1024))) ∧ w = w' := by
  by_cases h1 : 1 ≤ n
  · by_cases h2 : n ≤ 1024
    · rw [decide_eq_true (And.intro h1 h2)]
      go_enter Tryd.func10, Tryd.ntmps10
      go_wp2
      go_ret
      exact ⟨rfl, rfl⟩
    · rw [decide_eq_false (fun h => h2 h.2)]
      go_enter Tryd.func10, Tryd.ntmps10
      go_wp2
      go_ret
      exact ⟨rfl, rfl⟩
  · rw [decide_eq_false (fun h => h1 h.1)]
    go_enter Tryd.func10, Tryd.ntmps10
    go_wp2
    go_ret
    exact ⟨rfl, rfl⟩
theorem rxdecode_out (a : Option Addr) (nb cap : Nat) (n : Int) (hn : ¬ (1 ≤ n ∧ n ≤ 1024)) (w : World) :
    Calls Tryd.prog 15 #[.slice a nb cap, .int .i64 n] w fun e w' => e = .returned (.tuple #[.slice none 0 0, .int .i64 7]) ∧ w = w' := by
  have BK := rblock2_any n
  rw [decide_eq_false hn] at BK
  have BK := Lib.hid BK
  go_enter Tryd.func15, Tryd.ntmps15
  go_wp2_with (go_at_call 10; refine (BK.out _).mono ?_; rintro e w1 ⟨rfl, rfl⟩)
  go_ret2
  exact ⟨rfl, rfl⟩
/-- How the document's Decode ends. -/
def REnd (M B n : Nat) (w : World) (e : Ending) (w' : World) : Prop :=
  Below w.heap.size w w' ∧ ∃ a' c', e = .returned (.tuple #[.slice a' (dmany M B n) c', .int .i64 (derr M B n)]) ∧ RowOf w' a' (dmany M B n) (fun i => .int .u64 ((drun M B (n - 1)).xs.getD i 0 : Nat))
theorem rend_err {M B n : Nat} {w w' : World} (h : derr M B n ≠ 0) (hb : Below w.heap.size w w') : REnd M B n w (.returned (.tuple #[.slice none 0 0, .int .i64 (derr M B n)])) w' := by
  refine ⟨hb, none, 0, ?_⟩
  unfold dmany
  rw [if_neg h]
  exact ⟨rfl, .inl rfl⟩
set_option maxRecDepth 100000 in
set_option maxHeartbeats 8000000 in
theorem rxdecode_any (nb cap n : Nat) (a : Option Addr) (z : Nat → Int) (hz : ∀ i, i < nb → 0 ≤ z i ∧ z i ≤ 255) (hnb : nb ≤ 10000) (hn1 : 1 ≤ n) (hn : n ≤ 1024) (w : World) (hrow : RowOf w a nb (fun i => .int .u8 (z i))) :
    Calls Tryd.prog 15 #[.slice a nb cap, .int .i64 n] w (REnd (num z nb) (8 * nb) n w) := by
  obtain ⟨i0, hi, hz0, hz1, hz2⟩ := info_parts u64Info
  have BK := rblock2_any n
  rw [decide_eq_true (by omega)] at BK
  have BK := Lib.hid BK
  by_cases hB : 8 * nb < 64
  · have HE := Lib.hid (show derr (num z nb) (8 * nb) n = 1 from by unfold derr; rw [if_pos hB])
    have b8 : (nb : Int) < 8 := by omega
    have RR := Lib.hid (rend_err (M := num z nb) (B := 8 * nb) (n := n) (w := w) (w' := w) (by rw [HE.out]; decide) (Below.refl _ _))
    rw [HE.out] at RR
    clear hrow
    go_enter Tryd.func15, Tryd.ntmps15
    go_wp2_with (go_at_call 10; refine (BK.out _).mono ?_; rintro e w1 ⟨rfl, rfl⟩)
    go_ret2
    exact RR.out
  have b8 : ¬ (nb : Int) < 8 := by omega
  obtain ⟨ba, off, rfl, hbl, hcell⟩ := hrow.at_ (show 0 < nb by omega)
  have HR := Lib.hid (fun W (hb : Below w.heap.size w W) => hrow.below hb)
  have HA := Lib.hid (fun W (hb : Below w.heap.size w W) j (hj : j < 8 * nb) x (hx : bitB (num z nb) j = x) => has_any ba off nb cap z hz hnb j hj W (HR.out W hb) x hx)
  have NU := Lib.hid (fun W (hb : Below w.heap.size w W) f k hk hf F K hF hK => rnumber_lit (some ⟨ba, off, none⟩) nb cap z hz hnb f k hk hf W (HR.out W hb) F K hF hK)
  have N0 := Lib.hid (NU.out w (Below.refl _ _) 0 64 (by decide) (by omega) 0 64 rfl rfl)
  have D0 := Lib.hid (show drun (num z nb) (8 * nb) 0 = ⟨0, ⟨64, 64, 0⟩, num z nb / 2 ^ 0 % 2 ^ 64, [num z nb / 2 ^ 0 % 2 ^ 64]⟩ from rfl)
  clear hrow hcell hz
  generalize num z nb / 2 ^ 0 % 2 ^ 64 = V at *
  go_enter Tryd.func15, Tryd.ntmps15
  go_wp2_with (first
    | (go_at_call 10; refine (BK.out _).mono ?_; rintro e w1 ⟨rfl, rfl⟩)
    | (go_at_call 36; refine N0.out.mono ?_; rintro e w1 ⟨rfl, rfl⟩))
  have HO1 := Lib.hid (show (w.alloc (.cells #[.int .u64 (V : Nat)] 41)).ownsRow w.heap.size 41 1 (.slice (some ⟨w.heap.size, 0, none⟩) 1 1) 1 [.int .u64 (V : Nat)] from World.ownsRow_lit w #[.int .u64 (V : Nat)] 1 (Nat.le_refl _) (by decide) rfl)
  have HB1 := Lib.hid (show Below w.heap.size w (w.alloc (.cells #[.int .u64 (V : Nat)] 41)) from (Below.refl _ _).alloc (Nat.le_refl _) _)
  have HMB := Lib.hid (show ∃ M, num z nb = M from ⟨_, rfl⟩)
  generalize num z nb = M at *
  clear HMB
  obtain ⟨er, her⟩ : ∃ er, derr M (8 * nb) n = er := ⟨_, rfl⟩
  have HER := Lib.hid her
  have RR := Lib.hid (fun W' (h : er ≠ 0) hb => rend_err (M := M) (B := 8 * nb) (n := n) (w := w) (w' := W') (by rw [her]; exact h) hb)
  rw [her] at RR
  clear her
  go_loopg [6, 7, 8, 9, 10] n (fun g v at_ tp en is wr => ∃ k : Nat, k + 1 ≤ n ∧ g = n - k ∧ (drun M (8 * nb) k).er = 0 ∧ wr.ownsRow w.heap.size 41 1 v (k + 1) (rowV (fun j => .int .u64 ((drun M (8 * nb) k).xs.getD j 0 : Nat)) (k + 1)) ∧ at_ = .int .i64 (drun M (8 * nb) k).s.at_ ∧
    ((is = .bool false ∧ ((drun M (8 * nb) k).s.t = 64 ∧ (drun M (8 * nb) k).s.e = 0) ∧ tp = .int .i64 0 ∧ en = .int .i64 0) ∨ (is = .bool true ∧ ¬ ((drun M (8 * nb) k).s.t = 64 ∧ (drun M (8 * nb) k).s.e = 0) ∧ tp = .int .i64 (drun M (8 * nb) k).s.t ∧ en = .int .i64 (drun M (8 * nb) k).s.e)) ∧ Below w.heap.size w wr)
  case atStart => exact ⟨0, by omega, by omega, rfl, by rw [D0.out]; exact HO1.out, by rw [D0.out]; rfl, .inl ⟨rfl, by rw [D0.out]; exact ⟨rfl, rfl⟩, rfl, rfl⟩, HB1.out⟩
  case round =>
    obtain ⟨k, hk, hgk, hr0, ho, rfl, his, hb⟩ := hrel
    have hok := drun_ok (M := M) (by omega) k hr0
    have hlast := drun_last k hr0
    obtain ⟨a9, c9, rfl, hr9, _⟩ := own_reads' ho
    have HO := Lib.hid ho
    have HB := Lib.hid hb
    have HIS := Lib.hid his
    clear ho hb his HO1 HB1 D0
    by_cases hkn : k + 1 < n
    · have k1 : (k : Int) + 1 < n := by omega
      have k0 : (0 : Int) ≤ k := by omega
      have k2 : IntKind.i64.wrap (k : Int) = k := IntWalk.i64_in _ (by omega)
      obtain ⟨b9, o9, rfl, hb9, hc9⟩ := hr9.at_ (show k < k + 1 by omega)
      have cl := hc9 k (by omega)
      rw [hlast.2] at cl
      have HST := Lib.hid (fun h => drun_step (M := M) (B := 8 * nb) hr0 h)
      have HFL := Lib.hid (show ¬ (dnext M (8 * nb) (drun M (8 * nb) k).s).1 = 0 → er = (dnext M (8 * nb) (drun M (8 * nb) k).s).1 from fun hd => by
        have h1 := drun_fail hr0 hd (n - 1 - (k + 1))
        rw [show k + 1 + (n - 1 - (k + 1)) = n - 1 by omega] at h1
        have h2 := HER.out
        unfold derr at h2
        rw [if_neg hB, if_pos (by rw [h1]; exact hd), h1] at h2
        exact h2.symm)
      have hat := hok.1.1
      have hwin := hok.1.2
      have hvl := hok.2.1
      have HLEN := Lib.hid hlast.1
      clear hok hlast hc9 hr9 hr0
      generalize (drun M (8 * nb) k).xs = xs at *
      generalize (drun M (8 * nb) k).v = last at *
      generalize (drun M (8 * nb) k).s = s at *
      obtain ⟨A0, t, e⟩ := s
      simp only at hat hwin HIS
      obtain ⟨A1, hA1⟩ : ∃ x, A0 + 1 = x := ⟨_, rfl⟩
      obtain ⟨A2, hA2⟩ : ∃ x, A0 + 1 + 1 = x := ⟨_, rfl⟩
      have e1 : (A0 : Int) + 1 = A1 := by omega
      have e2 : (A1 : Int) + 1 = A2 := by omega
      have e1b : (A1 : Int) - 1 = A0 := by omega
      have e2b : (A2 : Int) - 1 = A1 := by omega
      by_cases d1 : 8 * nb < A0 + 1
      · have hd : dnext M (8 * nb) ⟨A0, t, e⟩ = (1, 0, ⟨A0, t, e⟩) := by unfold dnext; rw [if_pos d1]
        have d1i : (8 : Int) * nb ≤ A0 := by omega
        have hm := HFL.out (by rw [hd]; exact (by decide : ¬ ((1 : Int) = 0)))
        rw [hd] at hm
        simp only at hm
        subst hm
        have RQ := Lib.hid (RR.out wr (by decide) HB.out)
        clear HFL HST RR
        go_wp2
        go_ret2
        exact RQ.out
      have d1i : ¬ (8 : Int) * nb ≤ A0 := by omega
      by_cases z1 : M / 2 ^ A0 % 2 = 0
      · have hd : dnext M (8 * nb) ⟨A0, t, e⟩ = (0, 0, ⟨A0 + 1, t, e⟩) := by unfold dnext; rw [if_neg d1, if_pos z1]
        have H1 := Lib.hid (HA.out wr HB.out A0 (by omega) false (bit_no z1))
        have hst := HST.out (by rw [hd])
        rw [hd] at hst
        have HST2 := Lib.hid hst
        have hx0 : last ^^^ 0 = last := Nat.xor_zero _
        rw [hx0] at HST2
        clear hst HFL HST
        go_wp2_with (first
          | (go_at_call 37; refine H1.out.mono ?_; clear H1; rintro r w1 ⟨rfl, rfl⟩)
          | (at_builtin; go_must (refine wpList_append_own_at _ rfl _ _ 22 rfl w.heap.size 41 i0 (.int .u64 0) 1 8 Tryd.underlying22 hi hz0 hz1 hz2 rfl (by decide) _ _ _ rfl (HO.out.alloc _) ⟨wr.heap.size, 0, none⟩ 1 1 [.int .u64 (last : Nat)] rfl rfl (cell_one_new _ _ _) (by simp [Value.oneCell']) (by unfold maxLen; omega) (by omega) (by have := HB.out.size; simp; omega) ?_); intro v2 w8 hown2 hgrow2 _ _; have HB8 := Lib.hid ((HB.out.alloc HB.out.size _).grown hgrow2 (by have := HB.out.size; simp; omega) (fun j hj => (HO.out.lt j hj).1)); have HO8 := Lib.hid hown2; clear hown2 hgrow2))
        go_roundg (n - (k + 1))
        case measure => omega
        case rel => exact ⟨k + 1, by omega, rfl, by rw [HST2.out], by rw [HST2.out]; exact row_more HLEN.out HO8.out, by rw [HST2.out]; exact congrArg (Value.int .i64) (by show (A1 : Int) = ((A0 + 1 : Nat) : Int); omega), by rw [HST2.out]; exact HIS.out, HB8.out⟩
      have H1 := Lib.hid (HA.out wr HB.out A0 (by omega) true (bit_yes z1))
      have HZ1 := Lib.hid z1
      clear z1
      by_cases d2 : 8 * nb < A0 + 1 + 1
      · have hd : dnext M (8 * nb) ⟨A0, t, e⟩ = (1, 0, ⟨A0, t, e⟩) := by unfold dnext; rw [if_neg d1, if_neg HZ1.out, if_pos d2]
        have d2i : (8 : Int) * nb ≤ A1 := by omega
        have hm := HFL.out (by rw [hd]; exact (by decide : ¬ ((1 : Int) = 0)))
        rw [hd] at hm
        simp only at hm
        subst hm
        have RQ := Lib.hid (RR.out wr (by decide) HB.out)
        clear HFL HST RR
        go_wp2_with (first
          | (go_at_call 37; refine H1.out.mono ?_; clear H1; rintro r w1 ⟨rfl, rfl⟩))
        go_ret2
        exact RQ.out
      have d2i : ¬ (8 : Int) * nb ≤ A1 := by omega
      by_cases z2 : M / 2 ^ (A0 + 1) % 2 = 0
      · have hd0 : dnext M (8 * nb) ⟨A0, t, e⟩ = dtail M (8 * nb) ⟨A0 + 1 + 1, t, e⟩ := by unfold dnext; rw [if_neg d1, if_neg HZ1.out, if_neg d2, if_pos z2]
        have H2 := Lib.hid (HA.out wr HB.out A1 (by omega) false (by rw [← hA1]; exact bit_no z2))
        rcases HIS.out with ⟨rfl, hn, rfl, rfl⟩ | ⟨rfl, hn, rfl, rfl⟩
        · have hd : dnext M (8 * nb) ⟨A0, t, e⟩ = (3, 0, ⟨A0 + 1 + 1, t, e⟩) := hd0.trans (by unfold dtail; rw [if_pos hn])
          have hm := HFL.out (by rw [hd]; exact (by decide : ¬ ((3 : Int) = 0)))
          rw [hd] at hm
          simp only at hm
          subst hm
          have RQ := Lib.hid (RR.out wr (by decide) HB.out)
          clear HFL HST RR
          go_wp2_with (first
            | (go_at_call 37; refine H1.out.mono ?_; clear H1; rintro r w1 ⟨rfl, rfl⟩)
            | (go_at_call 37; refine H2.out.mono ?_; clear H2; rintro r w1 ⟨rfl, rfl⟩))
          go_ret2
          exact RQ.out
        · have hte : t + e ≤ 63 := by rcases hwin with h | h; exact absurd h hn; exact h
          have hnone := hn
          obtain ⟨WW, hWW⟩ : ∃ x, 64 - t - e = x := ⟨_, rfl⟩
          obtain ⟨AE, hAE⟩ : ∃ x, A0 + 1 + 1 + WW = x := ⟨_, rfl⟩
          have u1 : (64 : Int) - t = ((64 - t : Nat) : Int) := by omega
          have u2 : ((64 - t : Nat) : Int) - e = (WW : Int) := by omega
          have u3 : (A2 : Int) + WW = AE := by omega
          by_cases d5 : 8 * nb < A0 + 1 + 1 + WW
          · have hd : dnext M (8 * nb) ⟨A0, t, e⟩ = (1, 0, ⟨A0 + 1 + 1, t, e⟩) := hd0.trans (by unfold dtail; rw [if_neg hnone, hWW, if_pos d5])
            have d5i : (8 : Int) * nb < AE := by omega
            have hm := HFL.out (by rw [hd]; exact (by decide : ¬ ((1 : Int) = 0)))
            rw [hd] at hm
            simp only at hm
            subst hm
            have RQ := Lib.hid (RR.out wr (by decide) HB.out)
            clear HFL HST RR
            go_wp2_with (first
              | (go_at_call 37; refine H1.out.mono ?_; clear H1; rintro r w1 ⟨rfl, rfl⟩)
              | (go_at_call 37; refine H2.out.mono ?_; clear H2; rintro r w1 ⟨rfl, rfl⟩))
            go_ret2
            exact RQ.out
          · have hd : dnext M (8 * nb) ⟨A0, t, e⟩ = (0, M / 2 ^ (A0 + 1 + 1) % 2 ^ WW * 2 ^ e, ⟨A0 + 1 + 1 + WW, t, e⟩) := hd0.trans (by unfold dtail; rw [if_neg hnone, hWW, if_neg d5])
            have d5i : ¬ (8 : Int) * nb < AE := by omega
            have hst := HST.out (by rw [hd])
            rw [hd] at hst
            have hXl : M / 2 ^ (A0 + 1 + 1) % 2 ^ WW < 2 ^ WW := Nat.mod_lt _ (Nat.pow_pos (by decide))
            have NT := NU.out wr HB.out (A0 + 1 + 1) WW (by omega) (by omega) A2 WW (by omega) rfl
            generalize M / 2 ^ (A0 + 1 + 1) % 2 ^ WW = X at *
            have hXe := shl_lt X t e (by rw [hWW]; exact hXl) hte
            have hxy := bits_xor_u64_nat last (X * 2 ^ e) hvl hXe
            obtain ⟨y, hy⟩ : ∃ y, last ^^^ (X * 2 ^ e) = y := ⟨_, rfl⟩
            simp only at hst
            rw [hy] at hst hxy
            have HST2 := Lib.hid hst
            have NT := Lib.hid NT
            clear hst HFL HST RR
            go_wp2_with (first
              | (go_at_call 37; refine H1.out.mono ?_; clear H1; rintro r w1 ⟨rfl, rfl⟩)
              | (go_at_call 37; refine H2.out.mono ?_; clear H2; rintro r w1 ⟨rfl, rfl⟩)
              | (go_at_call 36; refine NT.out.mono ?_; clear NT; rintro r w1 ⟨rfl, rfl⟩))
            obtain ⟨wo, rfl⟩ : ∃ wo, wo = wr := ⟨_, rfl⟩
            go_loopw [15, 16] (fun xv iv wq => ∃ j : Nat, j ≤ e ∧ iv = .int .i64 j ∧ xv = .int .u64 ((X * 2 ^ j : Nat) : Int) ∧ wq = wo) (fun _ iv _ => e - (intOf iv).toNat)
            case atStart => exact ⟨0, by omega, rfl, by simp, rfl⟩
            case round =>
              obtain ⟨j, hj, rfl, rfl, hw⟩ := hrel
              obtain rfl : wo = wr := hw.symm
              by_cases hje : j < e
              · have j1 : (j : Int) < e := by omega
                have hYY := dbl X j e hje hXe
                obtain ⟨Y, hY⟩ : ∃ Y, X * 2 ^ j = Y := ⟨_, rfl⟩
                obtain ⟨Y2, hY2⟩ : ∃ Y, X * 2 ^ (j + 1) = Y := ⟨_, rfl⟩
                rw [hY, hY2] at hYY
                have HY2 := Lib.hid hY2
                rw [hY]
                have q1 : IntKind.u64.wrap (2 * (Y : Int)) = (Y2 : Int) := hYY.1
                have q2 : 2 * (Y : Int) % 18446744073709551616 = (Y2 : Int) := hYY.2
                clear hYY hY hY2
                go_wp2_with fail
                go_roundw
                case rel => exact ⟨j + 1, by omega, by go_num, by rw [HY2.out], trivial⟩
                case measure => simp [intOf]; omega
              · obtain rfl : j = e := by omega
                obtain ⟨Z, hZ⟩ : ∃ Z, X * 2 ^ j = Z := ⟨_, rfl⟩
                rw [hZ] at hxy
                rw [hZ]
                go_wp2_with (at_builtin; go_must (refine wpList_append_own_at _ rfl _ _ 22 rfl w.heap.size 41 i0 (.int .u64 0) 1 8 Tryd.underlying22 hi hz0 hz1 hz2 rfl (by decide) _ _ _ rfl (HO.out.alloc _) ⟨wo.heap.size, 0, none⟩ 1 1 [.int .u64 (y : Nat)] rfl rfl (cell_one_new _ _ _) (by simp [Value.oneCell']) (by unfold maxLen; omega) (by omega) (by have := HB.out.size; simp; omega) ?_); intro v2 w8 hown2 hgrow2 _ _; have HB8 := Lib.hid ((HB.out.alloc HB.out.size _).grown hgrow2 (by have := HB.out.size; simp; omega) (fun j hj => (HO.out.lt j hj).1)); have HO8 := Lib.hid hown2; clear hown2 hgrow2)
                go_roundg (n - (k + 1))
                case measure => omega
                case rel => exact ⟨k + 1, by omega, rfl, by rw [HST2.out], by rw [HST2.out]; exact row_more HLEN.out HO8.out, by rw [HST2.out]; exact congrArg (Value.int .i64) (by show (AE : Int) = ((A0 + 1 + 1 + WW : Nat) : Int); omega), by rw [HST2.out]; exact .inr ⟨rfl, hnone, rfl, rfl⟩, HB8.out⟩
      have H2 := Lib.hid (HA.out wr HB.out A1 (by omega) true (by rw [← hA1]; exact bit_yes z2))
      have HZ2 := Lib.hid z2
      clear z2
      obtain ⟨A7, hA7⟩ : ∃ x, A0 + 1 + 1 + 5 = x := ⟨_, rfl⟩
      obtain ⟨A13, hA13⟩ : ∃ x, A0 + 1 + 1 + 5 + 6 = x := ⟨_, rfl⟩
      have e7 : (A2 : Int) + 5 = A7 := by omega
      have e13 : (A2 : Int) + 11 = A13 := by omega
      by_cases d3 : 8 * nb < A0 + 1 + 1 + 5 + 6
      · have hd : dnext M (8 * nb) ⟨A0, t, e⟩ = (1, 0, ⟨A0, t, e⟩) := by unfold dnext; rw [if_neg d1, if_neg HZ1.out, if_neg d2, if_neg HZ2.out, if_pos d3]
        have d3i : (8 : Int) * nb < A13 := by omega
        have hm := HFL.out (by rw [hd]; exact (by decide : ¬ ((1 : Int) = 0)))
        rw [hd] at hm
        simp only at hm
        subst hm
        have RQ := Lib.hid (RR.out wr (by decide) HB.out)
        clear HFL HST RR
        go_wp2_with (first
          | (go_at_call 37; refine H1.out.mono ?_; clear H1; rintro r w1 ⟨rfl, rfl⟩)
          | (go_at_call 37; refine H2.out.mono ?_; clear H2; rintro r w1 ⟨rfl, rfl⟩))
        go_ret2
        exact RQ.out
      have d3i : ¬ (8 : Int) * nb < A13 := by omega
      have hN5 : M / 2 ^ (A0 + 1 + 1) % 2 ^ 5 < 32 := Nat.mod_lt _ (by decide)
      have hP6 : M / 2 ^ (A0 + 1 + 1 + 5) % 2 ^ 6 < 64 := Nat.mod_lt _ (by decide)
      have N5 := NU.out wr HB.out (A0 + 1 + 1) 5 (by decide) (by omega) A2 5 (by omega) rfl
      have N6 := NU.out wr HB.out (A0 + 1 + 1 + 5) 6 (by decide) (by omega) A7 6 (by omega) rfl
      obtain ⟨N, hN⟩ : ∃ N, M / 2 ^ (A0 + 1 + 1) % 2 ^ 5 = N := ⟨_, rfl⟩
      obtain ⟨P, hP⟩ : ∃ P, M / 2 ^ (A0 + 1 + 1 + 5) % 2 ^ 6 = P := ⟨_, rfl⟩
      rw [hN] at N5 hN5
      rw [hP] at N6 hP6
      have HNP := Lib.hid (And.intro hN hP)
      clear hN hP
      have N5 := Lib.hid N5
      have N6 := Lib.hid N6
      by_cases d4 : 64 < N + (P + 1)
      · have hd : dnext M (8 * nb) ⟨A0, t, e⟩ = (4, 0, ⟨A0, t, e⟩) := by unfold dnext; rw [if_neg d1, if_neg HZ1.out, if_neg d2, if_neg HZ2.out, if_neg d3, HNP.out.1, HNP.out.2, if_pos d4]
        have d4i : (64 : Int) < (N : Int) + ((P : Int) + 1) := by omega
        have hm := HFL.out (by rw [hd]; exact (by decide : ¬ ((4 : Int) = 0)))
        rw [hd] at hm
        simp only at hm
        subst hm
        have RQ := Lib.hid (RR.out wr (by decide) HB.out)
        clear HFL HST RR
        go_wp2_with (first
          | (go_at_call 37; refine H1.out.mono ?_; clear H1; rintro r w1 ⟨rfl, rfl⟩)
          | (go_at_call 37; refine H2.out.mono ?_; clear H2; rintro r w1 ⟨rfl, rfl⟩)
          | (go_at_call 36; refine N5.out.mono ?_; clear N5; rintro r w1 ⟨rfl, rfl⟩)
          | (go_at_call 36; refine N6.out.mono ?_; clear N6; rintro r w1 ⟨rfl, rfl⟩))
        go_ret2
        exact RQ.out
      have d4i : ¬ (64 : Int) < (N : Int) + ((P : Int) + 1) := by omega
      have hd0 : dnext M (8 * nb) ⟨A0, t, e⟩ = dtail M (8 * nb) ⟨A0 + 1 + 1 + 5 + 6, N, 64 - N - (P + 1)⟩ := by unfold dnext; rw [if_neg d1, if_neg HZ1.out, if_neg d2, if_neg HZ2.out, if_neg d3, HNP.out.1, HNP.out.2, if_neg d4]
      have hte : N + (64 - N - (P + 1)) ≤ 63 := by omega
      have hnone : ¬ (N = 64 ∧ 64 - N - (P + 1) = 0) := by omega
      have g1 : (64 : Int) - N = ((64 - N : Nat) : Int) := by omega
      have g2 : ((64 - N : Nat) : Int) - ((P : Int) + 1) = ((64 - N - (P + 1) : Nat) : Int) := by omega
      generalize 64 - N - (P + 1) = E at *
      obtain ⟨WW, hWW⟩ : ∃ x, 64 - N - E = x := ⟨_, rfl⟩
      obtain ⟨AE, hAE⟩ : ∃ x, A0 + 1 + 1 + 5 + 6 + WW = x := ⟨_, rfl⟩
      have u1 : (64 : Int) - N = ((64 - N : Nat) : Int) := by omega
      have u2 : ((64 - N : Nat) : Int) - E = (WW : Int) := by omega
      have u3 : (A13 : Int) + WW = AE := by omega
      by_cases d5 : 8 * nb < A0 + 1 + 1 + 5 + 6 + WW
      · have hd : dnext M (8 * nb) ⟨A0, t, e⟩ = (1, 0, ⟨A0 + 1 + 1 + 5 + 6, N, E⟩) := hd0.trans (by unfold dtail; rw [if_neg hnone, hWW, if_pos d5])
        have d5i : (8 : Int) * nb < AE := by omega
        have hm := HFL.out (by rw [hd]; exact (by decide : ¬ ((1 : Int) = 0)))
        rw [hd] at hm
        simp only at hm
        subst hm
        have RQ := Lib.hid (RR.out wr (by decide) HB.out)
        clear HFL HST RR
        go_wp2_with (first
          | (go_at_call 37; refine H1.out.mono ?_; clear H1; rintro r w1 ⟨rfl, rfl⟩)
          | (go_at_call 37; refine H2.out.mono ?_; clear H2; rintro r w1 ⟨rfl, rfl⟩)
          | (go_at_call 36; refine N5.out.mono ?_; clear N5; rintro r w1 ⟨rfl, rfl⟩)
          | (go_at_call 36; refine N6.out.mono ?_; clear N6; rintro r w1 ⟨rfl, rfl⟩))
        go_ret2
        exact RQ.out
      · have hd : dnext M (8 * nb) ⟨A0, t, e⟩ = (0, M / 2 ^ (A0 + 1 + 1 + 5 + 6) % 2 ^ WW * 2 ^ E, ⟨A0 + 1 + 1 + 5 + 6 + WW, N, E⟩) := hd0.trans (by unfold dtail; rw [if_neg hnone, hWW, if_neg d5])
        have d5i : ¬ (8 : Int) * nb < AE := by omega
        have hst := HST.out (by rw [hd])
        rw [hd] at hst
        have hXl : M / 2 ^ (A0 + 1 + 1 + 5 + 6) % 2 ^ WW < 2 ^ WW := Nat.mod_lt _ (Nat.pow_pos (by decide))
        have NT := NU.out wr HB.out (A0 + 1 + 1 + 5 + 6) WW (by omega) (by omega) A13 WW (by omega) rfl
        generalize M / 2 ^ (A0 + 1 + 1 + 5 + 6) % 2 ^ WW = X at *
        have hXe := shl_lt X N E (by rw [hWW]; exact hXl) hte
        have hxy := bits_xor_u64_nat last (X * 2 ^ E) hvl hXe
        obtain ⟨y, hy⟩ : ∃ y, last ^^^ (X * 2 ^ E) = y := ⟨_, rfl⟩
        simp only at hst
        rw [hy] at hst hxy
        have HST2 := Lib.hid hst
        have NT := Lib.hid NT
        clear hst HFL HST RR
        go_wp2_with (first
          | (go_at_call 37; refine H1.out.mono ?_; clear H1; rintro r w1 ⟨rfl, rfl⟩)
          | (go_at_call 37; refine H2.out.mono ?_; clear H2; rintro r w1 ⟨rfl, rfl⟩)
          | (go_at_call 36; refine N5.out.mono ?_; clear N5; rintro r w1 ⟨rfl, rfl⟩)
          | (go_at_call 36; refine N6.out.mono ?_; clear N6; rintro r w1 ⟨rfl, rfl⟩)
          | (go_at_call 36; refine NT.out.mono ?_; clear NT; rintro r w1 ⟨rfl, rfl⟩))
        obtain ⟨wo, rfl⟩ : ∃ wo, wo = wr := ⟨_, rfl⟩
        go_loopw [15, 16] (fun xv iv wq => ∃ j : Nat, j ≤ E ∧ iv = .int .i64 j ∧ xv = .int .u64 ((X * 2 ^ j : Nat) : Int) ∧ wq = wo) (fun _ iv _ => E - (intOf iv).toNat)
        case atStart => exact ⟨0, by omega, rfl, by simp, rfl⟩
        case round =>
          obtain ⟨j, hj, rfl, rfl, hw⟩ := hrel
          obtain rfl : wo = wr := hw.symm
          by_cases hje : j < E
          · have j1 : (j : Int) < E := by omega
            have hYY := dbl X j E hje hXe
            obtain ⟨Y, hY⟩ : ∃ Y, X * 2 ^ j = Y := ⟨_, rfl⟩
            obtain ⟨Y2, hY2⟩ : ∃ Y, X * 2 ^ (j + 1) = Y := ⟨_, rfl⟩
            rw [hY, hY2] at hYY
            have HY2 := Lib.hid hY2
            rw [hY]
            have q1 : IntKind.u64.wrap (2 * (Y : Int)) = (Y2 : Int) := hYY.1
            have q2 : 2 * (Y : Int) % 18446744073709551616 = (Y2 : Int) := hYY.2
            clear hYY hY hY2
            go_wp2_with fail
            go_roundw
            case rel => exact ⟨j + 1, by omega, by go_num, by rw [HY2.out], trivial⟩
            case measure => simp [intOf]; omega
          · obtain rfl : j = E := by omega
            obtain ⟨Z, hZ⟩ : ∃ Z, X * 2 ^ j = Z := ⟨_, rfl⟩
            rw [hZ] at hxy
            rw [hZ]
            go_wp2_with (at_builtin; go_must (refine wpList_append_own_at _ rfl _ _ 22 rfl w.heap.size 41 i0 (.int .u64 0) 1 8 Tryd.underlying22 hi hz0 hz1 hz2 rfl (by decide) _ _ _ rfl (HO.out.alloc _) ⟨wo.heap.size, 0, none⟩ 1 1 [.int .u64 (y : Nat)] rfl rfl (cell_one_new _ _ _) (by simp [Value.oneCell']) (by unfold maxLen; omega) (by omega) (by have := HB.out.size; simp; omega) ?_); intro v2 w8 hown2 hgrow2 _ _; have HB8 := Lib.hid ((HB.out.alloc HB.out.size _).grown hgrow2 (by have := HB.out.size; simp; omega) (fun j hj => (HO.out.lt j hj).1)); have HO8 := Lib.hid hown2; clear hown2 hgrow2)
            go_roundg (n - (k + 1))
            case measure => omega
            case rel => exact ⟨k + 1, by omega, rfl, by rw [HST2.out], by rw [HST2.out]; exact row_more HLEN.out HO8.out, by rw [HST2.out]; exact congrArg (Value.int .i64) (by show (AE : Int) = ((A0 + 1 + 1 + 5 + 6 + WW : Nat) : Int); omega), by rw [HST2.out]; exact .inr ⟨rfl, hnone, rfl, rfl⟩, HB8.out⟩
    · obtain rfl : k = n - 1 := by omega
      have k1 : ¬ ((n - 1 : Nat) : Int) + 1 < n := by omega
      have her : derr M (8 * nb) n = er := HER.out
      unfold derr at her
      rw [if_neg hB, if_neg (by rw [hr0]; simp)] at her
      have hat := hok.1.1
      obtain ⟨A, hA⟩ : ∃ A, (drun M (8 * nb) (n - 1)).s.at_ = A := ⟨_, rfl⟩
      rw [hA] at her hat
      rw [hA]
      have HNN := Lib.hid (show n - 1 + 1 = n by omega)
      have HHR := Lib.hid (show RowOf wr a9 (n - 1 + 1) (fun j => .int .u64 ((drun M (8 * nb) (n - 1)).xs.getD j 0 : Nat)) from hr9)
      clear hr9 hok hlast hr0 hA HIS
      by_cases h8 : 8 ≤ 8 * nb - A
      · rw [if_pos h8] at her
        subst her
        have h8i : (7 : Int) < 8 * (nb : Int) - A := by omega
        have RQ := Lib.hid (RR.out wr (by decide) HB.out)
        clear RR
        go_wp2
        go_ret2
        exact RQ.out
      rw [if_neg h8] at her
      have h8i : ¬ (7 : Int) < 8 * (nb : Int) - A := by omega
      have HQ7 := Lib.hid her
      clear her
      have HOUT := Lib.hid (show ∀ i, A ≤ i → i < 8 * nb → bitB M i = true → er = 3 from fun i h1 h2 h3 => by
        have h4 := HQ7.out
        rw [if_neg (rest_some (L := 8 * nb - A) h1 (by omega) h3)] at h4
        exact h4.symm)
      have HIN := Lib.hid (show (∀ i, A ≤ i → i < 8 * nb → bitB M i = false) → er = 0 from fun h => by
        have h4 := HQ7.out
        rw [if_pos (rest_zero fun i h1 h2 => h i h1 (by omega))] at h4
        exact h4.symm)
      have HMY := Lib.hid (show er = 0 → dmany M (8 * nb) n = n from fun h => by unfold dmany; rw [HER.out, h]; rfl)
      clear HQ7
      go_wp2_with fail
      obtain ⟨wo, rfl⟩ : ∃ wo, wo = wr := ⟨_, rfl⟩
      go_loopw [17] (fun iv wq => ∃ j : Nat, A ≤ j ∧ j ≤ 8 * nb ∧ iv = .int .i64 j ∧ (∀ i, A ≤ i → i < j → bitB M i = false) ∧ wq = wo) (fun iv _ => 8 * nb - (intOf iv).toNat)
      case atStart => exact ⟨A, by omega, hat, rfl, fun i h1 h2 => by omega, rfl⟩
      case round =>
        obtain ⟨j, hj1, hj2, rfl, hall, hw⟩ := hrel
        obtain rfl : wo = wr := hw.symm
        have HALL := Lib.hid hall
        clear hall
        by_cases hj : j < 8 * nb
        · have j1 : (j : Int) < 8 * (nb : Int) := by omega
          cases hx : bitB M j with
          | false =>
            have H1 := Lib.hid (HA.out wo HB.out j hj false hx)
            go_wp2_with (go_at_call 37; refine H1.out.mono ?_; clear H1; rintro r w1 ⟨rfl, rfl⟩)
            go_roundw
            case rel => exact ⟨j + 1, by omega, by omega, by go_num, fun i h1 h2 => by
              by_cases e : i = j
              · subst e; exact hx
              · exact HALL.out i h1 (by omega), trivial⟩
            case measure => simp [intOf]; omega
          | true =>
            have H1 := Lib.hid (HA.out wo HB.out j hj true hx)
            obtain rfl : er = 3 := HOUT.out j hj1 hj hx
            have RQ := Lib.hid (RR.out wo (by decide) HB.out)
            clear RR HOUT HIN HMY
            go_wp2_with (go_at_call 37; refine H1.out.mono ?_; clear H1; rintro r w1 ⟨rfl, rfl⟩)
            go_ret2
            exact RQ.out
        · obtain rfl : j = 8 * nb := by omega
          obtain rfl : er = 0 := HIN.out HALL.out
          have j1 : ¬ ((8 * nb : Nat) : Int) < 8 * (nb : Int) := by omega
          have RQ := Lib.hid (show REnd M (8 * nb) n w (.returned (.tuple #[.slice a9 n c9, .int .i64 0])) wo from ⟨HB.out, a9, c9, by rw [HMY.out rfl, HER.out], by rw [HMY.out rfl]; have h9 := HHR.out; rwa [HNN.out] at h9⟩)
          clear RR HOUT HIN HMY
          go_wp2
          go_ret2
          exact RQ.out
end Go.Proofs.YtejiboinkapkcaaDoor
