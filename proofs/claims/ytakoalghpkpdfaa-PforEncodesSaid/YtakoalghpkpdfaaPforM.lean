/-
  CONTRACT OF the document's own Encode of layer 11 (corduroyref11), in any world. Conditions: at most 1100 numbers, which lie in memory as told.
-/
import Derived.Test.YtakoalghpkpdfaaPforL
import Derived.Test.YtakoalghpkpdfaaPforJ
import Derived.Test.YtakoalghpkpdfaaWidRef
namespace Go.Proofs.Ytakoalghpkpdfaa
open Go.RowKit
set_option linter.unusedVariables false
theorem rfencode_out (a : Option Addr) (n cap : Nat) (hn : 1024 < n) (w : World) :
    Calls Try.prog 11 #[.slice a n cap] w fun e w' => e = .returned (.slice none 0 0) ∧ w = w' := by
  have h1 : (1024 : Int) < n := by omega
  go_enter Try.func11, Try.ntmps11
  go_wp2
  go_ret
  exact ⟨rfl, rfl⟩
set_option maxRecDepth 100000 in
set_option maxHeartbeats 1000000 in
theorem rfencode_of (f : Int) (o : Nat → Nat) (a : Option Addr) (n cap : Nat) (x : Nat → Int) (hn : n ≤ 1024) (w : World) (h : RowOf w a n (fun i => .int .i64 (x i))) (ho : ∀ i, offs (x i) f = (o i : Int)) (hol : ∀ i, o i < 18446744073709551616)
    (RL : Calls Try.prog 27 #[.slice a n cap] w fun e w' => e = .returned (.int .i64 f) ∧ w = w') :
    Calls Try.prog 11 #[.slice a n cap] w fun e w' => ∃ v, e = .returned v ∧ w'.ownsRow w.heap.size 5 1 v (gf f o n (rBest (pS dn o n) 64)).length (cellsOf (gf f o n (rBest (pS dn o n) 64))) ∧ Below w.heap.size w w' := by
  have RL := Lib.hid RL
  have RO := Lib.hid (show Calls Try.prog 28 #[.int .i64 f, .slice a n cap] w fun e w' => ∃ a2 c2, e = .returned (.slice a2 n c2) ∧ RowOf w' a2 n (fun i => .int .u64 (o i : Nat)) ∧ Below w.heap.size w w' from (roffsets_any a n cap x f (by omega) w h).mono fun e w' ⟨v, he, hr, hb⟩ => by
    obtain ⟨a2, c2, rfl, hr, _⟩ := own_reads' hr
    exact ⟨a2, c2, he, hr.congr fun i hi => by rw [ho], hb⟩)
  have hF := fun q (hq : q ≤ 64) => pS_le o n q hn hq
  have LE := Lib.hid (fun (a2 : Option Addr) (c2 : Nat) (q : Nat) (hq : q ≤ 64) (W : World) (hr : RowOf W a2 n (fun i => .int .u64 (o i : Nat))) => rlength_any a2 n c2 q o hn hq (fun i _ => hol i) W hr)
  have FO := Lib.hid (fun (a2 : Option Addr) (c2 : Nat) (q : Nat) (hq : q ≤ 64) (W : World) (hr : RowOf W a2 n (fun i => .int .u64 (o i : Nat))) => rform_any f a2 n c2 q o hn hq (fun i _ => hol i) W hr)
  have hsp := fun j (hj : j ≤ 64) => (rBest_spec (pS dn o n) j hj).2.1
  have h1 : ¬ (1024 : Int) < n := by omega
  obtain ⟨F, hFF⟩ : ∃ F, pS dn o n = F := ⟨_, rfl⟩
  have HR := Lib.hid (fun j => (show rBest F (j + 1) = if F (63 - j) ≤ F (rBest F j) then 63 - j else rBest F j from rfl))
  have HR0 : rBest F 0 = 64 := rfl
  rw [hFF] at hF hsp LE ⊢
  have HF := Lib.hid hF
  have HSP := Lib.hid hsp
  clear h ho hol hF hsp hFF
  go_enter Try.func11, Try.ntmps11
  go_wp2_with (first
    | (go_at_call 27; refine RL.out.mono ?_; rintro e w1 ⟨rfl, rfl⟩)
    | (go_at_call 28; refine RO.out.mono ?_; rintro e w2 ⟨a2, c2, rfl, hr, hb⟩; have HR2 := Lib.hid hr; have HB2 := Lib.hid hb; clear hr hb))
  go_loopw [5, 6] (fun b kk wr => ∃ j : Nat, j ≤ 64 ∧ kk = .int .i64 (63 - (j : Int)) ∧ b = .int .i64 (rBest F j : Nat) ∧ Below w2.heap.size w2 wr) (fun _ kk _ => (intOf kk + 1).toNat)
  case atStart => exact ⟨0, by omega, rfl, by rw [HR0]; rfl, Below.refl _ _⟩
  case round =>
    obtain ⟨j, hj, rfl, rfl, hb⟩ := hrel
    have hbj := HSP.out j hj
    have HBW := Lib.hid hb
    clear hb
    by_cases hjl : j < 64
    · obtain ⟨t, ht⟩ : ∃ t : Nat, 63 - j = t := ⟨_, rfl⟩
      have ht' : (63 : Int) - (j : Int) = (t : Int) := by omega
      rw [ht']
      have htl : t ≤ 63 := by omega
      have HN := Lib.hid (HR.out j)
      rw [ht] at HN
      have hft := HF.out t (by omega)
      have hfb := HF.out _ hbj
      have k1 : (0 : Int) ≤ (t : Int) := by omega
      have htj := Lib.hid (show t = 63 - j from ht.symm)
      clear ht ht' hj
      generalize rBest F j = bb at *
      by_cases hc : F t ≤ F bb
      · have hc' : ((F t : Nat) : Int) ≤ (F bb : Nat) := by omega
        have HNk := Lib.hid (show rBest F (j + 1) = t by rw [HN.out, if_pos hc])
        clear HN hc
        go_wp2_with (go_at_call 29; refine (LE.out _ _ _ (by omega) _ (HR2.out.below HBW.out)).mono ?_; rintro e w3 ⟨rfl, hb⟩; have HBW := Lib.hid (HBW.out.trans (hb.mono HBW.out.size)); clear hb)
        go_roundw
        case rel => exact ⟨j + 1, by omega, congrArg (Value.int .i64) (by have := htj.out; omega), by rw [HNk.out], HBW.out⟩
        case measure => simp [intOf]
      · have hc' : ¬ ((F t : Nat) : Int) ≤ (F bb : Nat) := by omega
        have HNk := Lib.hid (show rBest F (j + 1) = bb by rw [HN.out, if_neg hc])
        clear HN hc
        go_wp2_with (go_at_call 29; refine (LE.out _ _ _ (by omega) _ (HR2.out.below HBW.out)).mono ?_; rintro e w3 ⟨rfl, hb⟩; have HBW := Lib.hid (HBW.out.trans (hb.mono HBW.out.size)); clear hb)
        go_roundw
        case rel => exact ⟨j + 1, by omega, congrArg (Value.int .i64) (by have := htj.out; omega), by rw [HNk.out], HBW.out⟩
        case measure => simp [intOf]
    · obtain rfl : j = 64 := by omega
      have k1 : ¬ (0 : Int) ≤ 63 - ((64 : Nat) : Int) := by decide
      obtain ⟨bb, hbb⟩ : ∃ bb, rBest F 64 = bb := ⟨_, rfl⟩
      rw [hbb] at hbj ⊢
      have HBB := Lib.hid hbb
      clear hbb
      go_wp2_with (go_at_call 30; refine (FO.out _ _ _ hbj _ (HR2.out.below HBW.out)).mono ?_; rintro e w3 ⟨v3, rfl, ho3, hb3⟩; have HO3 := Lib.hid ho3; have HB3 := Lib.hid hb3; clear ho3 hb3)
      go_ret
      have s2 := HB2.out.size
      have s3 := HBW.out.size
      rw [HBB.out]
      exact ⟨_, rfl, owns_base HO3.out (fun j hj => by have := (HO3.out.lt j hj).1; omega), (HB2.out.trans (HBW.out.mono s2)).trans (HB3.out.mono (by omega))⟩
theorem fb_best (x : Nat → Int) (n : Nat) : gf (lmin x n) (fo x n) n (rBest (pS dn (fo x n) n) 64) = fb x n := by
  rw [← best_same (pS dn (fo x n) n) (most (fo x n) n) (most_le _ _) (fun j hj _ => pS_mono dn (fo x n) n (most (fo x n) n) (most_pow _ n (fun i _ => fo_lt x n i)) j hj)]
  rfl
theorem offs_nat (y f : Int) : offs y f = ((offs y f).toNat : Int) := by
  have : 0 ≤ offs y f := by unfold offs; rw [u64w]; omega
  omega
theorem offs_lt (y f : Int) : (offs y f).toNat < 18446744073709551616 := by unfold offs; rw [u64w]; omega
/-- What the document's own Encode tells: the form of a block, or anything of what is none. -/
theorem rfencode_any (a : Option Addr) (n cap : Nat) (x : Nat → Int) (w : World) (h : RowOf w a n (fun i => .int .i64 (x i))) :
    Calls Try.prog 11 #[.slice a n cap] w fun e w' => ∃ a2 m c2, e = .returned (.slice a2 m c2) ∧ (blk n = true → m = fl x n ∧ RowOf w' a2 (fl x n) (fun i => .int .u8 ((fb x n).getD i 0))) ∧ Below w.heap.size w w' := by
  by_cases h1 : 1024 < n
  · refine (rfencode_out a n cap h1 w).mono ?_
    rintro e w' ⟨rfl, rfl⟩
    exact ⟨_, _, _, rfl, fun hb => by have := of_decide_eq_true hb; omega, Below.refl _ _⟩
  by_cases h0 : n = 0
  · subst h0
    refine (rfencode_of 0 (fun i => (offs (x i) 0).toNat) a 0 cap x (by omega) w h (fun i => offs_nat (x i) 0) (fun i => offs_lt (x i) 0) (rleast_none a cap w)).mono ?_
    rintro e w' ⟨v, rfl, ho, hb⟩
    obtain ⟨a2, c2, rfl, _⟩ := own_bytes ho
    exact ⟨_, _, _, rfl, fun hc => absurd hc (by decide), hb⟩
  · refine (rfencode_of (lmin x n) (fo x n) a n cap x (by omega) w h (fo_int x n) (fo_lt x n) (rleast_some a n cap x (by omega) (by omega) w h)).mono ?_
    rintro e w' ⟨v, rfl, ho, hb⟩
    rw [fb_best] at ho
    obtain ⟨a2, c2, rfl, hr, _⟩ := own_bytes ho
    rw [fb_length] at hr ⊢
    exact ⟨_, _, _, rfl, fun _ => ⟨rfl, hr⟩, hb⟩
end Go.Proofs.Ytakoalghpkpdfaa
