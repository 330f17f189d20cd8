/-
  CONTRACTS OF the document's own zigs and run of layer 10 (corduroyref10), in any world. Conditions: at most 1024 numbers, which lie in memory as told.
-/
import Derived.Test.YthonjffojaljdaaHybI
import Derived.Test.YthonjffojaljdaaVarPutRow
import Derived.BigQuiet
namespace Go.Proofs.Ythonjffojaljdaa
open Go.RowKit Go.BigFrame
set_option linter.unusedVariables false
set_option maxRecDepth 100000 in
set_option maxHeartbeats 1000000 in
theorem rzigs_any (a : Option Addr) (n cap : Nat) (x : Nat → Int) (hn : n ≤ 1100) (hx : ∀ i, i < n → -9223372036854775808 ≤ x i ∧ x i ≤ 9223372036854775807) (w : World) (h : RowOf w a n (fun i => .int .i64 (x i))) :
    Calls Try.prog 34 #[.slice a n cap] w fun e w' => ∃ v, e = .returned v ∧ w'.ownsRow w.heap.size 40 1 v n (rowV (fun i => .int .u64 (hz x i : Nat)) n) ∧ Below w.heap.size w w' := by
  obtain ⟨i0, hi, hz0, hz1, hz2⟩ := info_parts u64Info
  have H := Lib.hid h
  have HX := Lib.hid hx
  clear h hx
  go_enter Try.func34, Try.ntmps34
  go_wp2
  go_loopw [3, 4] (fun v i wr => ∃ k : Nat, k ≤ n ∧ i = .int .i64 k ∧ wr.ownsRow w.heap.size 40 1 v k (rowV (fun i => .int .u64 (hz x i : Nat)) k) ∧ Below w.heap.size w wr) (fun _ i _ => n - (intOf i).toNat)
  case atStart => exact ⟨0, by omega, rfl, World.ownsRow_nil _ _ _ _, Below.refl _ _⟩
  case round =>
    obtain ⟨k, hk, rfl, ho, hb⟩ := hrel
    have hsz := hb.size
    by_cases hkn : k < n
    · have k1 : (k : Int) < n := by omega
      have k0 : (0 : Int) ≤ k := by omega
      obtain ⟨b, off, rfl, hblt, hc⟩ := (H.out.below hb).at_ hkn
      have c0 := hc k hkn
      have hxk := HX.out k hkn
      have ZG := rzig_any (x k) hxk.1 hxk.2
      rw [hz_int] at ZG
      have ZG := Lib.hid ZG
      have RS := Lib.hid (rowV_succ (fun i => Value.int .u64 (hz x i : Nat)) k)
      have HOW := Lib.hid ho
      have HBW := Lib.hid hb
      clear ho hb hc hxk
      generalize hz x k = u at *
      generalize x k = y at *
      go_wp2_with (first
        | (go_at_call 19; refine (ZG.out _).mono ?_; rintro e w1 ⟨rfl, rfl⟩)
        | (at_builtin; go_must (refine wpList_append_own_at _ rfl _ _ 58 rfl w.heap.size 40 i0 (.int .u64 0) 1 8 Try.underlying58 hi hz0 hz1 hz2 rfl (by decide) _ _ _ rfl (HOW.out.alloc _) ⟨wr.heap.size, 0, none⟩ 1 1 [.int .u64 u] rfl rfl (cell_one_new _ _ _) (by simp [Value.oneCell']) (by unfold maxLen; omega) (by omega) (by simp; omega) ?_); intro v2 w2 hown2 hgrow2 _ _; have HO2 := Lib.hid hown2; have HG2 := Lib.hid hgrow2; clear hown2 hgrow2))
      go_roundw
      case rel => exact ⟨k + 1, by omega, by go_num, by rw [RS.out]; exact HO2.out, (HBW.out.alloc hsz _).grown HG2.out (by simp; omega) (fun j hj => (HOW.out.lt j hj).1)⟩
      case measure => simp [intOf]; omega
    · obtain rfl : k = n := by omega
      have HOW := Lib.hid ho
      have HBW := Lib.hid hb
      clear ho hb
      go_wp2
      go_ret
      exact ⟨_, rfl, HOW.out, HBW.out⟩
set_option maxRecDepth 100000 in
set_option maxHeartbeats 1000000 in
theorem rrun_any (a : Option Addr) (n cap p : Nat) (z : Nat → Nat) (hn : n ≤ 1100) (hp : p < n) (w : World) (h : RowOf w a n (fun i => .int .u64 (z i : Nat))) :
    Calls Try.prog 36 #[.slice a n cap, .int .i64 p] w fun e w' => e = .returned (.int .i64 (al (fun j => z (p + j)) (n - p) : Nat)) ∧ Below w.heap.size w w' := by
  obtain ⟨b, off, rfl, hblt, hc⟩ := h.at_ hp
  have cp := hc p hp
  obtain ⟨h1, h2, h3⟩ := al_spec (fun j => z (p + j)) (n - p)
  rw [Nat.add_zero] at h2 h3
  obtain ⟨f, hf⟩ : ∃ f, al (fun j => z (p + j)) (n - p) = f := ⟨_, rfl⟩
  rw [hf] at h1 h2 h3 ⊢
  have HC := Lib.hid hc
  have H2 := Lib.hid h2
  have H3 := Lib.hid h3
  have CP := Lib.hid cp
  have p0 : (0 : Int) ≤ p := by omega
  have p1 : (p : Int) < n := by omega
  clear h hc h2 h3 hf cp
  go_enter Try.func36, Try.ntmps36
  go_wp2
  go_loopw [5] (fun q wr => ∃ k : Nat, k ≤ f ∧ q = .int .i64 k ∧ Below w.heap.size w wr) (fun q _ => n - (intOf q).toNat)
  case atStart => exact ⟨0, by omega, rfl, Below.refl _ _⟩
  case round =>
    obtain ⟨k, hk, rfl, hb⟩ := hrel
    have HB := Lib.hid hb
    have c0 := (hb.cell (p := ⟨b, off + p, none⟩) hblt).trans CP.out
    have k0 : (0 : Int) ≤ (p : Int) + k := by omega
    clear hb
    by_cases hkn : p + k < n
    · have k1 : (p : Int) + k < n := by omega
      have c1 := (HB.out.cell (p := ⟨b, off + (p + k), none⟩) hblt).trans (HC.out (p + k) hkn)
      by_cases hkf : k < f
      · have he := H2.out k hkf
        rw [he] at c1
        generalize z p = y at *
        go_upto_region 2 with fail
        go_quiet (fail)
        go_wp2_with fail
        go_roundw
        case rel => exact ⟨k + 1, by omega, by go_num, below_drewN HB.out nq⟩
        case measure => simp [intOf]; omega
      · have hke : k = f := by omega
        have he := H3.out (by omega)
        rw [← hke] at he
        have HE := Lib.hid hke
        obtain ⟨y2, hy2⟩ : ∃ y2, z (p + k) = y2 := ⟨_, rfl⟩
        rw [hy2] at c1 he
        clear hke hy2
        generalize z p = y at *
        have hne : ¬ (y2 : Int) = (y : Nat) := by omega
        go_upto_region 2 with fail
        go_quiet (fail)
        go_wp2_with fail
        go_ret
        exact ⟨by rw [← HE.out]; rfl, below_drewN HB.out nq⟩
    · have hke : k = f := by omega
      have HE := Lib.hid hke
      have k1 : ¬ (p : Int) + k < n := by omega
      clear hke
      generalize z p = y at *
      go_upto_region 2 with fail
      go_quiet (fail)
      go_wp2_with fail
      go_ret
      exact ⟨by rw [← HE.out]; rfl, below_drewN HB.out nq⟩
end Go.Proofs.Ythonjffojaljdaa
