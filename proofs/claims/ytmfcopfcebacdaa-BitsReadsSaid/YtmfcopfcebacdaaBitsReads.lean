/-
  THE STATEMENT corduroylaw01.BitsReads: for any bytes and any widths the call returns true and leaves its arguments as they were. No condition.
-/
import Derived.Test.YtmfcopfcebacdaaBitsBoth
namespace Go.Proofs.Ytmfcopfcebacdaa.bitsReads
open Go.ChangeShapes Go.WideShapes Go.ChangeAt Go.RowKit
set_option linter.unusedVariables false
theorem reads_skip (a0 a1 : Option Addr) (len0 cap0 len1 cap1 : Nat) (w : World) (h : 200 < len0 ∨ 60 < len1) :
    Calls Try.prog 4 #[.slice a0 len0 cap0, .slice a1 len1 cap1] w fun e w' => e = .returned (.bool true) ∧ Below w.heap.size w w' := by
  by_cases h1 : 200 < len0
  · have h' : (200 : Int) < len0 := by omega
    clear h
    go_enter Try.func4, Try.ntmps4
    go_wp2
    go_ret
    exact ⟨rfl, Below.refl _ _⟩
  · have h' : ¬ (200 : Int) < len0 := by omega
    have h2 : (60 : Int) < len1 := by omega
    clear h
    go_enter Try.func4, Try.ntmps4
    go_wp2
    go_ret
    exact ⟨rfl, Below.refl _ _⟩
theorem turned_below {w wr w2 : World} {br : Nat} (hb : Below w.heap.size w wr) (hbr : w.heap.size ≤ br) (ht : Turned (· = br) wr w2) : Below w.heap.size w w2 :=
  hb.trans (ht.below fun i hi => ⟨by have := hb.size; omega, fun e => by omega⟩)
theorem drewN_below {B : Nat} {w wr : World} (hb : Below B w wr) (n : Nat) : Below B w (wr.drewN n) := ⟨hb.os, hb.tape, hb.output, hb.size, hb.block⟩
set_option maxRecDepth 100000 in
set_option maxHeartbeats 4000000 in
theorem reads_walk (a0 a1 : Option Addr) (n cap0 m cap1 : Nat) (z y : Nat → Int) (hz : ∀ i, i < n → 0 ≤ z i ∧ z i ≤ 255) (w : World) (hn : n ≤ 200) (hm : m ≤ 60) (H0 : RowOf w a0 n (fun i => .int .u8 (z i))) (H1 : RowOf w a1 m (fun i => .int .i64 (y i))) :
    Calls Try.prog 4 #[.slice a0 n cap0, .slice a1 m cap1] w fun e w' => e = .returned (.bool true) ∧ Below w.heap.size w w' := by
  have h' : ¬ (200 : Int) < n := by omega
  have h'' : ¬ (60 : Int) < m := by omega
  have NR := Lib.hid (newReader_any a0 n cap0 z (by omega) w H0)
  have HZ := Lib.hid hz
  have H0 := Lib.hid H0
  have H1 := Lib.hid H1
  clear hz
  go_enter Try.func4, Try.ntmps4
  go_wp2_with (go_at_call 24; refine NR.out.mono ?_; rintro e w1 ⟨br, rfl, hr, hbr, hb⟩; have HR := Lib.hid hr; have HBR := Lib.hid hbr; have HB := Lib.hid hb; clear hr hbr hb)
  go_loopw [6, 7] (fun p x wr => ∃ i at_ : Nat, i ≤ m ∧ x = .int .i64 i ∧ p = .int .i64 at_ ∧ at_ ≤ 8 * n ∧ ReaderAt wr br n z at_ ∧ Below w.heap.size w wr) (fun _ x wr => m - (intOf x).toNat)
  case atStart => exact ⟨0, 0, by omega, rfl, rfl, by omega, HR.out, HB.out⟩
  case round =>
    obtain ⟨i, p, hi, rfl, rfl, hp, hr, hb⟩ := hrel
    by_cases him : i < m
    · have i1 : (i : Int) < m := by omega
      have hp0 : (p : Int) ≤ 8 * n := by omega
      obtain ⟨b1, off1, rfl, hb1, hc1⟩ := H1.out.at_ him
      have hc := hc1 i him
      have CC : ∀ W, Below w.heap.size w W → W.cell? ⟨b1, off1 + i, none⟩ = some (.int .i64 (y i)) := fun W hW => (hW.cell (p := ⟨b1, off1 + i, none⟩) hb1).trans hc
      have CC := Lib.hid CC
      have c0 := CC.out wr hb
      clear hc hc1
      generalize y i = x at *
      by_cases hx : 0 ≤ x ∧ x ≤ 64
      · obtain ⟨k, rfl⟩ : ∃ k : Nat, x = k := ⟨x.toNat, by omega⟩
        have WY := Lib.hid (fun W => rWide_yes k hx.1 hx.2 W)
        have hk : k ≤ 64 := by omega
        clear hx
        by_cases hs : 8 * n - p < k
        · have GS := Lib.hid (get_short br n z p k (by omega) hp hk hs wr hr)
          have LE := Lib.hid (fun j => left_any br n z p (by omega) hp (wr.drewN j) (hr.drewN j))
          have HR2 := Lib.hid hr
          have HB2 := Lib.hid hb
          have hs1 : 8 * (n : Int) - p < k := by omega
          have hL : ((8 * n - p : Nat) : Int) = 8 * (n : Int) - p := by omega
          rw [hL] at LE
          have CD := Lib.hid (fun j => CC.out (wr.drewN j) (drewN_below hb j))
          clear hr hb hs hL
          go_wp2_with (first | (go_at_call 25; refine GS.out.mono ?_; rintro e w2 ⟨rfl, j, rfl⟩; have c2 := CD.out j) | (go_at_call 17; refine (WY.out _).mono ?_; rintro e w3 ⟨rfl, rfl⟩) | (go_at_call 27; refine (LE.out _).mono ?_; rintro e w4 ⟨rfl, j2, rfl⟩))
          go_roundw
          case rel => exact ⟨i + 1, p, by omega, by go_num, rfl, hp, HR2.out.drewN _, drewN_below HB2.out _⟩
          case measure => simp [intOf]; omega
        · have GO := Lib.hid (get_ok br n z p k HZ.out (by omega) hk (by omega) wr hr)
          have NU := Lib.hid (fun W (hW : Below w.heap.size w W) => number_any a0 n cap0 z HZ.out (by omega) p k hk (by omega) W (H0.out.below hW))
          have KB := Lib.hid (fun w2 (ht : Turned (· = br) wr w2) => turned_below hb HBR.out ht)
          have LE := Lib.hid (fun W (hW : ReaderAt W br n z (p + k)) => left_any br n z (p + k) (by omega) (by omega) W hW)
          have hs1 : ¬ 8 * (n : Int) - p < k := by omega
          have hL : ((8 * n - (p + k) : Nat) : Int) = 8 * (n : Int) - (p + k : Nat) := by omega
          have hpk : ((p + k : Nat) : Int) = p + k := by omega
          rw [hL, hpk] at LE
          have hk0 : (k : Int) ≤ 64 := by omega
          have hpk2 : p + k ≤ 8 * n := by omega
          obtain ⟨V, hV⟩ : ∃ V, num z n / 2 ^ p % 2 ^ k = V := ⟨_, rfl⟩
          rw [hV] at GO NU
          clear hr hb hs hL hpk hV
          go_wp2_with (first | (go_at_call 25; refine GO.out.mono ?_; rintro e w2 ⟨rfl, hr2, ht2⟩; have HT := Lib.hid (KB.out w2 ht2); have HR2 := Lib.hid hr2; have c2 := CC.out w2 HT.out; clear hr2 ht2) | (go_at_call 17; refine (WY.out _).mono ?_; rintro e w3 ⟨rfl, rfl⟩) | (go_at_call 26; refine (NU.out _ HT.out).mono ?_; rintro e w5 ⟨rfl, rfl⟩) | (go_at_call 27; refine (LE.out _ HR2.out).mono ?_; rintro e w4 ⟨rfl, j2, rfl⟩))
          go_roundw
          case rel => exact ⟨i + 1, p + k, by omega, by go_num, by go_num, hpk2, HR2.out.drewN _, drewN_below HT.out _⟩
          case measure => simp [intOf]; omega
      · have WN := Lib.hid (fun W => rWide_no x hx W)
        have GW := Lib.hid (fun W => get_width br x hx W)
        have LE := Lib.hid (left_any br n z p (by omega) hp wr hr)
        have HR2 := Lib.hid hr
        have HB2 := Lib.hid hb
        have hL : ((8 * n - p : Nat) : Int) = 8 * (n : Int) - p := by omega
        rw [hL] at LE
        clear hr hb hx hL
        go_wp2_with (first | (go_at_call 25; refine (GW.out _).mono ?_; rintro e w2 ⟨rfl, rfl⟩) | (go_at_call 17; refine (WN.out _).mono ?_; rintro e w3 ⟨rfl, rfl⟩) | (go_at_call 27; refine LE.out.mono ?_; rintro e w4 ⟨rfl, j2, rfl⟩))
        go_roundw
        case rel => exact ⟨i + 1, p, by omega, by go_num, rfl, hp, HR2.out.drewN _, drewN_below HB2.out _⟩
        case measure => simp [intOf]; omega
    · obtain rfl : i = m := by omega
      have HB2 := Lib.hid hb
      clear hr hb
      go_wp2_with (go_at_call 23; refine (awake_any _).mono ?_; rintro e w4 ⟨rfl, hb4⟩; have HB4 := Lib.hid hb4; clear hb4)
      go_ret
      exact ⟨rfl, HB2.out.trans (HB4.out.mono HB2.out.size)⟩
theorem walk (a0 : Option Addr) (len0 cap0 : Nat) (z0 : List Int) (a1 : Option Addr) (len1 cap1 : Nat) (z1 : List Int) (w : World) (b0 : IsRow .u8 w a0 len0 cap0 z0) (b1 : IsRow .i64 w a1 len1 cap1 z1) :
    Calls Try.prog 4 #[.slice a0 len0 cap0, .slice a1 len1 cap1] w fun e w' => e = .returned (.bool true) ∧ Below w.heap.size w w' := by
  by_cases h : 200 < len0 ∨ 60 < len1
  · exact reads_skip a0 a1 len0 cap0 len1 cap1 w h
  · exact reads_walk a0 a1 len0 cap0 len1 cap1 _ (fun i => z1.getD i 0) b0.bytes.2 w (by omega) (by omega) b0.bytes.1 b1.ints
theorem own : ownKnob Try.prog.godebug = none := by kernel_rfl
set_option maxRecDepth 100000 in
theorem contract (H : Type) (enc : TypeId × Value → H) (W : World) (base : Nat) (args : Array Value) (ds gs : List (DataW H)) (before : List MemPlace)
    (hval : ∀ (j : Nat) t v, Try.f4.params[j]? = some t → args[j]? = some v → Value.okWide Try.prog W .any base t v)
    (hW : DataW.Whole enc Try.prog Try.f4.params.toList Rows.bitsReadsSpec.vars false W args.toList ds gs before) :
    Calls Try.prog 4 args W fun e W' => ∃ v, e = .returned v ∧ Rows.bitsReadsSpec.post enc Try.prog Try.f4 false true false false W args v W' := by
  have hW' := hW
  obtain ⟨p, q, hA0, hV, rfl, hfz, hnd⟩ := hW
  have hA : DataW.TrodAll enc Try.prog W 0 (fun _ => true) true Try.f4.params.toList args.toList ds p := hA0
  rw [Try.params4] at hA hval
  obtain ⟨v0, vs0, d0, ds0, p0, q0, hargs, rfl, rfl, h0, r0⟩ := trodAll_cons hA
  obtain ⟨v1, vs1, d1, ds1, p1, q1, rfl, rfl, rfl, h1, r1⟩ := trodAll_cons r0
  obtain ⟨rfl, rfl, rfl⟩ := trodAll_nil r1
  obtain rfl : args = #[v0, v1] := by cases args; simp_all
  obtain ⟨rfl, rfl⟩ := trodVars_none hV
  have hWhole := hW'
  obtain ⟨a0, len0, cap0, rfl⟩ := okWide_slice Try.underlying34 (hval 0 34 v0 rfl rfl)
  have k0 := h0
  have lt0 : ∀ x ∈ p0, x.block < W.heap.size := by obtain ⟨m, hm⟩ := k0; exact DataW.trod_lt m _ _ _ hm
  obtain ⟨z0, b0⟩ : ∃ zs, IsRow .u8 W a0 len0 cap0 zs := by
    obtain ⟨fuel, hf⟩ := h0
    rcases open_ints Try.underlying34 Try.underlying5 (by kernel_rfl) hf with ⟨hcs, _⟩ | ⟨x, l, c, zs, hcs, _, hl, hm, hz, _, hcell, hwz⟩
    · simp [Value.cells] at hcs
      obtain ⟨rfl, rfl, rfl⟩ := hcs
      exact ⟨[], isRow_nil _ _⟩
    · simp [Value.cells] at hcs
      obtain ⟨rfl, rfl, rfl⟩ := hcs
      exact ⟨zs, isRow_of hl hm (by simpa using hz) hcell hwz⟩
  obtain ⟨a1, len1, cap1, rfl⟩ := okWide_slice Try.underlying23 (hval 1 23 v1 rfl rfl)
  have k1 := h1
  have lt1 : ∀ x ∈ p1, x.block < W.heap.size := by obtain ⟨m, hm⟩ := k1; exact DataW.trod_lt m _ _ _ hm
  obtain ⟨z1, b1⟩ : ∃ zs, IsRow .i64 W a1 len1 cap1 zs := by
    obtain ⟨fuel, hf⟩ := h1
    rcases open_ints Try.underlying23 Try.underlying3 (by kernel_rfl) hf with ⟨hcs, _⟩ | ⟨x, l, c, zs, hcs, _, hl, hm, hz, _, hcell, hwz⟩
    · simp [Value.cells] at hcs
      obtain ⟨rfl, rfl, rfl⟩ := hcs
      exact ⟨[], isRow_nil _ _⟩
    · simp [Value.cells] at hcs
      obtain ⟨rfl, rfl, rfl⟩ := hcs
      exact ⟨zs, isRow_of hl hm (by simpa using hz) hcell hwz⟩
  clear hA0
  refine (walk a0 len0 cap0 z0 a1 len1 cap1 z1 W b0 b1).mono fun e W' ⟨he, hg⟩ => ?_
  subst he
  exact ⟨_, rfl, _, _, _, [], _, [], hW', trodAll_mk1 (shut_bool Try.underlying4 _), (trodAll_cons_mk (Below.trod laidOut (by kernel_rfl) (of_decide_eq_true (by kernel_rfl)) k0 hg lt0) (trodAll_cons_mk (Below.trod laidOut (by kernel_rfl) (of_decide_eq_true (by kernel_rfl)) k1 hg lt1) trodAll_mk0)), rfl, hg.frame _, fun h => by cases h⟩

set_option maxRecDepth 100000 in
theorem lifted (os : Os) (started : os.Started) (H : Type) (enc : TypeId × Value → H) :
    ReturnsInHanded {} Try.checked os 4 .any (Rows.bitsReadsSpec.pre6 enc Try.prog Try.f4 Rows.bitsReadsRow.domain false) (Rows.bitsReadsSpec.post enc Try.prog Try.f4 false true false false) := by
  refine returnsInHanded_of_change (C := Try.checked) own started (by kernel_rfl) Try.func4
    (ChangeSpec.witness6 (enc := enc) (C := Try.checked) false ⟨#[], #[.slice none 0 0, .slice none 0 0], []⟩ 8 (by kernel_rfl) (by kernel_rfl) (by kernel_rfl) (by kernel_rfl)) ?_
  intro W base args ds gs before hval hW _ _
  exact contract H enc W base args ds gs before hval hW

/-- ████ THE STATEMENT ████ -/
theorem proved : Rows.BitsReadsSaid :=
  OpenClaim.holds_of_wide 4 Try.f4 rfl rfl rfl rfl rfl rfl rfl ⟨rfl, rfl, rfl, rfl, rfl⟩ rfl rfl rfl rfl rfl (by kernel_rfl) Try.func4 (by kernel_rfl)
    (of_decide_eq_true (by kernel_rfl)) (by unfold Func.isWrapper; first | (rw [if_pos (by decide +kernel)]; kernel_rfl) | (rw [if_neg (by decide +kernel)]; exact ⟨rfl, rfl⟩))
    (fun os started H enc _ => lifted os started H enc)
end Go.Proofs.Ytmfcopfcebacdaa.bitsReads
