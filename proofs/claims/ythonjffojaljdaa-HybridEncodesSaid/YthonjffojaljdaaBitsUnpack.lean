/-
  CONTRACTS OF bits.Unpack, in any world, of any bytes: the error that it tells, or the numbers, a row of its own; nothing that lay is turned. Conditions: at most 10000 bytes, which lie in memory as told.
-/
import Derived.Test.YthonjffojaljdaaBitsGet
import Derived.Test.YthonjffojaljdaaBitsPack
import Derived.Test.YthonjffojaljdaaBitsUnpackRow
namespace Go.Proofs.Ythonjffojaljdaa
open Go.RowKit
/-- The numbers of one width of M. -/
def unN (k M i : Nat) : Nat := M / 2 ^ (i * k) % 2 ^ k
theorem unpack_width (v : Value) (k n : Int) (h : ¬ (0 ≤ k ∧ k ≤ 64)) (w : World) :
    Calls Try.prog 123 #[v, .int .i64 k, .int .i64 n] w fun e w' => e = .returned (.tuple #[.slice none 0 0, .int .i64 6]) ∧ w = w' := by
  have WN := Lib.hid (fun W => isWidth_no k h W)
  clear h
  go_enter Try.func123, Try.ntmps123
  go_wp2_with (go_at_call 107; refine (WN.out _).mono ?_; rintro e w' ⟨rfl, rfl⟩)
  go_ret2
  exact ⟨rfl, rfl⟩
theorem unpack_count (v : Value) (k n : Int) (h : 0 ≤ k ∧ k ≤ 64) (hn : ¬ (0 ≤ n ∧ n ≤ 1024)) (w : World) :
    Calls Try.prog 123 #[v, .int .i64 k, .int .i64 n] w fun e w' => e = .returned (.tuple #[.slice none 0 0, .int .i64 7]) ∧ w = w' := by
  have WY := Lib.hid (fun W => isWidth_yes k h.1 h.2 W)
  have CN := Lib.hid (fun W => isCount_no n hn W)
  clear h hn
  go_enter Try.func123, Try.ntmps123
  go_wp2_with (first | (go_at_call 107; refine (WY.out _).mono ?_; rintro e w' ⟨rfl, rfl⟩) | (go_at_call 106; refine (CN.out _).mono ?_; rintro e w' ⟨rfl, rfl⟩))
  go_ret2
  exact ⟨rfl, rfl⟩
theorem unpack_size (a : Option Addr) (len cap k n : Nat) (hk : k ≤ 64) (hn : n ≤ 1024) (h : len ≠ need n k) (w : World) :
    Calls Try.prog 123 #[.slice a len cap, .int .i64 k, .int .i64 n] w fun e w' => e = .returned (.tuple #[.slice none 0 0, .int .i64 (if len < need n k then 1 else 2)]) ∧ w = w' := by
  have WY := Lib.hid (fun W => isWidth_yes k (by omega) (by omega) W)
  have CY := Lib.hid (fun W => isCount_yes n (by omega) (by omega) W)
  have NY := Lib.hid (fun W => need_yes n k hn hk W)
  clear hk hn
  generalize need n k = d at *
  by_cases hlt : len < d
  · rw [if_pos hlt]
    have h1 : (len : Int) < d := by omega
    clear hlt h
    go_enter Try.func123, Try.ntmps123
    go_wp2_with (first | (go_at_call 107; refine (WY.out _).mono ?_; rintro e w' ⟨rfl, rfl⟩) | (go_at_call 106; refine (CY.out _).mono ?_; rintro e w' ⟨rfl, rfl⟩) | (go_at_call 65; refine (NY.out _).mono ?_; rintro e w' ⟨rfl, rfl⟩))
    go_ret2
    exact ⟨rfl, rfl⟩
  · rw [if_neg hlt]
    have h1 : ¬ (len : Int) < d := by omega
    have h2 : (d : Int) < len := by omega
    clear hlt h
    go_enter Try.func123, Try.ntmps123
    go_wp2_with (first | (go_at_call 107; refine (WY.out _).mono ?_; rintro e w' ⟨rfl, rfl⟩) | (go_at_call 106; refine (CY.out _).mono ?_; rintro e w' ⟨rfl, rfl⟩) | (go_at_call 65; refine (NY.out _).mono ?_; rintro e w' ⟨rfl, rfl⟩))
    go_ret2
    exact ⟨rfl, rfl⟩
/-- How Unpack ends, of as many bytes as are needed that come to M. -/
def UnpackEnd (k n M : Nat) (w : World) (e : Ending) (w' : World) : Prop :=
  if M < 2 ^ (n * k) then ∃ v, e = .returned (.tuple #[v, .int .i64 0]) ∧ w'.ownsRow w.heap.size 40 1 v n (rowV (fun i => .int .u64 (unN k M i : Nat)) n) ∧ Below w.heap.size w w'
  else e = .returned (.tuple #[.slice none 0 0, .int .i64 3]) ∧ Below w.heap.size w w'
set_option maxRecDepth 100000 in
set_option maxHeartbeats 2000000 in
theorem unpack_any (a : Option Addr) (cap k n : Nat) (z : Nat → Int) (hz : ∀ i, i < need n k → 0 ≤ z i ∧ z i ≤ 255) (hk : k ≤ 64) (hn : n ≤ 1024) (w : World) (h : RowOf w a (need n k) (fun i => .int .u8 (z i))) :
    Calls Try.prog 123 #[.slice a (need n k : Nat) cap, .int .i64 k, .int .i64 n] w (UnpackEnd k n (num z (need n k)) w) := by
  obtain ⟨i0, hi, hz0, hz1, hz2⟩ := info_parts u64Info
  have WY := Lib.hid (fun W => isWidth_yes k (by omega) (by omega) W)
  have CY := Lib.hid (fun W => isCount_yes n (by omega) (by omega) W)
  have NY := Lib.hid (fun W => need_yes n k hn hk W)
  have hnk : n * k ≤ 1024 * 64 := Nat.mul_le_mul hn hk
  have hd : need n k ≤ 8192 := by unfold need; omega
  have hd8 : n * k ≤ 8 * need n k ∧ 8 * need n k < n * k + 8 := by unfold need; omega
  have NR := Lib.hid (newReader_any a (need n k) cap z (by omega) w h)
  have HZ := Lib.hid hz
  clear h hz
  obtain ⟨d, hdd⟩ : ∃ d, need n k = d := ⟨_, rfl⟩
  rw [hdd] at NY NR HZ hd hd8
  rw [hdd]
  clear hdd
  obtain ⟨M, hM⟩ : ∃ M, num z d = M := ⟨_, rfl⟩
  have hMlt : M < 2 ^ (8 * d) := by
    have := num_lt z d HZ.out
    rw [hM] at this
    have e : (2 : Nat) ^ (8 * d) = 256 ^ d := by rw [Nat.pow_mul]
    rw [e]; exact this
  rw [hM]
  have HM := Lib.hid hM
  have HML := Lib.hid hMlt
  have HD := Lib.hid hd8
  have HNK := Lib.hid hnk
  clear hM hMlt hd8 hnk
  go_enter Try.func123, Try.ntmps123
  go_wp2_with (first | (go_at_call 107; refine (WY.out _).mono ?_; rintro e w' ⟨rfl, rfl⟩) | (go_at_call 106; refine (CY.out _).mono ?_; rintro e w' ⟨rfl, rfl⟩) | (go_at_call 65; refine (NY.out _).mono ?_; rintro e w' ⟨rfl, rfl⟩) | (go_at_call 140; refine NR.out.mono ?_; rintro e w1 ⟨br, rfl, hr, hbr, hb⟩; have HR := Lib.hid hr; have HBR := Lib.hid hbr; have HB := Lib.hid hb; clear hr hbr hb) | (at_make; go_must (refine wpList_make_full _ rfl _ _ 58 rfl (br + 1) 40 i0 (.int .u64 0) 1 Try.underlying58 hi hz0 hz1 _ _ _ _ n rfl rfl rfl rfl (by rw [hz2]; omega) (by unfold maxLen; omega) (by have := HR.out.lt; omega) ?_); intro w2 hown hg; rw [show (Value.int .u64 0).cells = #[Value.int .u64 0] from rfl, rowV_zero] at hown; have HO := Lib.hid hown; have HG := Lib.hid hg; clear hown hg))
  obtain ⟨g, hg⟩ : ∃ g, w1.heap.size = g := ⟨_, rfl⟩
  rw [hg] at HO
  rw [hg]
  have hgb : br < g := by have := HR.out.lt; omega
  have HR2 := Lib.hid (HR.out.below (Turned.below (S := fun _ => False) ⟨HG.out.os, HG.out.tape, HG.out.output, HG.out.size, fun i hi _ => HG.out.block i hi (by simp)⟩ (B := w1.heap.size) (fun i hi => ⟨hi, fun h => h⟩)) HR.out.lt)
  have HB2 := Lib.hid (HB.out.grown HG.out HB.out.size (fun k hk => by cases hk))
  have hwg : w.heap.size ≤ g := by rw [← hg]; exact HB.out.size
  clear hg
  go_loopw [36] (fun x wr => ∃ i : Nat, i ≤ n ∧ x = .int .i64 i ∧ ReaderAt wr br d z (i * k) ∧ wr.ownsRow (br + 1) 40 1 (.slice (some ⟨g, 0, none⟩) n n) n (rowV (fun j => .int .u64 (if j < i then (unN k M j : Nat) else 0 : Int)) n) ∧ Below w.heap.size w wr) (fun x wr => n - (intOf x).toNat)
  case atStart => exact ⟨0, by omega, rfl, by simpa using HR2.out, by simpa using HO.out, HB2.out⟩
  case round =>
    obtain ⟨i, hin, rfl, hr, ho, hb⟩ := hrel
    by_cases hlt : i < n
    · have hik : i * k + k ≤ n * k := by rw [← Nat.succ_mul]; exact Nat.mul_le_mul_right _ hlt
      have GO := Lib.hid (get_ok br d z (i * k) k HZ.out (by omega) hk (by have := HD.out; omega) wr hr)
      rw [HM.out] at GO
      have HO3 := Lib.hid ho
      have HB3 := Lib.hid hb
      have HIK := Lib.hid hik
      clear hr ho hb hik
      have i1 : (i : Int) < n := by omega
      have KT := Lib.hid (fun (w3 : World) (ht3 : Turned (· = br) wr w3) => owns_turned HO3.out ht3 (fun j hj (e : j = br) => by
        have : g = j := by simpa [Value.ownBlock] using hj
        omega))
      go_wp2_with (go_at_call 141; refine GO.out.mono ?_; rintro e w3 ⟨rfl, hr3, ht3⟩; have ho3 := KT.out w3 ht3; have q0 := ho3.cellAt i (by omega); rw [rowV_get _ hlt] at q0; have q1 := ho3.frozenAt i; have HR4 := Lib.hid hr3; have HT4 := Lib.hid ht3; have HO4 := Lib.hid ho3; clear hr3 ht3 ho3)
      have hval : (M : Int) / 2 ^ (i * k) % 2 ^ k = (unN k M i : Nat) := by simp [unN]
      rw [hval]
      go_roundw
      case rel =>
        refine ⟨i + 1, by omega, by go_num, ?_, ?_, ?_⟩
        · have h1 := HR4.out
          rw [← Nat.succ_mul] at h1
          exact h1.below (B := br + 1) ((Below.refl _ _).setCell (p := ⟨g, i, none⟩) (by show br + 1 ≤ g; omega) _) (by omega)
        · have h1 := (HO4.out.stored i (.int .u64 (unN k M i : Nat))).1
          rw [rowV_set] at h1
          rw [rowV_congr (g := fun j => if j = i then .int .u64 (unN k M i : Nat) else .int .u64 (if j < i then (unN k M j : Nat) else 0 : Int)) (fun j hj => by
            by_cases e : j = i
            · subst e; simp
            · rw [if_neg e]
              by_cases e2 : j < i
              · rw [if_pos e2, if_pos (by omega)]
              · rw [if_neg e2, if_neg (by omega)])]
          exact h1
        · have h1 : Below w.heap.size wr w3 := HT4.out.below fun j hj => ⟨by have := HB3.out.size; omega, fun e => by have := HBR.out; omega⟩
          exact (HB3.out.trans h1).setCell (p := ⟨g, i, none⟩) hwg _
      case measure => simp [intOf]; omega
    · obtain rfl : i = n := by omega
      have GO := Lib.hid (fun (j : Nat) => get_ok br d z (i * k) (8 * d - i * k) HZ.out (by omega) (by have := HD.out; omega) (by have := HD.out; omega) (wr.drewN j) (hr.drewN j))
      have LE := Lib.hid (left_any br d z (i * k) (by omega) (by have := HD.out; omega) wr hr)
      have hMr : M / 2 ^ (i * k) % 2 ^ (8 * d - i * k) = M / 2 ^ (i * k) := by
        apply Nat.mod_eq_of_lt
        rw [Nat.div_lt_iff_lt_mul (Nat.pow_pos (by decide)), ← Nat.pow_add, Nat.sub_add_cancel (by have := HD.out; omega)]
        exact HML.out
      rw [HM.out, hMr] at GO
      have HO3 := Lib.hid ho
      have HB3 := Lib.hid hb
      clear hr ho hb hMr
      have KT := Lib.hid (fun (w2 w3 : World) (he : Below wr.heap.size wr w2) (ht3 : Turned (· = br) w2 w3) => owns_turned (owns_turned HO3.out (Turned.of_below (S := fun _ => False) he (fun i hi _ => hi)) (fun _ _ h => h)) ht3 (fun j hj (e : j = br) => by
        have : g = j := by simpa [Value.ownBlock] using hj
        omega))
      have KB : ∀ (w2 w3 : World) (he : Below wr.heap.size wr w2) (ht3 : Turned (· = br) w2 w3), Below w.heap.size w w3 := fun w2 w3 he ht3 => by
        have h1 : Below w.heap.size w2 w3 := ht3.below fun j hj => ⟨by have := HB3.out.size; have := he.size; omega, fun e => by have := HBR.out; omega⟩
        exact (HB3.out.trans (he.mono HB3.out.size)).trans h1
      have KB := Lib.hid KB
      obtain ⟨L, hL⟩ : ∃ L, 8 * d - i * k = L := ⟨_, rfl⟩
      rw [hL] at GO LE
      clear hL
      by_cases hM0 : M < 2 ^ (i * k)
      · rw [Nat.div_eq_of_lt hM0] at GO
        have HM0 := Lib.hid hM0
        clear hM0
        go_wp2_with (first | (go_at_call 142; refine LE.out.mono ?_; rintro e w3 ⟨rfl, j, rfl⟩) | (go_at_call 141; refine (GO.out _).mono ?_; rintro e w4 ⟨rfl, hr4, ht4⟩; have HR4 := Lib.hid hr4; have HT4 := Lib.hid ht4; clear hr4 ht4))
        go_ret2
        unfold UnpackEnd
        rw [if_pos HM0.out]
        have hlaid : Below wr.heap.size wr (wr.drewN j) := ⟨rfl, rfl, rfl, Nat.le_refl _, fun _ _ => rfl⟩
        refine ⟨_, rfl, ?_, KB.out _ _ hlaid HT4.out⟩
        have h1 := owns_base (KT.out _ _ hlaid HT4.out) (base' := w.heap.size) (fun j hj => by
          have : g = j := by simpa [Value.ownBlock] using hj
          omega)
        rw [rowV_congr (g := fun j => .int .u64 (unN k M j : Nat)) (fun j hj => by rw [if_pos hj])] at h1
        exact h1
      · obtain ⟨X, hX⟩ : ∃ X, M / 2 ^ (i * k) = X := ⟨_, rfl⟩
        have hX0 : X ≠ 0 := by
          rw [← hX]
          have := Nat.div_pos (Nat.le_of_not_lt hM0) (Nat.pow_pos (by decide))
          omega
        rw [hX] at GO
        have hx1 : ((X : Int) != 0) = true := by rw [bne_iff_ne]; omega
        have HM0 := Lib.hid hM0
        clear hM0 hX hX0
        go_wp2_with (first | (go_at_call 142; refine LE.out.mono ?_; rintro e w3 ⟨rfl, j, rfl⟩) | (go_at_call 141; refine (GO.out _).mono ?_; rintro e w4 ⟨rfl, hr4, ht4⟩; have HR4 := Lib.hid hr4; have HT4 := Lib.hid ht4; clear hr4 ht4))
        go_ret2
        unfold UnpackEnd
        rw [if_neg HM0.out]
        have hlaid : Below wr.heap.size wr (wr.drewN j) := ⟨rfl, rfl, rfl, Nat.le_refl _, fun _ _ => rfl⟩
        exact ⟨rfl, KB.out _ _ hlaid HT4.out⟩
end Go.Proofs.Ythonjffojaljdaa
