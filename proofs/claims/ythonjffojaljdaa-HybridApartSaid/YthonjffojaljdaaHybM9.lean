/-
  TEXTS OF THIS PROOF, one behind the other: XBitsPack XBitsUnpack XBitsRef XBitsRefB XBitsRefC.
-/
import Derived.Test.YthonjffojaljdaaHybM8
import Derived.Test.YthonjffojaljdaaBitsUnpackRow
/-
  CONTRACTS OF bits.Pack, in any world, of any numbers: the error that it tells, or the packed bytes, a row of its own; nothing that lay is turned. Conditions: the numbers lie in memory as told.
-/
namespace Go.Proofs.Ythonjffojaljdaa
open Go.RowKit
set_option linter.unusedVariables false
/-- Numbers of one width, one behind the other, the first one lowest. -/
def packN (k : Nat) (l : Nat → Nat) : Nat → Nat
  | 0 => 0
  | n + 1 => packN k l n + l n * 2 ^ (n * k)
theorem packN_lt (k : Nat) (l : Nat → Nat) : ∀ n, (∀ i, i < n → l i < 2 ^ k) → packN k l n < 2 ^ (n * k)
  | 0, _ => by simp [packN]
  | n + 1, h => by
    have h1 := packN_lt k l n (fun i hi => h i (by omega))
    have h2 := h n (by omega)
    have : (l n + 1) * 2 ^ (n * k) ≤ 2 ^ k * 2 ^ (n * k) := Nat.mul_le_mul_right _ h2
    rw [Nat.add_mul, Nat.one_mul] at this
    rw [Nat.succ_mul, Nat.pow_add, Nat.mul_comm (2 ^ (n * k))]
    simp only [packN]
    omega
theorem pack_width (k : Int) (h : ¬ (0 ≤ k ∧ k ≤ 64)) (v : Value) (w : World) :
    Calls Try.prog 99 #[.int .i64 k, v] w fun e w' => e = .returned (.tuple #[.slice none 0 0, .int .i64 6]) ∧ w = w' := by
  have WN := Lib.hid (fun W => isWidth_no k h W)
  clear h
  go_enter Try.func99, Try.ntmps99
  go_wp2_with (go_at_call 107; refine (WN.out _).mono ?_; rintro e w' ⟨rfl, rfl⟩)
  go_ret2
  exact ⟨rfl, rfl⟩
theorem pack_count (k : Int) (h : 0 ≤ k ∧ k ≤ 64) (a : Option Addr) (len cap : Nat) (hl : 1024 < len) (w : World) :
    Calls Try.prog 99 #[.int .i64 k, .slice a len cap] w fun e w' => e = .returned (.tuple #[.slice none 0 0, .int .i64 7]) ∧ w = w' := by
  have WY := Lib.hid (fun W => isWidth_yes k h.1 h.2 W)
  have CN := Lib.hid (fun W => isCount_no len (by omega) W)
  clear h hl
  go_enter Try.func99, Try.ntmps99
  go_wp2_with (first | (go_at_call 107; refine (WY.out _).mono ?_; rintro e w' ⟨rfl, rfl⟩) | (go_at_call 106; refine (CN.out _).mono ?_; rintro e w' ⟨rfl, rfl⟩))
  go_ret2
  exact ⟨rfl, rfl⟩
/-- What a row of numbers is in memory. -/
def U64s (w : World) (a : Option Addr) (len : Nat) (l : Nat → Nat) : Prop := RowOf w a len (fun i => .int .u64 (l i : Nat)) ∧ ∀ i, i < len → l i < 18446744073709551616
/-- How Pack ends: f is the first number that does not fit, or len. -/
def PackEnd (k : Nat) (l : Nat → Nat) (len f : Nat) (w : World) (e : Ending) (w' : World) : Prop :=
  if f < len then e = .returned (.tuple #[.slice none 0 0, .int .i64 4]) ∧ Below w.heap.size w w'
  else ∃ v, e = .returned (.tuple #[v, .int .i64 0]) ∧ w'.ownsRow w.heap.size 5 1 v (need len k) (cellsOf (bytesOf (need len k) (packN k l len))) ∧ Below w.heap.size w w'
theorem put_below {w w' : World} {B bw : Nat} {v : Value} {N c : Nat} (h : WriterAt w bw v N c) (ht : Turned (fun i => i = bw ∨ v.ownBlock = some i) w w') (hB : B ≤ bw) : Below B w w' :=
  ht.below fun i hi => ⟨by have := h.1.lt; omega, fun hs => by
    rcases hs with rfl | hs
    · omega
    · have := (h.2.1.lt i hs).1
      omega⟩
set_option maxRecDepth 100000 in
set_option maxHeartbeats 1000000 in
theorem pack_any (k : Nat) (hk : k ≤ 64) (a : Option Addr) (len cap : Nat) (l : Nat → Nat) (f : Nat) (hl : len ≤ 1024) (hf : f ≤ len) (h1 : ∀ i, i < f → l i < 2 ^ k) (h2 : f < len → ¬ l f < 2 ^ k) (w : World) (h : U64s w a len l) :
    Calls Try.prog 99 #[.int .i64 k, .slice a len cap] w (PackEnd k l len f w) := by
  have WY := Lib.hid (fun W => isWidth_yes k (by omega) (by omega) W)
  have CY := Lib.hid (fun W => isCount_yes len (by omega) (by omega) W)
  have H := Lib.hid h
  have H1 := Lib.hid h1
  have H2 := Lib.hid h2
  clear h h1 h2
  go_enter Try.func99, Try.ntmps99
  go_wp2_with (first | (go_at_call 107; refine (WY.out _).mono ?_; rintro e w' ⟨rfl, rfl⟩) | (go_at_call 106; refine (CY.out _).mono ?_; rintro e w' ⟨rfl, rfl⟩) | (go_at_call 127; refine (newWriter_any _).mono ?_; rintro e w0 ⟨rfl, hw, hb⟩; have HW := Lib.hid hw; have HB := Lib.hid hb; clear hw hb))
  obtain ⟨bw, hbw⟩ : ∃ bw, w.heap.size = bw := ⟨_, rfl⟩
  rw [hbw] at HW
  rw [hbw]
  have HBW := Lib.hid hbw
  clear hbw
  go_loopw [20] (fun x wr => ∃ (i : Nat) (v : Value), i ≤ f ∧ x = .int .i64 i ∧ WriterAt wr bw v (packN k l i) (i * k) ∧ Below w.heap.size w wr) (fun x wr => len - (intOf x).toNat)
  case atStart => exact ⟨0, _, by omega, rfl, by simpa [packN] using HW.out, HB.out⟩
  case round =>
    obtain ⟨i, v, hi, rfl, hw, hb⟩ := hrel
    have hik : i * k ≤ 1024 * 64 := Nat.mul_le_mul (by omega) hk
    by_cases hif : i < f
    · have hil : i < len := by omega
      obtain ⟨b, off, rfl, hblt, hc⟩ := (H.out.1.below hb).at_ hil
      have c0 : wr.cell? ⟨b, off + i, none⟩ = some (.int .u64 (l i : Nat)) := hc i hil
      have PU := Lib.hid (put_ok bw v (packN k l i) (i * k) (l i) k (H.out.2 i hil) hk (H1.out i hif) (by omega) wr hw)
      have HWR := Lib.hid hw
      have HB2 := Lib.hid hb
      clear hw hb hc hik
      have hne : ((i : Int) == (len : Int)) = false := by simp; omega
      have i1 : (i : Int) < len := by omega
      go_wp2_with (go_at_call 128; refine PU.out.mono ?_; rintro e w2 ⟨rfl, v2, hw2, ht2, _⟩; have HW2 := Lib.hid hw2; have HT2 := Lib.hid ht2; clear hw2 ht2)
      go_roundw
      case rel =>
        refine ⟨i + 1, v2, by omega, by go_num, ?_, HB2.out.trans ?_⟩
        · have := HW2.out
          rw [← Nat.succ_mul] at this
          exact this
        · exact put_below HWR.out HT2.out (by have := HBW.out; omega)
      case measure => simp [intOf]; omega
    · obtain rfl : i = f := by omega
      by_cases hil : i < len
      · obtain ⟨b, off, rfl, hblt, hc⟩ := (H.out.1.below hb).at_ hil
        have c0 : wr.cell? ⟨b, off + i, none⟩ = some (.int .u64 (l i : Nat)) := hc i hil
        have PU := Lib.hid (put_range bw (l i) k (H.out.2 i hil) hk (H2.out hil) wr)
        have HB2 := Lib.hid hb
        clear hw hb hc hik
        have i1 : (i : Int) < len := by omega
        go_wp2_with (go_at_call 128; refine PU.out.mono ?_; rintro e w2 ⟨rfl, rfl⟩)
        go_ret2
        unfold PackEnd
        rw [if_pos hil]
        exact ⟨rfl, HB2.out⟩
      · obtain rfl : i = len := by omega
        have c0 := hw.1.cell 0
        have HWR := Lib.hid hw
        have HB2 := Lib.hid hb
        clear hw hb hik
        go_wp2
        go_ret2
        unfold PackEnd
        rw [if_neg (by omega)]
        exact ⟨v, rfl, owns_base HWR.out.2.1 (fun j hj => by have := (HWR.out.2.1.lt j hj).1; have := HBW.out; omega), HB2.out⟩
end Go.Proofs.Ythonjffojaljdaa


/-
  CONTRACTS OF bits.Unpack, in any world, of any bytes: the error that it tells, or the numbers, a row of its own; nothing that lay is turned. Conditions: at most 10000 bytes, which lie in memory as told.
-/
namespace Go.Proofs.Ythonjffojaljdaa
open Go.RowKit
/-- The numbers of one width of M. -/
def unN (k M i : Nat) : Nat := M / 2 ^ (i * k) % 2 ^ k
theorem unpack_width (v : Value) (k n : Int) (h : ¬ (0 ≤ k ∧ k ≤ 64)) (w : World) :
    Calls Try.prog 123 #[v, .int .i64 k, .int .i64 n] w fun e w' => e = .returned (.tuple #[.slice none 0 0, .int .i64 6]) ∧ w = w' := by
  have WN := Lib.hid (fun W => isWidth_no k h W)
  clear h
  go_enter Try.func123, Try.ntmps123
  go_wp2_with (go_at_call 107; refine (WN.out _).mono ?_; rintro e w' ⟨rfl, rfl⟩)
  go_ret2
  exact ⟨rfl, rfl⟩
theorem unpack_count (v : Value) (k n : Int) (h : 0 ≤ k ∧ k ≤ 64) (hn : ¬ (0 ≤ n ∧ n ≤ 1024)) (w : World) :
    Calls Try.prog 123 #[v, .int .i64 k, .int .i64 n] w fun e w' => e = .returned (.tuple #[.slice none 0 0, .int .i64 7]) ∧ w = w' := by
  have WY := Lib.hid (fun W => isWidth_yes k h.1 h.2 W)
  have CN := Lib.hid (fun W => isCount_no n hn W)
  clear h hn
  go_enter Try.func123, Try.ntmps123
  go_wp2_with (first | (go_at_call 107; refine (WY.out _).mono ?_; rintro e w' ⟨rfl, rfl⟩) | (go_at_call 106; refine (CN.out _).mono ?_; rintro e w' ⟨rfl, rfl⟩))
  go_ret2
  exact ⟨rfl, rfl⟩
theorem unpack_size (a : Option Addr) (len cap k n : Nat) (hk : k ≤ 64) (hn : n ≤ 1024) (h : len ≠ need n k) (w : World) :
    Calls Try.prog 123 #[.slice a len cap, .int .i64 k, .int .i64 n] w fun e w' => e = .returned (.tuple #[.slice none 0 0, .int .i64 (if len < need n k then 1 else 2)]) ∧ w = w' := by
  have WY := Lib.hid (fun W => isWidth_yes k (by omega) (by omega) W)
  have CY := Lib.hid (fun W => isCount_yes n (by omega) (by omega) W)
  have NY := Lib.hid (fun W => need_yes n k hn hk W)
  clear hk hn
  generalize need n k = d at *
  by_cases hlt : len < d
  · rw [if_pos hlt]
    have h1 : (len : Int) < d := by omega
    clear hlt h
    go_enter Try.func123, Try.ntmps123
    go_wp2_with (first | (go_at_call 107; refine (WY.out _).mono ?_; rintro e w' ⟨rfl, rfl⟩) | (go_at_call 106; refine (CY.out _).mono ?_; rintro e w' ⟨rfl, rfl⟩) | (go_at_call 65; refine (NY.out _).mono ?_; rintro e w' ⟨rfl, rfl⟩))
    go_ret2
    exact ⟨rfl, rfl⟩
  · rw [if_neg hlt]
    have h1 : ¬ (len : Int) < d := by omega
    have h2 : (d : Int) < len := by omega
    clear hlt h
    go_enter Try.func123, Try.ntmps123
    go_wp2_with (first | (go_at_call 107; refine (WY.out _).mono ?_; rintro e w' ⟨rfl, rfl⟩) | (go_at_call 106; refine (CY.out _).mono ?_; rintro e w' ⟨rfl, rfl⟩) | (go_at_call 65; refine (NY.out _).mono ?_; rintro e w' ⟨rfl, rfl⟩))
    go_ret2
    exact ⟨rfl, rfl⟩
/-- How Unpack ends, of as many bytes as are needed that come to M. -/
def UnpackEnd (k n M : Nat) (w : World) (e : Ending) (w' : World) : Prop :=
  if M < 2 ^ (n * k) then ∃ v, e = .returned (.tuple #[v, .int .i64 0]) ∧ w'.ownsRow w.heap.size 40 1 v n (rowV (fun i => .int .u64 (unN k M i : Nat)) n) ∧ Below w.heap.size w w'
  else e = .returned (.tuple #[.slice none 0 0, .int .i64 3]) ∧ Below w.heap.size w w'
set_option maxRecDepth 100000 in
set_option maxHeartbeats 2000000 in
theorem unpack_any (a : Option Addr) (cap k n : Nat) (z : Nat → Int) (hz : ∀ i, i < need n k → 0 ≤ z i ∧ z i ≤ 255) (hk : k ≤ 64) (hn : n ≤ 1024) (w : World) (h : RowOf w a (need n k) (fun i => .int .u8 (z i))) :
    Calls Try.prog 123 #[.slice a (need n k : Nat) cap, .int .i64 k, .int .i64 n] w (UnpackEnd k n (num z (need n k)) w) := by
  obtain ⟨i0, hi, hz0, hz1, hz2⟩ := info_parts u64Info
  have WY := Lib.hid (fun W => isWidth_yes k (by omega) (by omega) W)
  have CY := Lib.hid (fun W => isCount_yes n (by omega) (by omega) W)
  have NY := Lib.hid (fun W => need_yes n k hn hk W)
  have hnk : n * k ≤ 1024 * 64 := Nat.mul_le_mul hn hk
  have hd : need n k ≤ 8192 := by unfold need; omega
  have hd8 : n * k ≤ 8 * need n k ∧ 8 * need n k < n * k + 8 := by unfold need; omega
  have NR := Lib.hid (newReader_any a (need n k) cap z (by omega) w h)
  have HZ := Lib.hid hz
  clear h hz
  obtain ⟨d, hdd⟩ : ∃ d, need n k = d := ⟨_, rfl⟩
  rw [hdd] at NY NR HZ hd hd8
  rw [hdd]
  clear hdd
  obtain ⟨M, hM⟩ : ∃ M, num z d = M := ⟨_, rfl⟩
  have hMlt : M < 2 ^ (8 * d) := by
    have := num_lt z d HZ.out
    rw [hM] at this
    have e : (2 : Nat) ^ (8 * d) = 256 ^ d := by rw [Nat.pow_mul]
    rw [e]; exact this
  rw [hM]
  have HM := Lib.hid hM
  have HML := Lib.hid hMlt
  have HD := Lib.hid hd8
  have HNK := Lib.hid hnk
  clear hM hMlt hd8 hnk
  go_enter Try.func123, Try.ntmps123
  go_wp2_with (first | (go_at_call 107; refine (WY.out _).mono ?_; rintro e w' ⟨rfl, rfl⟩) | (go_at_call 106; refine (CY.out _).mono ?_; rintro e w' ⟨rfl, rfl⟩) | (go_at_call 65; refine (NY.out _).mono ?_; rintro e w' ⟨rfl, rfl⟩) | (go_at_call 140; refine NR.out.mono ?_; rintro e w1 ⟨br, rfl, hr, hbr, hb⟩; have HR := Lib.hid hr; have HBR := Lib.hid hbr; have HB := Lib.hid hb; clear hr hbr hb) | (at_make; go_must (refine wpList_make_full _ rfl _ _ 58 rfl (br + 1) 40 i0 (.int .u64 0) 1 Try.underlying58 hi hz0 hz1 _ _ _ _ n rfl rfl rfl rfl (by rw [hz2]; omega) (by unfold maxLen; omega) (by have := HR.out.lt; omega) ?_); intro w2 hown hg; rw [show (Value.int .u64 0).cells = #[Value.int .u64 0] from rfl, rowV_zero] at hown; have HO := Lib.hid hown; have HG := Lib.hid hg; clear hown hg))
  obtain ⟨g, hg⟩ : ∃ g, w1.heap.size = g := ⟨_, rfl⟩
  rw [hg] at HO
  rw [hg]
  have hgb : br < g := by have := HR.out.lt; omega
  have HR2 := Lib.hid (HR.out.below (Turned.below (S := fun _ => False) ⟨HG.out.os, HG.out.tape, HG.out.output, HG.out.size, fun i hi _ => HG.out.block i hi (by simp)⟩ (B := w1.heap.size) (fun i hi => ⟨hi, fun h => h⟩)) HR.out.lt)
  have HB2 := Lib.hid (HB.out.grown HG.out HB.out.size (fun k hk => by cases hk))
  have hwg : w.heap.size ≤ g := by rw [← hg]; exact HB.out.size
  clear hg
  go_loopw [36] (fun x wr => ∃ i : Nat, i ≤ n ∧ x = .int .i64 i ∧ ReaderAt wr br d z (i * k) ∧ wr.ownsRow (br + 1) 40 1 (.slice (some ⟨g, 0, none⟩) n n) n (rowV (fun j => .int .u64 (if j < i then (unN k M j : Nat) else 0 : Int)) n) ∧ Below w.heap.size w wr) (fun x wr => n - (intOf x).toNat)
  case atStart => exact ⟨0, by omega, rfl, by simpa using HR2.out, by simpa using HO.out, HB2.out⟩
  case round =>
    obtain ⟨i, hin, rfl, hr, ho, hb⟩ := hrel
    by_cases hlt : i < n
    · have hik : i * k + k ≤ n * k := by rw [← Nat.succ_mul]; exact Nat.mul_le_mul_right _ hlt
      have GO := Lib.hid (get_ok br d z (i * k) k HZ.out (by omega) hk (by have := HD.out; omega) wr hr)
      rw [HM.out] at GO
      have HO3 := Lib.hid ho
      have HB3 := Lib.hid hb
      have HIK := Lib.hid hik
      clear hr ho hb hik
      have i1 : (i : Int) < n := by omega
      have KT := Lib.hid (fun (w3 : World) (ht3 : Turned (· = br) wr w3) => owns_turned HO3.out ht3 (fun j hj (e : j = br) => by
        have : g = j := by simpa [Value.ownBlock] using hj
        omega))
      go_wp2_with (go_at_call 141; refine GO.out.mono ?_; rintro e w3 ⟨rfl, hr3, ht3⟩; have ho3 := KT.out w3 ht3; have q0 := ho3.cellAt i (by omega); rw [rowV_get _ hlt] at q0; have q1 := ho3.frozenAt i; have HR4 := Lib.hid hr3; have HT4 := Lib.hid ht3; have HO4 := Lib.hid ho3; clear hr3 ht3 ho3)
      have hval : (M : Int) / 2 ^ (i * k) % 2 ^ k = (unN k M i : Nat) := by simp [unN]
      rw [hval]
      go_roundw
      case rel =>
        refine ⟨i + 1, by omega, by go_num, ?_, ?_, ?_⟩
        · have h1 := HR4.out
          rw [← Nat.succ_mul] at h1
          exact h1.below (B := br + 1) ((Below.refl _ _).setCell (p := ⟨g, i, none⟩) (by show br + 1 ≤ g; omega) _) (by omega)
        · have h1 := (HO4.out.stored i (.int .u64 (unN k M i : Nat))).1
          rw [rowV_set] at h1
          rw [rowV_congr (g := fun j => if j = i then .int .u64 (unN k M i : Nat) else .int .u64 (if j < i then (unN k M j : Nat) else 0 : Int)) (fun j hj => by
            by_cases e : j = i
            · subst e; simp
            · rw [if_neg e]
              by_cases e2 : j < i
              · rw [if_pos e2, if_pos (by omega)]
              · rw [if_neg e2, if_neg (by omega)])]
          exact h1
        · have h1 : Below w.heap.size wr w3 := HT4.out.below fun j hj => ⟨by have := HB3.out.size; omega, fun e => by have := HBR.out; omega⟩
          exact (HB3.out.trans h1).setCell (p := ⟨g, i, none⟩) hwg _
      case measure => simp [intOf]; omega
    · obtain rfl : i = n := by omega
      have GO := Lib.hid (fun (j : Nat) => get_ok br d z (i * k) (8 * d - i * k) HZ.out (by omega) (by have := HD.out; omega) (by have := HD.out; omega) (wr.drewN j) (hr.drewN j))
      have LE := Lib.hid (left_any br d z (i * k) (by omega) (by have := HD.out; omega) wr hr)
      have hMr : M / 2 ^ (i * k) % 2 ^ (8 * d - i * k) = M / 2 ^ (i * k) := by
        apply Nat.mod_eq_of_lt
        rw [Nat.div_lt_iff_lt_mul (Nat.pow_pos (by decide)), ← Nat.pow_add, Nat.sub_add_cancel (by have := HD.out; omega)]
        exact HML.out
      rw [HM.out, hMr] at GO
      have HO3 := Lib.hid ho
      have HB3 := Lib.hid hb
      clear hr ho hb hMr
      have KT := Lib.hid (fun (w2 w3 : World) (he : Below wr.heap.size wr w2) (ht3 : Turned (· = br) w2 w3) => owns_turned (owns_turned HO3.out (Turned.of_below (S := fun _ => False) he (fun i hi _ => hi)) (fun _ _ h => h)) ht3 (fun j hj (e : j = br) => by
        have : g = j := by simpa [Value.ownBlock] using hj
        omega))
      have KB : ∀ (w2 w3 : World) (he : Below wr.heap.size wr w2) (ht3 : Turned (· = br) w2 w3), Below w.heap.size w w3 := fun w2 w3 he ht3 => by
        have h1 : Below w.heap.size w2 w3 := ht3.below fun j hj => ⟨by have := HB3.out.size; have := he.size; omega, fun e => by have := HBR.out; omega⟩
        exact (HB3.out.trans (he.mono HB3.out.size)).trans h1
      have KB := Lib.hid KB
      obtain ⟨L, hL⟩ : ∃ L, 8 * d - i * k = L := ⟨_, rfl⟩
      rw [hL] at GO LE
      clear hL
      by_cases hM0 : M < 2 ^ (i * k)
      · rw [Nat.div_eq_of_lt hM0] at GO
        have HM0 := Lib.hid hM0
        clear hM0
        go_wp2_with (first | (go_at_call 142; refine LE.out.mono ?_; rintro e w3 ⟨rfl, j, rfl⟩) | (go_at_call 141; refine (GO.out _).mono ?_; rintro e w4 ⟨rfl, hr4, ht4⟩; have HR4 := Lib.hid hr4; have HT4 := Lib.hid ht4; clear hr4 ht4))
        go_ret2
        unfold UnpackEnd
        rw [if_pos HM0.out]
        have hlaid : Below wr.heap.size wr (wr.drewN j) := ⟨rfl, rfl, rfl, Nat.le_refl _, fun _ _ => rfl⟩
        refine ⟨_, rfl, ?_, KB.out _ _ hlaid HT4.out⟩
        have h1 := owns_base (KT.out _ _ hlaid HT4.out) (base' := w.heap.size) (fun j hj => by
          have : g = j := by simpa [Value.ownBlock] using hj
          omega)
        rw [rowV_congr (g := fun j => .int .u64 (unN k M j : Nat)) (fun j hj => by rw [if_pos hj])] at h1
        exact h1
      · obtain ⟨X, hX⟩ : ∃ X, M / 2 ^ (i * k) = X := ⟨_, rfl⟩
        have hX0 : X ≠ 0 := by
          rw [← hX]
          have := Nat.div_pos (Nat.le_of_not_lt hM0) (Nat.pow_pos (by decide))
          omega
        rw [hX] at GO
        have hx1 : ((X : Int) != 0) = true := by rw [bne_iff_ne]; omega
        have HM0 := Lib.hid hM0
        clear hM0 hX hX0
        go_wp2_with (first | (go_at_call 142; refine LE.out.mono ?_; rintro e w3 ⟨rfl, j, rfl⟩) | (go_at_call 141; refine (GO.out _).mono ?_; rintro e w4 ⟨rfl, hr4, ht4⟩; have HR4 := Lib.hid hr4; have HT4 := Lib.hid ht4; clear hr4 ht4))
        go_ret2
        unfold UnpackEnd
        rw [if_neg HM0.out]
        have hlaid : Below wr.heap.size wr (wr.drewN j) := ⟨rfl, rfl, rfl, Nat.le_refl _, fun _ _ => rfl⟩
        exact ⟨rfl, KB.out _ _ hlaid HT4.out⟩
end Go.Proofs.Ythonjffojaljdaa


/-
  CONTRACTS OF the document's own answers on bits: Has, Number, Fits, Bits, Bytes, Same. Conditions: those that each names.
-/
namespace Go.Proofs.Ythonjffojaljdaa
open Go.RowKit
set_option linter.unusedVariables false
/-- A bit of a number. -/
def bitB (N i : Nat) : Bool := decide (N / 2 ^ i % 2 = 1)
theorem has_any (b off n cap : Nat) (z : Nat → Int) (hz : ∀ i, i < n → 0 ≤ z i ∧ z i ≤ 255) (hn : n ≤ 10000) (j : Nat) (hj : j < 8 * n) (w : World) (h : RowOf w (some ⟨b, off, none⟩) n (fun i => .int .u8 (z i))) (x : Bool) (hx : bitB (num z n) j = x) :
    Calls Try.prog 91 #[.slice (some ⟨b, off, none⟩) n cap, .int .i64 j] w fun e w' => e = .returned (.bool x) ∧ w = w' := by
  have hjn : j / 8 < n := by omega
  obtain ⟨b', off', ha, hb, hc⟩ := h.at_ hjn
  injection ha with ha
  injection ha with hb1 hb2
  subst hb1 hb2
  have c0 : w.cell? ⟨b, off + j / 8, none⟩ = some (.int .u8 (z (j / 8))) := hc _ hjn
  have zb := hz _ hjn
  have he : z (j / 8) / 2 ^ (j % 8) % 2 = ((num z n / 2 ^ j % 2 : Nat) : Int) := by
    obtain ⟨y, hy⟩ : ∃ y : Nat, z (j / 8) = y := ⟨(z (j / 8)).toNat, by omega⟩
    have h1 : y = num z n / 256 ^ (j / 8) % 256 := by rw [num_byte z n hz _ hjn, hy]; simp
    have h2 := get_byte (num z n) j
    rw [← h1] at h2
    have h3 : num z n / 2 ^ j % 2 = y / 2 ^ (j % 8) % 2 := by
      rw [h2, Nat.mod_mod_of_dvd]
      exact ⟨2 ^ (8 - j % 8 - 1), by rw [← Nat.pow_succ']; congr 1; omega⟩
    rw [h3, hy]; simp
  have q1 : (j : Int) / 8 < n := by omega
  have q0 : (0 : Int) ≤ (j : Int) / 8 := by omega
  have ht : (z (j / 8) / 2 ^ (j % 8) % 2 == 1) = x := by
    rw [he, ← hx]; unfold bitB
    by_cases h1 : num z n / 2 ^ j % 2 = 1
    · rw [h1]; rfl
    · have h2 : num z n / 2 ^ j % 2 = 0 := by omega
      rw [h2]; rfl
  have zq : 0 ≤ z (j / 8) / 2 ^ (j % 8) := Int.ediv_nonneg zb.1 (Int.pow_nonneg (by decide))
  clear hc h hz hx he
  go_enter Try.func91, Try.ntmps91
  go_wp2
  go_ret
  exact ⟨rfl, rfl⟩
theorem bitB_val (N i : Nat) : N / 2 ^ i % 2 = if bitB N i then 1 else 0 := by
  unfold bitB
  by_cases h : N / 2 ^ i % 2 = 1
  · simp [h]
  · have : N / 2 ^ i % 2 = 0 := by omega
    simp [this]
theorem take_up (M f j k : Nat) (hj : j + 1 ≤ k) : M / 2 ^ (f + j) % 2 ^ (k - j) = 2 * (M / 2 ^ (f + (j + 1)) % 2 ^ (k - (j + 1))) + M / 2 ^ (f + j) % 2 := by
  have e1 : M / 2 ^ (f + (j + 1)) = M / 2 ^ (f + j) / 2 := by
    rw [← Nat.add_assoc, Nat.pow_succ, Nat.div_div_eq_div_mul]
  rw [e1]
  generalize M / 2 ^ (f + j) = X
  have e2 : 2 ^ (k - j) = 2 * 2 ^ (k - (j + 1)) := by rw [← Nat.pow_succ']; congr 1; omega
  rw [e2, Nat.mod_mul]
  omega
set_option maxHeartbeats 1000000 in
theorem number_any (a : Option Addr) (n cap : Nat) (z : Nat → Int) (hz : ∀ i, i < n → 0 ≤ z i ∧ z i ≤ 255) (hn : n ≤ 10000) (f k : Nat) (hk : k ≤ 64) (hf : f + k ≤ 8 * n) (w : World) (h : RowOf w a n (fun i => .int .u8 (z i))) :
    Calls Try.prog 49 #[.slice a n cap, .int .i64 f, .int .i64 k] w fun e w' => e = .returned (.int .u64 ((num z n / 2 ^ f % 2 ^ k : Nat) : Int)) ∧ w = w' := by
  have H := Lib.hid h
  have HZ := Lib.hid hz
  clear h hz
  have hf0 : (0 : Int) ≤ f := by omega
  have hf1 : (f : Int) ≤ 80000 := by omega
  have hk1 : (k : Int) ≤ 64 := by omega
  obtain ⟨M, hM⟩ : ∃ M, num z n = M := ⟨_, rfl⟩
  have HM := Lib.hid hM
  go_enter Try.func49, Try.ntmps49
  go_wp2
  go_loop [7, 8] (fun v i => ∃ j : Nat, j ≤ k ∧ i = .int .i64 ((j : Int) - 1) ∧ v = .int .u64 ((M / 2 ^ (f + j) % 2 ^ (k - j) : Nat) : Int)) (fun _ i => (intOf i + 1).toNat)
  case atStart => exact ⟨k, by omega, by go_num, by simp [Nat.mod_one]⟩
  case round =>
    obtain ⟨j, hj, rfl, rfl⟩ := hrel
    cases j with
    | zero =>
      go_wp2
      go_ret
      exact ⟨rfl, rfl⟩
    | succ j =>
      have hjn : f + j < 8 * n := by omega
      obtain ⟨b, off, rfl, _, _⟩ := H.out.at_ (i := 0) (by omega)
      obtain ⟨x, hx⟩ : ∃ x, bitB (num z n) (f + j) = x := ⟨_, rfl⟩
      have HA := Lib.hid (has_any b off n cap z HZ.out hn (f + j) hjn w H.out x hx)
      rw [Int.natCast_add] at HA
      have e1 : ((j + 1 : Nat) : Int) - 1 = j := by omega
      rw [e1]
      have hT := take_up M f j k hj
      rw [bitB_val, ← HM.out, hx, HM.out] at hT
      have hb : M / 2 ^ (f + (j + 1)) % 2 ^ (k - (j + 1)) < 2 ^ (k - (j + 1)) := Nat.mod_lt _ (Nat.pow_pos (by decide))
      have hp : 2 ^ (k - (j + 1)) ≤ 2 ^ 63 := Nat.pow_le_pow_right (by decide) (by omega)
      have hV2 : 2 * (M / 2 ^ (f + (j + 1)) % 2 ^ (k - (j + 1))) + 1 < 18446744073709551616 := by
        have : (2 : Nat) ^ 63 = 9223372036854775808 := by decide
        omega
      clear hb hp
      generalize M / 2 ^ (f + (j + 1)) % 2 ^ (k - (j + 1)) = V at *
      have gv : 2 * (V : Int) + 1 ≤ 18446744073709551615 := by omega
      have g0 : 0 ≤ (V : Int) := by omega
      have hj1 : (j : Int) ≤ 64 := by omega
      have HT := Lib.hid hT
      clear hT hV2 hx e1
      cases x
      all_goals
        go_wp2_with (go_at_call 91; refine HA.out.mono ?_; rintro e w' ⟨rfl, rfl⟩)
        go_round
        case rel => exact ⟨j, by omega, by go_num, congrArg (Value.int .u64) (by rw [HT.out]; simp)⟩
        case measure => simp [intOf]
end Go.Proofs.Ythonjffojaljdaa


/-
  CONTRACTS OF the document's own answers on bits: Fits, Bits, Bytes, Same. Conditions: those that each names.
-/
namespace Go.Proofs.Ythonjffojaljdaa
open Go.RowKit
set_option linter.unusedVariables false
theorem boolInfo : (Try.prog.info? 4).map (fun i => (i.zero, i.size, i.bytes)) = some (some (.bool false), 1, 1) := by kernel_rfl
theorem rfits_any (v k : Nat) (hv : v < 18446744073709551616) (hk : k ≤ 64) (x : Bool) (hx : decide (v < 2 ^ k) = x) (w : World) :
    Calls Try.prog 47 #[.int .u64 v, .int .i64 k] w fun e w' => e = .returned (.bool x) ∧ w = w' := by
  have hk1 : (k : Int) ≤ 64 := by omega
  have ht : ((v / 2 ^ k : Nat) == 0) = x := by
    rw [← hx]
    by_cases h : v < 2 ^ k
    · rw [Nat.div_eq_of_lt h]; simp [h]
    · have : 0 < v / 2 ^ k := Nat.div_pos (Nat.le_of_not_lt h) (Nat.pow_pos (by decide))
      have h2 : v / 2 ^ k ≠ 0 := by omega
      simp [h, h2]
  have HT := Lib.hid ht
  clear ht hx
  go_enter Try.func47, Try.ntmps47
  go_wp2
  go_loop [0, 5] (fun u i => ∃ j : Nat, j ≤ k ∧ i = .int .i64 j ∧ u = .int .u64 ((v / 2 ^ j : Nat) : Int)) (fun _ i => k - (intOf i).toNat)
  case atStart => exact ⟨0, by omega, rfl, by simp⟩
  case round =>
    obtain ⟨j, hj, rfl, rfl⟩ := hrel
    by_cases hjk : j < k
    · have j1 : (j : Int) < k := by omega
      have e : v / 2 ^ j / 2 = v / 2 ^ (j + 1) := by rw [Nat.pow_succ, Nat.div_div_eq_div_mul]
      have E := Lib.hid e
      have hle : v / 2 ^ j ≤ v := Nat.div_le_self _ _
      clear e
      generalize v / 2 ^ j = V at *
      go_wp2
      go_round
      case rel => exact ⟨j + 1, by omega, by go_num, congrArg (Value.int .u64) (by rw [← E.out]; simp)⟩
      case measure => simp [intOf]; omega
    · obtain rfl : j = k := by omega
      have hb : (((v / 2 ^ j : Nat) : Int) == 0) = x := by
        rw [← HT.out]
        generalize v / 2 ^ j = V
        by_cases h : V = 0
        · subst h; rfl
        · have h1 : (V == 0) = false := by simp [h]
          have h2 : ((V : Int) == 0) = false := by rw [beq_eq_false_iff_ne]; omega
          rw [h1, h2]
      obtain ⟨V, hV⟩ : ∃ V, v / 2 ^ j = V := ⟨_, rfl⟩
      rw [hV] at hb
      rw [hV]
      clear hV
      go_wp2
      go_ret
      exact ⟨rfl, rfl⟩
/-- Bits of a number, as cells. -/
def bitsV (N n : Nat) : List Value := rowV (fun i => .bool (bitB N i)) n
theorem bitsV_succ (N n : Nat) : bitsV N (n + 1) = bitsV N n ++ [.bool (bitB N n)] := rowV_succ _ _
theorem bitB_low {N c v i : Nat} (hN : N < 2 ^ c) (hi : i < c) : bitB (N + v * 2 ^ c) i = bitB N i := by
  unfold bitB
  obtain ⟨d, rfl⟩ : ∃ d, c = i + 1 + d := ⟨c - i - 1, by omega⟩
  have e : v * 2 ^ (i + 1 + d) = 2 * (v * 2 ^ d) * 2 ^ i := by rw [Nat.pow_add, Nat.pow_succ]; ac_rfl
  rw [e, Nat.add_mul_div_right _ _ (Nat.pow_pos (by decide))]
  have : (N / 2 ^ i + 2 * (v * 2 ^ d)) % 2 = N / 2 ^ i % 2 := by omega
  rw [this]
theorem bitB_high {N c v i : Nat} (hN : N < 2 ^ c) : bitB (N + v * 2 ^ c) (c + i) = bitB v i := by
  unfold bitB
  rw [Nat.pow_add, ← Nat.div_div_eq_div_mul, Nat.add_mul_div_right _ _ (Nat.pow_pos (by decide)), Nat.div_eq_of_lt hN, Nat.zero_add]
theorem bitsV_append (N c v k : Nat) (hN : N < 2 ^ c) : bitsV N c ++ bitsV v k = bitsV (N + v * 2 ^ c) (c + k) := by
  induction k with
  | zero =>
    simp only [bitsV, rowV, List.range_zero, List.map_nil, List.append_nil, Nat.add_zero]
    exact List.map_congr_left fun i hi => by rw [bitB_low hN (by simpa using hi)]
  | succ k ih =>
    rw [bitsV_succ, ← List.append_assoc, ih, ← Nat.add_assoc, bitsV_succ, bitB_high hN]
set_option maxRecDepth 100000 in
set_option maxHeartbeats 1000000 in
theorem rbits_any (v k : Nat) (hv : v < 18446744073709551616) (hk : k ≤ 64) (w : World) :
    Calls Try.prog 76 #[.int .u64 v, .int .i64 k] w fun e w' => ∃ x, e = .returned x ∧ w'.ownsRow w.heap.size 4 1 x k (bitsV v k) ∧ Below w.heap.size w w' := by
  obtain ⟨i0, hi, hz0, hz1, hz2⟩ := info_parts boolInfo
  have hk1 : (k : Int) ≤ 64 := by omega
  go_enter Try.func76, Try.ntmps76
  go_wp2
  go_loopw [0, 5, 6] (fun u x i wr => ∃ j : Nat, j ≤ k ∧ i = .int .i64 j ∧ u = .int .u64 ((v / 2 ^ j : Nat) : Int) ∧ wr.ownsRow w.heap.size 4 1 x j (bitsV v j) ∧ Below w.heap.size w wr) (fun _ _ i _ => k - (intOf i).toNat)
  case atStart => exact ⟨0, by omega, rfl, by simp, World.ownsRow_nil _ _ _ _, Below.refl _ _⟩
  case round =>
    obtain ⟨j, hj, rfl, rfl, ho, hb⟩ := hrel
    have HO := Lib.hid ho
    have HB := Lib.hid hb
    have hsz := hb.size
    clear ho hb
    by_cases hjk : j < k
    · have j1 : (j : Int) < k := by omega
      have e : v / 2 ^ j / 2 = v / 2 ^ (j + 1) := by rw [Nat.pow_succ, Nat.div_div_eq_div_mul]
      have E := Lib.hid e
      have hle : v / 2 ^ j ≤ v := Nat.div_le_self _ _
      have hb2 : ((((v / 2 ^ j : Nat) : Int) % 2) == 1) = bitB v j := by
        unfold bitB
        generalize v / 2 ^ j = V
        by_cases h : V % 2 = 1
        · have : ((V : Int) % 2) = 1 := by omega
          rw [this, h]; rfl
        · have h0 : V % 2 = 0 := by omega
          have : ((V : Int) % 2) = 0 := by omega
          rw [this, h0]; rfl
      have E2 := Lib.hid (bitsV_succ v j)
      clear e
      generalize bitB v j = x at *
      generalize v / 2 ^ j = V at *
      go_wp2_with (at_builtin; go_must (refine wpList_append_own_at _ rfl _ _ 100 rfl w.heap.size 4 i0 (.bool false) 1 1 Try.underlying100 hi hz0 hz1 hz2 rfl (by decide) _ _ _ rfl (HO.out.alloc _) ⟨wr.heap.size, 0, none⟩ 1 1 [.bool x] rfl rfl (cell_one_new _ _ _) (by simp [Value.oneCell']) (by unfold maxLen; omega) (by omega) (by simp; omega) ?_); intro v2 w2 hown2 hgrow2 _ _; have HO2 := Lib.hid hown2; have HG2 := Lib.hid hgrow2; clear hown2 hgrow2)
      go_roundw
      case rel => exact ⟨j + 1, by omega, by go_num, congrArg (Value.int .u64) (by rw [← E.out]; simp), by rw [E2.out]; exact HO2.out, (HB.out.alloc hsz _).grown HG2.out (by simp; omega) (fun i hi => (HO.out.lt i hi).1)⟩
      case measure => simp [intOf]; omega
    · obtain rfl : j = k := by omega
      go_wp2
      go_ret
      exact ⟨_, rfl, HO.out, HB.out⟩
theorem bit_cells (n q i N : Nat) (hq : i / 8 = q) (hqn : q < n) :
    (cellsOf (bytesOf n (N % 2 ^ i))).set q (.int .u8 (((N % 2 ^ i) / 256 ^ q % 256 + 2 ^ (i % 8) : Nat) : Int)) = cellsOf (bytesOf n (N % 2 ^ i + 2 ^ i)) ∧ (N % 2 ^ i) / 256 ^ q % 256 + 2 ^ (i % 8) < 256 := by
  have hM : N % 2 ^ i < 2 ^ i := Nat.mod_lt _ (Nat.pow_pos (by decide))
  generalize N % 2 ^ i = M at *
  have hx : (1 : Nat) % 2 ^ (8 - i % 8) = 1 := Nat.mod_eq_of_lt (Nat.one_lt_two_pow (by omega))
  have hp := fun k => put_step M i 1 k hM
  simp only [hx, Nat.one_mul, hq] at hp
  have hr : i % 8 < 8 := Nat.mod_lt _ (by decide)
  have h2r : 2 ^ (i % 8) ≤ 128 := (Nat.pow_le_pow_right (by decide) (by omega : i % 8 ≤ 7) : 2 ^ (i % 8) ≤ 2 ^ 7)
  have hlow : M / 256 ^ q < 2 ^ (i % 8) := by
    rw [Nat.div_lt_iff_lt_mul (Nat.pow_pos (by decide)), Nat.mul_comm, ← hq, ← pow8]; exact hM
  have hor : (M / 256 ^ q % 256) ||| (1 * 2 ^ (i % 8) % 256) = M / 256 ^ q % 256 + 2 ^ (i % 8) := by
    rw [Nat.mod_eq_of_lt (by omega : M / 256 ^ q < 256), Nat.one_mul, Nat.mod_eq_of_lt (by omega : 2 ^ (i % 8) < 256)]
    have := or_add (M / 256 ^ q) 1 (i % 8) hlow
    rwa [Nat.one_mul] at this
  rw [Nat.one_mul] at hor
  rw [hor] at hp
  have hs : M / 256 ^ q % 256 + 2 ^ (i % 8) < 256 := by
    have h1 := Nat.mod_le (M / 256 ^ q) 256
    have h2 : M / 256 ^ q < 128 := Nat.lt_of_lt_of_le hlow h2r
    have h3 : 2 ^ (i % 8) < 129 := Nat.lt_of_le_of_lt h2r (by decide)
    omega
  refine ⟨?_, hs⟩
  apply List.ext_getElem?
  intro j
  by_cases hj : j < n
  · by_cases e : j = q
    · subst e
      rw [List.getElem?_set_self (by simp [cellsOf, bytesOf, hqn])]
      simp only [cellsOf, List.getElem?_map, bytesOf_get _ _ _ hj]
      rw [hp j, if_pos rfl]; rfl
    · rw [List.getElem?_set_ne (by omega)]
      simp only [cellsOf, List.getElem?_map, bytesOf_get _ _ _ hj]
      rw [hp j, if_neg e]
  · rw [List.getElem?_eq_none (by simp [cellsOf, bytesOf]; omega), List.getElem?_eq_none (by simp [cellsOf, bytesOf]; omega)]
theorem mod_up (N i : Nat) : N % 2 ^ (i + 1) = N % 2 ^ i + if bitB N i then 2 ^ i else 0 := by
  rw [Nat.pow_succ, Nat.mod_mul, bitB_val]
  split <;> simp
set_option maxRecDepth 100000 in
set_option maxHeartbeats 1000000 in
theorem rbytes_any (a : Option Addr) (c cap N : Nat) (hN : N < 2 ^ c) (hc : c ≤ 80000) (w : World) (h : RowOf w a c (fun i => .bool (bitB N i))) :
    Calls Try.prog 77 #[.slice a c cap] w fun e w' => ∃ x, e = .returned x ∧ w'.ownsRow w.heap.size 5 1 x ((c + 7) / 8) (cellsOf (bytesOf ((c + 7) / 8) N)) ∧ Below w.heap.size w w' := by
  obtain ⟨i0, hi, hz0, hz1, hz2⟩ := info_parts byteInfo
  have H := Lib.hid h
  have HN := Lib.hid hN
  have hc0 : (c : Int) ≤ 80000 := by omega
  have hn : ((c : Int) + 7) / 8 = ((c + 7) / 8 : Nat) := by omega
  obtain ⟨n, hnn⟩ : ∃ n, (c + 7) / 8 = n := ⟨_, rfl⟩
  rw [hnn] at hn
  rw [hnn]
  have HNN := Lib.hid hnn
  have hn8 : n ≤ 10001 := by omega
  have hz : (madeCells #[Value.int .u8 0] (n * 1)).toList = cellsOf (bytesOf n 0) := by
    rw [Nat.mul_one, toList_madeCells_one]
    apply List.ext_getElem?
    intro j
    by_cases hj : j < n
    · simp [cellsOf, bytesOf, hj]
    · rw [List.getElem?_eq_none (by simp; omega), List.getElem?_eq_none (by simp [cellsOf, bytesOf]; omega)]
  have HZ := Lib.hid hz
  clear h hN hnn hz
  go_enter Try.func77, Try.ntmps77
  go_wp2_with (at_make; go_must (refine wpList_make_full _ rfl _ _ 26 rfl w.heap.size 5 i0 (.int .u8 0) 1 Try.underlying26 hi hz0 hz1 _ _ _ _ n rfl rfl (by first | rfl | assumption) (by first | rfl | assumption) (by rw [hz2]; omega) (by unfold maxLen; omega) (by omega) ?_); intro w2 hown hg; rw [show (Value.int .u8 0).cells = #[Value.int .u8 0] from rfl, HZ.out] at hown; have HO := Lib.hid hown; have HG := Lib.hid hg; clear hown hg)
  obtain ⟨g, hgg⟩ : ∃ g, w.heap.size = g := ⟨_, rfl⟩
  have HB : Below w.heap.size w w2 := (Below.refl _ w).grown HG.out (Nat.le_refl _) (fun k hk => by cases hk)
  have HB := Lib.hid HB
  clear HG
  rw [hgg] at HO
  rw [hgg]
  have HGG := Lib.hid hgg
  clear hgg hn
  go_loopw [4] (fun x wr => ∃ i : Nat, i ≤ c ∧ x = .int .i64 i ∧ wr.ownsRow g 5 1 (.slice (some ⟨g, 0, none⟩) n n) n (cellsOf (bytesOf n (N % 2 ^ i))) ∧ Below w.heap.size w wr) (fun x _ => c - (intOf x).toNat)
  case atStart => exact ⟨0, by omega, rfl, by simpa [Nat.mod_one] using HO.out, HB.out⟩
  case round =>
    obtain ⟨i, hi1, rfl, ho, hb⟩ := hrel
    by_cases hic : i < c
    · have i1 : (i : Int) < c := by omega
      obtain ⟨b, off, rfl, hblt, hcell⟩ := (H.out.below hb).at_ hic
      have c0 : wr.cell? ⟨b, off + i, none⟩ = some (.bool (bitB N i)) := hcell i hic
      obtain ⟨q, hq⟩ : ∃ q, i / 8 = q := ⟨_, rfl⟩
      have hqn : q < n := by have := HNN.out; omega
      have qi : (i : Int) / 8 = q := by omega
      have q1 : (q : Int) < n := by omega
      have q0 : (0 : Int) ≤ q := by omega
      have d0 : wr.cell? ⟨g, q, none⟩ = some (.int .u8 ((N % 2 ^ i / 256 ^ q % 256 : Nat) : Int)) := by
        rw [ho.cellAt q (by omega)]
        simp [cellsOf, bytesOf, hqn]
      have d1 := ho.frozenAt q
      obtain ⟨C1, C2⟩ := bit_cells n q i N hq hqn
      have HC1 := Lib.hid C1
      have HO2 := Lib.hid ho
      have HB2 := Lib.hid hb
      have MU := Lib.hid (mod_up N i)
      clear C1 ho hb hcell hq
      generalize N % 2 ^ i / 256 ^ q % 256 = V at *
      generalize bitB N i = x at *
      cases x
      · go_wp2
        go_roundw
        case rel => exact ⟨i + 1, by omega, by go_num, by rw [MU.out]; simpa using HO2.out, HB2.out⟩
        case measure => simp [intOf]; omega
      · have hval : ((V : Int) + 2 ^ (i % 8)) % 256 = ((V + 2 ^ (i % 8) : Nat) : Int) := by
          have : (2 : Int) ^ (i % 8) = ((2 ^ (i % 8) : Nat) : Int) := by simp
          rw [this, ← Int.natCast_add]
          generalize V + 2 ^ (i % 8) = y at *
          omega
        have HV := Lib.hid hval
        clear hval
        go_wp2
        go_region
        go_wp2
        rw [HV.out]
        go_roundw
        case rel =>
          refine ⟨i + 1, by omega, by go_num, ?_, ?_⟩
          · rw [MU.out, if_pos trivial, ← HC1.out]
            exact (HO2.out.stored q _).1
          · exact (HB2.out.setCell (p := ⟨g, q, none⟩) (by have := HGG.out; simp; omega) _).drew
        case measure => simp [intOf]; omega
    · obtain rfl : i = c := by omega
      have HO2 := Lib.hid ho
      have HB2 := Lib.hid hb
      clear ho hb
      go_wp2
      go_ret
      refine ⟨_, rfl, ?_, HB2.out⟩
      have h1 := HO2.out
      rw [Nat.mod_eq_of_lt HN.out] at h1
      exact owns_base h1 (fun j hj => by have := (h1.lt j hj).1; have := HGG.out; omega)
end Go.Proofs.Ythonjffojaljdaa


/-
  CONTRACTS OF the document's own Pack and Unpack of bits: they tell what the program's tell. Conditions: those that each names.
-/
namespace Go.Proofs.Ythonjffojaljdaa
open Go.RowKit
set_option linter.unusedVariables false
theorem rpack_width (k : Int) (h : ¬ (0 ≤ k ∧ k ≤ 64)) (v : Value) (w : World) :
    Calls Try.prog 38 #[.int .i64 k, v] w fun e w' => e = .returned (.tuple #[.slice none 0 0, .int .i64 6]) ∧ w = w' := by
  have WN := Lib.hid (fun W => rWide_no k h W)
  clear h
  go_enter Try.func38, Try.ntmps38
  go_wp2_with (go_at_call 75; refine (WN.out _).mono ?_; rintro e w' ⟨rfl, rfl⟩)
  go_ret2
  exact ⟨rfl, rfl⟩
theorem rpack_count (k : Int) (h : 0 ≤ k ∧ k ≤ 64) (a : Option Addr) (len cap : Nat) (hl : 1024 < len) (w : World) :
    Calls Try.prog 38 #[.int .i64 k, .slice a len cap] w fun e w' => e = .returned (.tuple #[.slice none 0 0, .int .i64 7]) ∧ w = w' := by
  have WY := Lib.hid (fun W => rWide_yes k h.1 h.2 W)
  have hl2 : (1024 : Int) < len := by omega
  clear h hl
  go_enter Try.func38, Try.ntmps38
  go_wp2_with (first | (go_at_call 75; refine (WY.out _).mono ?_; rintro e w' ⟨rfl, rfl⟩))
  go_ret2
  exact ⟨rfl, rfl⟩
set_option maxRecDepth 100000 in
set_option maxHeartbeats 1000000 in
theorem rpack_any (k : Nat) (hk : k ≤ 64) (a : Option Addr) (len cap : Nat) (l : Nat → Nat) (f : Nat) (hl : len ≤ 1024) (hf : f ≤ len) (h1 : ∀ i, i < f → l i < 2 ^ k) (h2 : f < len → ¬ l f < 2 ^ k) (w : World) (h : U64s w a len l) :
    Calls Try.prog 38 #[.int .i64 k, .slice a len cap] w (PackEnd k l len f w) := by
  obtain ⟨i0, hi, hz0, hz1, hz2⟩ := info_parts boolInfo
  have WY := Lib.hid (fun W => rWide_yes k (by omega) (by omega) W)
  have hl2 : ¬ (1024 : Int) < len := by omega
  have H := Lib.hid h
  have H1 := Lib.hid h1
  have H2 := Lib.hid h2
  clear h h1 h2
  go_enter Try.func38, Try.ntmps38
  go_wp2_with (first | (go_at_call 75; refine (WY.out _).mono ?_; rintro e w' ⟨rfl, rfl⟩))
  go_loopw [6, 7] (fun v x wr => ∃ i : Nat, i ≤ f ∧ x = .int .i64 i ∧ wr.ownsRow w.heap.size 4 1 v (i * k) (bitsV (packN k l i) (i * k)) ∧ Below w.heap.size w wr) (fun _ x wr => len - (intOf x).toNat)
  case atStart => exact ⟨0, by omega, rfl, by rw [Nat.zero_mul]; exact World.ownsRow_nil _ _ _ _, Below.refl _ _⟩
  case round =>
    obtain ⟨i, hi1, rfl, ho, hb⟩ := hrel
    have hik : i * k ≤ 1024 * 64 := Nat.mul_le_mul (by omega) hk
    have hsz := hb.size
    by_cases hif : i < f
    · have hil : i < len := by omega
      obtain ⟨b, off, rfl, hblt, hc⟩ := (H.out.1.below hb).at_ hil
      have c0 : wr.cell? ⟨b, off + i, none⟩ = some (.int .u64 (l i : Nat)) := hc i hil
      have c1 : ∀ w1, Below wr.heap.size wr w1 → w1.cell? ⟨b, off + i, none⟩ = some (.int .u64 (l i : Nat)) := fun w1 h1 => (h1.cell (p := ⟨b, off + i, none⟩) hblt).trans (hc i hil)
      have C1 := Lib.hid c1
      have FY := Lib.hid (fun W => rfits_any (l i) k (H.out.2 i hil) hk true (by simpa using H1.out i hif) W)
      have RB := Lib.hid (fun W => rbits_any (l i) k (H.out.2 i hil) hk W)
      have AP := Lib.hid (bitsV_append (packN k l i) (i * k) (l i) k (packN_lt k l i (fun j hj => H1.out j (by omega))))
      have hpk : packN k l i + l i * 2 ^ (i * k) = packN k l (i + 1) := rfl
      rw [hpk, ← Nat.succ_mul] at AP
      have HO := Lib.hid ho
      have HB := Lib.hid hb
      have HIK := Lib.hid hik
      clear ho hb hc c1 hpk hik
      have i1 : (i : Int) < len := by omega
      generalize l i = u at *
      obtain ⟨m, hm⟩ : ∃ m, i * k = m := ⟨_, rfl⟩
      have HMM := Lib.hid hm
      rw [hm] at HO AP HIK
      have hm1 : m ≤ 65536 := HIK.out
      clear hm
      go_wp2_with (first | (go_at_call 47; refine (FY.out _).mono ?_; rintro e w' ⟨rfl, rfl⟩) | (go_at_call 76; refine (RB.out _).mono ?_; rintro e w2 ⟨x, rfl, hx, hb2⟩; obtain ⟨a2, cap2, rfl, hr2, hb2a⟩ := own_reads' hx; have HX := Lib.hid hr2; have HB2 := Lib.hid hb2; have q1 := C1.out _ hb2; obtain ⟨v3, w3, hrun, ho3, hg3, _⟩ := run_append_row (P := Try.prog) w2 w.heap.size 100 100 4 i0 (.bool false) 1 Try.underlying100 hi hz0 hz1 hz2 rfl _ m _ (owns_turned HO.out (Turned.of_below (S := fun _ => False) hb2 (fun i hi _ => hi)) (fun _ _ h => h)) a2 k cap2 _ hr2 (fun i _ => rfl) (by unfold maxLen; omega) (by omega) (by have := hb2.size; omega); have HR3 := Lib.hid hrun; have HO3 := Lib.hid ho3; have HG3 := Lib.hid hg3; clear hx hr2 hb2 hb2a hrun ho3 hg3) | (at_builtin; go_must (refine wpList_append_ran _ _ rfl _ _ 100 rfl _ _ _ rfl rfl HR3.out ?_)))
      go_roundw
      case rel =>
        refine ⟨i + 1, by omega, by go_num, ?_, ?_⟩
        · have h5 : m + k = (i + 1) * k := by rw [Nat.succ_mul, HMM.out]
          rw [← AP.out, ← h5]
          exact HO3.out
        · exact (HB.out.trans (HB2.out.mono hsz)).grown HG3.out (by have := HB2.out.size; omega) (fun j hj => (HO.out.lt j hj).1)
      case measure => simp [intOf]; omega
    · obtain rfl : i = f := by omega
      by_cases hil : i < len
      · obtain ⟨b, off, rfl, hblt, hc⟩ := (H.out.1.below hb).at_ hil
        have c0 : wr.cell? ⟨b, off + i, none⟩ = some (.int .u64 (l i : Nat)) := hc i hil
        have FN := Lib.hid (fun W => rfits_any (l i) k (H.out.2 i hil) hk false (by simpa using H2.out hil) W)
        have HB2 := Lib.hid hb
        have i1 : (i : Int) < len := by omega
        clear ho hb hc hik
        go_wp2_with (go_at_call 47; refine (FN.out _).mono ?_; rintro e w' ⟨rfl, rfl⟩)
        go_ret2
        unfold PackEnd
        rw [if_pos hil]
        exact ⟨rfl, HB2.out⟩
      · obtain rfl : i = len := by omega
        have hlt := packN_lt k l i (fun j hj => H1.out j hj)
        obtain ⟨a2, cap2, rfl, hr2, hb2a⟩ := own_reads' ho
        have RB := Lib.hid (rbytes_any a2 (i * k) cap2 (packN k l i) hlt (by omega) wr hr2)
        have HB2 := Lib.hid hb
        clear ho hb hik hr2 hb2a hlt
        go_wp2_with (go_at_call 77; refine RB.out.mono ?_; rintro e w2 ⟨x, rfl, hx, hb2⟩; have HX := Lib.hid hx; have HB3 := Lib.hid hb2; clear hx hb2)
        go_ret2
        unfold PackEnd
        rw [if_neg (by omega)]
        exact ⟨_, rfl, owns_base HX.out (fun j hj => by have := (HX.out.lt j hj).1; omega), HB2.out.trans (HB3.out.mono hsz)⟩
theorem small_of_bits (M p q : Nat) (hM : M < 2 ^ q) (h : ∀ i, p ≤ i → i < q → bitB M i = false) : M < 2 ^ p := by
  apply Nat.lt_pow_two_of_testBit
  intro i hi
  by_cases hq : i < q
  · have := h i hi hq
    rw [Nat.testBit_eq_decide_div_mod_eq]
    exact this
  · exact Nat.testBit_lt_two_pow (Nat.lt_of_lt_of_le hM (Nat.pow_le_pow_right (by decide) (by omega)))
theorem bit_of_small (M p i : Nat) (h : M < 2 ^ p) (hi : p ≤ i) : bitB M i = false := by
  unfold bitB
  have : M < 2 ^ i := Nat.lt_of_lt_of_le h (Nat.pow_le_pow_right (by decide) hi)
  rw [Nat.div_eq_of_lt this]; rfl
end Go.Proofs.Ythonjffojaljdaa

