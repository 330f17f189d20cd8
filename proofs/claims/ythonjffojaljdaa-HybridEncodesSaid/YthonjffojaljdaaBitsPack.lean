/-
  CONTRACTS OF bits.Pack, in any world, of any numbers: the error that it tells, or the packed bytes, a row of its own; nothing that lay is turned. Conditions: the numbers lie in memory as told.
-/
import Derived.Test.YthonjffojaljdaaBitsPut
import Derived.Test.YthonjffojaljdaaBitsNew
namespace Go.Proofs.Ythonjffojaljdaa
open Go.RowKit
set_option linter.unusedVariables false
/-- Numbers of one width, one behind the other, the first one lowest. -/
def packN (k : Nat) (l : Nat → Nat) : Nat → Nat
  | 0 => 0
  | n + 1 => packN k l n + l n * 2 ^ (n * k)
theorem packN_lt (k : Nat) (l : Nat → Nat) : ∀ n, (∀ i, i < n → l i < 2 ^ k) → packN k l n < 2 ^ (n * k)
  | 0, _ => by simp [packN]
  | n + 1, h => by
    have h1 := packN_lt k l n (fun i hi => h i (by omega))
    have h2 := h n (by omega)
    have : (l n + 1) * 2 ^ (n * k) ≤ 2 ^ k * 2 ^ (n * k) := Nat.mul_le_mul_right _ h2
    rw [Nat.add_mul, Nat.one_mul] at this
    rw [Nat.succ_mul, Nat.pow_add, Nat.mul_comm (2 ^ (n * k))]
    simp only [packN]
    omega
theorem pack_width (k : Int) (h : ¬ (0 ≤ k ∧ k ≤ 64)) (v : Value) (w : World) :
    Calls Try.prog 99 #[.int .i64 k, v] w fun e w' => e = .returned (.tuple #[.slice none 0 0, .int .i64 6]) ∧ w = w' := by
  have WN := Lib.hid (fun W => isWidth_no k h W)
  clear h
  go_enter Try.func99, Try.ntmps99
  go_wp2_with (go_at_call 107; refine (WN.out _).mono ?_; rintro e w' ⟨rfl, rfl⟩)
  go_ret2
  exact ⟨rfl, rfl⟩
theorem pack_count (k : Int) (h : 0 ≤ k ∧ k ≤ 64) (a : Option Addr) (len cap : Nat) (hl : 1024 < len) (w : World) :
    Calls Try.prog 99 #[.int .i64 k, .slice a len cap] w fun e w' => e = .returned (.tuple #[.slice none 0 0, .int .i64 7]) ∧ w = w' := by
  have WY := Lib.hid (fun W => isWidth_yes k h.1 h.2 W)
  have CN := Lib.hid (fun W => isCount_no len (by omega) W)
  clear h hl
  go_enter Try.func99, Try.ntmps99
  go_wp2_with (first | (go_at_call 107; refine (WY.out _).mono ?_; rintro e w' ⟨rfl, rfl⟩) | (go_at_call 106; refine (CN.out _).mono ?_; rintro e w' ⟨rfl, rfl⟩))
  go_ret2
  exact ⟨rfl, rfl⟩
/-- What a row of numbers is in memory. -/
def U64s (w : World) (a : Option Addr) (len : Nat) (l : Nat → Nat) : Prop := RowOf w a len (fun i => .int .u64 (l i : Nat)) ∧ ∀ i, i < len → l i < 18446744073709551616
/-- How Pack ends: f is the first number that does not fit, or len. -/
def PackEnd (k : Nat) (l : Nat → Nat) (len f : Nat) (w : World) (e : Ending) (w' : World) : Prop :=
  if f < len then e = .returned (.tuple #[.slice none 0 0, .int .i64 4]) ∧ Below w.heap.size w w'
  else ∃ v, e = .returned (.tuple #[v, .int .i64 0]) ∧ w'.ownsRow w.heap.size 5 1 v (need len k) (cellsOf (bytesOf (need len k) (packN k l len))) ∧ Below w.heap.size w w'
theorem put_below {w w' : World} {B bw : Nat} {v : Value} {N c : Nat} (h : WriterAt w bw v N c) (ht : Turned (fun i => i = bw ∨ v.ownBlock = some i) w w') (hB : B ≤ bw) : Below B w w' :=
  ht.below fun i hi => ⟨by have := h.1.lt; omega, fun hs => by
    rcases hs with rfl | hs
    · omega
    · have := (h.2.1.lt i hs).1
      omega⟩
set_option maxRecDepth 100000 in
set_option maxHeartbeats 1000000 in
theorem pack_any (k : Nat) (hk : k ≤ 64) (a : Option Addr) (len cap : Nat) (l : Nat → Nat) (f : Nat) (hl : len ≤ 1024) (hf : f ≤ len) (h1 : ∀ i, i < f → l i < 2 ^ k) (h2 : f < len → ¬ l f < 2 ^ k) (w : World) (h : U64s w a len l) :
    Calls Try.prog 99 #[.int .i64 k, .slice a len cap] w (PackEnd k l len f w) := by
  have WY := Lib.hid (fun W => isWidth_yes k (by omega) (by omega) W)
  have CY := Lib.hid (fun W => isCount_yes len (by omega) (by omega) W)
  have H := Lib.hid h
  have H1 := Lib.hid h1
  have H2 := Lib.hid h2
  clear h h1 h2
  go_enter Try.func99, Try.ntmps99
  go_wp2_with (first | (go_at_call 107; refine (WY.out _).mono ?_; rintro e w' ⟨rfl, rfl⟩) | (go_at_call 106; refine (CY.out _).mono ?_; rintro e w' ⟨rfl, rfl⟩) | (go_at_call 127; refine (newWriter_any _).mono ?_; rintro e w0 ⟨rfl, hw, hb⟩; have HW := Lib.hid hw; have HB := Lib.hid hb; clear hw hb))
  obtain ⟨bw, hbw⟩ : ∃ bw, w.heap.size = bw := ⟨_, rfl⟩
  rw [hbw] at HW
  rw [hbw]
  have HBW := Lib.hid hbw
  clear hbw
  go_loopw [20] (fun x wr => ∃ (i : Nat) (v : Value), i ≤ f ∧ x = .int .i64 i ∧ WriterAt wr bw v (packN k l i) (i * k) ∧ Below w.heap.size w wr) (fun x wr => len - (intOf x).toNat)
  case atStart => exact ⟨0, _, by omega, rfl, by simpa [packN] using HW.out, HB.out⟩
  case round =>
    obtain ⟨i, v, hi, rfl, hw, hb⟩ := hrel
    have hik : i * k ≤ 1024 * 64 := Nat.mul_le_mul (by omega) hk
    by_cases hif : i < f
    · have hil : i < len := by omega
      obtain ⟨b, off, rfl, hblt, hc⟩ := (H.out.1.below hb).at_ hil
      have c0 : wr.cell? ⟨b, off + i, none⟩ = some (.int .u64 (l i : Nat)) := hc i hil
      have PU := Lib.hid (put_ok bw v (packN k l i) (i * k) (l i) k (H.out.2 i hil) hk (H1.out i hif) (by omega) wr hw)
      have HWR := Lib.hid hw
      have HB2 := Lib.hid hb
      clear hw hb hc hik
      have hne : ((i : Int) == (len : Int)) = false := by simp; omega
      have i1 : (i : Int) < len := by omega
      go_wp2_with (go_at_call 128; refine PU.out.mono ?_; rintro e w2 ⟨rfl, v2, hw2, ht2, _⟩; have HW2 := Lib.hid hw2; have HT2 := Lib.hid ht2; clear hw2 ht2)
      go_roundw
      case rel =>
        refine ⟨i + 1, v2, by omega, by go_num, ?_, HB2.out.trans ?_⟩
        · have := HW2.out
          rw [← Nat.succ_mul] at this
          exact this
        · exact put_below HWR.out HT2.out (by have := HBW.out; omega)
      case measure => simp [intOf]; omega
    · obtain rfl : i = f := by omega
      by_cases hil : i < len
      · obtain ⟨b, off, rfl, hblt, hc⟩ := (H.out.1.below hb).at_ hil
        have c0 : wr.cell? ⟨b, off + i, none⟩ = some (.int .u64 (l i : Nat)) := hc i hil
        have PU := Lib.hid (put_range bw (l i) k (H.out.2 i hil) hk (H2.out hil) wr)
        have HB2 := Lib.hid hb
        clear hw hb hc hik
        have i1 : (i : Int) < len := by omega
        go_wp2_with (go_at_call 128; refine PU.out.mono ?_; rintro e w2 ⟨rfl, rfl⟩)
        go_ret2
        unfold PackEnd
        rw [if_pos hil]
        exact ⟨rfl, HB2.out⟩
      · obtain rfl : i = len := by omega
        have c0 := hw.1.cell 0
        have HWR := Lib.hid hw
        have HB2 := Lib.hid hb
        clear hw hb hik
        go_wp2
        go_ret2
        unfold PackEnd
        rw [if_neg (by omega)]
        exact ⟨v, rfl, owns_base HWR.out.2.1 (fun j hj => by have := (HWR.out.2.1.lt j hj).1; have := HBW.out; omega), HB2.out⟩
end Go.Proofs.Ythonjffojaljdaa
