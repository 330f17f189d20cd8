/-
  CONTRACT OF varint.Get, in any world, for any row of bytes: the number, how many bytes and the error that the document asks for. Conditions: the bytes lie in memory as told.
-/
import Derived.Test.YthonjffojaljdaaRows
import Derived.Test.YthonjffojaljdaaHybM1
import Derived.WalkKit
import Derived.WalkLawsBesides
import Derived.WalkSpells
import Derived.ProofKit
import Derived.LoopTactic
import Derived.Lib.Hide
namespace Go.Proofs.Ythonjffojaljdaa
open Go.RowKit
set_option linter.unusedVariables false
theorem last_any (x : Int) (w : World) : Calls Try.prog 137 #[.int .u8 x] w fun e w' => e = .returned (.bool (decide (x < 128))) ∧ w = w' := by
  go_enter Try.func137, Try.ntmps137
  go_wp2
  go_ret
  exact ⟨rfl, rfl⟩
/-- A row of bytes in memory. -/
def BytesAt (w : World) (b off len : Nat) (z : Nat → Int) : Prop := ∀ i, i < len → w.cell? ⟨b, off + i, none⟩ = some (.int .u8 (z i))
/-- f is the place of the first byte that is the last one of a number, or the row's length. -/
def IsLast (z : Nat → Int) (len f : Nat) : Prop := f ≤ len ∧ (∀ i, i < f → ¬ z i < 128) ∧ (f < len → z f < 128)
/-- What a search for it tells. -/
def idx (f len : Nat) : Int := if f < len then (f : Int) else -1
theorem index_any (a : Option Addr) (b off len cap f : Nat) (z : Nat → Int) (hm : len ≤ 9223372036854775807) (hf : IsLast z len f) (w : World) (ha : len = 0 ∨ a = some ⟨b, off, none⟩) (hz : BytesAt w b off len z) :
    Calls Try.prog 136 #[.slice a len cap, .func (.func 137) #[] #[]] w fun e w' => e = .returned (.int .i64 (idx f len)) ∧ w = w' := by
  have HF := Lib.hid hf
  have HZ := Lib.hid hz
  have HA := Lib.hid ha
  have hkl := hf.1
  clear hf hz ha
  go_enter Try.func136, Try.ntmps136
  go_wp2_with fail
  go_loop [5, 8] (fun _ i => ∃ k : Nat, k ≤ f ∧ i = .int .i64 k) (fun _ i => len - (intOf i).toNat)
  case atStart => exact ⟨0, by omega, rfl⟩
  case round =>
    obtain ⟨k, hk, rfl⟩ := hrel
    by_cases hlt : k < len
    · obtain rfl : a = some ⟨b, off, none⟩ := HA.out.resolve_left (by omega)
      have hcell : w.cell? ⟨b, off + k, none⟩ = some (.int .u8 (z k)) := HZ.out k hlt
      by_cases hkf : k < f
      · have hd : decide (z k < 128) = false := by simpa using HF.out.2.1 k hkf
        have HD := Lib.hid hd
        clear hd
        go_wp2_with fail
        refine (last_any _ _).mono ?_
        rintro e w' ⟨rfl, rfl⟩
        rw [HD.out]
        go_wp2
        go_round
        case rel => exact ⟨k + 1, by omega, by go_num⟩
        case measure => simp [intOf]; omega
      · have hke : k = f := by omega
        have hd : decide (z k < 128) = true := by rw [hke]; simpa using HF.out.2.2 (by omega)
        have HD := Lib.hid hd
        have HE := Lib.hid hke
        clear hd hke
        go_wp2_with fail
        refine (last_any _ _).mono ?_
        rintro e w' ⟨rfl, rfl⟩
        rw [HD.out]
        go_wp2
        go_ret
        refine ⟨?_, rfl⟩
        have := HE.out
        subst this
        rw [show idx k len = k from if_pos hlt]
        rfl
    · have hke : f = len := by omega
      have HE := Lib.hid hke
      clear hke
      go_wp2
      go_ret
      refine ⟨?_, rfl⟩
      rw [show idx f len = -1 from if_neg (by have := HE.out; omega)]
      rfl
theorem get_p1 (b off len cap f : Nat) (z : Nat → Int) (hB : ∀ i, 0 ≤ z i ∧ z i ≤ 255) (hl : len < 10) (hlc : len ≤ cap) (hcm : cap ≤ 9223372036854775807) (hf : IsLast z len f) (hfl : f < len) (h0 : 0 < f) (hne : z f ≠ 0) (w : World) (hz : BytesAt w b off len z) :
    Calls Try.prog 118 #[.slice (some ⟨b, off, none⟩) len cap] w fun e w' => e = .returned (.tuple #[.int .u64 (vals z (f + 1)), .int .i64 (f + 1 : Nat), .int .i64 0]) ∧ w = w' := by
  have hcf : w.cell? ⟨b, off + f, none⟩ = some (.int .u8 (z f)) := hz f (by omega)
  have c0 : (0 : Int) < f := by omega
  have c1 : (z f == 0) = false := by simpa using hne
  have c9 : ((f : Int) == 9) = false := by simp; omega
  have HF := Lib.hid hf
  have HZ := Lib.hid hz
  have HB := Lib.hid hB
  clear hf hz hB
  go_enter Try.func118, Try.ntmps118
  go_wp2_with fail
  refine (index_any _ b off len _ f z (by omega) HF.out _ (.inr rfl) HZ.out).mono ?_
  rintro e w' ⟨rfl, rfl⟩
  rw [show idx f len = ((f : Nat) : Int) from if_pos (by omega)]
  go_wp2
  go_loop [7, 8, 9, 52] (fun v _ _ i => ∃ k : Nat, k ≤ f + 1 ∧ i = .int .i64 k ∧ v = .int .u64 (vals z k)) (fun _ _ _ i => f + 1 - (intOf i).toNat)
  case atStart => exact ⟨0, by omega, rfl, rfl⟩
  case round =>
    obtain ⟨k, hk, rfl, rfl⟩ := hrel
    by_cases hkf : k < f + 1
    · have hck : w.cell? ⟨b, off + k, none⟩ = some (.int .u8 (z k)) := HZ.out k (by omega)
      go_wp2
      refine ⟨⟨k + 1, by omega, by go_num, ?_⟩, by simp [intOf]; omega⟩
      rw [or_step z k (HB.out k).1 (HB.out k).2 (by omega) (fun h => by subst h; omega)]
    · obtain rfl : k = f + 1 := by omega
      go_wp2
      go_ret3
      exact ⟨rfl, rfl⟩
theorem get_p2 (b off len cap : Nat) (z : Nat → Int) (hB : ∀ i, 0 ≤ z i ∧ z i ≤ 255) (hl : len < 10) (hlc : len ≤ cap) (hcm : cap ≤ 9223372036854775807) (hf : IsLast z len 0) (hfl : 0 < len) (w : World) (hz : BytesAt w b off len z) :
    Calls Try.prog 118 #[.slice (some ⟨b, off, none⟩) len cap] w fun e w' => e = .returned (.tuple #[.int .u64 (vals z (0 + 1)), .int .i64 (0 + 1 : Nat), .int .i64 0]) ∧ w = w' := by
  have hcf : w.cell? ⟨b, off + 0, none⟩ = some (.int .u8 (z 0)) := hz 0 (by omega)
  have HF := Lib.hid hf
  have HZ := Lib.hid hz
  have HB := Lib.hid hB
  clear hf hz hB
  go_enter Try.func118, Try.ntmps118
  go_wp2_with fail
  refine (index_any _ b off len _ 0 z (by omega) HF.out _ (.inr rfl) HZ.out).mono ?_
  rintro e w' ⟨rfl, rfl⟩
  rw [show idx 0 len = ((0 : Nat) : Int) from if_pos (by omega)]
  go_wp2
  go_loop [7, 8, 9, 52] (fun v _ _ i => ∃ k : Nat, k ≤ 0 + 1 ∧ i = .int .i64 k ∧ v = .int .u64 (vals z k)) (fun _ _ _ i => 0 + 1 - (intOf i).toNat)
  case atStart => exact ⟨0, by omega, rfl, rfl⟩
  case round =>
    obtain ⟨k, hk, rfl, rfl⟩ := hrel
    by_cases hkf : k < 0 + 1
    · have hck : w.cell? ⟨b, off + k, none⟩ = some (.int .u8 (z k)) := HZ.out k (by omega)
      go_wp2
      refine ⟨⟨k + 1, by omega, by go_num, ?_⟩, by simp [intOf]; omega⟩
      rw [or_step z k (HB.out k).1 (HB.out k).2 (by omega) (fun h => by subst h; omega)]
    · obtain rfl : k = 0 + 1 := by omega
      go_wp2
      go_ret3
      exact ⟨rfl, rfl⟩
theorem get_p3 (b off len cap f : Nat) (z : Nat → Int) (hB : ∀ i, 0 ≤ z i ∧ z i ≤ 255) (hl : len < 10) (hlc : len ≤ cap) (hcm : cap ≤ 9223372036854775807) (hf : IsLast z len f) (hfl : f < len) (h0 : 0 < f) (hne : z f = 0) (w : World) (hz : BytesAt w b off len z) :
    Calls Try.prog 118 #[.slice (some ⟨b, off, none⟩) len cap] w fun e w' => e = .returned (.tuple #[.int .u64 0, .int .i64 0, .int .i64 9]) ∧ w = w' := by
  have hcf : w.cell? ⟨b, off + f, none⟩ = some (.int .u8 (z f)) := hz f (by omega)
  have c0 : (0 : Int) < f := by omega
  have c1 : (z f == 0) = true := by simpa using hne
  clear hne
  have c9 : ((f : Int) == 9) = false := by simp; omega
  have HF := Lib.hid hf
  have HZ := Lib.hid hz
  have HB := Lib.hid hB
  clear hf hz hB
  go_enter Try.func118, Try.ntmps118
  go_wp2_with fail
  refine (index_any _ b off len _ f z (by omega) HF.out _ (.inr rfl) HZ.out).mono ?_
  rintro e w' ⟨rfl, rfl⟩
  rw [show idx f len = ((f : Nat) : Int) from if_pos (by omega)]
  go_wp2
  go_ret3
  exact ⟨rfl, rfl⟩
theorem get_p4 (a : Option Addr) (b off len cap : Nat) (z : Nat → Int) (hB : ∀ i, 0 ≤ z i ∧ z i ≤ 255) (hl : len < 10) (hlc : len ≤ cap) (hcm : cap ≤ 9223372036854775807) (hf : IsLast z len len) (w : World) (ha : len = 0 ∨ a = some ⟨b, off, none⟩) (hz : BytesAt w b off len z) :
    Calls Try.prog 118 #[.slice a len cap] w fun e w' => e = .returned (.tuple #[.int .u64 0, .int .i64 0, .int .i64 1]) ∧ w = w' := by
  have HF := Lib.hid hf
  have HZ := Lib.hid hz
  have HB := Lib.hid hB
  have HA := Lib.hid ha
  clear ha
  clear hf hz hB
  go_enter Try.func118, Try.ntmps118
  go_wp2_with fail
  refine (index_any _ b off len _ len z (by omega) HF.out _ HA.out HZ.out).mono ?_
  rintro e w' ⟨rfl, rfl⟩
  rw [show idx len len = -1 from if_neg (by omega)]
  go_wp2
  go_ret3
  exact ⟨rfl, rfl⟩
theorem get_q1 (b off len cap f : Nat) (z : Nat → Int) (hB : ∀ i, 0 ≤ z i ∧ z i ≤ 255) (hl : 10 < len) (hlc : len ≤ cap) (hcm : cap ≤ 9223372036854775807) (hf : IsLast z 10 f) (hfl : f < 9) (h0 : 0 < f) (hne : z f ≠ 0) (w : World) (hz : BytesAt w b off 10 z) :
    Calls Try.prog 118 #[.slice (some ⟨b, off, none⟩) len cap] w fun e w' => e = .returned (.tuple #[.int .u64 (vals z (f + 1)), .int .i64 (f + 1 : Nat), .int .i64 0]) ∧ w = w' := by
  have hcf : w.cell? ⟨b, off + f, none⟩ = some (.int .u8 (z f)) := hz f (by omega)
  have hge : (10 : Int) < len := by omega
  have c0 : (0 : Int) < f := by omega
  have c1 : (z f == 0) = false := by simpa using hne
  have c9 : ((f : Int) == 9) = false := by simp; omega
  have HF := Lib.hid hf
  have HZ := Lib.hid hz
  have HB := Lib.hid hB
  clear hf hz hB
  go_enter Try.func118, Try.ntmps118
  go_wp2_with fail
  refine (index_any _ b off 10 _ f z (by omega) HF.out _ (.inr rfl) HZ.out).mono ?_
  rintro e w' ⟨rfl, rfl⟩
  rw [show idx f 10 = ((f : Nat) : Int) from if_pos (by omega)]
  go_wp2
  go_loop [7, 8, 9, 52] (fun v _ _ i => ∃ k : Nat, k ≤ f + 1 ∧ i = .int .i64 k ∧ v = .int .u64 (vals z k)) (fun _ _ _ i => f + 1 - (intOf i).toNat)
  case atStart => exact ⟨0, by omega, rfl, rfl⟩
  case round =>
    obtain ⟨k, hk, rfl, rfl⟩ := hrel
    by_cases hkf : k < f + 1
    · have hck : w.cell? ⟨b, off + k, none⟩ = some (.int .u8 (z k)) := HZ.out k (by omega)
      go_wp2
      refine ⟨⟨k + 1, by omega, by go_num, ?_⟩, by simp [intOf]; omega⟩
      rw [or_step z k (HB.out k).1 (HB.out k).2 (by omega) (fun h => by subst h; omega)]
    · obtain rfl : k = f + 1 := by omega
      go_wp2
      go_ret3
      exact ⟨rfl, rfl⟩
theorem get_q2 (b off len cap : Nat) (z : Nat → Int) (hB : ∀ i, 0 ≤ z i ∧ z i ≤ 255) (hl : 10 < len) (hlc : len ≤ cap) (hcm : cap ≤ 9223372036854775807) (hf : IsLast z 10 0) (w : World) (hz : BytesAt w b off 10 z) :
    Calls Try.prog 118 #[.slice (some ⟨b, off, none⟩) len cap] w fun e w' => e = .returned (.tuple #[.int .u64 (vals z (0 + 1)), .int .i64 (0 + 1 : Nat), .int .i64 0]) ∧ w = w' := by
  have hcf : w.cell? ⟨b, off + 0, none⟩ = some (.int .u8 (z 0)) := hz 0 (by omega)
  have hge : (10 : Int) < len := by omega
  have HF := Lib.hid hf
  have HZ := Lib.hid hz
  have HB := Lib.hid hB
  clear hf hz hB
  go_enter Try.func118, Try.ntmps118
  go_wp2_with fail
  refine (index_any _ b off 10 _ 0 z (by omega) HF.out _ (.inr rfl) HZ.out).mono ?_
  rintro e w' ⟨rfl, rfl⟩
  rw [show idx 0 10 = ((0 : Nat) : Int) from if_pos (by omega)]
  go_wp2
  go_loop [7, 8, 9, 52] (fun v _ _ i => ∃ k : Nat, k ≤ 0 + 1 ∧ i = .int .i64 k ∧ v = .int .u64 (vals z k)) (fun _ _ _ i => 0 + 1 - (intOf i).toNat)
  case atStart => exact ⟨0, by omega, rfl, rfl⟩
  case round =>
    obtain ⟨k, hk, rfl, rfl⟩ := hrel
    by_cases hkf : k < 0 + 1
    · have hck : w.cell? ⟨b, off + k, none⟩ = some (.int .u8 (z k)) := HZ.out k (by omega)
      go_wp2
      refine ⟨⟨k + 1, by omega, by go_num, ?_⟩, by simp [intOf]; omega⟩
      rw [or_step z k (HB.out k).1 (HB.out k).2 (by omega) (fun h => by subst h; omega)]
    · obtain rfl : k = 0 + 1 := by omega
      go_wp2
      go_ret3
      exact ⟨rfl, rfl⟩
theorem get_q3 (b off len cap f : Nat) (z : Nat → Int) (hB : ∀ i, 0 ≤ z i ∧ z i ≤ 255) (hl : 10 < len) (hlc : len ≤ cap) (hcm : cap ≤ 9223372036854775807) (hf : IsLast z 10 f) (hfl : f < 9) (h0 : 0 < f) (hne : z f = 0) (w : World) (hz : BytesAt w b off 10 z) :
    Calls Try.prog 118 #[.slice (some ⟨b, off, none⟩) len cap] w fun e w' => e = .returned (.tuple #[.int .u64 0, .int .i64 0, .int .i64 9]) ∧ w = w' := by
  have hcf : w.cell? ⟨b, off + f, none⟩ = some (.int .u8 (z f)) := hz f (by omega)
  have hge : (10 : Int) < len := by omega
  have c0 : (0 : Int) < f := by omega
  have c1 : (z f == 0) = true := by simpa using hne
  clear hne
  have c9 : ((f : Int) == 9) = false := by simp; omega
  have HF := Lib.hid hf
  have HZ := Lib.hid hz
  have HB := Lib.hid hB
  clear hf hz hB
  go_enter Try.func118, Try.ntmps118
  go_wp2_with fail
  refine (index_any _ b off 10 _ f z (by omega) HF.out _ (.inr rfl) HZ.out).mono ?_
  rintro e w' ⟨rfl, rfl⟩
  rw [show idx f 10 = ((f : Nat) : Int) from if_pos (by omega)]
  go_wp2
  go_ret3
  exact ⟨rfl, rfl⟩
theorem get_q4 (b off len cap : Nat) (z : Nat → Int) (hB : ∀ i, 0 ≤ z i ∧ z i ≤ 255) (hl : 10 < len) (hlc : len ≤ cap) (hcm : cap ≤ 9223372036854775807) (hf : IsLast z 10 9) (h9 : 1 < z 9) (w : World) (hz : BytesAt w b off 10 z) :
    Calls Try.prog 118 #[.slice (some ⟨b, off, none⟩) len cap] w fun e w' => e = .returned (.tuple #[.int .u64 0, .int .i64 0, .int .i64 9]) ∧ w = w' := by
  have hcf : w.cell? ⟨b, off + 9, none⟩ = some (.int .u8 (z 9)) := hz 9 (by omega)
  have hge : (10 : Int) < len := by omega
  have HF := Lib.hid hf
  have HZ := Lib.hid hz
  have HB := Lib.hid hB
  clear hf hz hB
  go_enter Try.func118, Try.ntmps118
  go_wp2_with fail
  refine (index_any _ b off 10 _ 9 z (by omega) HF.out _ (.inr rfl) HZ.out).mono ?_
  rintro e w' ⟨rfl, rfl⟩
  rw [show idx 9 10 = ((9 : Nat) : Int) from if_pos (by omega)]
  go_wp2
  go_ret3
  exact ⟨rfl, rfl⟩
theorem get_q5 (b off len cap : Nat) (z : Nat → Int) (hB : ∀ i, 0 ≤ z i ∧ z i ≤ 255) (hl : 10 < len) (hlc : len ≤ cap) (hcm : cap ≤ 9223372036854775807) (hf : IsLast z 10 9) (h9 : z 9 ≤ 1) (hne : z 9 ≠ 0) (w : World) (hz : BytesAt w b off 10 z) :
    Calls Try.prog 118 #[.slice (some ⟨b, off, none⟩) len cap] w fun e w' => e = .returned (.tuple #[.int .u64 (vals z (9 + 1)), .int .i64 (9 + 1 : Nat), .int .i64 0]) ∧ w = w' := by
  have hcf : w.cell? ⟨b, off + 9, none⟩ = some (.int .u8 (z 9)) := hz 9 (by omega)
  have hge : (10 : Int) < len := by omega
  have c1 : (z 9 == 0) = false := by simpa using hne
  have HF := Lib.hid hf
  have HZ := Lib.hid hz
  have HB := Lib.hid hB
  clear hf hz hB
  go_enter Try.func118, Try.ntmps118
  go_wp2_with fail
  refine (index_any _ b off 10 _ 9 z (by omega) HF.out _ (.inr rfl) HZ.out).mono ?_
  rintro e w' ⟨rfl, rfl⟩
  rw [show idx 9 10 = ((9 : Nat) : Int) from if_pos (by omega)]
  go_wp2
  go_loop [7, 8, 9, 52] (fun v _ _ i => ∃ k : Nat, k ≤ 9 + 1 ∧ i = .int .i64 k ∧ v = .int .u64 (vals z k)) (fun _ _ _ i => 9 + 1 - (intOf i).toNat)
  case atStart => exact ⟨0, by omega, rfl, rfl⟩
  case round =>
    obtain ⟨k, hk, rfl, rfl⟩ := hrel
    by_cases hkf : k < 9 + 1
    · have hck : w.cell? ⟨b, off + k, none⟩ = some (.int .u8 (z k)) := HZ.out k (by omega)
      go_wp2
      refine ⟨⟨k + 1, by omega, by go_num, ?_⟩, by simp [intOf]; omega⟩
      rw [or_step z k (HB.out k).1 (HB.out k).2 (by omega) (fun h => by subst h; exact h9)]
    · obtain rfl : k = 9 + 1 := by omega
      go_wp2
      go_ret3
      exact ⟨rfl, rfl⟩
theorem get_q6 (b off len cap : Nat) (z : Nat → Int) (hB : ∀ i, 0 ≤ z i ∧ z i ≤ 255) (hl : 10 < len) (hlc : len ≤ cap) (hcm : cap ≤ 9223372036854775807) (hf : IsLast z 10 9) (h9 : z 9 = 0) (w : World) (hz : BytesAt w b off 10 z) :
    Calls Try.prog 118 #[.slice (some ⟨b, off, none⟩) len cap] w fun e w' => e = .returned (.tuple #[.int .u64 0, .int .i64 0, .int .i64 9]) ∧ w = w' := by
  have hcf : w.cell? ⟨b, off + 9, none⟩ = some (.int .u8 (z 9)) := hz 9 (by omega)
  have hge : (10 : Int) < len := by omega
  have c1 : (z 9 == 0) = true := by simpa using h9
  have c2 : ¬ 1 < z 9 := by omega
  clear h9
  have HF := Lib.hid hf
  have HZ := Lib.hid hz
  have HB := Lib.hid hB
  clear hf hz hB
  go_enter Try.func118, Try.ntmps118
  go_wp2_with fail
  refine (index_any _ b off 10 _ 9 z (by omega) HF.out _ (.inr rfl) HZ.out).mono ?_
  rintro e w' ⟨rfl, rfl⟩
  rw [show idx 9 10 = ((9 : Nat) : Int) from if_pos (by omega)]
  go_wp2
  go_ret3
  exact ⟨rfl, rfl⟩
theorem get_q7 (b off len cap : Nat) (z : Nat → Int) (hB : ∀ i, 0 ≤ z i ∧ z i ≤ 255) (hl : 10 < len) (hlc : len ≤ cap) (hcm : cap ≤ 9223372036854775807) (hf : IsLast z 10 10) (w : World) (hz : BytesAt w b off 10 z) :
    Calls Try.prog 118 #[.slice (some ⟨b, off, none⟩) len cap] w fun e w' => e = .returned (.tuple #[.int .u64 0, .int .i64 0, .int .i64 9]) ∧ w = w' := by
  have hge : (10 : Int) < len := by omega
  have HF := Lib.hid hf
  have HZ := Lib.hid hz
  have HB := Lib.hid hB
  clear hf hz hB
  go_enter Try.func118, Try.ntmps118
  go_wp2_with fail
  refine (index_any _ b off 10 _ 10 z (by omega) HF.out _ (.inr rfl) HZ.out).mono ?_
  rintro e w' ⟨rfl, rfl⟩
  rw [show idx 10 10 = -1 from if_neg (by omega)]
  go_wp2
  go_ret3
  exact ⟨rfl, rfl⟩
theorem get_r1 (b off cap f : Nat) (z : Nat → Int) (hB : ∀ i, 0 ≤ z i ∧ z i ≤ 255) (hlc : 10 ≤ cap) (hcm : cap ≤ 9223372036854775807) (hf : IsLast z 10 f) (hfl : f < 9) (h0 : 0 < f) (hne : z f ≠ 0) (w : World) (hz : BytesAt w b off 10 z) :
    Calls Try.prog 118 #[.slice (some ⟨b, off, none⟩) 10 cap] w fun e w' => e = .returned (.tuple #[.int .u64 (vals z (f + 1)), .int .i64 (f + 1 : Nat), .int .i64 0]) ∧ w = w' := by
  have hcf : w.cell? ⟨b, off + f, none⟩ = some (.int .u8 (z f)) := hz f (by omega)
  have c0 : (0 : Int) < f := by omega
  have c1 : (z f == 0) = false := by simpa using hne
  have c9 : ((f : Int) == 9) = false := by simp; omega
  have HF := Lib.hid hf
  have HZ := Lib.hid hz
  have HB := Lib.hid hB
  clear hf hz hB
  go_enter Try.func118, Try.ntmps118
  go_wp2_with fail
  refine (index_any _ b off 10 _ f z (by omega) HF.out _ (.inr rfl) HZ.out).mono ?_
  rintro e w' ⟨rfl, rfl⟩
  rw [show idx f 10 = ((f : Nat) : Int) from if_pos (by omega)]
  go_wp2
  go_loop [7, 8, 9, 52] (fun v _ _ i => ∃ k : Nat, k ≤ f + 1 ∧ i = .int .i64 k ∧ v = .int .u64 (vals z k)) (fun _ _ _ i => f + 1 - (intOf i).toNat)
  case atStart => exact ⟨0, by omega, rfl, rfl⟩
  case round =>
    obtain ⟨k, hk, rfl, rfl⟩ := hrel
    by_cases hkf : k < f + 1
    · have hck : w.cell? ⟨b, off + k, none⟩ = some (.int .u8 (z k)) := HZ.out k (by omega)
      go_wp2
      refine ⟨⟨k + 1, by omega, by go_num, ?_⟩, by simp [intOf]; omega⟩
      rw [or_step z k (HB.out k).1 (HB.out k).2 (by omega) (fun h => by subst h; omega)]
    · obtain rfl : k = f + 1 := by omega
      go_wp2
      go_ret3
      exact ⟨rfl, rfl⟩
theorem get_r2 (b off cap : Nat) (z : Nat → Int) (hB : ∀ i, 0 ≤ z i ∧ z i ≤ 255) (hlc : 10 ≤ cap) (hcm : cap ≤ 9223372036854775807) (hf : IsLast z 10 0) (w : World) (hz : BytesAt w b off 10 z) :
    Calls Try.prog 118 #[.slice (some ⟨b, off, none⟩) 10 cap] w fun e w' => e = .returned (.tuple #[.int .u64 (vals z (0 + 1)), .int .i64 (0 + 1 : Nat), .int .i64 0]) ∧ w = w' := by
  have hcf : w.cell? ⟨b, off + 0, none⟩ = some (.int .u8 (z 0)) := hz 0 (by omega)
  have HF := Lib.hid hf
  have HZ := Lib.hid hz
  have HB := Lib.hid hB
  clear hf hz hB
  go_enter Try.func118, Try.ntmps118
  go_wp2_with fail
  refine (index_any _ b off 10 _ 0 z (by omega) HF.out _ (.inr rfl) HZ.out).mono ?_
  rintro e w' ⟨rfl, rfl⟩
  rw [show idx 0 10 = ((0 : Nat) : Int) from if_pos (by omega)]
  go_wp2
  go_loop [7, 8, 9, 52] (fun v _ _ i => ∃ k : Nat, k ≤ 0 + 1 ∧ i = .int .i64 k ∧ v = .int .u64 (vals z k)) (fun _ _ _ i => 0 + 1 - (intOf i).toNat)
  case atStart => exact ⟨0, by omega, rfl, rfl⟩
  case round =>
    obtain ⟨k, hk, rfl, rfl⟩ := hrel
    by_cases hkf : k < 0 + 1
    · have hck : w.cell? ⟨b, off + k, none⟩ = some (.int .u8 (z k)) := HZ.out k (by omega)
      go_wp2
      refine ⟨⟨k + 1, by omega, by go_num, ?_⟩, by simp [intOf]; omega⟩
      rw [or_step z k (HB.out k).1 (HB.out k).2 (by omega) (fun h => by subst h; omega)]
    · obtain rfl : k = 0 + 1 := by omega
      go_wp2
      go_ret3
      exact ⟨rfl, rfl⟩
theorem get_r3 (b off cap f : Nat) (z : Nat → Int) (hB : ∀ i, 0 ≤ z i ∧ z i ≤ 255) (hlc : 10 ≤ cap) (hcm : cap ≤ 9223372036854775807) (hf : IsLast z 10 f) (hfl : f < 9) (h0 : 0 < f) (hne : z f = 0) (w : World) (hz : BytesAt w b off 10 z) :
    Calls Try.prog 118 #[.slice (some ⟨b, off, none⟩) 10 cap] w fun e w' => e = .returned (.tuple #[.int .u64 0, .int .i64 0, .int .i64 9]) ∧ w = w' := by
  have hcf : w.cell? ⟨b, off + f, none⟩ = some (.int .u8 (z f)) := hz f (by omega)
  have c0 : (0 : Int) < f := by omega
  have c1 : (z f == 0) = true := by simpa using hne
  clear hne
  have c9 : ((f : Int) == 9) = false := by simp; omega
  have HF := Lib.hid hf
  have HZ := Lib.hid hz
  have HB := Lib.hid hB
  clear hf hz hB
  go_enter Try.func118, Try.ntmps118
  go_wp2_with fail
  refine (index_any _ b off 10 _ f z (by omega) HF.out _ (.inr rfl) HZ.out).mono ?_
  rintro e w' ⟨rfl, rfl⟩
  rw [show idx f 10 = ((f : Nat) : Int) from if_pos (by omega)]
  go_wp2
  go_ret3
  exact ⟨rfl, rfl⟩
theorem get_r4 (b off cap : Nat) (z : Nat → Int) (hB : ∀ i, 0 ≤ z i ∧ z i ≤ 255) (hlc : 10 ≤ cap) (hcm : cap ≤ 9223372036854775807) (hf : IsLast z 10 9) (h9 : 1 < z 9) (w : World) (hz : BytesAt w b off 10 z) :
    Calls Try.prog 118 #[.slice (some ⟨b, off, none⟩) 10 cap] w fun e w' => e = .returned (.tuple #[.int .u64 0, .int .i64 0, .int .i64 9]) ∧ w = w' := by
  have hcf : w.cell? ⟨b, off + 9, none⟩ = some (.int .u8 (z 9)) := hz 9 (by omega)
  have HF := Lib.hid hf
  have HZ := Lib.hid hz
  have HB := Lib.hid hB
  clear hf hz hB
  go_enter Try.func118, Try.ntmps118
  go_wp2_with fail
  refine (index_any _ b off 10 _ 9 z (by omega) HF.out _ (.inr rfl) HZ.out).mono ?_
  rintro e w' ⟨rfl, rfl⟩
  rw [show idx 9 10 = ((9 : Nat) : Int) from if_pos (by omega)]
  go_wp2
  go_ret3
  exact ⟨rfl, rfl⟩
theorem get_r5 (b off cap : Nat) (z : Nat → Int) (hB : ∀ i, 0 ≤ z i ∧ z i ≤ 255) (hlc : 10 ≤ cap) (hcm : cap ≤ 9223372036854775807) (hf : IsLast z 10 9) (h9 : z 9 ≤ 1) (hne : z 9 ≠ 0) (w : World) (hz : BytesAt w b off 10 z) :
    Calls Try.prog 118 #[.slice (some ⟨b, off, none⟩) 10 cap] w fun e w' => e = .returned (.tuple #[.int .u64 (vals z (9 + 1)), .int .i64 (9 + 1 : Nat), .int .i64 0]) ∧ w = w' := by
  have hcf : w.cell? ⟨b, off + 9, none⟩ = some (.int .u8 (z 9)) := hz 9 (by omega)
  have c1 : (z 9 == 0) = false := by simpa using hne
  have HF := Lib.hid hf
  have HZ := Lib.hid hz
  have HB := Lib.hid hB
  clear hf hz hB
  go_enter Try.func118, Try.ntmps118
  go_wp2_with fail
  refine (index_any _ b off 10 _ 9 z (by omega) HF.out _ (.inr rfl) HZ.out).mono ?_
  rintro e w' ⟨rfl, rfl⟩
  rw [show idx 9 10 = ((9 : Nat) : Int) from if_pos (by omega)]
  go_wp2
  go_loop [7, 8, 9, 52] (fun v _ _ i => ∃ k : Nat, k ≤ 9 + 1 ∧ i = .int .i64 k ∧ v = .int .u64 (vals z k)) (fun _ _ _ i => 9 + 1 - (intOf i).toNat)
  case atStart => exact ⟨0, by omega, rfl, rfl⟩
  case round =>
    obtain ⟨k, hk, rfl, rfl⟩ := hrel
    by_cases hkf : k < 9 + 1
    · have hck : w.cell? ⟨b, off + k, none⟩ = some (.int .u8 (z k)) := HZ.out k (by omega)
      go_wp2
      refine ⟨⟨k + 1, by omega, by go_num, ?_⟩, by simp [intOf]; omega⟩
      rw [or_step z k (HB.out k).1 (HB.out k).2 (by omega) (fun h => by subst h; exact h9)]
    · obtain rfl : k = 9 + 1 := by omega
      go_wp2
      go_ret3
      exact ⟨rfl, rfl⟩
theorem get_r6 (b off cap : Nat) (z : Nat → Int) (hB : ∀ i, 0 ≤ z i ∧ z i ≤ 255) (hlc : 10 ≤ cap) (hcm : cap ≤ 9223372036854775807) (hf : IsLast z 10 9) (h9 : z 9 = 0) (w : World) (hz : BytesAt w b off 10 z) :
    Calls Try.prog 118 #[.slice (some ⟨b, off, none⟩) 10 cap] w fun e w' => e = .returned (.tuple #[.int .u64 0, .int .i64 0, .int .i64 9]) ∧ w = w' := by
  have hcf : w.cell? ⟨b, off + 9, none⟩ = some (.int .u8 (z 9)) := hz 9 (by omega)
  have c1 : (z 9 == 0) = true := by simpa using h9
  have c2 : ¬ 1 < z 9 := by omega
  clear h9
  have HF := Lib.hid hf
  have HZ := Lib.hid hz
  have HB := Lib.hid hB
  clear hf hz hB
  go_enter Try.func118, Try.ntmps118
  go_wp2_with fail
  refine (index_any _ b off 10 _ 9 z (by omega) HF.out _ (.inr rfl) HZ.out).mono ?_
  rintro e w' ⟨rfl, rfl⟩
  rw [show idx 9 10 = ((9 : Nat) : Int) from if_pos (by omega)]
  go_wp2
  go_ret3
  exact ⟨rfl, rfl⟩
theorem get_r7 (b off cap : Nat) (z : Nat → Int) (hB : ∀ i, 0 ≤ z i ∧ z i ≤ 255) (hlc : 10 ≤ cap) (hcm : cap ≤ 9223372036854775807) (hf : IsLast z 10 10) (w : World) (hz : BytesAt w b off 10 z) :
    Calls Try.prog 118 #[.slice (some ⟨b, off, none⟩) 10 cap] w fun e w' => e = .returned (.tuple #[.int .u64 0, .int .i64 0, .int .i64 9]) ∧ w = w' := by
  have HF := Lib.hid hf
  have HZ := Lib.hid hz
  have HB := Lib.hid hB
  clear hf hz hB
  go_enter Try.func118, Try.ntmps118
  go_wp2_with fail
  refine (index_any _ b off 10 _ 10 z (by omega) HF.out _ (.inr rfl) HZ.out).mono ?_
  rintro e w' ⟨rfl, rfl⟩
  rw [show idx 10 10 = -1 from if_neg (by omega)]
  go_wp2
  go_ret3
  exact ⟨rfl, rfl⟩
/-- What the reading of short bytes tells: the number, how many bytes, and the error. -/
def got (z : Nat → Int) (len f : Nat) : Int × Int × Int :=
  if f = min len 10 then (0, 0, if len < 10 then 1 else 9) else if f = 9 ∧ 1 < z 9 then (0, 0, 9) else if 0 < f ∧ z f = 0 then (0, 0, 9) else (vals z (f + 1), (f + 1 : Nat), 0)
theorem get_any (a : Option Addr) (b off len cap f : Nat) (z : Nat → Int) (hB : ∀ i, 0 ≤ z i ∧ z i ≤ 255) (hlc : len ≤ cap) (hcm : cap ≤ 9223372036854775807) (hf : IsLast z (min len 10) f) (w : World) (ha : len = 0 ∨ a = some ⟨b, off, none⟩) (hz : BytesAt w b off len z) :
    Calls Try.prog 118 #[.slice a len cap] w fun e w' => e = .returned (.tuple #[.int .u64 (got z len f).1, .int .i64 (got z len f).2.1, .int .i64 (got z len f).2.2]) ∧ w = w' := by
  rcases Nat.lt_or_ge len 10 with hl | hl
  · rw [Nat.min_eq_left (by omega)] at hf
    by_cases c : f = len
    · subst c
      have e : got z f f = (0, 0, 1) := by unfold got; rw [if_pos (by omega), if_pos hl]
      rw [e]
      exact get_p4 a b off f cap z hB hl hlc hcm hf w ha hz
    · have hfl : f < len := by have := hf.1; omega
      obtain rfl : a = some ⟨b, off, none⟩ := ha.resolve_left (by omega)
      by_cases c0 : f = 0
      · subst c0
        have e : got z len 0 = (vals z (0 + 1), ((0 + 1 : Nat) : Int), 0) := by unfold got; rw [if_neg (by omega), if_neg (by omega), if_neg (by omega)]
        rw [e]
        exact get_p2 b off len cap z hB hl hlc hcm hf hfl w hz
      · by_cases cz : z f = 0
        · have e : got z len f = (0, 0, 9) := by unfold got; rw [if_neg (by omega), if_neg (by omega), if_pos ⟨by omega, cz⟩]
          rw [e]
          exact get_p3 b off len cap f z hB hl hlc hcm hf hfl (by omega) cz w hz
        · have e : got z len f = (vals z (f + 1), ((f + 1 : Nat) : Int), 0) := by unfold got; rw [if_neg (by omega), if_neg (by omega), if_neg (fun h => cz h.2)]
          rw [e]
          exact get_p1 b off len cap f z hB hl hlc hcm hf hfl (by omega) cz w hz
  · obtain rfl : a = some ⟨b, off, none⟩ := ha.resolve_left (by omega)
    rw [Nat.min_eq_right hl] at hf
    have hz' : BytesAt w b off 10 z := fun i hi => hz i (by omega)
    rcases Nat.lt_or_ge 10 len with hl' | hl'
    · by_cases c : f = 10
      · subst c
        have e : got z len 10 = (0, 0, 9) := by unfold got; rw [if_pos (by omega), if_neg (by omega)]
        rw [e]
        exact get_q7 b off len cap z hB hl' hlc hcm hf w hz'
      · have hf10 := hf.1
        by_cases c9 : f = 9
        · subst c9
          by_cases d : 1 < z 9
          · have e : got z len 9 = (0, 0, 9) := by unfold got; rw [if_neg (by omega), if_pos ⟨rfl, d⟩]
            rw [e]
            exact get_q4 b off len cap z hB hl' hlc hcm hf d w hz'
          · by_cases cz : z 9 = 0
            · have e : got z len 9 = (0, 0, 9) := by unfold got; rw [if_neg (by omega), if_neg (fun h => d h.2), if_pos ⟨by omega, cz⟩]
              rw [e]
              exact get_q6 b off len cap z hB hl' hlc hcm hf cz w hz'
            · have e : got z len 9 = (vals z (9 + 1), ((9 + 1 : Nat) : Int), 0) := by unfold got; rw [if_neg (by omega), if_neg (fun h => d h.2), if_neg (fun h => cz h.2)]
              rw [e]
              exact get_q5 b off len cap z hB hl' hlc hcm hf (by omega) cz w hz'
        · by_cases c0 : f = 0
          · subst c0
            have e : got z len 0 = (vals z (0 + 1), ((0 + 1 : Nat) : Int), 0) := by unfold got; rw [if_neg (by omega), if_neg (by omega), if_neg (by omega)]
            rw [e]
            exact get_q2 b off len cap z hB hl' hlc hcm hf w hz'
          · by_cases cz : z f = 0
            · have e : got z len f = (0, 0, 9) := by unfold got; rw [if_neg (by omega), if_neg (by omega), if_pos ⟨by omega, cz⟩]
              rw [e]
              exact get_q3 b off len cap f z hB hl' hlc hcm hf (by omega) (by omega) cz w hz'
            · have e : got z len f = (vals z (f + 1), ((f + 1 : Nat) : Int), 0) := by unfold got; rw [if_neg (by omega), if_neg (by omega), if_neg (fun h => cz h.2)]
              rw [e]
              exact get_q1 b off len cap f z hB hl' hlc hcm hf (by omega) (by omega) cz w hz'
    · obtain rfl : len = 10 := by omega
      by_cases c : f = 10
      · subst c
        have e : got z 10 10 = (0, 0, 9) := by unfold got; rw [if_pos (by omega), if_neg (by omega)]
        rw [e]
        exact get_r7 b off cap z hB hlc hcm hf w hz'
      · have hf10 := hf.1
        by_cases c9 : f = 9
        · subst c9
          by_cases d : 1 < z 9
          · have e : got z 10 9 = (0, 0, 9) := by unfold got; rw [if_neg (by omega), if_pos ⟨rfl, d⟩]
            rw [e]
            exact get_r4 b off cap z hB hlc hcm hf d w hz'
          · by_cases cz : z 9 = 0
            · have e : got z 10 9 = (0, 0, 9) := by unfold got; rw [if_neg (by omega), if_neg (fun h => d h.2), if_pos ⟨by omega, cz⟩]
              rw [e]
              exact get_r6 b off cap z hB hlc hcm hf cz w hz'
            · have e : got z 10 9 = (vals z (9 + 1), ((9 + 1 : Nat) : Int), 0) := by unfold got; rw [if_neg (by omega), if_neg (fun h => d h.2), if_neg (fun h => cz h.2)]
              rw [e]
              exact get_r5 b off cap z hB hlc hcm hf (by omega) cz w hz'
        · by_cases c0 : f = 0
          · subst c0
            have e : got z 10 0 = (vals z (0 + 1), ((0 + 1 : Nat) : Int), 0) := by unfold got; rw [if_neg (by omega), if_neg (by omega), if_neg (by omega)]
            rw [e]
            exact get_r2 b off cap z hB hlc hcm hf w hz'
          · by_cases cz : z f = 0
            · have e : got z 10 f = (0, 0, 9) := by unfold got; rw [if_neg (by omega), if_neg (by omega), if_pos ⟨by omega, cz⟩]
              rw [e]
              exact get_r3 b off cap f z hB hlc hcm hf (by omega) (by omega) cz w hz'
            · have e : got z 10 f = (vals z (f + 1), ((f + 1 : Nat) : Int), 0) := by unfold got; rw [if_neg (by omega), if_neg (by omega), if_neg (fun h => cz h.2)]
              rw [e]
              exact get_r1 b off cap f z hB hlc hcm hf (by omega) (by omega) cz w hz'
end Go.Proofs.Ythonjffojaljdaa
