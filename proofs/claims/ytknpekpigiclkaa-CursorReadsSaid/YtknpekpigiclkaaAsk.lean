/-
  CONTRACT OF corduroylaw03.asked: what one act asked of a cursor tells, or throws, in any world where the cursor lies; only the cursor turns. Conditions: at most 20000 bytes.
-/
import Derived.Test.YtknpekpigiclkaaCurNext
import Derived.Test.YtknpekpigiclkaaRefPut
import Derived.Test.YtknpekpigiclkaaGetB
namespace Go.Proofs.Ytknpekpigiclkaa
open Go.RowKit
set_option linter.unusedVariables false
/-- How many bytes an act is told, and what it throws. -/
def askn (n at_ : Nat) (d N : Int) : Nat × Int :=
  if d = 5 then (0, if at_ < n then 2 else 0)
  else if d = 4 then (if N < 0 then (0, 4) else if ((n - at_ : Nat) : Int) < N then (0, 1) else (N.toNat, 0))
  else if d = 3 then (if n < at_ + 8 then (0, 1) else (8, 0))
  else if d = 2 then (if n < at_ + 4 then (0, 1) else (4, 0))
  else if d = 1 then (if n < at_ + 2 then (0, 1) else (2, 0))
  else if d = 0 then (if n < at_ + 1 then (0, 1) else (1, 0))
  else (0, 0)
/-- How what is asked ends. -/
def AskEnd (bc n : Nat) (z : Nat → Int) (at_ k : Nat) (err : Int) (w : World) (e : Ending) (w' : World) : Prop :=
  CursorAt w' bc n z (at_ + k) ∧ Turned (· = bc) w w' ∧ ((err = 0 ∧ ∃ a c, e = .returned (.slice a k c) ∧ RowOf w' a k (fun i => .int .u8 (z (at_ + i))) ∧ (∀ p, a = some p → w.heap.size ≤ p.block ∧ p.block < w'.heap.size)) ∨
    (k = 0 ∧ (err != 0) = true ∧ e = .panicked [{ v := .iface 89 (.agg #[.int .i64 err]), recovered := false }]))
theorem bytes_row (z : Nat → Int) (k : Nat) (hz : ∀ i, i < k → 0 ≤ z i ∧ z i ≤ 255) (i : Nat) (hi : i < k) : (cellsOf (bytesOf k (num z k))).getD i undef = .int .u8 (z i) := by
  have h := num_byte z k hz i hi
  have hb := bytesOf_get k (num z k) i hi
  have hzi := hz i hi
  rw [h] at hb
  rw [List.getD_eq_getElem?_getD]
  unfold cellsOf
  rw [List.getElem?_map, hb]
  simp
  omega
theorem CursorAt.drawn {w : World} {bc n : Nat} {z : Nat → Int} {at_ : Nat} (h : CursorAt w bc n z at_) (k : Nat) : CursorAt (w.drewN k) bc n z (at_ + 0) := h
theorem ask8_short (pa pc bc n : Nat) (z : Nat → Int) (at_ : Nat) (hz : ∀ i, i < n → 0 ≤ z i ∧ z i ≤ 255) (hn : n ≤ 100000) (N : Int) (w : World) (c0 : w.cell? ⟨pa, 0, none⟩ = some (.int .u8 0)) (c1 : w.cell? ⟨pa, 1, none⟩ = some (.int .i64 N)) (c2 : w.cell? ⟨pc, 0, none⟩ = some (.pointer (some ⟨bc, 0, none⟩))) (h : CursorAt w bc n z at_) (hm : n < at_ + 1) :
    Calls Try.prog 62 #[.pointer (some ⟨pa, 0, none⟩), .pointer (some ⟨pc, 0, none⟩)] w (AskEnd bc n z at_ 0 1 w) := by
  have U := Lib.hid (u8_short bc n z at_ hn h.le hm w h)
  have H := Lib.hid h
  clear h hz hm
  go_enter Try.func62, Try.ntmps62
  go_wp2_with (go_at_call 64; refine U.out.mono ?_; rintro e w1 ⟨rfl, j, rfl⟩)
  exact ⟨rfl, H.out.drawn _, (Turned.refl _ w).drewN _, .inr ⟨rfl, by decide, rfl⟩⟩
theorem ask8_ok (pa pc bc n : Nat) (z : Nat → Int) (at_ : Nat) (hz : ∀ i, i < n → 0 ≤ z i ∧ z i ≤ 255) (hn : n ≤ 100000) (N : Int) (w : World) (c0 : w.cell? ⟨pa, 0, none⟩ = some (.int .u8 0)) (c1 : w.cell? ⟨pa, 1, none⟩ = some (.int .i64 N)) (c2 : w.cell? ⟨pc, 0, none⟩ = some (.pointer (some ⟨bc, 0, none⟩))) (h : CursorAt w bc n z at_) (hm : at_ + 1 ≤ n) :
    Calls Try.prog 62 #[.pointer (some ⟨pa, 0, none⟩), .pointer (some ⟨pc, 0, none⟩)] w (AskEnd bc n z at_ 1 0 w) := by
  have U := Lib.hid (u8_ok bc n z at_ hz hn hm w h)
  have hM := num_lt (fun i => z (at_ + i)) 1 (fun i hi => hz (at_ + i) (by omega))
  have BR := Lib.hid (bytes_row (fun i => z (at_ + i)) 1 (fun i hi => hz (at_ + i) (by omega)))
  clear h hz hm
  generalize num (fun i => z (at_ + i)) 1 = M at *
  have hM : M < 256 := by simpa using hM
  have hw : IntKind.u64.wrap (M : Int) = M := by rw [u64w]; omega
  have RP := Lib.hid (rput3_any M 1 (by omega) (by decide))
  clear hM
  go_enter Try.func62, Try.ntmps62
  go_wp2_with (first | (go_at_call 64; refine U.out.mono ?_; rintro e w1 ⟨rfl, hc, ht⟩; have HC := Lib.hid hc; have HT := Lib.hid ht; clear hc ht) | (go_at_call 63; refine (RP.out _).mono ?_; rintro e w2 ⟨v, rfl, ho, hb⟩; obtain ⟨a, c, rfl, hr, hab, _, _⟩ := own_reads ho; have HR := Lib.hid hr; have HB := Lib.hid hb; have HAB := Lib.hid hab; clear ho hb hr hab))
  go_ret
  exact ⟨HC.out.below HB.out HC.out.lt, HT.out.trans (Turned.of_below HB.out (fun i hi _ => hi)), .inl ⟨rfl, a, c, rfl, HR.out.congr fun i hi => BR.out i hi, fun p hp => ⟨by have := (HAB.out p hp).1; have := HT.out.size; omega, (HAB.out p hp).2⟩⟩⟩
theorem ask16_short (pa pc bc n : Nat) (z : Nat → Int) (at_ : Nat) (hz : ∀ i, i < n → 0 ≤ z i ∧ z i ≤ 255) (hn : n ≤ 100000) (N : Int) (w : World) (c0 : w.cell? ⟨pa, 0, none⟩ = some (.int .u8 1)) (c1 : w.cell? ⟨pa, 1, none⟩ = some (.int .i64 N)) (c2 : w.cell? ⟨pc, 0, none⟩ = some (.pointer (some ⟨bc, 0, none⟩))) (h : CursorAt w bc n z at_) (hm : n < at_ + 2) :
    Calls Try.prog 62 #[.pointer (some ⟨pa, 0, none⟩), .pointer (some ⟨pc, 0, none⟩)] w (AskEnd bc n z at_ 0 1 w) := by
  have U := Lib.hid (u16_short bc n z at_ hn h.le hm w h)
  have H := Lib.hid h
  clear h hz hm
  go_enter Try.func62, Try.ntmps62
  go_wp2_with (go_at_call 65; refine U.out.mono ?_; rintro e w1 ⟨rfl, j, rfl⟩)
  exact ⟨rfl, H.out.drawn _, (Turned.refl _ w).drewN _, .inr ⟨rfl, by decide, rfl⟩⟩
theorem ask16_ok (pa pc bc n : Nat) (z : Nat → Int) (at_ : Nat) (hz : ∀ i, i < n → 0 ≤ z i ∧ z i ≤ 255) (hn : n ≤ 100000) (N : Int) (w : World) (c0 : w.cell? ⟨pa, 0, none⟩ = some (.int .u8 1)) (c1 : w.cell? ⟨pa, 1, none⟩ = some (.int .i64 N)) (c2 : w.cell? ⟨pc, 0, none⟩ = some (.pointer (some ⟨bc, 0, none⟩))) (h : CursorAt w bc n z at_) (hm : at_ + 2 ≤ n) :
    Calls Try.prog 62 #[.pointer (some ⟨pa, 0, none⟩), .pointer (some ⟨pc, 0, none⟩)] w (AskEnd bc n z at_ 2 0 w) := by
  have U := Lib.hid (u16_ok bc n z at_ hz hn hm w h)
  have hM := num_lt (fun i => z (at_ + i)) 2 (fun i hi => hz (at_ + i) (by omega))
  have BR := Lib.hid (bytes_row (fun i => z (at_ + i)) 2 (fun i hi => hz (at_ + i) (by omega)))
  clear h hz hm
  generalize num (fun i => z (at_ + i)) 2 = M at *
  have hM : M < 65536 := by simpa using hM
  have hw : IntKind.u64.wrap (M : Int) = M := by rw [u64w]; omega
  have RP := Lib.hid (rput3_any M 2 (by omega) (by decide))
  clear hM
  go_enter Try.func62, Try.ntmps62
  go_wp2_with (first | (go_at_call 65; refine U.out.mono ?_; rintro e w1 ⟨rfl, hc, ht⟩; have HC := Lib.hid hc; have HT := Lib.hid ht; clear hc ht) | (go_at_call 63; refine (RP.out _).mono ?_; rintro e w2 ⟨v, rfl, ho, hb⟩; obtain ⟨a, c, rfl, hr, hab, _, _⟩ := own_reads ho; have HR := Lib.hid hr; have HB := Lib.hid hb; have HAB := Lib.hid hab; clear ho hb hr hab))
  go_ret
  exact ⟨HC.out.below HB.out HC.out.lt, HT.out.trans (Turned.of_below HB.out (fun i hi _ => hi)), .inl ⟨rfl, a, c, rfl, HR.out.congr fun i hi => BR.out i hi, fun p hp => ⟨by have := (HAB.out p hp).1; have := HT.out.size; omega, (HAB.out p hp).2⟩⟩⟩
theorem ask32_short (pa pc bc n : Nat) (z : Nat → Int) (at_ : Nat) (hz : ∀ i, i < n → 0 ≤ z i ∧ z i ≤ 255) (hn : n ≤ 100000) (N : Int) (w : World) (c0 : w.cell? ⟨pa, 0, none⟩ = some (.int .u8 2)) (c1 : w.cell? ⟨pa, 1, none⟩ = some (.int .i64 N)) (c2 : w.cell? ⟨pc, 0, none⟩ = some (.pointer (some ⟨bc, 0, none⟩))) (h : CursorAt w bc n z at_) (hm : n < at_ + 4) :
    Calls Try.prog 62 #[.pointer (some ⟨pa, 0, none⟩), .pointer (some ⟨pc, 0, none⟩)] w (AskEnd bc n z at_ 0 1 w) := by
  have U := Lib.hid (u32_short bc n z at_ hn h.le hm w h)
  have H := Lib.hid h
  clear h hz hm
  go_enter Try.func62, Try.ntmps62
  go_wp2_with (go_at_call 39; refine U.out.mono ?_; rintro e w1 ⟨rfl, j, rfl⟩)
  exact ⟨rfl, H.out.drawn _, (Turned.refl _ w).drewN _, .inr ⟨rfl, by decide, rfl⟩⟩
theorem ask32_ok (pa pc bc n : Nat) (z : Nat → Int) (at_ : Nat) (hz : ∀ i, i < n → 0 ≤ z i ∧ z i ≤ 255) (hn : n ≤ 100000) (N : Int) (w : World) (c0 : w.cell? ⟨pa, 0, none⟩ = some (.int .u8 2)) (c1 : w.cell? ⟨pa, 1, none⟩ = some (.int .i64 N)) (c2 : w.cell? ⟨pc, 0, none⟩ = some (.pointer (some ⟨bc, 0, none⟩))) (h : CursorAt w bc n z at_) (hm : at_ + 4 ≤ n) :
    Calls Try.prog 62 #[.pointer (some ⟨pa, 0, none⟩), .pointer (some ⟨pc, 0, none⟩)] w (AskEnd bc n z at_ 4 0 w) := by
  have U := Lib.hid (u32_ok bc n z at_ hz hn hm w h)
  have hM := num_lt (fun i => z (at_ + i)) 4 (fun i hi => hz (at_ + i) (by omega))
  have BR := Lib.hid (bytes_row (fun i => z (at_ + i)) 4 (fun i hi => hz (at_ + i) (by omega)))
  clear h hz hm
  generalize num (fun i => z (at_ + i)) 4 = M at *
  have hM : M < 4294967296 := by simpa using hM
  have hw : IntKind.u64.wrap (M : Int) = M := by rw [u64w]; omega
  have RP := Lib.hid (rput3_any M 4 (by omega) (by decide))
  clear hM
  go_enter Try.func62, Try.ntmps62
  go_wp2_with (first | (go_at_call 39; refine U.out.mono ?_; rintro e w1 ⟨rfl, hc, ht⟩; have HC := Lib.hid hc; have HT := Lib.hid ht; clear hc ht) | (go_at_call 63; refine (RP.out _).mono ?_; rintro e w2 ⟨v, rfl, ho, hb⟩; obtain ⟨a, c, rfl, hr, hab, _, _⟩ := own_reads ho; have HR := Lib.hid hr; have HB := Lib.hid hb; have HAB := Lib.hid hab; clear ho hb hr hab))
  go_ret
  exact ⟨HC.out.below HB.out HC.out.lt, HT.out.trans (Turned.of_below HB.out (fun i hi _ => hi)), .inl ⟨rfl, a, c, rfl, HR.out.congr fun i hi => BR.out i hi, fun p hp => ⟨by have := (HAB.out p hp).1; have := HT.out.size; omega, (HAB.out p hp).2⟩⟩⟩
theorem ask64_short (pa pc bc n : Nat) (z : Nat → Int) (at_ : Nat) (hz : ∀ i, i < n → 0 ≤ z i ∧ z i ≤ 255) (hn : n ≤ 100000) (N : Int) (w : World) (c0 : w.cell? ⟨pa, 0, none⟩ = some (.int .u8 3)) (c1 : w.cell? ⟨pa, 1, none⟩ = some (.int .i64 N)) (c2 : w.cell? ⟨pc, 0, none⟩ = some (.pointer (some ⟨bc, 0, none⟩))) (h : CursorAt w bc n z at_) (hm : n < at_ + 8) :
    Calls Try.prog 62 #[.pointer (some ⟨pa, 0, none⟩), .pointer (some ⟨pc, 0, none⟩)] w (AskEnd bc n z at_ 0 1 w) := by
  have U := Lib.hid (u64_short bc n z at_ hn h.le hm w h)
  have H := Lib.hid h
  clear h hz hm
  go_enter Try.func62, Try.ntmps62
  go_wp2_with (go_at_call 66; refine U.out.mono ?_; rintro e w1 ⟨rfl, j, rfl⟩)
  exact ⟨rfl, H.out.drawn _, (Turned.refl _ w).drewN _, .inr ⟨rfl, by decide, rfl⟩⟩
theorem ask64_ok (pa pc bc n : Nat) (z : Nat → Int) (at_ : Nat) (hz : ∀ i, i < n → 0 ≤ z i ∧ z i ≤ 255) (hn : n ≤ 100000) (N : Int) (w : World) (c0 : w.cell? ⟨pa, 0, none⟩ = some (.int .u8 3)) (c1 : w.cell? ⟨pa, 1, none⟩ = some (.int .i64 N)) (c2 : w.cell? ⟨pc, 0, none⟩ = some (.pointer (some ⟨bc, 0, none⟩))) (h : CursorAt w bc n z at_) (hm : at_ + 8 ≤ n) :
    Calls Try.prog 62 #[.pointer (some ⟨pa, 0, none⟩), .pointer (some ⟨pc, 0, none⟩)] w (AskEnd bc n z at_ 8 0 w) := by
  have U := Lib.hid (u64_ok bc n z at_ hz hn hm w h)
  have hM := num_lt (fun i => z (at_ + i)) 8 (fun i hi => hz (at_ + i) (by omega))
  have BR := Lib.hid (bytes_row (fun i => z (at_ + i)) 8 (fun i hi => hz (at_ + i) (by omega)))
  clear h hz hm
  generalize num (fun i => z (at_ + i)) 8 = M at *
  have hM : M < 18446744073709551616 := by simpa using hM
  have hw : IntKind.u64.wrap (M : Int) = M := by rw [u64w]; omega
  have RP := Lib.hid (rput3_any M 8 (by omega) (by decide))
  clear hM
  go_enter Try.func62, Try.ntmps62
  go_wp2_with (first | (go_at_call 66; refine U.out.mono ?_; rintro e w1 ⟨rfl, hc, ht⟩; have HC := Lib.hid hc; have HT := Lib.hid ht; clear hc ht) | (go_at_call 63; refine (RP.out _).mono ?_; rintro e w2 ⟨v, rfl, ho, hb⟩; obtain ⟨a, c, rfl, hr, hab, _, _⟩ := own_reads ho; have HR := Lib.hid hr; have HB := Lib.hid hb; have HAB := Lib.hid hab; clear ho hb hr hab))
  go_ret
  exact ⟨HC.out.below HB.out HC.out.lt, HT.out.trans (Turned.of_below HB.out (fun i hi _ => hi)), .inl ⟨rfl, a, c, rfl, HR.out.congr fun i hi => BR.out i hi, fun p hp => ⟨by have := (HAB.out p hp).1; have := HT.out.size; omega, (HAB.out p hp).2⟩⟩⟩
theorem ask4_neg (pa pc bc n : Nat) (z : Nat → Int) (at_ : Nat) (hz : ∀ i, i < n → 0 ≤ z i ∧ z i ≤ 255) (hn : n ≤ 100000) (N : Int) (w : World) (c0 : w.cell? ⟨pa, 0, none⟩ = some (.int .u8 4)) (c1 : w.cell? ⟨pa, 1, none⟩ = some (.int .i64 N)) (c2 : w.cell? ⟨pc, 0, none⟩ = some (.pointer (some ⟨bc, 0, none⟩))) (h : CursorAt w bc n z at_) (hm : N < 0) :
    Calls Try.prog 62 #[.pointer (some ⟨pa, 0, none⟩), .pointer (some ⟨pc, 0, none⟩)] w (AskEnd bc n z at_ 0 4 w) := by
  have U := Lib.hid (cbytes_neg bc N hm w)
  have H := Lib.hid h
  clear h hz hm
  go_enter Try.func62, Try.ntmps62
  go_wp2_with (go_at_call 67; refine U.out.mono ?_; rintro e w1 ⟨rfl, rfl⟩)
  exact ⟨rfl, H.out, Turned.refl _ _, .inr ⟨rfl, by decide, rfl⟩⟩
theorem ask4_short (pa pc bc n : Nat) (z : Nat → Int) (at_ : Nat) (hz : ∀ i, i < n → 0 ≤ z i ∧ z i ≤ 255) (hn : n ≤ 100000) (N : Int) (w : World) (c0 : w.cell? ⟨pa, 0, none⟩ = some (.int .u8 4)) (c1 : w.cell? ⟨pa, 1, none⟩ = some (.int .i64 N)) (c2 : w.cell? ⟨pc, 0, none⟩ = some (.pointer (some ⟨bc, 0, none⟩))) (h : CursorAt w bc n z at_) (hm0 : 0 ≤ N) (hm : ((n - at_ : Nat) : Int) < N) :
    Calls Try.prog 62 #[.pointer (some ⟨pa, 0, none⟩), .pointer (some ⟨pc, 0, none⟩)] w (AskEnd bc n z at_ 0 1 w) := by
  have U := Lib.hid (cbytes_short bc n z at_ N hm0 hn hm w h)
  have H := Lib.hid h
  clear h hz hm
  go_enter Try.func62, Try.ntmps62
  go_wp2_with (go_at_call 67; refine U.out.mono ?_; rintro e w1 ⟨rfl, j, rfl⟩)
  exact ⟨rfl, H.out.drawn _, (Turned.refl _ w).drewN _, .inr ⟨rfl, by decide, rfl⟩⟩
theorem ask4_ok (pa pc bc n : Nat) (z : Nat → Int) (at_ : Nat) (hz : ∀ i, i < n → 0 ≤ z i ∧ z i ≤ 255) (hn : n ≤ 100000) (N : Int) (w : World) (c0 : w.cell? ⟨pa, 0, none⟩ = some (.int .u8 4)) (c1 : w.cell? ⟨pa, 1, none⟩ = some (.int .i64 N)) (c2 : w.cell? ⟨pc, 0, none⟩ = some (.pointer (some ⟨bc, 0, none⟩))) (h : CursorAt w bc n z at_) (k : Nat) (hk : N = k) (hm : at_ + k ≤ n) :
    Calls Try.prog 62 #[.pointer (some ⟨pa, 0, none⟩), .pointer (some ⟨pc, 0, none⟩)] w (AskEnd bc n z at_ k 0 w) := by
  subst hk
  have U := Lib.hid (cbytes_ok bc n z at_ k hn hm w h)
  clear h hz hm
  go_enter Try.func62, Try.ntmps62
  go_wp2_with (go_at_call 67; refine U.out.mono ?_; rintro e w1 ⟨v, rfl, ho, hc, ht⟩; obtain ⟨a, c, rfl, hr, hab⟩ := own_reads' ho; have HR := Lib.hid hr; have HC := Lib.hid hc; have HT := Lib.hid ht; have HAB := Lib.hid hab; clear ho hr hc ht hab)
  go_ret
  exact ⟨HC.out, HT.out, .inl ⟨rfl, a, c, rfl, HR.out, HAB.out⟩⟩
theorem ask5_ok (pa pc bc n : Nat) (z : Nat → Int) (at_ : Nat) (hz : ∀ i, i < n → 0 ≤ z i ∧ z i ≤ 255) (hn : n ≤ 100000) (N : Int) (w : World) (c0 : w.cell? ⟨pa, 0, none⟩ = some (.int .u8 5)) (c1 : w.cell? ⟨pa, 1, none⟩ = some (.int .i64 N)) (c2 : w.cell? ⟨pc, 0, none⟩ = some (.pointer (some ⟨bc, 0, none⟩))) (h : CursorAt w bc n z at_) (hm : ¬ at_ < n) :
    Calls Try.prog 62 #[.pointer (some ⟨pa, 0, none⟩), .pointer (some ⟨pc, 0, none⟩)] w (AskEnd bc n z at_ 0 0 w) := by
  obtain rfl : at_ = n := by have := h.le; omega
  have U := Lib.hid (cend_ok bc at_ z hn w h)
  have H := Lib.hid h
  clear h hz hm
  go_enter Try.func62, Try.ntmps62
  go_wp2_with (go_at_call 68; refine U.out.mono ?_; rintro e w1 ⟨rfl, j, rfl⟩)
  go_ret
  exact ⟨H.out.drawn _, (Turned.refl _ w).drewN _, .inl ⟨rfl, none, 0, rfl, .inl rfl, fun p hp => by cases hp⟩⟩
theorem ask5_long (pa pc bc n : Nat) (z : Nat → Int) (at_ : Nat) (hz : ∀ i, i < n → 0 ≤ z i ∧ z i ≤ 255) (hn : n ≤ 100000) (N : Int) (w : World) (c0 : w.cell? ⟨pa, 0, none⟩ = some (.int .u8 5)) (c1 : w.cell? ⟨pa, 1, none⟩ = some (.int .i64 N)) (c2 : w.cell? ⟨pc, 0, none⟩ = some (.pointer (some ⟨bc, 0, none⟩))) (h : CursorAt w bc n z at_) (hm : at_ < n) :
    Calls Try.prog 62 #[.pointer (some ⟨pa, 0, none⟩), .pointer (some ⟨pc, 0, none⟩)] w (AskEnd bc n z at_ 0 2 w) := by
  have U := Lib.hid (cend_long bc n z at_ hn hm w h)
  have H := Lib.hid h
  clear h hz hm
  go_enter Try.func62, Try.ntmps62
  go_wp2_with (go_at_call 68; refine U.out.mono ?_; rintro e w1 ⟨rfl, j, rfl⟩)
  exact ⟨rfl, H.out.drawn _, (Turned.refl _ w).drewN _, .inr ⟨rfl, by decide, rfl⟩⟩
theorem ask_none (pa pc bc n : Nat) (z : Nat → Int) (at_ : Nat) (hz : ∀ i, i < n → 0 ≤ z i ∧ z i ≤ 255) (hn : n ≤ 100000) (N : Int) (w : World) (d : Int) (c0 : w.cell? ⟨pa, 0, none⟩ = some (.int .u8 d)) (c1 : w.cell? ⟨pa, 1, none⟩ = some (.int .i64 N)) (c2 : w.cell? ⟨pc, 0, none⟩ = some (.pointer (some ⟨bc, 0, none⟩))) (h : CursorAt w bc n z at_) (h0 : (d == 0) = false) (h1 : (d == 1) = false) (h2 : (d == 2) = false) (h3 : (d == 3) = false) (h4 : (d == 4) = false) (h5 : (d == 5) = false) :
    Calls Try.prog 62 #[.pointer (some ⟨pa, 0, none⟩), .pointer (some ⟨pc, 0, none⟩)] w (AskEnd bc n z at_ 0 0 w) := by
  have H := Lib.hid h
  clear h hz
  go_enter Try.func62, Try.ntmps62
  go_wp2
  go_ret
  exact ⟨H.out, Turned.refl _ w, .inl ⟨rfl, none, 0, rfl, .inl rfl, fun p hp => by cases hp⟩⟩
theorem askin_any (pa pc bc n : Nat) (z : Nat → Int) (at_ : Nat) (hz : ∀ i, i < n → 0 ≤ z i ∧ z i ≤ 255) (hn : n ≤ 100000) (N : Int) (w : World) (d : Int) (c0 : w.cell? ⟨pa, 0, none⟩ = some (.int .u8 d)) (c1 : w.cell? ⟨pa, 1, none⟩ = some (.int .i64 N)) (c2 : w.cell? ⟨pc, 0, none⟩ = some (.pointer (some ⟨bc, 0, none⟩))) (h : CursorAt w bc n z at_) :
    Calls Try.prog 62 #[.pointer (some ⟨pa, 0, none⟩), .pointer (some ⟨pc, 0, none⟩)] w (AskEnd bc n z at_ (askn n at_ d N).1 (askn n at_ d N).2 w) := by
  unfold askn
  by_cases h5 : d = 5
  · subst h5
    rw [if_pos rfl]
    by_cases hm : at_ < n
    · simp only [if_pos hm]; exact ask5_long pa pc bc n z at_ hz hn N w c0 c1 c2 h hm
    · simp only [if_neg hm]; exact ask5_ok pa pc bc n z at_ hz hn N w c0 c1 c2 h hm
  rw [if_neg h5]
  by_cases h4 : d = 4
  · subst h4
    rw [if_pos rfl]
    by_cases hm : N < 0
    · rw [if_pos hm]; exact ask4_neg pa pc bc n z at_ hz hn N w c0 c1 c2 h hm
    rw [if_neg hm]
    by_cases hs : ((n - at_ : Nat) : Int) < N
    · rw [if_pos hs]; exact ask4_short pa pc bc n z at_ hz hn N w c0 c1 c2 h (by omega) hs
    · rw [if_neg hs]; exact ask4_ok pa pc bc n z at_ hz hn N w c0 c1 c2 h N.toNat (by omega) (by have := h.le; omega)
  rw [if_neg h4]
  by_cases h3 : d = 3
  · subst h3
    rw [if_pos rfl]
    by_cases hm : n < at_ + 8
    · rw [if_pos hm]; exact ask64_short pa pc bc n z at_ hz hn N w c0 c1 c2 h hm
    · rw [if_neg hm]; exact ask64_ok pa pc bc n z at_ hz hn N w c0 c1 c2 h (by omega)
  rw [if_neg h3]
  by_cases h2 : d = 2
  · subst h2
    rw [if_pos rfl]
    by_cases hm : n < at_ + 4
    · rw [if_pos hm]; exact ask32_short pa pc bc n z at_ hz hn N w c0 c1 c2 h hm
    · rw [if_neg hm]; exact ask32_ok pa pc bc n z at_ hz hn N w c0 c1 c2 h (by omega)
  rw [if_neg h2]
  by_cases h1 : d = 1
  · subst h1
    rw [if_pos rfl]
    by_cases hm : n < at_ + 2
    · rw [if_pos hm]; exact ask16_short pa pc bc n z at_ hz hn N w c0 c1 c2 h hm
    · rw [if_neg hm]; exact ask16_ok pa pc bc n z at_ hz hn N w c0 c1 c2 h (by omega)
  rw [if_neg h1]
  by_cases h0 : d = 0
  · subst h0
    rw [if_pos rfl]
    by_cases hm : n < at_ + 1
    · rw [if_pos hm]; exact ask8_short pa pc bc n z at_ hz hn N w c0 c1 c2 h hm
    · rw [if_neg hm]; exact ask8_ok pa pc bc n z at_ hz hn N w c0 c1 c2 h (by omega)
  rw [if_neg h0]
  exact ask_none pa pc bc n z at_ hz hn N w d c0 c1 c2 h (by simpa using h0) (by simpa using h1) (by simpa using h2) (by simpa using h3) (by simpa using h4) (by simpa using h5)
end Go.Proofs.Ytknpekpigiclkaa
