/-
  TEXTS OF THIS PROOF, one behind the other: XCur XCurNext.
-/
import Derived.Test.YthonjffojaljdaaClone
import Derived.Test.YthonjffojaljdaaHybM1
import Derived.Test.YthonjffojaljdaaHybM6
import Derived.LoopTactic
/-
  CONTRACTS OF cursor.New, Left, At, take, Bytes, Peek, End, U8, U16, U32, U64, in any world where the cursor lies: what each tells, or throws; only the cursor turns. Conditions: at most 20000 bytes.
-/
namespace Go.Proofs.Ythonjffojaljdaa
open Go.RowKit
set_option linter.unusedVariables false
/-- A cursor of n bytes that is at a byte. -/
def CursorAt (w : World) (bc n : Nat) (z : Nat → Int) (at_ : Nat) : Prop :=
  ∃ a cap, Lies w bc 134 #[.slice a n cap, .int .i64 at_] ∧ RowOf w a n (fun i => .int .u8 (z i)) ∧ ((a = none ∧ cap = 0) ∨ ∃ g, a = some ⟨g, 0, none⟩ ∧ g < bc) ∧ n ≤ cap ∧ cap ≤ maxLen ∧ at_ ≤ n
theorem CursorAt.drewN {w : World} {bc n : Nat} {z : Nat → Int} {at_ : Nat} (h : CursorAt w bc n z at_) (k : Nat) : CursorAt (w.drewN k) bc n z at_ := h
theorem CursorAt.below {w w' : World} {B bc n : Nat} {z : Nat → Int} {at_ : Nat} (h : CursorAt w bc n z at_) (k : Below B w w') (hB : bc < B) : CursorAt w' bc n z at_ := by
  obtain ⟨a, cap, hl, hr, ha, hc⟩ := h
  refine ⟨a, cap, hl.below k hB, hr.turned (S := fun i => B ≤ i) (Turned.of_below k (fun i _ hi => by omega)) (fun p hp hs => ?_), ha, hc⟩
  rcases ha with ⟨rfl, _⟩ | ⟨g, rfl, hg⟩
  · cases hp
  · injection hp with hp
    subst hp
    simp only at hs
    omega
theorem CursorAt.lt {w : World} {bc n : Nat} {z : Nat → Int} {at_ : Nat} (h : CursorAt w bc n z at_) : bc < w.heap.size := by
  obtain ⟨a, cap, hl, _⟩ := h
  exact hl.lt
theorem CursorAt.le {w : World} {bc n : Nat} {z : Nat → Int} {at_ : Nat} (h : CursorAt w bc n z at_) : at_ ≤ n := by
  obtain ⟨a, cap, _, _, _, _, _, h⟩ := h
  exact h
theorem cnew_any (a : Option Addr) (len cap : Nat) (z : Nat → Int) (hlen : len ≤ 100000) (w : World) (h : RowOf w a len (fun i => .int .u8 (z i))) :
    Calls Try.prog 80 #[.slice a len cap] w fun e w' => ∃ bc, e = .returned (.pointer (some ⟨bc, 0, none⟩)) ∧ CursorAt w' bc len z 0 ∧ w.heap.size ≤ bc ∧ Below w.heap.size w w' := by
  have CL := Lib.hid (clone_any a len cap z hlen w h)
  clear h
  go_enter Try.func80, Try.ntmps80
  go_wp2_with (go_at_call 115; refine CL.out.mono ?_; rintro e w' ⟨v', rfl, hx, hb⟩; obtain ⟨a', cap', rfl, hr, hab⟩ := own_reads' hx; have HX := Lib.hid hx; have HB := Lib.hid hb; have HR := Lib.hid hr; clear hx hb hr hab)
  go_ret
  have hcc : ((a' = none ∧ cap' = 0) ∨ ∃ g, a' = some ⟨g, 0, none⟩ ∧ g < w'.heap.size) ∧ len ≤ cap' ∧ cap' ≤ maxLen := by
    rcases HX.out.2 with ⟨hv, h0⟩ | ⟨g, cp, cur, hv, _, hg, h1, h2, _⟩
    · injection hv with ha hn hc
      exact ⟨.inl ⟨ha, hc⟩, by omega, by omega⟩
    · injection hv with ha hn hc
      subst hc
      exact ⟨.inr ⟨g, ha, (Array.getElem?_eq_some_iff.1 hg).1⟩, h1, h2⟩
  exact ⟨_, rfl, ⟨a', cap', Lies.new _ _ _, HR.out.below ((Below.refl _ _).alloc (Nat.le_refl _) _), hcc.1, hcc.2.1, hcc.2.2, Nat.zero_le _⟩, HB.out.size, HB.out.alloc HB.out.size _⟩
theorem cleft_any (bc n : Nat) (z : Nat → Int) (at_ : Nat) (hn : n ≤ 100000) (w : World) (h : CursorAt w bc n z at_) :
    Calls Try.prog 116 #[.pointer (some ⟨bc, 0, none⟩)] w fun e w' => e = .returned (.int .i64 (n - at_ : Nat)) ∧ ∃ k, w' = w.drewN k := by
  obtain ⟨a, cap, hl, _, _, _, _, hat⟩ := h
  have c0 := hl.cell 0
  have c1 : w.cell? ⟨bc, 1, none⟩ = some (.int .i64 at_) := hl.cell 1
  have he : (n : Int) - at_ = (n - at_ : Nat) := by omega
  have HE := Lib.hid he
  have h1 : (at_ : Int) ≤ n := by omega
  clear hl he
  go_enter Try.func116, Try.ntmps116
  go_wp2
  go_quiet (fail)
  go_wp2
  go_ret
  exact ⟨ret_int HE.out, _, rfl⟩
theorem cend_ok (bc n : Nat) (z : Nat → Int) (hn : n ≤ 100000) (w : World) (h : CursorAt w bc n z n) :
    Calls Try.prog 81 #[.pointer (some ⟨bc, 0, none⟩)] w fun e w' => e = .returned (.tuple #[]) ∧ ∃ k, w' = w.drewN k := by
  have LE := cleft_any bc n z n hn w h
  rw [Nat.sub_self] at LE
  have LE := Lib.hid LE
  have CO := Lib.hid (check_ok 2)
  clear h
  go_enter Try.func81, Try.ntmps81
  go_wp2_with (first | (go_at_call 116; refine LE.out.mono ?_; rintro e w' ⟨rfl, j, rfl⟩) | (go_at_call 42; refine (CO.out _).mono ?_; rintro e w' ⟨rfl, rfl⟩))
  go_end0
  exact ⟨rfl, _, rfl⟩
theorem cend_long (bc n : Nat) (z : Nat → Int) (at_ : Nat) (hn : n ≤ 100000) (hlt : at_ < n) (w : World) (h : CursorAt w bc n z at_) :
    Calls Try.prog 81 #[.pointer (some ⟨bc, 0, none⟩)] w fun e w' => e = (.panicked [{ v := .iface 137 (.agg #[.int .i64 2]), recovered := false }]) ∧ ∃ k, w' = w.drewN k := by
  have LE := Lib.hid (cleft_any bc n z at_ hn w h)
  have CO := Lib.hid (check_some 2 (by decide))
  have h0 : (((n - at_ : Nat) : Int) == 0) = false := by rw [beq_eq_false_iff_ne]; omega
  clear h hlt
  generalize n - at_ = L at *
  go_enter Try.func81, Try.ntmps81
  go_wp2_with (first | (go_at_call 116; refine LE.out.mono ?_; rintro e w' ⟨rfl, j, rfl⟩) | (go_at_call 42; refine (CO.out _).mono ?_; rintro e w' ⟨rfl, rfl⟩))
  exact ⟨rfl, rfl, _, rfl⟩
theorem ctake_short (bc n : Nat) (z : Nat → Int) (at_ : Nat) (m : Int) (hn : n ≤ 100000) (hm : ((n - at_ : Nat) : Int) < m) (w : World) (h : CursorAt w bc n z at_) :
    Calls Try.prog 117 #[.pointer (some ⟨bc, 0, none⟩), .int .i64 m] w fun e w' => e = (.panicked [{ v := .iface 137 (.agg #[.int .i64 1]), recovered := false }]) ∧ ∃ k, w' = w.drewN k := by
  have LE := Lib.hid (cleft_any bc n z at_ hn w h)
  have CO := Lib.hid (check_some 1 (by decide))
  clear h
  generalize n - at_ = L at *
  have hm2 : decide (m ≤ (L : Int)) = false := decide_eq_false (by omega)
  clear hm
  go_enter Try.func117, Try.ntmps117
  go_wp2_with (first | (go_at_call 116; refine LE.out.mono ?_; rintro e w' ⟨rfl, j, rfl⟩) | (go_at_call 42; refine (CO.out _).mono ?_; rintro e w' ⟨rfl, rfl⟩))
  exact ⟨rfl, rfl, _, rfl⟩
set_option maxRecDepth 100000 in
set_option maxHeartbeats 1000000 in
theorem ctake_ok (bc n : Nat) (z : Nat → Int) (at_ m : Nat) (hn : n ≤ 100000) (hm : at_ + m ≤ n) (w : World) (h : CursorAt w bc n z at_) :
    Calls Try.prog 117 #[.pointer (some ⟨bc, 0, none⟩), .int .i64 m] w fun e w' => ∃ a' c', e = .returned (.slice a' m c') ∧ RowOf w' a' m (fun i => .int .u8 (z (at_ + i))) ∧ CursorAt w' bc n z (at_ + m) ∧ Turned (· = bc) w w' ∧ (∀ p, a' = some p → p.block < bc) := by
  have LE := Lib.hid (cleft_any bc n z at_ hn w h)
  have CO := Lib.hid (check_ok 1)
  have H := Lib.hid h
  obtain ⟨a, cap, hl, hr, ha, hnc, hcm, hat⟩ := h
  have c0 := hl.cell 0
  have c1 : w.cell? ⟨bc, 1, none⟩ = some (.int .i64 at_) := hl.cell 1
  have f0 := hl.frozen 0
  have f1 := hl.frozen 1
  have m1 : (m : Int) ≤ ((n - at_ : Nat) : Int) := by omega
  have m2 : (at_ : Int) + m ≤ n := by omega
  have m3 : (n : Int) ≤ cap := by omega
  have m4 : (n : Int) ≤ 100000 := by omega
  have m5 : (cap : Int) ≤ 9223372036854775807 := by unfold maxLen at hcm; omega
  have m6 : IntKind.i64.wrap ((at_ : Int) + m) = (at_ : Int) + m := IntWalk.i64_in _ (by omega)
  have m7 : (0 : Int) ≤ (at_ : Int) + m := by omega
  have m8 : (at_ : Int) ≤ (at_ : Int) + m := by omega
  have HL := Lib.hid hl
  have HR := Lib.hid hr
  have HA := Lib.hid ha
  clear hl hr ha
  obtain ⟨L, hL⟩ : ∃ L, n - at_ = L := ⟨_, rfl⟩
  rw [hL] at LE m1
  have m9 : decide (m ≤ L) = true := decide_eq_true (by omega)
  have m10 : decide ((m : Int) ≤ (L : Int)) = true := decide_eq_true m1
  clear hL
  have HW : ∀ k, CursorAt ((w.drewN k).setCell ⟨bc, 1, none⟩ (.int .i64 ((at_ : Int) + m))) bc n z (at_ + m) ∧ Turned (· = bc) w ((w.drewN k).setCell ⟨bc, 1, none⟩ (.int .i64 ((at_ : Int) + m))) := fun k => by
    have ht : Turned (· = bc) w ((w.drewN k).setCell ⟨bc, 1, none⟩ (.int .i64 ((at_ : Int) + m))) := ((Turned.refl (· = bc) w).drewN k).setCell (p := ⟨bc, 1, none⟩) (.inl rfl) _
    refine ⟨⟨a, cap, (HL.out.drewN k).set_ 1 _, HR.out.turned ht (fun p hp e => ?_), HA.out, hnc, hcm, hm⟩, ht⟩
    rcases HA.out with ⟨rfl, _⟩ | ⟨g, rfl, hg⟩
    · cases hp
    · injection hp with hp
      subst hp
      simp only at e
      omega
  have HW := Lib.hid HW
  have HP : ∀ p, (a.map (fun x => x.add at_)) = some p → p.block < bc := fun p hp => by
    rcases HA.out with ⟨rfl, _⟩ | ⟨g, rfl, hg⟩
    · cases hp
    · simp only [Option.map_some, Option.some.injEq] at hp
      subst hp
      unfold Addr.add
      split <;> exact hg
  have HP := Lib.hid HP
  have HP0 : ∀ p, a = some p → p.block < bc := fun p hp => by
    rcases HA.out with ⟨rfl, _⟩ | ⟨g, rfl, hg⟩
    · cases hp
    · injection hp with hp
      subst hp
      exact hg
  have HP0 := Lib.hid HP0
  by_cases hca : cap = at_
  · obtain rfl : m = 0 := by omega
    have HCA := Lib.hid hca
    rw [show (at_ : Int) + ((0 : Nat) : Int) = at_ from by simp] at HW
    go_enter Try.func117, Try.ntmps117
    go_wp2_with (first | (go_at_call 116; refine LE.out.mono ?_; rintro e w' ⟨rfl, j, rfl⟩) | (go_at_call 42; refine (CO.out _).mono ?_; rintro e w' ⟨rfl, rfl⟩))
    go_quiet (fail)
    go_wp2
    go_ret
    exact ⟨a, 0, rfl, .inl rfl, (HW.out _).1, (HW.out _).2, HP0.out⟩
  · have m11 : at_ + m - at_ = m := by omega
    go_enter Try.func117, Try.ntmps117
    go_wp2_with (first | (go_at_call 116; refine LE.out.mono ?_; rintro e w' ⟨rfl, j, rfl⟩) | (go_at_call 42; refine (CO.out _).mono ?_; rintro e w' ⟨rfl, rfl⟩))
    go_quiet (fail)
    go_wp2
    go_ret
    refine ⟨a.map (fun x => x.add at_), cap - at_, ?_, ?_, (HW.out _).1, (HW.out _).2, HP.out⟩
    · show Ending.returned (.slice (a.map (fun x => x.add at_)) (at_ + m - at_) (cap - at_)) = _
      rw [m11]
    rcases Nat.eq_zero_or_pos m with h0 | h0
    · exact .inl h0
    · obtain ⟨b, off, rfl, _, hc⟩ := (HR.out.turned (HW.out (j + nq)).2 (fun p hp e => by have := HP0.out p hp; omega)).at_ (i := 0) (by omega)
      refine .inr ⟨b, off + at_, ?_, fun i hi => ?_⟩
      · simp only [Option.map_some, Addr.add]
        split
        · rename_i h; subst h; rfl
        · rfl
      · rw [Nat.add_assoc]
        exact hc (at_ + i) (by omega)
end Go.Proofs.Ythonjffojaljdaa


/-
  CONTRACTS OF cursor.next and U8, U16, U32, U64, Bytes, Peek, in any world where the cursor lies. Conditions: at most 20000 bytes.
-/
namespace Go.Proofs.Ythonjffojaljdaa
open Go.RowKit
set_option linter.unusedVariables false
theorem nor8 (N x k : Nat) (hN : N < 256 ^ k) (hx : x < 256) (hk : k < 1) : Go.bits .or .u8 (N : Int) ((x : Int) * 2 ^ (8 * k) % 256) = ((N + x * 256 ^ k : Nat) : Int) := by
  have hp : (2 : Nat) ^ (8 * k) = 256 ^ k := by rw [Nat.pow_mul]
  have hpi : (2 : Int) ^ (8 * k) = ((256 ^ k : Nat) : Int) := by rw [← hp]; simp
  have h1 : x * 256 ^ k < 256 := by
    have h2 : x * 256 ^ k < 256 * 256 ^ k := Nat.mul_lt_mul_of_pos_right hx (Nat.pow_pos (by decide))
    have h3 : 256 * 256 ^ k ≤ 256 ^ 1 := by rw [← Nat.pow_succ']; exact Nat.pow_le_pow_right (by decide) hk
    have h4 : (256 : Nat) ^ 1 = 256 := by decide
    omega
  have h5 : N < 256 := by
    have h3 : 256 ^ k ≤ 256 ^ 1 := Nat.pow_le_pow_right (by decide) (by omega)
    have h4 : (256 : Nat) ^ 1 = 256 := by decide
    omega
  have e2 : (x : Int) * 2 ^ (8 * k) % 256 = ((x * 256 ^ k : Nat) : Int) := by
    rw [hpi, ← Int.natCast_mul]; omega
  rw [e2, u8_or_nat _ _ h5 h1]
  congr 1
  rw [← hp] at hN ⊢
  exact or_add N x (8 * k) hN
set_option maxRecDepth 100000 in
set_option maxHeartbeats 1000000 in
theorem next8 (bc n : Nat) (z : Nat → Int) (at_ : Nat) (hz : ∀ i, i < n → 0 ≤ z i ∧ z i ≤ 255) (hn : n ≤ 100000) (hm : at_ + 1 ≤ n) (w : World) (h : CursorAt w bc n z at_) :
    Calls Try.prog 83 #[.pointer (some ⟨bc, 0, none⟩), .int .i64 1] w fun e w' => e = .returned (.int .u8 (num (fun i => z (at_ + i)) 1 : Nat)) ∧ CursorAt w' bc n z (at_ + 1) ∧ Turned (· = bc) w w' := by
  have TK := ctake_ok bc n z at_ 1 hn hm w h
  rw [show ((1 : Nat) : Int) = 1 from rfl] at TK
  have TK := Lib.hid TK
  have HZ := Lib.hid (fun i (hi : i < 1) => hz (at_ + i) (by omega))
  clear h hz
  go_enter Try.func83, Try.ntmps83
  go_wp2_with (go_at_call 117; refine TK.out.mono ?_; rintro e w1 ⟨a1, c1, rfl, hr, hc, ht, _⟩; have HR := Lib.hid hr; have HC := Lib.hid hc; have HT := Lib.hid ht; clear hr hc ht)
  go_loop [5, 12] (fun v i => ∃ k : Nat, k ≤ 1 ∧ i = .int .i64 k ∧ v = .int .u8 (num (fun i => z (at_ + i)) k : Nat)) (fun _ i => 1 - (intOf i).toNat)
  case atStart => exact ⟨0, by omega, rfl, rfl⟩
  case round =>
    obtain ⟨k, hk, rfl, rfl⟩ := hrel
    by_cases hk2 : k < 1
    · have k1 : (k : Int) < 1 := by omega
      have k0 : (0 : Int) ≤ k := by omega
      obtain ⟨b, off, rfl, _, hcell⟩ := HR.out.at_ hk2
      have c0 := hcell k hk2
      have zb := HZ.out k hk2
      clear hcell
      obtain ⟨x, hx⟩ : ∃ x : Nat, z (at_ + k) = x := ⟨(z (at_ + k)).toNat, by omega⟩
      rw [hx] at c0
      have hx2 : x < 256 := by omega
      have hx3 : (x : Int) ≤ 255 := by omega
      have hNl : num (fun i => z (at_ + i)) k < 256 ^ k := num_lt _ k (fun i hi => HZ.out i (by omega))
      have hS : num (fun i => z (at_ + i)) (k + 1) = num (fun i => z (at_ + i)) k + x * 256 ^ k := by simp only [num]; rw [hx]; simp
      have HS := Lib.hid hS
      clear zb hS
      obtain ⟨N, hN⟩ : ∃ N, num (fun i => z (at_ + i)) k = N := ⟨_, rfl⟩
      rw [hN] at hNl HS
      rw [hN]
      have HO := Lib.hid (nor8 N x k hNl hx2 hk2)
      clear hN hx hNl hx2
      go_wp2
      go_round
      case rel => exact ⟨k + 1, by omega, by go_num, by rw [HS.out, ← HO.out]⟩
      case measure => simp [intOf]; omega
    · obtain rfl : k = 1 := by omega
      go_wp2
      go_ret
      exact ⟨rfl, HC.out, HT.out⟩
theorem nextshort8 (bc n : Nat) (z : Nat → Int) (at_ : Nat) (hn : n ≤ 100000) (hat : at_ ≤ n) (hm : n < at_ + 1) (w : World) (h : CursorAt w bc n z at_) :
    Calls Try.prog 83 #[.pointer (some ⟨bc, 0, none⟩), .int .i64 1] w fun e w' => e = (.panicked [{ v := .iface 137 (.agg #[.int .i64 1]), recovered := false }]) ∧ ∃ k, w' = w.drewN k := by
  have TK := Lib.hid (ctake_short bc n z at_ 1 hn (by omega) w h)
  clear h
  go_enter Try.func83, Try.ntmps83
  go_wp2_with (go_at_call 117; refine TK.out.mono ?_; rintro e w1 ⟨rfl, j, rfl⟩)
  exact ⟨rfl, rfl, _, rfl⟩
theorem u8_ok (bc n : Nat) (z : Nat → Int) (at_ : Nat) (hz : ∀ i, i < n → 0 ≤ z i ∧ z i ≤ 255) (hn : n ≤ 100000) (hm : at_ + 1 ≤ n) (w : World) (h : CursorAt w bc n z at_) :
    Calls Try.prog 41 #[.pointer (some ⟨bc, 0, none⟩)] w fun e w' => e = .returned (.int .u8 (num (fun i => z (at_ + i)) 1 : Nat)) ∧ CursorAt w' bc n z (at_ + 1) ∧ Turned (· = bc) w w' := by
  have NX := Lib.hid (next8 bc n z at_ hz hn hm w h)
  clear h hz
  generalize num (fun i => z (at_ + i)) 1 = N at *
  go_enter Try.func41, Try.ntmps41
  go_wp2_with (go_at_call 83; refine NX.out.mono ?_; rintro e w1 ⟨rfl, hc, ht⟩; have HC := Lib.hid hc; have HT := Lib.hid ht; clear hc ht)
  go_ret
  exact ⟨rfl, HC.out, HT.out⟩
theorem u8_short (bc n : Nat) (z : Nat → Int) (at_ : Nat) (hn : n ≤ 100000) (hat : at_ ≤ n) (hm : n < at_ + 1) (w : World) (h : CursorAt w bc n z at_) :
    Calls Try.prog 41 #[.pointer (some ⟨bc, 0, none⟩)] w fun e w' => e = (.panicked [{ v := .iface 137 (.agg #[.int .i64 1]), recovered := false }]) ∧ ∃ k, w' = w.drewN k := by
  have NX := Lib.hid (nextshort8 bc n z at_ hn hat hm w h)
  clear h
  go_enter Try.func41, Try.ntmps41
  go_wp2_with (go_at_call 83; refine NX.out.mono ?_; rintro e w1 ⟨rfl, j, rfl⟩)
  exact ⟨rfl, rfl, _, rfl⟩
theorem nor16 (N x k : Nat) (hN : N < 256 ^ k) (hx : x < 256) (hk : k < 2) : Go.bits .or .u16 (N : Int) (IntKind.u16.wrap ((x : Int) * 2 ^ (8 * k))) = ((N + x * 256 ^ k : Nat) : Int) := by
  have hp : (2 : Nat) ^ (8 * k) = 256 ^ k := by rw [Nat.pow_mul]
  have hpi : (2 : Int) ^ (8 * k) = ((256 ^ k : Nat) : Int) := by rw [← hp]; simp
  have h1 : x * 256 ^ k < 65536 := by
    have h2 : x * 256 ^ k < 256 * 256 ^ k := Nat.mul_lt_mul_of_pos_right hx (Nat.pow_pos (by decide))
    have h3 : 256 * 256 ^ k ≤ 256 ^ 2 := by rw [← Nat.pow_succ']; exact Nat.pow_le_pow_right (by decide) hk
    have h4 : (256 : Nat) ^ 2 = 65536 := by decide
    omega
  have h5 : N < 65536 := by
    have h3 : 256 ^ k ≤ 256 ^ 2 := Nat.pow_le_pow_right (by decide) (by omega)
    have h4 : (256 : Nat) ^ 2 = 65536 := by decide
    omega
  have e2 : IntKind.u16.wrap ((x : Int) * 2 ^ (8 * k)) = ((x * 256 ^ k : Nat) : Int) := by
    rw [IntKind.wrap_u16, hpi, ← Int.natCast_mul]; omega
  rw [e2, u16_or_nat _ _ h5 h1]
  congr 1
  rw [← hp] at hN ⊢
  exact or_add N x (8 * k) hN
theorem nor32 (N x k : Nat) (hN : N < 256 ^ k) (hx : x < 256) (hk : k < 4) : Go.bits .or .u32 (N : Int) ((x : Int) * 2 ^ (8 * k) % 4294967296) = ((N + x * 256 ^ k : Nat) : Int) := by
  have hp : (2 : Nat) ^ (8 * k) = 256 ^ k := by rw [Nat.pow_mul]
  have hpi : (2 : Int) ^ (8 * k) = ((256 ^ k : Nat) : Int) := by rw [← hp]; simp
  have h1 : x * 256 ^ k < 4294967296 := by
    have h2 : x * 256 ^ k < 256 * 256 ^ k := Nat.mul_lt_mul_of_pos_right hx (Nat.pow_pos (by decide))
    have h3 : 256 * 256 ^ k ≤ 256 ^ 4 := by rw [← Nat.pow_succ']; exact Nat.pow_le_pow_right (by decide) hk
    have h4 : (256 : Nat) ^ 4 = 4294967296 := by decide
    omega
  have h5 : N < 4294967296 := by
    have h3 : 256 ^ k ≤ 256 ^ 4 := Nat.pow_le_pow_right (by decide) (by omega)
    have h4 : (256 : Nat) ^ 4 = 4294967296 := by decide
    omega
  have e2 : (x : Int) * 2 ^ (8 * k) % 4294967296 = ((x * 256 ^ k : Nat) : Int) := by
    rw [hpi, ← Int.natCast_mul]; omega
  rw [e2, u32_or_nat _ _ h5 h1]
  congr 1
  rw [← hp] at hN ⊢
  exact or_add N x (8 * k) hN
theorem nor64 (N x k : Nat) (hN : N < 256 ^ k) (hx : x < 256) (hk : k < 8) : Go.bits .or .u64 (N : Int) (IntKind.u64.wrap ((x : Int) * 2 ^ (8 * k))) = ((N + x * 256 ^ k : Nat) : Int) := by
  have hp : (2 : Nat) ^ (8 * k) = 256 ^ k := by rw [Nat.pow_mul]
  have hpi : (2 : Int) ^ (8 * k) = ((256 ^ k : Nat) : Int) := by rw [← hp]; simp
  have h1 : x * 256 ^ k < 18446744073709551616 := by
    have h2 : x * 256 ^ k < 256 * 256 ^ k := Nat.mul_lt_mul_of_pos_right hx (Nat.pow_pos (by decide))
    have h3 : 256 * 256 ^ k ≤ 256 ^ 8 := by rw [← Nat.pow_succ']; exact Nat.pow_le_pow_right (by decide) hk
    have h4 : (256 : Nat) ^ 8 = 18446744073709551616 := by decide
    omega
  have h5 : N < 18446744073709551616 := by
    have h3 : 256 ^ k ≤ 256 ^ 8 := Nat.pow_le_pow_right (by decide) (by omega)
    have h4 : (256 : Nat) ^ 8 = 18446744073709551616 := by decide
    omega
  have e2 : IntKind.u64.wrap ((x : Int) * 2 ^ (8 * k)) = ((x * 256 ^ k : Nat) : Int) := by
    rw [u64w, hpi, ← Int.natCast_mul]; omega
  rw [e2, u64_or_nat _ _ h5 h1]
  congr 1
  rw [← hp] at hN ⊢
  exact or_add N x (8 * k) hN
set_option maxRecDepth 100000 in
set_option maxHeartbeats 1000000 in
theorem next64 (bc n : Nat) (z : Nat → Int) (at_ : Nat) (hz : ∀ i, i < n → 0 ≤ z i ∧ z i ≤ 255) (hn : n ≤ 100000) (hm : at_ + 8 ≤ n) (w : World) (h : CursorAt w bc n z at_) :
    Calls Try.prog 177 #[.pointer (some ⟨bc, 0, none⟩), .int .i64 8] w fun e w' => e = .returned (.int .u64 (num (fun i => z (at_ + i)) 8 : Nat)) ∧ CursorAt w' bc n z (at_ + 8) ∧ Turned (· = bc) w w' := by
  have TK := ctake_ok bc n z at_ 8 hn hm w h
  rw [show ((8 : Nat) : Int) = 8 from rfl] at TK
  have TK := Lib.hid TK
  have HZ := Lib.hid (fun i (hi : i < 8) => hz (at_ + i) (by omega))
  clear h hz
  go_enter Try.func177, Try.ntmps177
  go_wp2_with (go_at_call 117; refine TK.out.mono ?_; rintro e w1 ⟨a1, c1, rfl, hr, hc, ht, _⟩; have HR := Lib.hid hr; have HC := Lib.hid hc; have HT := Lib.hid ht; clear hr hc ht)
  go_loop [5, 12] (fun v i => ∃ k : Nat, k ≤ 8 ∧ i = .int .i64 k ∧ v = .int .u64 (num (fun i => z (at_ + i)) k : Nat)) (fun _ i => 8 - (intOf i).toNat)
  case atStart => exact ⟨0, by omega, rfl, rfl⟩
  case round =>
    obtain ⟨k, hk, rfl, rfl⟩ := hrel
    by_cases hk2 : k < 8
    · have k1 : (k : Int) < 8 := by omega
      have k0 : (0 : Int) ≤ k := by omega
      obtain ⟨b, off, rfl, _, hcell⟩ := HR.out.at_ hk2
      have c0 := hcell k hk2
      have zb := HZ.out k hk2
      clear hcell
      obtain ⟨x, hx⟩ : ∃ x : Nat, z (at_ + k) = x := ⟨(z (at_ + k)).toNat, by omega⟩
      rw [hx] at c0
      have hx2 : x < 256 := by omega
      have hx3 : (x : Int) ≤ 255 := by omega
      have hNl : num (fun i => z (at_ + i)) k < 256 ^ k := num_lt _ k (fun i hi => HZ.out i (by omega))
      have hS : num (fun i => z (at_ + i)) (k + 1) = num (fun i => z (at_ + i)) k + x * 256 ^ k := by simp only [num]; rw [hx]; simp
      have HS := Lib.hid hS
      clear zb hS
      obtain ⟨N, hN⟩ : ∃ N, num (fun i => z (at_ + i)) k = N := ⟨_, rfl⟩
      rw [hN] at hNl HS
      rw [hN]
      have HO := Lib.hid (nor64 N x k hNl hx2 hk2)
      clear hN hx hNl hx2
      go_wp2
      go_round
      case rel => exact ⟨k + 1, by omega, by go_num, by rw [HS.out, ← HO.out]⟩
      case measure => simp [intOf]; omega
    · obtain rfl : k = 8 := by omega
      go_wp2
      go_ret
      exact ⟨rfl, HC.out, HT.out⟩
theorem nextshort64 (bc n : Nat) (z : Nat → Int) (at_ : Nat) (hn : n ≤ 100000) (hat : at_ ≤ n) (hm : n < at_ + 8) (w : World) (h : CursorAt w bc n z at_) :
    Calls Try.prog 177 #[.pointer (some ⟨bc, 0, none⟩), .int .i64 8] w fun e w' => e = (.panicked [{ v := .iface 137 (.agg #[.int .i64 1]), recovered := false }]) ∧ ∃ k, w' = w.drewN k := by
  have TK := Lib.hid (ctake_short bc n z at_ 8 hn (by omega) w h)
  clear h
  go_enter Try.func177, Try.ntmps177
  go_wp2_with (go_at_call 117; refine TK.out.mono ?_; rintro e w1 ⟨rfl, j, rfl⟩)
  exact ⟨rfl, rfl, _, rfl⟩
theorem u64_ok (bc n : Nat) (z : Nat → Int) (at_ : Nat) (hz : ∀ i, i < n → 0 ≤ z i ∧ z i ≤ 255) (hn : n ≤ 100000) (hm : at_ + 8 ≤ n) (w : World) (h : CursorAt w bc n z at_) :
    Calls Try.prog 175 #[.pointer (some ⟨bc, 0, none⟩)] w fun e w' => e = .returned (.int .u64 (num (fun i => z (at_ + i)) 8 : Nat)) ∧ CursorAt w' bc n z (at_ + 8) ∧ Turned (· = bc) w w' := by
  have NX := Lib.hid (next64 bc n z at_ hz hn hm w h)
  clear h hz
  generalize num (fun i => z (at_ + i)) 8 = N at *
  go_enter Try.func175, Try.ntmps175
  go_wp2_with (go_at_call 177; refine NX.out.mono ?_; rintro e w1 ⟨rfl, hc, ht⟩; have HC := Lib.hid hc; have HT := Lib.hid ht; clear hc ht)
  go_ret
  exact ⟨rfl, HC.out, HT.out⟩
theorem u64_short (bc n : Nat) (z : Nat → Int) (at_ : Nat) (hn : n ≤ 100000) (hat : at_ ≤ n) (hm : n < at_ + 8) (w : World) (h : CursorAt w bc n z at_) :
    Calls Try.prog 175 #[.pointer (some ⟨bc, 0, none⟩)] w fun e w' => e = (.panicked [{ v := .iface 137 (.agg #[.int .i64 1]), recovered := false }]) ∧ ∃ k, w' = w.drewN k := by
  have NX := Lib.hid (nextshort64 bc n z at_ hn hat hm w h)
  clear h
  go_enter Try.func175, Try.ntmps175
  go_wp2_with (go_at_call 177; refine NX.out.mono ?_; rintro e w1 ⟨rfl, j, rfl⟩)
  exact ⟨rfl, rfl, _, rfl⟩
set_option maxRecDepth 100000 in
theorem cbytes_ok (bc n : Nat) (z : Nat → Int) (at_ m : Nat) (hn : n ≤ 100000) (hm : at_ + m ≤ n) (w : World) (h : CursorAt w bc n z at_) :
    Calls Try.prog 124 #[.pointer (some ⟨bc, 0, none⟩), .int .i64 m] w fun e w' => ∃ v, e = .returned v ∧ w'.ownsRow w.heap.size 5 1 v m (rowV (fun i => .int .u8 (z (at_ + i))) m) ∧ CursorAt w' bc n z (at_ + m) ∧ Turned (· = bc) w w' := by
  have TK := Lib.hid (ctake_ok bc n z at_ m hn hm w h)
  have CO := Lib.hid (check_ok 4)
  have m0 : decide ((0 : Int) ≤ (m : Int)) = true := by simp
  have m1 : (0 : Int) ≤ m := by omega
  clear h
  go_enter Try.func124, Try.ntmps124
  go_wp2_with (first | (go_at_call 42; refine (CO.out _).mono ?_; rintro e w' ⟨rfl, rfl⟩) | (go_at_call 117; refine TK.out.mono ?_; rintro e w1 ⟨a1, c1, rfl, hr, hc, ht, _⟩; have CL := Lib.hid (clone_any a1 m c1 (fun i => z (at_ + i)) (by omega) w1 hr); have HC := Lib.hid hc; have HT := Lib.hid ht; clear hr hc ht) | (go_at_call 115; refine CL.out.mono ?_; rintro e w2 ⟨v, rfl, hx, hb⟩; have HX := Lib.hid hx; have HB := Lib.hid hb; clear hx hb))
  go_ret
  exact ⟨_, rfl, owns_base HX.out (fun j hj => by have := (HX.out.lt j hj).1; have := HT.out.size; omega), HC.out.below HB.out HC.out.lt, HT.out.trans (Turned.of_below HB.out (fun i hi _ => hi))⟩
theorem cbytes_neg (bc : Nat) (m : Int) (hm : m < 0) (w : World) :
    Calls Try.prog 124 #[.pointer (some ⟨bc, 0, none⟩), .int .i64 m] w fun e w' => e = (.panicked [{ v := .iface 137 (.agg #[.int .i64 4]), recovered := false }]) ∧ w = w' := by
  have CO := Lib.hid (check_some 4 (by decide))
  have m0 : decide ((0 : Int) ≤ m) = false := decide_eq_false (by omega)
  clear hm
  go_enter Try.func124, Try.ntmps124
  go_wp2_with (first | (go_at_call 42; refine (CO.out _).mono ?_; rintro e w' ⟨rfl, rfl⟩))
  exact ⟨rfl, rfl, rfl⟩
theorem cbytes_short (bc n : Nat) (z : Nat → Int) (at_ : Nat) (m : Int) (hm0 : 0 ≤ m) (hn : n ≤ 100000) (hm : ((n - at_ : Nat) : Int) < m) (w : World) (h : CursorAt w bc n z at_) :
    Calls Try.prog 124 #[.pointer (some ⟨bc, 0, none⟩), .int .i64 m] w fun e w' => e = (.panicked [{ v := .iface 137 (.agg #[.int .i64 1]), recovered := false }]) ∧ ∃ k, w' = w.drewN k := by
  have TK := Lib.hid (ctake_short bc n z at_ m hn hm w h)
  have CO := Lib.hid (check_ok 4)
  have m0 : decide ((0 : Int) ≤ m) = true := decide_eq_true hm0
  clear h hm
  go_enter Try.func124, Try.ntmps124
  go_wp2_with (first | (go_at_call 42; refine (CO.out _).mono ?_; rintro e w' ⟨rfl, rfl⟩) | (go_at_call 117; refine TK.out.mono ?_; rintro e w1 ⟨rfl, j, rfl⟩))
  exact ⟨rfl, rfl, _, rfl⟩
end Go.Proofs.Ythonjffojaljdaa

