/-
  CONTRACTS OF cursor.New, Left, At, take, Bytes, Peek, End, U8, U16, U32, U64, in any world where the cursor lies: what each tells, or throws; only the cursor turns. Conditions: at most 20000 bytes.
-/
import Derived.Test.YtelcaejiipibpaaDoorClone
import Derived.Test.YtelcaejiipibpaaDoorBytesOf
import Derived.Test.YtelcaejiipibpaaDoorTrap
import Derived.LoopTactic
namespace Go.Proofs.YtelcaejiipibpaaDoor
open Go.RowKit
set_option linter.unusedVariables false
/-- A cursor of n bytes that is at a byte. -/
def CursorAt (w : World) (bc n : Nat) (z : Nat → Int) (at_ : Nat) : Prop :=
  ∃ a cap, Lies w bc 89 #[.slice a n cap, .int .i64 at_] ∧ RowOf w a n (fun i => .int .u8 (z i)) ∧ ((a = none ∧ cap = 0) ∨ ∃ g, a = some ⟨g, 0, none⟩ ∧ g < bc) ∧ n ≤ cap ∧ cap ≤ maxLen ∧ at_ ≤ n
theorem CursorAt.drewN {w : World} {bc n : Nat} {z : Nat → Int} {at_ : Nat} (h : CursorAt w bc n z at_) (k : Nat) : CursorAt (w.drewN k) bc n z at_ := h
theorem CursorAt.below {w w' : World} {B bc n : Nat} {z : Nat → Int} {at_ : Nat} (h : CursorAt w bc n z at_) (k : Below B w w') (hB : bc < B) : CursorAt w' bc n z at_ := by
  obtain ⟨a, cap, hl, hr, ha, hc⟩ := h
  refine ⟨a, cap, hl.below k hB, hr.turned (S := fun i => B ≤ i) (Turned.of_below k (fun i _ hi => by omega)) (fun p hp hs => ?_), ha, hc⟩
  rcases ha with ⟨rfl, _⟩ | ⟨g, rfl, hg⟩
  · cases hp
  · injection hp with hp
    subst hp
    simp only at hs
    omega
theorem CursorAt.lt {w : World} {bc n : Nat} {z : Nat → Int} {at_ : Nat} (h : CursorAt w bc n z at_) : bc < w.heap.size := by
  obtain ⟨a, cap, hl, _⟩ := h
  exact hl.lt
theorem CursorAt.le {w : World} {bc n : Nat} {z : Nat → Int} {at_ : Nat} (h : CursorAt w bc n z at_) : at_ ≤ n := by
  obtain ⟨a, cap, _, _, _, _, _, h⟩ := h
  exact h
theorem cnew_any (a : Option Addr) (len cap : Nat) (z : Nat → Int) (hlen : len ≤ 100000) (w : World) (h : RowOf w a len (fun i => .int .u8 (z i))) :
    Calls Tryd.prog 44 #[.slice a len cap] w fun e w' => ∃ bc, e = .returned (.pointer (some ⟨bc, 0, none⟩)) ∧ CursorAt w' bc len z 0 ∧ w.heap.size ≤ bc ∧ Below w.heap.size w w' := by
  have CL := Lib.hid (clone_any a len cap z hlen w h)
  clear h
  go_enter Tryd.func44, Tryd.ntmps44
  go_wp2_with (go_at_call 56; refine CL.out.mono ?_; rintro e w' ⟨v', rfl, hx, hb⟩; obtain ⟨a', cap', rfl, hr, hab⟩ := own_reads' hx; have HX := Lib.hid hx; have HB := Lib.hid hb; have HR := Lib.hid hr; clear hx hb hr hab)
  go_ret
  have hcc : ((a' = none ∧ cap' = 0) ∨ ∃ g, a' = some ⟨g, 0, none⟩ ∧ g < w'.heap.size) ∧ len ≤ cap' ∧ cap' ≤ maxLen := by
    rcases HX.out.2 with ⟨hv, h0⟩ | ⟨g, cp, cur, hv, _, hg, h1, h2, _⟩
    · injection hv with ha hn hc
      exact ⟨.inl ⟨ha, hc⟩, by omega, by omega⟩
    · injection hv with ha hn hc
      subst hc
      exact ⟨.inr ⟨g, ha, (Array.getElem?_eq_some_iff.1 hg).1⟩, h1, h2⟩
  exact ⟨_, rfl, ⟨a', cap', Lies.new _ _ _, HR.out.below ((Below.refl _ _).alloc (Nat.le_refl _) _), hcc.1, hcc.2.1, hcc.2.2, Nat.zero_le _⟩, HB.out.size, HB.out.alloc HB.out.size _⟩
theorem cleft_any (bc n : Nat) (z : Nat → Int) (at_ : Nat) (hn : n ≤ 100000) (w : World) (h : CursorAt w bc n z at_) :
    Calls Tryd.prog 57 #[.pointer (some ⟨bc, 0, none⟩)] w fun e w' => e = .returned (.int .i64 (n - at_ : Nat)) ∧ ∃ k, w' = w.drewN k := by
  obtain ⟨a, cap, hl, _, _, _, _, hat⟩ := h
  have c0 := hl.cell 0
  have c1 : w.cell? ⟨bc, 1, none⟩ = some (.int .i64 at_) := hl.cell 1
  have he : (n : Int) - at_ = (n - at_ : Nat) := by omega
  have HE := Lib.hid he
  have h1 : (at_ : Int) ≤ n := by omega
  clear hl he
  go_enter Tryd.func57, Tryd.ntmps57
  go_wp2
  go_quiet (fail)
  go_wp2
  go_ret
  exact ⟨ret_int HE.out, _, rfl⟩
theorem cend_ok (bc n : Nat) (z : Nat → Int) (hn : n ≤ 100000) (w : World) (h : CursorAt w bc n z n) :
    Calls Tryd.prog 45 #[.pointer (some ⟨bc, 0, none⟩)] w fun e w' => e = .returned (.tuple #[]) ∧ ∃ k, w' = w.drewN k := by
  have LE := cleft_any bc n z n hn w h
  rw [Nat.sub_self] at LE
  have LE := Lib.hid LE
  have CO := Lib.hid (check_ok 2)
  clear h
  go_enter Tryd.func45, Tryd.ntmps45
  go_wp2_with (first | (go_at_call 57; refine LE.out.mono ?_; rintro e w' ⟨rfl, j, rfl⟩) | (go_at_call 47; refine (CO.out _).mono ?_; rintro e w' ⟨rfl, rfl⟩))
  go_end0
  exact ⟨rfl, _, rfl⟩
theorem cend_long (bc n : Nat) (z : Nat → Int) (at_ : Nat) (hn : n ≤ 100000) (hlt : at_ < n) (w : World) (h : CursorAt w bc n z at_) :
    Calls Tryd.prog 45 #[.pointer (some ⟨bc, 0, none⟩)] w fun e w' => e = (.panicked [{ v := .iface 94 (.agg #[.int .i64 2]), recovered := false }]) ∧ ∃ k, w' = w.drewN k := by
  have LE := Lib.hid (cleft_any bc n z at_ hn w h)
  have CO := Lib.hid (check_some 2 (by decide))
  have h0 : (((n - at_ : Nat) : Int) == 0) = false := by rw [beq_eq_false_iff_ne]; omega
  clear h hlt
  generalize n - at_ = L at *
  go_enter Tryd.func45, Tryd.ntmps45
  go_wp2_with (first | (go_at_call 57; refine LE.out.mono ?_; rintro e w' ⟨rfl, j, rfl⟩) | (go_at_call 47; refine (CO.out _).mono ?_; rintro e w' ⟨rfl, rfl⟩))
  exact ⟨rfl, rfl, _, rfl⟩
theorem ctake_short (bc n : Nat) (z : Nat → Int) (at_ : Nat) (m : Int) (hn : n ≤ 100000) (hm : ((n - at_ : Nat) : Int) < m) (w : World) (h : CursorAt w bc n z at_) :
    Calls Tryd.prog 59 #[.pointer (some ⟨bc, 0, none⟩), .int .i64 m] w fun e w' => e = (.panicked [{ v := .iface 94 (.agg #[.int .i64 1]), recovered := false }]) ∧ ∃ k, w' = w.drewN k := by
  have LE := Lib.hid (cleft_any bc n z at_ hn w h)
  have CO := Lib.hid (check_some 1 (by decide))
  clear h
  generalize n - at_ = L at *
  have hm2 : decide (m ≤ (L : Int)) = false := decide_eq_false (by omega)
  clear hm
  go_enter Tryd.func59, Tryd.ntmps59
  go_wp2_with (first | (go_at_call 57; refine LE.out.mono ?_; rintro e w' ⟨rfl, j, rfl⟩) | (go_at_call 47; refine (CO.out _).mono ?_; rintro e w' ⟨rfl, rfl⟩))
  exact ⟨rfl, rfl, _, rfl⟩
set_option maxRecDepth 100000 in
set_option maxHeartbeats 1000000 in
theorem ctake_ok (bc n : Nat) (z : Nat → Int) (at_ m : Nat) (hn : n ≤ 100000) (hm : at_ + m ≤ n) (w : World) (h : CursorAt w bc n z at_) :
    Calls Tryd.prog 59 #[.pointer (some ⟨bc, 0, none⟩), .int .i64 m] w fun e w' => ∃ a' c', e = .returned (.slice a' m c') ∧ RowOf w' a' m (fun i => .int .u8 (z (at_ + i))) ∧ CursorAt w' bc n z (at_ + m) ∧ Turned (· = bc) w w' ∧ (∀ p, a' = some p → p.block < bc) := by
  have LE := Lib.hid (cleft_any bc n z at_ hn w h)
  have CO := Lib.hid (check_ok 1)
  have H := Lib.hid h
  obtain ⟨a, cap, hl, hr, ha, hnc, hcm, hat⟩ := h
  have c0 := hl.cell 0
  have c1 : w.cell? ⟨bc, 1, none⟩ = some (.int .i64 at_) := hl.cell 1
  have f0 := hl.frozen 0
  have f1 := hl.frozen 1
  have m1 : (m : Int) ≤ ((n - at_ : Nat) : Int) := by omega
  have m2 : (at_ : Int) + m ≤ n := by omega
  have m3 : (n : Int) ≤ cap := by omega
  have m4 : (n : Int) ≤ 100000 := by omega
  have m5 : (cap : Int) ≤ 9223372036854775807 := by unfold maxLen at hcm; omega
  have m6 : IntKind.i64.wrap ((at_ : Int) + m) = (at_ : Int) + m := IntWalk.i64_in _ (by omega)
  have m7 : (0 : Int) ≤ (at_ : Int) + m := by omega
  have m8 : (at_ : Int) ≤ (at_ : Int) + m := by omega
  have HL := Lib.hid hl
  have HR := Lib.hid hr
  have HA := Lib.hid ha
  clear hl hr ha
  obtain ⟨L, hL⟩ : ∃ L, n - at_ = L := ⟨_, rfl⟩
  rw [hL] at LE m1
  have m9 : decide (m ≤ L) = true := decide_eq_true (by omega)
  have m10 : decide ((m : Int) ≤ (L : Int)) = true := decide_eq_true m1
  clear hL
  have HW : ∀ k, CursorAt ((w.drewN k).setCell ⟨bc, 1, none⟩ (.int .i64 ((at_ : Int) + m))) bc n z (at_ + m) ∧ Turned (· = bc) w ((w.drewN k).setCell ⟨bc, 1, none⟩ (.int .i64 ((at_ : Int) + m))) := fun k => by
    have ht : Turned (· = bc) w ((w.drewN k).setCell ⟨bc, 1, none⟩ (.int .i64 ((at_ : Int) + m))) := ((Turned.refl (· = bc) w).drewN k).setCell (p := ⟨bc, 1, none⟩) (.inl rfl) _
    refine ⟨⟨a, cap, (HL.out.drewN k).set_ 1 _, HR.out.turned ht (fun p hp e => ?_), HA.out, hnc, hcm, hm⟩, ht⟩
    rcases HA.out with ⟨rfl, _⟩ | ⟨g, rfl, hg⟩
    · cases hp
    · injection hp with hp
      subst hp
      simp only at e
      omega
  have HW := Lib.hid HW
  have HP : ∀ p, (a.map (fun x => x.add at_)) = some p → p.block < bc := fun p hp => by
    rcases HA.out with ⟨rfl, _⟩ | ⟨g, rfl, hg⟩
    · cases hp
    · simp only [Option.map_some, Option.some.injEq] at hp
      subst hp
      unfold Addr.add
      split <;> exact hg
  have HP := Lib.hid HP
  have HP0 : ∀ p, a = some p → p.block < bc := fun p hp => by
    rcases HA.out with ⟨rfl, _⟩ | ⟨g, rfl, hg⟩
    · cases hp
    · injection hp with hp
      subst hp
      exact hg
  have HP0 := Lib.hid HP0
  by_cases hca : cap = at_
  · obtain rfl : m = 0 := by omega
    have HCA := Lib.hid hca
    rw [show (at_ : Int) + ((0 : Nat) : Int) = at_ from by simp] at HW
    go_enter Tryd.func59, Tryd.ntmps59
    go_wp2_with (first | (go_at_call 57; refine LE.out.mono ?_; rintro e w' ⟨rfl, j, rfl⟩) | (go_at_call 47; refine (CO.out _).mono ?_; rintro e w' ⟨rfl, rfl⟩))
    go_quiet (fail)
    go_wp2
    go_ret
    exact ⟨a, 0, rfl, .inl rfl, (HW.out _).1, (HW.out _).2, HP0.out⟩
  · have m11 : at_ + m - at_ = m := by omega
    go_enter Tryd.func59, Tryd.ntmps59
    go_wp2_with (first | (go_at_call 57; refine LE.out.mono ?_; rintro e w' ⟨rfl, j, rfl⟩) | (go_at_call 47; refine (CO.out _).mono ?_; rintro e w' ⟨rfl, rfl⟩))
    go_quiet (fail)
    go_wp2
    go_ret
    refine ⟨a.map (fun x => x.add at_), cap - at_, ?_, ?_, (HW.out _).1, (HW.out _).2, HP.out⟩
    · show Ending.returned (.slice (a.map (fun x => x.add at_)) (at_ + m - at_) (cap - at_)) = _
      rw [m11]
    rcases Nat.eq_zero_or_pos m with h0 | h0
    · exact .inl h0
    · obtain ⟨b, off, rfl, _, hc⟩ := (HR.out.turned (HW.out (j + nq)).2 (fun p hp e => by have := HP0.out p hp; omega)).at_ (i := 0) (by omega)
      refine .inr ⟨b, off + at_, ?_, fun i hi => ?_⟩
      · simp only [Option.map_some, Addr.add]
        split
        · rename_i h; subst h; rfl
        · rfl
      · rw [Nat.add_assoc]
        exact hc (at_ + i) (by omega)
end Go.Proofs.YtelcaejiipibpaaDoor
