/-
  TEXTS OF THIS PROOF, one behind the other: XSimpleH XSimpleI XSimpleJ.
-/
import Derived.Test.YtelcaejiipibpaaDoorSimpleB
import Derived.Test.YtelcaejiipibpaaDoorVarRefGet
import Derived.Test.YtelcaejiipibpaaDoorVarZig
import Derived.Test.YtelcaejiipibpaaDoorBitsRefB
import Derived.Test.YtelcaejiipibpaaDoorSimpleF
import Derived.Test.YtelcaejiipibpaaDoorPlainA
import Derived.Deep.LoopGhost
/-
  CONTRACT OF corduroyref09.Takes, in any world. Condition: numbers of 64 bits, which lie in memory as told.
-/
namespace Go.Proofs.YtelcaejiipibpaaDoor
open Go.RowKit
set_option linter.unusedVariables false
set_option maxRecDepth 100000 in
theorem rstakes_any (a : Option Addr) (n cap : Nat) (x : Nat → Int) (hn : n ≤ 1100) (hx : ∀ i, i < n → -9223372036854775808 ≤ x i ∧ x i ≤ 9223372036854775807) (w : World) (h : RowOf w a n (fun i => .int .i64 (x i))) :
    Calls Tryd.prog 9 #[.slice a n cap] w fun e w' => e = .returned (.bool (sOk x n)) ∧ Below w.heap.size w w' := by
  have HI := Lib.hid (sOk_iff x n)
  have RZ := Lib.hid (fun i (hi : i < n) W => rzig_any (x i) (hx i hi).1 (hx i hi).2 W)
  have H := Lib.hid h
  have HZ := Lib.hid (fun i => hz_int x i)
  obtain ⟨B, hB⟩ : ∃ B, sOk x n = B := ⟨_, rfl⟩
  rw [hB] at HI ⊢
  clear hB h hx
  generalize hz x = z at *
  go_enter Tryd.func9, Tryd.ntmps9
  go_wp2
  go_loop [3] (fun y => ∃ i : Nat, i ≤ n ∧ y = .int .i64 i ∧ ∀ j, j < i → z j < 2 ^ 60) (fun y => n - (intOf y).toNat)
  case atStart => exact ⟨0, Nat.zero_le _, rfl, fun j hj => absurd hj (Nat.not_lt_zero _)⟩
  case round =>
    obtain ⟨i, hin, rfl, hu⟩ := hrel
    have HU := Lib.hid hu
    clear hu
    by_cases hil : i < n
    · have j1 : (i : Int) < n := by omega
      have j0 : (0 : Int) ≤ i := by omega
      obtain ⟨b, off, rfl, hblt, hcl⟩ := H.out.at_ hil
      have d0 := hcl i hil
      have RZ2 := RZ.out i hil
      rw [HZ.out i] at RZ2
      obtain ⟨v, hv⟩ : ∃ v, z i = v := ⟨_, rfl⟩
      have HV := Lib.hid hv
      rw [hv] at RZ2
      have RZ3 := Lib.hid RZ2
      clear hv hcl RZ2
      generalize x i = xi at *
      by_cases hv6 : v < 2 ^ 60
      · have q1 : ¬ (1152921504606846976 : Int) ≤ v := by omega
        have HV6 := Lib.hid hv6
        clear hv6
        generalize (v : Int) = c at *
        go_wp2_with (go_at_call 22; refine (RZ3.out _).mono ?_; rintro e w1 ⟨rfl, rfl⟩)
        go_round
        case rel => exact ⟨i + 1, by omega, by go_num, fun j hj => by
          rcases Nat.lt_or_ge j i with h1 | h1
          · exact HU.out j h1
          · obtain rfl : j = i := by omega
            rw [HV.out]; exact HV6.out⟩
        case measure => simp [intOf]; omega
      · have q1 : (1152921504606846976 : Int) ≤ v := by omega
        obtain rfl : B = false := by
          cases B
          · rfl
          · have := HI.out.1 rfl i hil
            rw [HV.out] at this; exact absurd this hv6
        clear hv6 HI
        generalize (v : Int) = c at *
        go_wp2_with (go_at_call 22; refine (RZ3.out _).mono ?_; rintro e w1 ⟨rfl, rfl⟩)
        go_ret
        exact ⟨rfl, Below.refl _ _⟩
    · obtain rfl : i = n := by omega
      have j1 : ¬ (i : Int) < i := by omega
      obtain rfl : B = true := HI.out.2 HU.out
      clear HI
      go_wp2
      go_ret
      exact ⟨rfl, Below.refl _ _⟩
end Go.Proofs.YtelcaejiipibpaaDoor


/-
  CONTRACTS OF corduroyref09.Many, Bits and fits, in any world. Conditions: selectors below 16; at most 1100 numbers of 64 bits, which lie in memory as told.
-/
namespace Go.Proofs.YtelcaejiipibpaaDoor
open Go.RowKit
set_option linter.unusedVariables false
def manyCells : Array Value := #[.int .i64 240, .int .i64 120, .int .i64 60, .int .i64 30, .int .i64 20, .int .i64 15, .int .i64 12, .int .i64 10, .int .i64 8, .int .i64 7, .int .i64 6, .int .i64 5, .int .i64 4, .int .i64 3, .int .i64 2, .int .i64 1]
def bitsCells : Array Value := #[.int .i64 0, .int .i64 0, .int .i64 1, .int .i64 2, .int .i64 3, .int .i64 4, .int .i64 5, .int .i64 6, .int .i64 7, .int .i64 8, .int .i64 10, .int .i64 12, .int .i64 15, .int .i64 20, .int .i64 30, .int .i64 60]
theorem many_at (s : Nat) (hs : s < 16) : manyCells[s]? = some (.int .i64 (sMany s : Nat)) := by
  obtain rfl | rfl | rfl | rfl | rfl | rfl | rfl | rfl | rfl | rfl | rfl | rfl | rfl | rfl | rfl | rfl : s = 0 ∨ s = 1 ∨ s = 2 ∨ s = 3 ∨ s = 4 ∨ s = 5 ∨ s = 6 ∨ s = 7 ∨ s = 8 ∨ s = 9 ∨ s = 10 ∨ s = 11 ∨ s = 12 ∨ s = 13 ∨ s = 14 ∨ s = 15 := by omega
  all_goals rfl
theorem bits_at (s : Nat) (hs : s < 16) : bitsCells[s]? = some (.int .i64 (sBits s : Nat)) := by
  obtain rfl | rfl | rfl | rfl | rfl | rfl | rfl | rfl | rfl | rfl | rfl | rfl | rfl | rfl | rfl | rfl : s = 0 ∨ s = 1 ∨ s = 2 ∨ s = 3 ∨ s = 4 ∨ s = 5 ∨ s = 6 ∨ s = 7 ∨ s = 8 ∨ s = 9 ∨ s = 10 ∨ s = 11 ∨ s = 12 ∨ s = 13 ∨ s = 14 ∨ s = 15 := by omega
  all_goals rfl
set_option maxRecDepth 100000 in
theorem rmany_any (s : Nat) (hs : s < 16) (w : World) :
    Calls Tryd.prog 24 #[.int .i64 s] w fun e w' => e = .returned (.int .i64 (sMany s : Nat)) ∧ Below w.heap.size w w' := by
  have hc := ((Lies.new w 3 manyCells).cell s).trans (many_at s hs)
  have hb := (Below.refl w.heap.size w).alloc (Nat.le_refl _) (.cells manyCells 3)
  unfold manyCells at hc hb
  have HB := Lib.hid hb
  have h1 : (s : Int) < 16 := by omega
  have h0 : (0 : Int) ≤ s := by omega
  clear hb
  generalize sMany s = m at *
  go_enter Tryd.func24, Tryd.ntmps24
  go_wp2
  go_ret
  exact ⟨rfl, HB.out⟩
set_option maxRecDepth 100000 in
theorem rsbits_any (s : Nat) (hs : s < 16) (w : World) :
    Calls Tryd.prog 26 #[.int .i64 s] w fun e w' => e = .returned (.int .i64 (sBits s : Nat)) ∧ Below w.heap.size w w' := by
  have hc := ((Lies.new w 3 bitsCells).cell s).trans (bits_at s hs)
  have hb := (Below.refl w.heap.size w).alloc (Nat.le_refl _) (.cells bitsCells 3)
  unfold bitsCells at hc hb
  have HB := Lib.hid hb
  have h1 : (s : Int) < 16 := by omega
  have h0 : (0 : Int) ≤ s := by omega
  clear hb
  generalize sBits s = m at *
  go_enter Tryd.func26, Tryd.ntmps26
  go_wp2
  go_ret
  exact ⟨rfl, HB.out⟩
theorem sFits_from (z : Nat → Nat) (n p s : Nat) (hp : p ≤ n) : sFits (fun i => z (p + i)) (n - p) s = true ↔ p + sMany s ≤ n ∧ ∀ j, p ≤ j → j < p + sMany s → sHolds (sBits s) (z j) = true := by
  rw [sFits_iff]
  constructor
  · rintro ⟨h1, h2⟩
    exact ⟨by omega, fun j hj hj2 => by have := h2 (j - p) (by omega); rwa [show p + (j - p) = j by omega] at this⟩
  · rintro ⟨h1, h2⟩
    exact ⟨by omega, fun i hi => h2 (p + i) (by omega) (by omega)⟩
set_option maxRecDepth 100000 in
set_option maxHeartbeats 2000000 in
theorem rsfits_any (a : Option Addr) (n cap p s : Nat) (x : Nat → Int) (hn : n ≤ 1100) (hp : p ≤ n) (hs : s < 16) (hx : ∀ i, i < n → -9223372036854775808 ≤ x i ∧ x i ≤ 9223372036854775807) (w : World) (h : RowOf w a n (fun i => .int .i64 (x i))) :
    Calls Tryd.prog 23 #[.slice a n cap, .int .i64 p, .int .i64 s] w fun e w' => e = .returned (.bool (sFits (fun i => hz x (p + i)) (n - p) s)) ∧ Below w.heap.size w w' := by
  have HI := Lib.hid (sFits_from (hz x) n p s hp)
  have RZ := Lib.hid (fun i (hi : i < n) W => rzig_any (x i) (hx i hi).1 (hx i hi).2 W)
  have H := Lib.hid h
  have HZ := Lib.hid (fun i => hz_int x i)
  have HL := Lib.hid (fun i (hi : i < n) => hz_lt x i (hx i hi))
  have RM := Lib.hid (fun W => rmany_any s hs W)
  have RB := Lib.hid (fun W => rsbits_any s hs W)
  obtain ⟨t1, t2, t3, t4, t5⟩ := s_table s hs
  obtain ⟨B, hB⟩ : ∃ B, sFits (fun i => hz x (p + i)) (n - p) s = B := ⟨_, rfl⟩
  rw [hB] at HI ⊢
  clear hB h hx t3 t5
  generalize hz x = z at *
  generalize sMany s = m at *
  generalize sBits s = k at *
  obtain ⟨e, he⟩ : ∃ e, p + m = e := ⟨_, rfl⟩
  have hE : (p : Int) + (m : Int) = (e : Int) := by omega
  rw [he] at HI
  have HE := Lib.hid he
  clear he
  by_cases hen : n < e
  · have q : (n : Int) < e := by omega
    obtain rfl : B = false := by
      cases B
      · rfl
      · have := (HI.out.1 rfl).1; omega
    clear HI hen
    go_enter Tryd.func23, Tryd.ntmps23
    go_wp2_with (go_at_call 24; refine (RM.out _).mono ?_; rintro e w1 ⟨rfl, hb⟩; have HB1 := Lib.hid hb; clear hb)
    go_ret
    exact ⟨rfl, HB1.out⟩
  have q : ¬ (n : Int) < e := by omega
  go_enter Tryd.func23, Tryd.ntmps23
  go_wp2_with (go_at_call 24; refine (RM.out _).mono ?_; rintro e w1 ⟨rfl, hb⟩; have HB1 := Lib.hid hb; clear hb)
  go_loopw [7] (fun v wr => ∃ i : Nat, p ≤ i ∧ i ≤ e ∧ v = .int .i64 i ∧ (∀ j, p ≤ j → j < i → sHolds k (z j) = true) ∧ Below w.heap.size w wr) (fun v _ => e - (intOf v).toNat)
  case atStart => exact ⟨p, Nat.le_refl _, by have := HE.out; omega, rfl, fun j h1 h2 => absurd h1 (by omega), HB1.out⟩
  case round =>
    obtain ⟨i, hpi, hie, rfl, hu, hbr⟩ := hrel
    have HU := Lib.hid hu
    have HBR := Lib.hid hbr
    clear hu hbr
    by_cases hil : i < e
    · have j1 : (i : Int) < e := by omega
      have j0 : (0 : Int) ≤ i := by omega
      have j2 : (i : Int) < n := by omega
      have hin : i < n := by omega
      have RZ2 := RZ.out i hin
      rw [HZ.out i] at RZ2
      have hvl := HL.out i hin
      obtain ⟨b, off, he, hblt, hcl⟩ := H.out.at_ hin
      have CL := Lib.hid (fun (W : World) (hW : Below w.heap.size w W) => (World.cell?_of_block (hW.block b hblt)).trans (hcl i hin))
      clear hcl hblt
      subst he
      obtain ⟨v, hv⟩ : ∃ v, z i = v := ⟨_, rfl⟩
      have HV := Lib.hid hv
      rw [hv] at RZ2 hvl
      have RZ3 := Lib.hid RZ2
      have RF := Lib.hid (fun W => rfits_any v k hvl (by omega) (decide (v < 2 ^ k)) rfl W)
      clear hv RZ2
      generalize x i = xi at *
      have KH := Lib.hid (show sHolds k v = if k = 0 then decide (v = 1) else decide (v < 2 ^ k) from rfl)
      by_cases hk0 : k = 0
      · subst hk0
        have hkk := KH.out
        rw [if_pos rfl] at hkk
        by_cases hv1 : v = 1
        · have HKT := Lib.hid (hkk.trans (decide_eq_true hv1))
          have q1 : (v : Int) = 1 := by omega
          clear hkk hv1 KH
          generalize (v : Int) = c at *
          subst q1
          go_wp2_with (first
          | (go_at_call 24; refine (RM.out _).mono ?_; rintro e w1 ⟨rfl, hb⟩; have HB2 := Lib.hid (HBR.out.trans (hb.mono HBR.out.size)); have hcc := CL.out _ HB2.out; clear hb)
          | (go_at_call 22; refine (RZ3.out _).mono ?_; rintro e w2 ⟨rfl, rfl⟩; have HG := Lib.hid True.intro)
          | (go_at_call 26; clear HG; refine (RB.out _).mono ?_; rintro e w3 ⟨rfl, hb⟩; have HB3 := Lib.hid (HB2.out.trans (hb.mono HB2.out.size)); clear hb)
          | (go_at_call 26; refine (RB.out _).mono ?_; rintro e w4 ⟨rfl, hb⟩; have HB4 := Lib.hid (HB3.out.trans (hb.mono HB3.out.size)); clear hb HB3; have HB3 := HB4; clear HB4))
          go_roundw
          case rel => exact ⟨i + 1, by omega, by omega, by go_num, fun j h1 h2 => by
            rcases Nat.lt_or_ge j i with h3 | h3
            · exact HU.out j h1 h3
            · obtain rfl : j = i := by omega
              rw [HV.out]; exact HKT.out, HB3.out⟩
          case measure => simp [intOf]; omega
        · have HKT := Lib.hid (hkk.trans (decide_eq_false hv1))
          have q1 : ¬ (v : Int) = 1 := by omega
          clear hkk hv1 KH
          obtain rfl : B = false := by
            cases B
            · rfl
            · have := (HI.out.1 rfl).2 i hpi hil
              rw [HV.out, HKT.out] at this; cases this
          clear HI
          generalize (v : Int) = c at *
          go_wp2_with (first
          | (go_at_call 24; refine (RM.out _).mono ?_; rintro e w1 ⟨rfl, hb⟩; have HB2 := Lib.hid (HBR.out.trans (hb.mono HBR.out.size)); have hcc := CL.out _ HB2.out; clear hb)
          | (go_at_call 22; refine (RZ3.out _).mono ?_; rintro e w2 ⟨rfl, rfl⟩; have HG := Lib.hid True.intro)
          | (go_at_call 26; clear HG; refine (RB.out _).mono ?_; rintro e w3 ⟨rfl, hb⟩; have HB3 := Lib.hid (HB2.out.trans (hb.mono HB2.out.size)); clear hb)
)
          go_ret
          exact ⟨rfl, HB3.out⟩
      · have hkk := KH.out
        rw [if_neg hk0] at hkk
        have q1 : ¬ (k : Int) = 0 := by omega
        have q2 : (0 : Int) < k := by omega
        by_cases hv1 : v < 2 ^ k
        · have HKT := Lib.hid (hkk.trans (decide_eq_true hv1))
          rw [decide_eq_true hv1] at RF
          clear hkk hv1 KH
          generalize (v : Int) = c at *
          go_wp2_with (first
          | (go_at_call 24; refine (RM.out _).mono ?_; rintro e w1 ⟨rfl, hb⟩; have HB2 := Lib.hid (HBR.out.trans (hb.mono HBR.out.size)); have hcc := CL.out _ HB2.out; clear hb)
          | (go_at_call 22; refine (RZ3.out _).mono ?_; rintro e w2 ⟨rfl, rfl⟩; have HG := Lib.hid True.intro)
          | (go_at_call 26; clear HG; refine (RB.out _).mono ?_; rintro e w3 ⟨rfl, hb⟩; have HB3 := Lib.hid (HB2.out.trans (hb.mono HB2.out.size)); clear hb)
          | (go_at_call 26; refine (RB.out _).mono ?_; rintro e w4 ⟨rfl, hb⟩; have HB4 := Lib.hid (HB3.out.trans (hb.mono HB3.out.size)); clear hb HB3; have HB3 := HB4; clear HB4)
          | (go_at_call 41; refine (RF.out _).mono ?_; rintro e w5 ⟨rfl, rfl⟩))
          go_roundw
          case rel => exact ⟨i + 1, by omega, by omega, by go_num, fun j h1 h2 => by
            rcases Nat.lt_or_ge j i with h3 | h3
            · exact HU.out j h1 h3
            · obtain rfl : j = i := by omega
              rw [HV.out]; exact HKT.out, HB3.out⟩
          case measure => simp [intOf]; omega
        · have HKT := Lib.hid (hkk.trans (decide_eq_false hv1))
          rw [decide_eq_false hv1] at RF
          clear hkk hv1 KH
          obtain rfl : B = false := by
            cases B
            · rfl
            · have := (HI.out.1 rfl).2 i hpi hil
              rw [HV.out, HKT.out] at this; cases this
          clear HI
          generalize (v : Int) = c at *
          go_wp2_with (first
          | (go_at_call 24; refine (RM.out _).mono ?_; rintro e w1 ⟨rfl, hb⟩; have HB2 := Lib.hid (HBR.out.trans (hb.mono HBR.out.size)); have hcc := CL.out _ HB2.out; clear hb)
          | (go_at_call 22; refine (RZ3.out _).mono ?_; rintro e w2 ⟨rfl, rfl⟩; have HG := Lib.hid True.intro)
          | (go_at_call 26; clear HG; refine (RB.out _).mono ?_; rintro e w3 ⟨rfl, hb⟩; have HB3 := Lib.hid (HB2.out.trans (hb.mono HB2.out.size)); clear hb)
          | (go_at_call 26; refine (RB.out _).mono ?_; rintro e w4 ⟨rfl, hb⟩; have HB4 := Lib.hid (HB3.out.trans (hb.mono HB3.out.size)); clear hb HB3; have HB3 := HB4; clear HB4)
          | (go_at_call 41; refine (RF.out _).mono ?_; rintro e w5 ⟨rfl, rfl⟩))
          go_ret
          exact ⟨rfl, HB3.out⟩
    · obtain rfl : i = e := by omega
      have j1 : ¬ (i : Int) < i := by omega
      obtain rfl : B = true := HI.out.2 ⟨by omega, HU.out⟩
      clear HI
      go_wp2_with (go_at_call 24; refine (RM.out _).mono ?_; rintro e w1 ⟨rfl, hb⟩; have HB2 := Lib.hid (HBR.out.trans (hb.mono HBR.out.size)); clear hb)
      go_ret
      exact ⟨rfl, HB2.out⟩
end Go.Proofs.YtelcaejiipibpaaDoor


/-
  CONTRACT OF corduroyref09.Encode, in any world. Conditions: at most 1100 numbers of 64 bits, which lie in memory as told.
-/
namespace Go.Proofs.YtelcaejiipibpaaDoor
open Go.RowKit
set_option linter.unusedVariables false
theorem bool_append (W W4 : World) (n₀ n4 : Nat) (v v4 : Value) (c k N u : Nat) (hrow : W.ownsRow n₀ 4 1 v c (bitsV N c)) (hn₀ : n₀ ≤ W.heap.size) (hN : N < 2 ^ c) (h4 : W4.ownsRow n4 4 1 v4 k (bitsV u k)) (hb4 : Below W.heap.size W W4) (hl : c + k ≤ 200) :
    ∃ a4 c4 v5 w5, v4 = .slice a4 k c4 ∧ (Builtin.append_ #[51, 51] 51 #[v, v4]).run Tryd.prog W4 = .ok v5 w5 ∧ w5.ownsRow n₀ 4 1 v5 (c + k) (bitsV (N + u * 2 ^ c) (c + k)) ∧ Below n₀ W w5 := by
  obtain ⟨i0, hi, hz0, hz1, hz2⟩ := info_parts boolInfo
  obtain ⟨a4, c4, rfl, hr4, _⟩ := own_reads' h4
  have hrow4 := owns_turned hrow (Turned.of_below (S := fun _ => False) hb4 (fun i hi _ => hi)) (fun _ _ h => h)
  obtain ⟨v5, w5, hrun, ho5, hg5, _⟩ := run_append_row (P := Tryd.prog) W4 n₀ 51 51 4 i0 (.bool false) 1 Tryd.underlying51 hi hz0 hz1 hz2 rfl v c _ hrow4 a4 k c4 _ hr4 (fun i _ => rfl) (by unfold maxLen; omega) (by omega) (Nat.le_trans hn₀ hb4.size)
  refine ⟨a4, c4, v5, w5, rfl, hrun, ?_, (hb4.mono hn₀).grown hg5 (Nat.le_trans hn₀ hb4.size) (fun j hj => (hrow.lt j hj).1)⟩
  rw [← bitsV_append N c u k hN]
  exact ho5
theorem bytes_append (W W4 : World) (n₀ n4 : Nat) (v v4 : Value) (xs ys : List Int) (hrow : W.ownsRow n₀ 5 1 v xs.length (cellsOf xs)) (hn₀ : n₀ ≤ W.heap.size) (h4 : W4.ownsRow n4 5 1 v4 ys.length (cellsOf ys)) (hb4 : Below W.heap.size W W4) (hl : xs.length + ys.length ≤ 100000) :
    ∃ a4 c4 v5 w5, v4 = .slice a4 ys.length c4 ∧ (Builtin.append_ #[27, 27] 27 #[v, v4]).run Tryd.prog W4 = .ok v5 w5 ∧ w5.ownsRow n₀ 5 1 v5 (xs ++ ys).length (cellsOf (xs ++ ys)) ∧ Below n₀ W w5 := by
  obtain ⟨i0, hi, hz0, hz1, hz2⟩ := info_parts byteInfo
  obtain ⟨a4, c4, rfl, hr4, _⟩ := own_bytes h4
  have hrow4 := owns_turned hrow (Turned.of_below (S := fun _ => False) hb4 (fun i hi _ => hi)) (fun _ _ h => h)
  obtain ⟨v5, w5, hrun, ho5, hg5, _⟩ := run_append_row (P := Tryd.prog) W4 n₀ 27 27 5 i0 (.int .u8 0) 1 Tryd.underlying27 hi hz0 hz1 hz2 rfl v xs.length _ hrow4 a4 ys.length c4 _ hr4 (fun i _ => rfl) (by unfold maxLen; omega) (by omega) (Nat.le_trans hn₀ hb4.size)
  refine ⟨a4, c4, v5, w5, rfl, hrun, ?_, (hb4.mono hn₀).grown hg5 (Nat.le_trans hn₀ hb4.size) (fun j hj => (hrow.lt j hj).1)⟩
  rw [List.length_append, cellsOf_append]
  have e : rowV (fun i => Value.int .u8 (ys.getD i 0)) ys.length = cellsOf ys := by
    apply List.ext_getElem?
    intro i
    by_cases hi : i < ys.length
    · rw [rowV_get _ hi]; simp [cellsOf, hi]
    · rw [rowV_ge _ (by omega), List.getElem?_eq_none (by simp [cellsOf]; omega)]
  rw [← e]
  exact ho5
/-- The bits of a word's first numbers. -/
def sN (k : Nat) (z : Nat → Nat) (j : Nat) : Nat := if k = 0 then 0 else sPack k z j
theorem sN_lt (k : Nat) (z : Nat → Nat) (j : Nat) (h : ∀ i, i < j → sHolds k (z i) = true) : sN k z j < 2 ^ (j * k) := by
  unfold sN
  by_cases hk : k = 0
  · rw [if_pos hk, hk, Nat.mul_zero]; decide
  · rw [if_neg hk]
    refine sPack_lt k z j fun i hi => ?_
    have := h i hi
    unfold sHolds at this
    rw [if_neg hk] at this
    exact of_decide_eq_true this
theorem sN_bits (k : Nat) (z : Nat → Nat) (j : Nat) : bitsV (sN k z j + z j * 2 ^ (j * k)) (j * k + k) = bitsV (sN k z (j + 1)) ((j + 1) * k) := by
  by_cases hk : k = 0
  · subst hk; rfl
  · rw [Nat.succ_mul]; unfold sN; rw [if_neg hk, if_neg hk]; rfl
theorem un_word {u : Nat} (h : u < 2 ^ 64) : un ((u : Nat) : Int) = u := by unfold un; omega
theorem rsencode_out (a : Option Addr) (n cap : Nat) (x : Nat → Int) (hn : n ≤ 1100) (hx : ∀ i, i < n → -9223372036854775808 ≤ x i ∧ x i ≤ 9223372036854775807) (hok : sOk x n = false) (w : World) (h : RowOf w a n (fun i => .int .i64 (x i))) :
    Calls Tryd.prog 10 #[.slice a n cap] w fun e w' => e = .returned (.slice none 0 0) ∧ Below w.heap.size w w' := by
  have TK := rstakes_any a n cap x hn hx w h
  rw [hok] at TK
  have T := Lib.hid TK
  clear TK h hx hok
  go_enter Tryd.func10, Tryd.ntmps10
  go_wp2_with (go_at_call 9; refine T.out.mono ?_; rintro e w1 ⟨rfl, hb⟩; have HB1 := Lib.hid hb; clear hb)
  go_ret
  exact ⟨rfl, HB1.out⟩
set_option maxRecDepth 100000 in
set_option maxHeartbeats 4000000 in
theorem rsencode_in (a : Option Addr) (n cap P : Nat) (x : Nat → Int) (hn : n ≤ 1100) (hx : ∀ i, i < n → -9223372036854775808 ≤ x i ∧ x i ≤ 9223372036854775807) (hok : sOk x n = true) (hPn : P ≤ n) (hP : sAt (hz x) n P = n) (hPl : ∀ k, k < P → sAt (hz x) n k < n)
    (w : World) (h : RowOf w a n (fun i => .int .i64 (x i))) :
    Calls Tryd.prog 10 #[.slice a n cap] w fun e w' => ∃ v, e = .returned v ∧ w'.ownsRow w.heap.size 5 1 v (sF (hz x) n P).length (cellsOf (sF (hz x) n P)) ∧ Below w.heap.size w w' := by
  have TK := rstakes_any a n cap x hn hx w h
  rw [hok] at TK
  have T := Lib.hid TK
  have hz60 := (sOk_iff x n).1 hok
  have FI := Lib.hid (fun (p s : Nat) (hp : p ≤ n) (hs : s < 16) (W : World) (hW : Below w.heap.size w W) => rsfits_any a n cap p s x hn hp hs hx W (h.below hW))
  have RZ := Lib.hid (fun i (hi : i < n) W => rzig_any (x i) (hx i hi).1 (hx i hi).2 W)
  have HZ := Lib.hid (fun i => hz_int x i)
  have HL := Lib.hid (fun i (hi : i < n) => hz_lt x i (hx i hi))
  have H := Lib.hid h
  have RM := Lib.hid (fun s hs W => rmany_any s hs W)
  have RB := Lib.hid (fun s hs W => rsbits_any s hs W)
  clear TK h hx hok
  generalize hz x = z at *
  obtain ⟨N0, hN0⟩ : ∃ N, w.heap.size = N := ⟨_, rfl⟩
  rw [hN0]
  have HN0 := Lib.hid hN0
  clear hN0
  go_enter Tryd.func10, Tryd.ntmps10
  go_wp2_with (go_at_call 9; refine T.out.mono ?_; rintro e w1 ⟨rfl, hb⟩; have HB1 := Lib.hid (show Below N0 w w1 from HN0.out ▸ hb); clear hb)
  go_loopg [3, 4] P (fun gk b at_ wr => ∃ k, k ≤ P ∧ gk = P - k ∧ at_ = .int .i64 (sAt z n k : Nat) ∧ wr.ownsRow N0 5 1 b (sF z n k).length (cellsOf (sF z n k)) ∧ Below N0 w wr)
  case atStart => exact ⟨0, Nat.zero_le _, rfl, rfl, World.ownsRow_nil _ _ _ _, HB1.out⟩
  case round =>
    obtain ⟨k, hk, rfl, rfl, ho, hb⟩ := hrel
    have hN0s : N0 ≤ wr.heap.size := by have := hb.size; have := HN0.out; omega
    have HOW := Lib.hid ho
    have HBW := Lib.hid hb
    clear ho hb
    by_cases hkP : k < P
    · have hpn := hPl k hkP
      obtain ⟨o1, o2, o3, o4, o5⟩ := sOf_spec hz60 hpn
      obtain ⟨t1, t2, t3, t4, t5⟩ := s_table (sOf z n k) (by omega)
      have hsel : sFits (fun i => z (sAt z n k + i)) (n - sAt z n k) (sOf z n k) = true := (sFits_iff _ _ _).2 ⟨by omega, o4⟩
      have HSF := Lib.hid (show sF z n (k + 1) = sF z n k ++ bytesOf 8 (un ((sWord z n k : Nat) : Int)) from rfl)
      have hwl := (sWord_parts hz60 hpn).1
      rw [un_word hwl] at HSF
      have HWD := Lib.hid (show sWord z n k = sN (sBits (sOf z n k)) (fun i => z (sAt z n k + i)) (sMany (sOf z n k)) + sOf z n k * 2 ^ 60 from rfl)
      have HAT := Lib.hid (sAt_succ hpn)
      have hXL : (sF z n k).length ≤ 8800 := by rw [sF_length]; omega
      obtain ⟨X, hX⟩ : ∃ X, sF z n k = X := ⟨_, rfl⟩
      rw [hX] at HOW HSF hXL
      clear hX
      obtain ⟨wd, hwd⟩ : ∃ wd, sWord z n k = wd := ⟨_, rfl⟩
      rw [hwd] at HSF HWD hwl
      clear hwd
      have FI2 := Lib.hid (fun t ht W hW => FI.out (sAt z n k) t (Nat.le_of_lt hpn) ht W hW)
      obtain ⟨s, hs⟩ : ∃ s, sOf z n k = s := ⟨_, rfl⟩
      rw [hs] at o1 o2 o3 o4 o5 t1 t2 t3 t4 t5 hsel HWD HAT
      clear hs
      obtain ⟨p, hp⟩ : ∃ p, sAt z n k = p := ⟨_, rfl⟩
      rw [hp] at o2 o4 o5 hsel HWD HAT hpn FI2 ⊢
      clear hp FI t5
      have RM2 := Lib.hid (RM.out s (by omega))
      have RB2 := Lib.hid (RB.out s (by omega))
      generalize sMany s = m at *
      generalize sBits s = kb at *
      have HNL := Lib.hid (fun j (hj : j ≤ m) => sN_lt kb (fun i => z (p + i)) j (fun i hi => o4 i (by omega)))
      have HNB := Lib.hid (fun j => sN_bits kb (fun i => z (p + i)) j)
      obtain ⟨e, he⟩ : ∃ e, p + m = e := ⟨_, rfl⟩
      rw [he] at HAT o2
      have hE : (p : Int) + (m : Int) = (e : Int) := by omega
      have HE := Lib.hid he
      have HSEL := Lib.hid hsel
      have HNO := Lib.hid o5
      have k1 : (p : Int) < n := by omega
      obtain ⟨wo, rfl⟩ : ∃ W : World, W = wr := ⟨_, rfl⟩
      clear he hsel o4 o5
      have hmk : m * kb ≤ 60 := t3
      go_wp2
      go_loopg [5] s (fun gk sv wx => ∃ t, t ≤ s ∧ gk = s - t ∧ sv = .int .i64 (t : Nat) ∧ Below wo.heap.size wo wx)
      case atStart => exact ⟨0, Nat.zero_le _, rfl, rfl, Below.refl _ _⟩
      case round =>
        obtain ⟨t, hts, rfl, rfl, hbx⟩ := hrel
        have HBX := Lib.hid (HBW.out.trans (hbx.mono hN0s))
        have HBY := Lib.hid hbx
        have FT := FI2.out t (by omega) wr (by rw [HN0.out]; exact HBX.out)
        by_cases htl : t < s
        · rw [HNO.out t htl] at FT
          have FT2 := Lib.hid FT
          clear FT hbx
          go_wp2_with (go_at_call 23; refine FT2.out.mono ?_; rintro e' w1' ⟨rfl, hb⟩; have HBZ := Lib.hid (HBY.out.trans (hb.mono HBY.out.size)); clear hb)
          go_roundg (s - (t + 1))
          case rel => exact ⟨t + 1, by omega, rfl, by go_num, HBZ.out⟩
          case measure => omega
        · obtain rfl : s = t := by omega
          rw [HSEL.out] at FT
          have FT2 := Lib.hid FT
          clear FT hbx
          go_wp2_with (go_at_call 23; refine FT2.out.mono ?_; rintro e' w1' ⟨rfl, hb⟩; have HBZ := Lib.hid (HBY.out.trans (hb.mono HBY.out.size)); clear hb)
          go_loopg [6, 7] m (fun gk bv iv wx => ∃ q j, p + j = q ∧ q ≤ e ∧ gk = m - j ∧ iv = .int .i64 (q : Nat) ∧ wx.ownsRow wo.heap.size 4 1 bv (j * kb) (bitsV (sN kb (fun i => z (p + i)) j) (j * kb)) ∧ Below wo.heap.size wo wx)
          case atStart => exact ⟨p, 0, rfl, by have := HE.out; omega, rfl, rfl, by rw [Nat.zero_mul]; exact World.ownsRow_nil _ _ _ _, HBZ.out⟩
          case round =>
            obtain ⟨q, j, hq, hqe, rfl, rfl, hob, hbx⟩ := hrel
            have HBR := Lib.hid hbx
            have HOB := Lib.hid hob
            have HQ := Lib.hid hq
            clear hob hbx hq
            have hszr : wo.heap.size ≤ wr.heap.size := HBR.out.size
            by_cases hqe2 : q < e
            · have j1 : (q : Int) < e := by omega
              have j2 : (q : Int) < n := by omega
              have hqn : q < n := by omega
              have hjm : j < m := by have := HQ.out; have := HE.out; omega
              have hjk : j * kb + kb ≤ 60 := by
                have : (j + 1) * kb ≤ m * kb := Nat.mul_le_mul_right _ hjm
                rw [Nat.succ_mul] at this; omega
              have RZ2 := RZ.out q hqn
              rw [HZ.out q] at RZ2
              have hvl := HL.out q hqn
              obtain ⟨b, off, he, hblt, hcl⟩ := H.out.at_ hqn
              have CL := Lib.hid (fun (W : World) (hW : Below w.heap.size w W) => (World.cell?_of_block (hW.block b hblt)).trans (hcl q hqn))
              have hNj := HNL.out j (by omega)
              have hBj := HNB.out j
              rw [HQ.out] at hBj
              clear hcl hblt
              obtain ⟨v, hv⟩ : ∃ v, z q = v := ⟨_, rfl⟩
              rw [hv] at RZ2 hvl hBj
              have RZ3 := Lib.hid RZ2
              have BT := Lib.hid (fun W => rbits_any v kb hvl (by omega) W)
              have HBJ := Lib.hid hBj
              have HNJ := Lib.hid hNj
              clear hv RZ2 hBj hNj hvl
              subst he
              generalize x q = xq at *
              obtain ⟨c, hc⟩ : ∃ c, j * kb = c := ⟨_, rfl⟩
              rw [hc] at HOB HBJ HNJ hjk
              have HC := Lib.hid hc
              clear hc
              go_wp2_with (first
                | (go_at_call 24; refine (RM2.out _).mono ?_; rintro e' w1' ⟨rfl, hb⟩; have HC2 := Lib.hid hb; have hcc := CL.out _ (by rw [HN0.out]; exact HBW.out.trans ((HBR.out.trans (hb.mono hszr)).mono hN0s)); clear hb)
                | (go_at_call 22; refine (RZ3.out _).mono ?_; rintro e' w2' ⟨rfl, rfl⟩)
                | (go_at_call 26; refine (RB2.out _).mono ?_; rintro e' w3' ⟨rfl, hb⟩; have HC3 := Lib.hid (HC2.out.trans (hb.mono HC2.out.size)); clear hb)
                | (go_at_call 25; refine (BT.out _).mono ?_; rintro e' w4' ⟨xv, rfl, hxv, hb4⟩; obtain ⟨a4, c4, v5, w5, rfl, hrun, ho5, hb5⟩ := bool_append wr w4' wo.heap.size _ _ xv c kb _ v HOB.out hszr HNJ.out hxv (HC3.out.trans (hb4.mono HC3.out.size)) (by omega); have HRUN := Lib.hid hrun; have HO5 := Lib.hid ho5; have HB5 := Lib.hid hb5; clear hxv hb4 hrun ho5 hb5)
                | (at_builtin; go_must (refine wpList_append_ran _ _ rfl _ _ 51 rfl _ _ _ rfl rfl HRUN.out ?_)))
              go_roundg (m - (j + 1))
              case rel => exact ⟨q + 1, j + 1, by have := HQ.out; omega, by omega, rfl, by go_num, by rw [← HBJ.out, Nat.succ_mul, HC.out]; exact HO5.out, HBR.out.trans HB5.out⟩
              case measure => omega
            · have hqe3 : q = e := by omega
              have hjm : j = m := by have := HQ.out; have := HE.out; omega
              have j1 : ¬ (q : Int) < e := by omega
              rw [hjm] at HOB
              have hNl := HNL.out m (Nat.le_refl _)
              obtain ⟨N, hN⟩ : ∃ N, sN kb (fun i => z (p + i)) m = N := ⟨_, rfl⟩
              rw [hN] at HOB HWD hNl
              obtain ⟨c0, hc0⟩ : ∃ c, m * kb = c := ⟨_, rfl⟩
              rw [hc0] at HOB hNl hmk
              obtain ⟨a0, cc0, rfl, _, _⟩ := own_reads' HOB.out
              have HN60 := Lib.hid (Nat.lt_of_lt_of_le hNl (Nat.pow_le_pow_right (by decide) hmk : 2 ^ c0 ≤ 2 ^ 60))
              have HNL0 := Lib.hid hNl
              have hk1 : k + 1 ≤ P := hkP
              have he1 : e ≤ 1100 := by omega
              have hs15 : s ≤ 15 := o1
              have HWL := Lib.hid hwl
              have HS8 := Lib.hid (fun W => rbits_any s 4 (by omega) (by omega) W)
              clear hN hc0 hNl hjm hwl o1 o2 o3 t1 t2 t4
              go_wp2_with (go_at_call 24; refine (RM2.out _).mono ?_; rintro e' w1' ⟨rfl, hb⟩; have HC2 := Lib.hid hb; clear hb)
              go_loopg [6] (60 - c0) (fun gk bv wx => ∃ a9 c9 c, bv = .slice a9 c c9 ∧ c ≤ 60 ∧ gk = 60 - c ∧ N < 2 ^ c ∧ wx.ownsRow wo.heap.size 4 1 (.slice a9 c c9) c (bitsV N c) ∧ Below wo.heap.size wo wx)
              case atStart => exact ⟨a0, cc0, c0, rfl, hmk, rfl, HNL0.out, owns_turned HOB.out (Turned.of_below (S := fun _ => False) HC2.out (fun i hi _ => hi)) (fun _ _ h => h), HBR.out.trans (HC2.out.mono hszr)⟩
              case round =>
                obtain ⟨a9, c9, c, rfl, hc60, rfl, hNc, ho9, hb9⟩ := hrel
                have HO9 := Lib.hid ho9
                have HB9 := Lib.hid hb9
                have HNC := Lib.hid hNc
                have hsz9 : wo.heap.size ≤ wr.heap.size := hb9.size
                clear ho9 hb9 hNc
                by_cases hc6 : c < 60
                · have j5 : (c : Int) < 60 := by omega
                  have hlit : (wr.alloc (.cells #[.bool false] 4)).ownsRow wr.heap.size 4 1 (.slice (some ⟨wr.heap.size, 0, none⟩) 1 1) 1 (bitsV 0 1) := World.ownsRow_lit wr #[.bool false] 1 (Nat.le_refl _) (by decide) rfl
                  obtain ⟨a4, c4, v5, w5, _, hrun, ho5, hb5⟩ := bool_append wr _ wo.heap.size _ _ _ c 1 N 0 HO9.out hsz9 HNC.out hlit ((Below.refl _ wr).alloc (Nat.le_refl _) _) (by omega)
                  rw [Nat.zero_mul, Nat.add_zero] at ho5
                  obtain ⟨a8, c8, rfl, _, _⟩ := own_reads' ho5
                  have HRUN := Lib.hid hrun
                  have HO5 := Lib.hid ho5
                  have HB5 := Lib.hid hb5
                  clear hlit hrun ho5 hb5
                  go_wp2_with (at_builtin; go_must (refine wpList_append_ran _ _ rfl _ _ 51 rfl _ _ _ rfl rfl HRUN.out ?_))
                  go_roundg (60 - (c + 1))
                  case rel => exact ⟨a8, c8, c + 1, rfl, by omega, rfl, Nat.lt_of_lt_of_le HNC.out (Nat.pow_le_pow_right (by decide) (by omega)), HO5.out, HB9.out.trans HB5.out⟩
                  case measure => omega
                · obtain rfl : c = 60 := by omega
                  go_wp2_with (first
                    | (go_at_call 25; refine (HS8.out _).mono ?_; rintro e' w4' ⟨xv, rfl, hxv, hb4⟩; obtain ⟨a4, c4, v5, w5, rfl, hrun, ho5, hb5⟩ := bool_append wr w4' wo.heap.size _ _ xv 60 4 N s HO9.out hsz9 HN60.out hxv hb4 (by omega)
                       rw [← HWD.out] at ho5
                       obtain ⟨a6, c6, rfl, hr6, _⟩ := own_reads' (show w5.ownsRow _ _ 1 v5 64 (rowV (fun i => Value.bool (bitB wd i)) 64) from ho5)
                       have HRUN := Lib.hid hrun
                       have HB5 := Lib.hid (HB9.out.trans hb5)
                       have BY := Lib.hid (rbytes_any a6 64 c6 wd HWL.out (by omega) w5 hr6)
                       clear hxv hb4 hrun ho5 hb5 hr6)
                    | (go_at_call 27; refine BY.out.mono ?_; rintro e' w6 ⟨xv, rfl, hxv, hb6⟩
                       obtain ⟨a7, c7, v7, w7, rfl, hrun, ho7, hb7⟩ := bytes_append wo w6 N0 _ _ xv X (bytesOf 8 wd) HOW.out hN0s (show w6.ownsRow w5.heap.size 5 1 xv (bytesOf 8 wd).length (cellsOf (bytesOf 8 wd)) from by rw [bytesOf_length]; exact hxv) (HB5.out.trans (hb6.mono HB5.out.size)) (by rw [bytesOf_length]; omega)
                       rw [← HSF.out] at ho7
                       rw [bytesOf_length] at hrun
                       have HRUN2 := Lib.hid hrun
                       have HO7 := Lib.hid ho7
                       have HB7 := Lib.hid hb7
                       clear hxv hb6 hrun ho7 hb7)
                    | (at_builtin; go_must (first | (refine wpList_append_ran _ _ rfl _ _ 51 rfl _ _ _ rfl rfl HRUN.out ?_) | (refine wpList_append_ran _ _ rfl _ _ 27 rfl _ _ _ rfl rfl HRUN2.out ?_)))
                    | (go_at_call 24; refine (RM2.out _).mono ?_; rintro e' w8 ⟨rfl, hb⟩; have HC8 := Lib.hid hb; clear hb))
                  go_roundg (P - (k + 1))
                  case rel => exact ⟨k + 1, by omega, rfl, by rw [HAT.out], owns_turned HO7.out (Turned.of_below (S := fun _ => False) HC8.out (fun i hi _ => hi)) (fun _ _ h => h), (HBW.out.trans HB7.out).trans (HC8.out.mono (by have := HBW.out.size; have := HB7.out.size; have := HN0.out; omega))⟩
                  case measure => omega
    · obtain rfl : k = P := by omega
      rw [hP]
      have k1 : ¬ (n : Int) < n := by omega
      go_wp2
      go_ret
      exact ⟨_, rfl, HOW.out, HBW.out⟩
end Go.Proofs.YtelcaejiipibpaaDoor

