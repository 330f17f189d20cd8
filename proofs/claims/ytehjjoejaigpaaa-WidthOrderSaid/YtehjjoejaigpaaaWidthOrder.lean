/-
  THE STATEMENT corduroylaw06.WidthOrder: for any numbers the call returns true and leaves its argument as it was. No condition.
-/
import Derived.Test.YtehjjoejaigpaaaWidC
import Derived.Test.YtehjjoejaigpaaaIsRow
import Derived.Deep.QuietTactic
import Derived.BigQuiet
namespace Go.Proofs.Ytehjjoejaigpaaa.widthOrder
open Go.ChangeShapes Go.WideShapes Go.ChangeAt Go.RowKit
set_option linter.unusedVariables false
theorem lmin_le (x : Nat → Int) : ∀ n, (∀ i, i < n → lmin x n ≤ x i) ∧ lmin x n ≤ x 0
  | 0 => ⟨fun i hi => by omega, Int.le_refl _⟩
  | n + 1 => by
    obtain ⟨h1, h2⟩ := lmin_le x n
    simp only [lmin]
    split
    · rename_i h
      exact ⟨fun i hi => by
        by_cases e : i = n
        · subst e; exact Int.le_refl _
        · have := h1 i (by omega); omega, by omega⟩
    · rename_i h
      exact ⟨fun i hi => by
        by_cases e : i = n
        · subst e; omega
        · exact h1 i (by omega), h2⟩
theorem lmin_is (x : Nat → Int) : ∀ n, lmin x n = x 0 ∨ ∃ i, i < n ∧ lmin x n = x i
  | 0 => .inl rfl
  | n + 1 => by
    simp only [lmin]
    split
    · exact .inr ⟨n, by omega, rfl⟩
    · rcases lmin_is x n with h | ⟨i, hi, h⟩
      · exact .inl h
      · exact .inr ⟨i, by omega, h⟩
/-- Is one of the first i the least? -/
def nt (x : Nat → Int) (m : Int) : Nat → Bool
  | 0 => false
  | i + 1 => nt x m i || decide (x i = m)
theorem nt_some (x : Nat → Int) (m : Int) : ∀ n, (∃ i, i < n ∧ x i = m) → nt x m n = true
  | 0, ⟨i, hi, _⟩ => by omega
  | n + 1, ⟨i, hi, h⟩ => by
    simp only [nt, Bool.or_eq_true, decide_eq_true_eq]
    by_cases e : i = n
    · subst e; exact .inr h
    · exact .inl (nt_some x m n ⟨i, by omega, h⟩)
theorem offs_eq (y m : Int) (h1 : m ≤ y) (h2 : y ≤ 9223372036854775807) (h3 : -9223372036854775808 ≤ m) : offs y m = y - m := by
  unfold offs; simp only [u64w, wrap64]; omega
theorem order_skip (a0 : Option Addr) (len0 cap0 : Nat) (w : World) (h : 200 < len0) :
    Calls Try.prog 6 #[.slice a0 len0 cap0] w fun e w' => e = .returned (.bool true) ∧ Below w.heap.size w w' := by
  have h' : (200 : Int) < len0 := by omega
  clear h
  go_enter Try.func6, Try.ntmps6
  go_wp2
  go_ret
  exact ⟨rfl, Below.refl _ _⟩
theorem order_zero (a0 : Option Addr) (cap0 : Nat) (w : World) :
    Calls Try.prog 6 #[.slice a0 0 cap0] w fun e w' => e = .returned (.bool true) ∧ Below w.heap.size w w' := by
  have L1 := Lib.hid (least_none a0 cap0 w)
  go_enter Try.func6, Try.ntmps6
  go_wp2_with (go_at_call 18; refine L1.out.mono ?_; rintro e w' ⟨rfl, rfl⟩)
  refine (offsets_any a0 0 cap0 (fun _ => 0) 0 (by omega) w (.inl rfl)).mono ?_
  rintro e w1 ⟨v1, rfl, ho1, hb1⟩
  obtain ⟨a1, c1, rfl, _, _⟩ := own_reads' ho1
  have T1 := Lib.hid hb1
  clear ho1 hb1
  go_wp2
  go_loopw [6, 7] (fun b i wr => i = .int .i64 0 ∧ b = .bool false ∧ Below w.heap.size w wr) (fun _ _ _ => 0)
  case atStart => exact ⟨rfl, rfl, T1.out⟩
  case round =>
    obtain ⟨rfl, rfl, hb⟩ := hrel
    have T2 := Lib.hid hb
    clear hb
    go_wp2_with (go_at_call 17; refine (awake_any _).mono ?_; rintro e w7 ⟨rfl, hb7⟩; have T7 := Lib.hid (T2.out.trans (hb7.mono T2.out.size)); clear hb7)
    go_ret
    exact ⟨rfl, T7.out⟩
set_option maxRecDepth 100000 in
set_option maxHeartbeats 4000000 in
theorem order_walk (a0 : Option Addr) (n cap0 : Nat) (x : Nat → Int) (w : World) (h0 : 0 < n) (h : n ≤ 200) (hx : ∀ j, j < n → -9223372036854775808 ≤ x j ∧ x j ≤ 9223372036854775807) (H : RowOf w a0 n (fun i => .int .i64 (x i))) :
    Calls Try.prog 6 #[.slice a0 n cap0] w fun e w' => e = .returned (.bool true) ∧ Below w.heap.size w w' := by
  have h' : ¬ (200 : Int) < n := by omega
  have L1 := Lib.hid (least_some a0 n cap0 x h0 (by omega) w H)
  have hm0 : -9223372036854775808 ≤ lmin x n := by
    rcases lmin_is x n with e | ⟨i, hi, e⟩
    · rw [e]; exact (hx 0 h0).1
    · rw [e]; exact (hx i hi).1
  have hle := (lmin_le x n).1
  have hnt : nt x (lmin x n) n = true := nt_some x _ n (by
    rcases lmin_is x n with e | ⟨i, hi, e⟩
    · exact ⟨0, h0, e.symm⟩
    · exact ⟨i, hi, e.symm⟩)
  have e1 := rowV_congr (n := n) (f := fun i => Value.int .u64 (offs (x i) (lmin x n))) (g := fun i => .int .u64 (x i - lmin x n)) (fun i hi => by rw [offs_eq _ _ (hle i hi) (hx i hi).2 hm0])
  generalize lmin x n = m at *
  have E1 := Lib.hid e1
  have HNT := Lib.hid hnt
  have HLE := Lib.hid hle
  have H := Lib.hid H
  have HX := Lib.hid hx
  have n1 : (0 : Int) < n := by omega
  have n2 : ((n : Int) != (n : Int)) = false := by simp
  clear hx hle hnt e1
  go_enter Try.func6, Try.ntmps6
  go_wp2_with (go_at_call 18; refine L1.out.mono ?_; rintro e w' ⟨rfl, rfl⟩)
  refine (offsets_any a0 n cap0 x m (by omega) w H.out).mono ?_
  rintro e w1 ⟨v1, rfl, ho1, hb1⟩
  rw [E1.out] at ho1
  obtain ⟨a1, c1, rfl, hr1, _⟩ := own_reads' ho1
  have HR1 := Lib.hid hr1
  have T1 := Lib.hid hb1
  clear ho1 hr1 hb1
  go_wp2
  go_loopw [6, 7] (fun b i wr => ∃ k : Nat, k ≤ n ∧ i = .int .i64 k ∧ b = .bool (nt x m k) ∧ Below w1.heap.size w1 wr) (fun _ i _ => n - (intOf i).toNat)
  case atStart => exact ⟨0, by omega, rfl, rfl, Below.refl _ _⟩
  case round =>
    obtain ⟨k, hk, rfl, rfl, hb⟩ := hrel
    by_cases hkn : k < n
    · have k1 : (k : Int) < n := by omega
      have k0 : (0 : Int) ≤ k := by omega
      obtain ⟨b1, o1, rfl, hb1, hc1⟩ := HR1.out.at_ hkn
      obtain ⟨b0, o0, rfl, hb0, hc0⟩ := H.out.at_ hkn
      have d1 := (hb.cell (p := ⟨b1, o1 + k, none⟩) hb1).trans (hc1 k hkn)
      have CC := Lib.hid (fun W (hW : Below w1.heap.size w1 W) j (hj : j < n) => And.intro ((hW.cell (p := ⟨b1, o1 + j, none⟩) hb1).trans (hc1 j hj)) ((hW.cell (p := ⟨b0, o0 + j, none⟩) (Nat.lt_of_lt_of_le hb0 T1.out.size)).trans ((T1.out.cell (p := ⟨b0, o0 + j, none⟩) hb0).trans (hc0 j hj))))
      have hNT : nt x m (k + 1) = (nt x m k || decide (x k = m)) := rfl
      have HB := Lib.hid hb
      have xk := HX.out k hkn
      have mk := HLE.out k hkn
      have hz : ((x k - m) == 0) = decide (x k = m) := by
        by_cases e : x k = m
        · rw [e]; simp
        · rw [decide_eq_false e, beq_eq_false_iff_ne]; omega
      obtain ⟨q, hq⟩ : ∃ q, decide (x k = m) = q := ⟨_, rfl⟩
      rw [hq] at hz hNT
      have HNT2 := Lib.hid hNT
      obtain ⟨y, hy⟩ : ∃ y, x k - m = y := ⟨_, rfl⟩
      rw [hy] at d1 hz
      have HY := Lib.hid hy
      clear hc0 hc1 hb hNT hq hy
      have hkk : (k : Int) ≤ 200 := by omega
      generalize hp : nt x m k = p at *
      clear hp
      cases p
      all_goals
        go_wp2
        go_loopw [8] (fun t V => ∃ j : Nat, j ≤ k ∧ t = .int .i64 j ∧ Below w1.heap.size w1 V) (fun t _ => k - (intOf t).toNat)
        case atStart => exact ⟨0, by omega, rfl, HB.out⟩
        case round =>
          obtain ⟨j, hjk, rfl, hb⟩ := hrel
          by_cases hj : j < k ∧ j < 40
          · obtain ⟨hj1, hj2⟩ := hj
            have j1 : (j : Int) < k := by omega
            have j2 : (j : Int) < 40 := by omega
            have j3 : (j : Int) < n := by omega
            have j0 : (0 : Int) ≤ j := by omega
            obtain ⟨g1, g2⟩ := CC.out _ hb j (by omega)
            obtain ⟨g3, g4⟩ := CC.out _ hb k hkn
            have HB3 := Lib.hid hb
            clear hb d1
            by_cases hlt : x j < x k
            · have hlt2 : x j - m < x k - m := by omega
              generalize hA : x j - m = A at *
              generalize hB : x k - m = B at *
              clear hA hB
              generalize hC : x j = C at g2 hlt
              generalize hD : x k = D at g4 hlt
              clear hC hD
              go_wp2
              go_quiet (fail)
              go_wp2
              go_roundw
              case rel => exact ⟨j + 1, by omega, by go_num, ⟨HB3.out.os, HB3.out.tape, HB3.out.output, HB3.out.size, HB3.out.block⟩⟩
              case measure => simp [intOf]; omega
            · have hlt2 : ¬ x j - m < x k - m := by omega
              generalize hA : x j - m = A at *
              generalize hB : x k - m = B at *
              clear hA hB
              generalize hC : x j = C at g2 hlt
              generalize hD : x k = D at g4 hlt
              clear hC hD
              have hd1 : decide (C < D) = false := decide_eq_false hlt
              have hd2 : decide (A < B) = false := decide_eq_false hlt2
              clear hlt hlt2
              go_wp2
              go_quiet (fail)
              go_wp2
              go_roundw
              case rel => exact ⟨j + 1, by omega, by go_num, ⟨HB3.out.os, HB3.out.tape, HB3.out.output, HB3.out.size, HB3.out.block⟩⟩
              case measure => simp [intOf]; omega
          · have HB3 := Lib.hid hb
            clear hb
            by_cases hj1 : j < k
            · have j1 : (j : Int) < k := by omega
              have j2 : ¬ (j : Int) < 40 := by omega
              clear hj
              go_wp2
              go_roundw
              case rel => exact ⟨k + 1, by omega, by go_num, by rw [HNT2.out]; simp, HB3.out⟩
              case measure => simp [intOf]; omega
            · have j1 : ¬ (j : Int) < k := by omega
              clear hj
              go_wp2
              go_roundw
              case rel => exact ⟨k + 1, by omega, by go_num, by rw [HNT2.out]; simp, HB3.out⟩
              case measure => simp [intOf]; omega
    · obtain rfl : k = n := by omega
      have T2 := Lib.hid (T1.out.trans (hb.mono T1.out.size))
      clear hb
      rw [HNT.out]
      go_wp2_with (go_at_call 17; refine (awake_any _).mono ?_; rintro e w7 ⟨rfl, hb7⟩; have T7 := Lib.hid (T2.out.trans (hb7.mono T2.out.size)); clear hb7)
      go_ret
      exact ⟨rfl, T7.out⟩
theorem walk (a0 : Option Addr) (len0 cap0 : Nat) (z0 : List Int) (w : World) (b0 : IsRow .i64 w a0 len0 cap0 z0) :
    Calls Try.prog 6 #[.slice a0 len0 cap0] w fun e w' => e = .returned (.bool true) ∧ Below w.heap.size w w' := by
  by_cases h : 200 < len0
  · exact order_skip a0 len0 cap0 w h
  · obtain ⟨hl, hm, hz, hw, h0⟩ := b0
    by_cases hz0 : len0 = 0
    · subst hz0
      exact order_zero a0 cap0 w
    refine order_walk a0 len0 cap0 (fun i => z0.getD i 0) w (by omega) (by omega) (fun j hj => bounds_i64 (hw _ (by simp [List.getD, (by omega : j < z0.length)]))) ?_
    rcases h0 with h0 | ⟨b, off, rfl, _, hc⟩
    · exact .inl (by omega)
    · exact .inr ⟨b, off, rfl, fun i hi => hc i (by omega)⟩
theorem own : ownKnob Try.prog.godebug = none := by kernel_rfl
set_option maxRecDepth 100000 in
theorem contract (H : Type) (enc : TypeId × Value → H) (W : World) (base : Nat) (args : Array Value) (ds gs : List (DataW H)) (before : List MemPlace)
    (hval : ∀ (j : Nat) t v, Try.f6.params[j]? = some t → args[j]? = some v → Value.okWide Try.prog W .any base t v)
    (hW : DataW.Whole enc Try.prog Try.f6.params.toList Rows.widthOrderSpec.vars false W args.toList ds gs before) :
    Calls Try.prog 6 args W fun e W' => ∃ v, e = .returned v ∧ Rows.widthOrderSpec.post enc Try.prog Try.f6 false true false false W args v W' := by
  have hW' := hW
  obtain ⟨p, q, hA0, hV, rfl, hfz, hnd⟩ := hW
  have hA : DataW.TrodAll enc Try.prog W 0 (fun _ => true) true Try.f6.params.toList args.toList ds p := hA0
  rw [Try.params6] at hA hval
  obtain ⟨v0, vs0, d0, ds0, p0, q0, hargs, rfl, rfl, h0, r0⟩ := trodAll_cons hA
  obtain ⟨rfl, rfl, rfl⟩ := trodAll_nil r0
  obtain rfl : args = #[v0] := by cases args; simp_all
  obtain ⟨rfl, rfl⟩ := trodVars_none hV
  have hWhole := hW'
  obtain ⟨a0, len0, cap0, rfl⟩ := okWide_slice Try.underlying31 (hval 0 31 v0 rfl rfl)
  have k0 := h0
  have lt0 : ∀ x ∈ p0, x.block < W.heap.size := by obtain ⟨m, hm⟩ := k0; exact DataW.trod_lt m _ _ _ hm
  obtain ⟨z0, b0⟩ : ∃ zs, IsRow .i64 W a0 len0 cap0 zs := by
    obtain ⟨fuel, hf⟩ := h0
    rcases open_ints Try.underlying31 Try.underlying2 (by kernel_rfl) hf with ⟨hcs, _⟩ | ⟨x, l, c, zs, hcs, _, hl, hm, hz, _, hcell, hwz⟩
    · simp [Value.cells] at hcs
      obtain ⟨rfl, rfl, rfl⟩ := hcs
      exact ⟨[], isRow_nil _ _⟩
    · simp [Value.cells] at hcs
      obtain ⟨rfl, rfl, rfl⟩ := hcs
      exact ⟨zs, isRow_of hl hm (by simpa using hz) hcell hwz⟩
  clear hA0
  refine (walk a0 len0 cap0 z0 W b0).mono fun e W' ⟨he, hg⟩ => ?_
  subst he
  exact ⟨_, rfl, _, _, _, [], _, [], hW', trodAll_mk1 (shut_bool Try.underlying4 _), (trodAll_cons_mk (Below.trod laidOut (by kernel_rfl) (of_decide_eq_true (by kernel_rfl)) k0 hg lt0) trodAll_mk0), rfl, hg.frame _, fun h => by cases h⟩

set_option maxRecDepth 100000 in
theorem lifted (os : Os) (started : os.Started) (H : Type) (enc : TypeId × Value → H) :
    ReturnsInHanded {} Try.checked os 6 .any (Rows.widthOrderSpec.pre6 enc Try.prog Try.f6 Rows.widthOrderRow.domain false) (Rows.widthOrderSpec.post enc Try.prog Try.f6 false true false false) := by
  refine returnsInHanded_of_change (C := Try.checked) own started (by kernel_rfl) Try.func6
    (ChangeSpec.witness6 (enc := enc) (C := Try.checked) false ⟨#[], #[.slice none 0 0], []⟩ 8 (by kernel_rfl) (by kernel_rfl) (by kernel_rfl) (by kernel_rfl)) ?_
  intro W base args ds gs before hval hW _ _
  exact contract H enc W base args ds gs before hval hW

/-- ████ THE STATEMENT ████ -/
theorem proved : Rows.WidthOrderSaid :=
  OpenClaim.holds_of_wide 6 Try.f6 rfl rfl rfl rfl rfl rfl rfl ⟨rfl, rfl, rfl, rfl, rfl⟩ rfl rfl rfl rfl rfl (by kernel_rfl) Try.func6 (by kernel_rfl)
    (of_decide_eq_true (by kernel_rfl)) (by unfold Func.isWrapper; first | (rw [if_pos (by decide +kernel)]; kernel_rfl) | (rw [if_neg (by decide +kernel)]; exact ⟨rfl, rfl⟩))
    (fun os started H enc _ => lifted os started H enc)
end Go.Proofs.Ytehjjoejaigpaaa.widthOrder
