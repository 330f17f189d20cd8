/-
  THE STATEMENT corduroylaw04.VarintSizes: for any two numbers the call returns true and leaves its arguments as they were. No condition.
-/
import Derived.Test.YthfepljblofgfaaVarAwake
import Derived.Test.YthfepljblofgfaaIsRow
import Derived.LoopTactic
namespace Go.Proofs.Ythfepljblofgfaa.varintSizes
open Go.ChangeShapes Go.WideShapes Go.ChangeAt Go.RowKit
set_option linter.unusedVariables false

theorem big10 : (128 : Nat) ^ 10 = 1180591620717411303424 := by decide
theorem len_max (a : Nat) (h : a < 18446744073709551616) : ((digs 9 a).length : Int) = max 1 (((Lib.bitLen a : Int) + 6) / 7) := by
  by_cases h0 : a = 0
  · subst h0; decide
  · have := size_eq a a h (Nat.le_refl _) (by omega) h0 h (fun _ => rfl)
    have h1 := (digs_le 9 a (by rw [big10]; omega)).1
    omega
theorem len_mono (a b : Nat) (ha : a < 18446744073709551616) (hb : b < 18446744073709551616) (h : a ≤ b) : (digs 9 a).length ≤ (digs 9 b).length := by
  obtain ⟨a1, a2, a3, a4⟩ := digs_le 9 a (by rw [big10]; omega)
  obtain ⟨b1, b2, b3, b4⟩ := digs_le 9 b (by rw [big10]; omega)
  rcases Nat.lt_or_ge (digs 9 b).length (digs 9 a).length with hlt | hge
  · have h2 : 128 ^ ((digs 9 a).length - 1) ≤ a := by rcases a4 with e | e; · omega
                                                      · exact e
    have h3 : (128 : Nat) ^ (digs 9 b).length ≤ 128 ^ ((digs 9 a).length - 1) := Nat.pow_le_pow_right (by decide) (by omega)
    omega
  · exact hge
theorem bitLen_zero : Lib.bitLen 0 = 0 := by decide
theorem sizes_core (a b : Nat) (x y : Nat) (ha : a < 18446744073709551616) (hx : (x : Int) = max 1 (((Lib.bitLen a : Int) + 6) / 7)) (hx1 : 1 ≤ (x : Int)) (hx2 : (x : Int) ≤ 10) (hle : ((a : Int) ≤ b ∧ (x : Int) ≤ y) ∨ (¬ (a : Int) ≤ b)) (hge : ((b : Int) ≤ a ∧ (y : Int) ≤ x) ∨ (¬ (b : Int) ≤ a)) (w : World)
    (A : Hid (∀ w, Calls Try.prog 33 #[.int .u64 a] w fun e w' => e = .returned (.int .i64 x) ∧ w = w')) (B : Hid (∀ w, Calls Try.prog 33 #[.int .u64 b] w fun e w' => e = .returned (.int .i64 y) ∧ w = w')) :
    Calls Try.prog 12 #[.int .u64 a, .int .u64 b] w fun e w' => e = .returned (.bool true) ∧ Below w.heap.size w w' := by
  have hbl : Lib.bitLen a ≤ 64 := by
    by_cases h0 : a = 0
    · subst h0; decide
    · have := (Lib.bitLenAux_bounds 64 a (by omega) h0).2.1
      have e : Lib.bitLenAux 64 a = Lib.bitLen a := rfl
      rw [e] at this
      rcases Nat.lt_or_ge 64 (Lib.bitLen a) with h | h
      · have h3 : (2 : Nat) ^ 64 ≤ 2 ^ (Lib.bitLen a - 1) := Nat.pow_le_pow_right (by decide) (by omega)
        have : (2 : Nat) ^ 64 = 18446744073709551616 := by decide
        omega
      · exact h
  have HX := Lib.hid hx
  clear hx
  obtain ⟨L, hL⟩ : ∃ L, Lib.bitLen a = L := ⟨_, rfl⟩
  have HL := Lib.hid hL
  rw [hL] at hbl
  clear hL
  go_enter Try.func12, Try.ntmps12
  go_wp2_with fail
  refine (A.out _).mono ?_
  rintro e w' ⟨rfl, rfl⟩
  go_wp2_with fail
  refine (B.out _).mono ?_
  rintro e w' ⟨rfl, rfl⟩
  go_wp2_with fail
  go_loop [7, 8] (fun q v => ∃ k r : Nat, q = .int .i64 k ∧ v = .int .u64 r ∧ r < 18446744073709551616 ∧ Lib.bitLen a = k + Lib.bitLen r ∧ k ≤ L) (fun _ v => (intOf v).toNat)
  case atStart => exact ⟨0, a, rfl, rfl, ha, by omega, by omega⟩
  case round =>
    obtain ⟨k, r, rfl, rfl, hr, hk, hkl⟩ := hrel
    have HK := Lib.hid hk
    clear hk
    by_cases h0 : r = 0
    · subst h0
      have hk' : k = L := by have := HK.out; rw [bitLen_zero, HL.out] at this; omega
      have hmx : (x : Int) = max 1 (((k : Int) + 6) / 7) := by rw [hk', ← HL.out]; exact HX.out
      have HM := Lib.hid hmx
      clear hmx hk'
      go_wp2_with fail
      all_goals first
        | (refine (awake_any _).mono ?_
           rintro e w' ⟨rfl, hb'⟩
           go_wp2
           go_ret
           first | exact ⟨rfl, hb'⟩ | (refine ⟨?_, hb'⟩; simp; omega))
        | (exfalso; omega)
        | go_show
    · have hp : (0 : Int) < r := by omega
      have hk2 : k + 1 ≤ L := by
        have := HK.out
        rw [Lib.bitLen_half r h0 (by omega), HL.out] at this; omega
      go_wp2_with fail
      go_round
      case rel => exact ⟨k + 1, r / 2, by go_num, by go_num, by omega, by rw [HK.out, Lib.bitLen_half r h0 (by omega)]; omega, hk2⟩
      case measure => simp [intOf]; omega
theorem walk (a b : Int) (b0 : 0 ≤ a ∧ a ≤ 18446744073709551615) (b1 : 0 ≤ b ∧ b ≤ 18446744073709551615) (w : World) :
    Calls Try.prog 12 #[.int .u64 a, .int .u64 b] w fun e w' => e = .returned (.bool true) ∧ Below w.heap.size w w' := by
  obtain ⟨m, rfl⟩ : ∃ m : Nat, a = m := ⟨a.toNat, by omega⟩
  obtain ⟨n, rfl⟩ : ∃ n : Nat, b = n := ⟨b.toNat, by omega⟩
  have hm : m < 18446744073709551616 := by omega
  have hn : n < 18446744073709551616 := by omega
  have A := size_any m (by omega) (by omega)
  have B := size_any n (by omega) (by omega)
  rw [Int.toNat_natCast] at A B
  have h1 := (digs_le 9 m (by rw [big10]; omega)).1
  have h2 := (digs_le 9 m (by rw [big10]; omega)).2.1
  have e := len_max m hm
  refine sizes_core m n (digs 9 m).length (digs 9 n).length hm e (by omega) (by omega) ?_ ?_ w (Lib.hid A) (Lib.hid B)
  · by_cases h : (m : Int) ≤ n
    · have := len_mono m n hm hn (by omega)
      exact .inl ⟨h, by omega⟩
    · exact .inr h
  · by_cases h : (n : Int) ≤ m
    · have := len_mono n m hn hm (by omega)
      exact .inl ⟨h, by omega⟩
    · exact .inr h
theorem own : ownKnob Try.prog.godebug = none := by kernel_rfl
theorem contract (H : Type) (enc : TypeId × Value → H) (W : World) (base : Nat) (args : Array Value) (ds gs : List (DataW H)) (before : List MemPlace)
    (hval : ∀ (j : Nat) t v, Try.f12.params[j]? = some t → args[j]? = some v → Value.okWide Try.prog W .any base t v)
    (hW : DataW.Whole enc Try.prog Try.f12.params.toList Rows.varintSizesSpec.vars false W args.toList ds gs before) :
    Calls Try.prog 12 args W fun e W' => ∃ v, e = .returned v ∧ Rows.varintSizesSpec.post enc Try.prog Try.f12 false true false false W args v W' := by
  have hW' := hW
  obtain ⟨p, q, hA0, hV, rfl, hfz, hnd⟩ := hW
  have hA : DataW.TrodAll enc Try.prog W 0 (fun _ => true) true Try.f12.params.toList args.toList ds p := hA0
  rw [Try.params12] at hA hval
  obtain ⟨v0, vs0, d0, ds0, p0, q0, hargs, rfl, rfl, h0, r0⟩ := trodAll_cons hA
  obtain ⟨v1, vs1, d1, ds1, p1, q1, rfl, rfl, rfl, h1, r1⟩ := trodAll_cons r0
  obtain ⟨rfl, rfl, rfl⟩ := trodAll_nil r1
  obtain rfl : args = #[v0, v1] := by cases args; simp_all
  obtain ⟨rfl, rfl⟩ := trodVars_none hV
  obtain ⟨a0, rfl, rfl, rfl, w0⟩ := open_int Try.underlying40 (hval 0 40 v0 rfl rfl) h0
  have b0 := bounds_u64 w0
  obtain ⟨a1, rfl, rfl, rfl, w1⟩ := open_int Try.underlying40 (hval 1 40 v1 rfl rfl) h1
  have b1 := bounds_u64 w1
  clear hA0
  simp only [List.append_nil] at hW'
  refine (walk a0 a1 b0 b1 W).mono fun e W' ⟨he, hg⟩ => ?_
  subst he
  exact ⟨_, rfl, _, _, _, [], [], [], hW', trodAll_mk1 (shut_bool Try.underlying4 _), (trodAll_cons_mk (shut_int Try.underlying40 w0) (trodAll_cons_mk (shut_int Try.underlying40 w1) trodAll_mk0)), rfl, hg.frame _, fun h => by cases h⟩

set_option maxRecDepth 100000 in
theorem lifted (os : Os) (started : os.Started) (H : Type) (enc : TypeId × Value → H) :
    ReturnsInHanded {} Try.checked os 12 .any (Rows.varintSizesSpec.pre6 enc Try.prog Try.f12 Rows.varintSizesRow.domain false) (Rows.varintSizesSpec.post enc Try.prog Try.f12 false true false false) := by
  refine returnsInHanded_of_change (C := Try.checked) own started (by kernel_rfl) Try.func12
    (ChangeSpec.witness6 (enc := enc) (C := Try.checked) false ⟨#[], #[.int .u64 0, .int .u64 0], []⟩ 8 (by kernel_rfl) (by kernel_rfl) (by kernel_rfl) (by kernel_rfl)) ?_
  intro W base args ds gs before hval hW _ _
  exact contract H enc W base args ds gs before hval hW

/-- ████ THE STATEMENT ████ -/
theorem proved : Rows.VarintSizesSaid :=
  OpenClaim.holds_of_wide 12 Try.f12 rfl rfl rfl rfl rfl rfl rfl ⟨rfl, rfl, rfl, rfl, rfl⟩ rfl rfl rfl rfl rfl (by kernel_rfl) Try.func12 (by kernel_rfl)
    (of_decide_eq_true (by kernel_rfl)) (by unfold Func.isWrapper; first | (rw [if_pos (by decide +kernel)]; kernel_rfl) | (rw [if_neg (by decide +kernel)]; exact ⟨rfl, rfl⟩))
    (fun os started H enc _ => lifted os started H enc)
end Go.Proofs.Ythfepljblofgfaa.varintSizes
