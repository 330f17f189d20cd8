/-
  THE STATEMENT corduroylaw08.ZvarSmall: for any numbers the call returns true and leaves its argument as it was. No condition.
-/
import Derived.Test.YtknpekpigiclkaaZvarC
import Derived.Test.YtknpekpigiclkaaIsRow
namespace Go.Proofs.Ytknpekpigiclkaa.zvarSmall
open Go.ChangeShapes Go.WideShapes Go.ChangeAt Go.RowKit
set_option linter.unusedVariables false
theorem digs_one (v : Nat) : (digs 9 v).length = 1 ↔ v ≤ 127 := by
  have h := digs_some 8 (v / 128)
  unfold digs
  split
  · rename_i h1; simp [h1]
  · rename_i h1
    simp only [List.length_cons]
    omega
theorem zg_one {v : Int} : (zg v).toNat ≤ 127 ↔ (-64 ≤ v ∧ v < 64) := by unfold zg; split <;> omega
/-- Are the first k numbers all small? -/
def sm (x : Nat → Int) : Nat → Bool
  | 0 => true
  | k + 1 => sm x k && (decide (-64 ≤ x k) && decide (x k < 64))
theorem zl_small (x : Nat → Int) : ∀ n, (zl x n = n) ↔ sm x n = true
  | 0 => by simp [zl, zb, sm]
  | n + 1 => by
    have ih := zl_small x n
    have h1 := (zl_le x n).1
    have h2 := digs_some 9 (zg (x n)).toNat
    have h3 := digs_one (zg (x n)).toNat
    rw [zg_one] at h3
    rw [zl_succ]
    simp only [sm, Bool.and_eq_true, decide_eq_true_eq]
    rw [← ih, ← h3]
    omega
theorem skip (a : Option Addr) (n cap : Nat) (hl : 1024 < n ∨ n = 0) (W : World) :
    Calls Try.prog 13 #[.slice a n cap] W fun e w' => e = .returned (.bool true) ∧ Below W.heap.size W w' := by
  by_cases h : 1024 < n
  · have h1 : (1024 : Int) < n := by omega
    clear hl
    go_enter Try.func13, Try.ntmps13
    go_wp2
    go_ret
    exact ⟨rfl, Below.refl _ _⟩
  · obtain rfl : n = 0 := by omega
    clear hl h
    go_enter Try.func13, Try.ntmps13
    go_wp2
    go_ret
    exact ⟨rfl, Below.refl _ _⟩
set_option maxRecDepth 100000 in
set_option maxHeartbeats 2000000 in
theorem main (a : Option Addr) (n cap : Nat) (x : Nat → Int) (hn : n ≤ 1024) (hn0 : 0 < n) (hx : ∀ i, i < n → -9223372036854775808 ≤ x i ∧ x i ≤ 9223372036854775807) (W : World) (h : RowOf W a n (fun i => .int .i64 (x i))) :
    Calls Try.prog 13 #[.slice a n cap] W fun e w' => e = .returned (.bool true) ∧ Below W.heap.size W w' := by
  have SZ := zsize_any a n cap x hx W h
  rw [show blk n = true from decide_eq_true (by omega), if_pos rfl] at SZ
  have hzl := zl_le x n
  have hsm : ((zl x n : Int) == (n : Int)) = sm x n := by
    cases hs : sm x n
    · rw [beq_eq_false_iff_ne]
      intro e
      have := (zl_small x n).1 (by omega)
      rw [hs] at this
      cases this
    · rw [beq_iff_eq]
      have := (zl_small x n).2 hs
      omega
  obtain ⟨L, hL⟩ : ∃ L, zl x n = L := ⟨_, rfl⟩
  rw [hL] at SZ hzl hsm
  have SZ := Lib.hid SZ
  have AW := Lib.hid (fun W => awake8_any W)
  have HSM := Lib.hid hsm
  have h1 : ¬ (1024 : Int) < n := by omega
  have h2 : ((n : Int) == 0) = false := by rw [beq_eq_false_iff_ne]; omega
  have H := Lib.hid h
  clear h hx hL hsm
  go_enter Try.func13, Try.ntmps13
  go_wp2_with (go_at_call 50; refine SZ.out.mono ?_; rintro e w1 ⟨rfl, hb⟩; have HB1 := Lib.hid hb; clear hb)
  go_loop [4, 5] (fun s i => ∃ k : Nat, k ≤ n ∧ i = .int .i64 k ∧ s = .bool (sm x k)) (fun _ i => n - (intOf i).toNat)
  case atStart => exact ⟨0, by omega, rfl, rfl⟩
  case round =>
    obtain ⟨k, hk, rfl, rfl⟩ := hrel
    by_cases hkn : k < n
    · have k1 : (k : Int) < n := by omega
      have k0 : (0 : Int) ≤ k := by omega
      obtain ⟨b, off, rfl, _, hc⟩ := (H.out.below HB1.out).at_ hkn
      have c0 := hc k hkn
      have HS := Lib.hid (show sm x (k + 1) = (sm x k && (decide (-64 ≤ x k) && decide (x k < 64))) from rfl)
      generalize x k = y at *
      generalize sm x k = t at *
      clear hc
      cases t
      · go_wp2
        go_round
        case rel => exact ⟨k + 1, by omega, by go_num, by rw [HS.out]; rfl⟩
        case measure => simp [intOf]; omega
      · by_cases g1 : -64 ≤ y
        · by_cases g2 : y < 64
          · have d1 : decide (-64 ≤ y) = true := decide_eq_true g1
            have d2 : decide (y < 64) = true := decide_eq_true g2
            have E := Lib.hid (show sm x (k + 1) = true from by rw [HS.out, d1, d2]; rfl)
            clear HS
            go_wp2
            go_round
            case rel => exact ⟨k + 1, by omega, by go_num, by rw [E.out]⟩
            case measure => simp [intOf]; omega
          · have d1 : decide (-64 ≤ y) = true := decide_eq_true g1
            have d2 : decide (y < 64) = false := decide_eq_false g2
            have E := Lib.hid (show sm x (k + 1) = false from by rw [HS.out, d1, d2]; rfl)
            clear HS
            go_wp2
            go_round
            case rel => exact ⟨k + 1, by omega, by go_num, by rw [E.out]⟩
            case measure => simp [intOf]; omega
        · have d1 : decide (-64 ≤ y) = false := decide_eq_false g1
          have E := Lib.hid (show sm x (k + 1) = false from by rw [HS.out, d1]; rfl)
          clear HS
          go_wp2
          go_round
          case rel => exact ⟨k + 1, by omega, by go_num, by rw [E.out]⟩
          case measure => simp [intOf]; omega
    · obtain rfl : k = n := by omega
      have hsm := HSM.out
      generalize sm x k = t at *
      have e1 : (t == t) = true := by simp
      have hw : IntKind.i64.wrap (10 * (k : Int)) = 10 * (k : Int) := IntWalk.i64_in _ (by omega)
      have l1 : (k : Int) ≤ L := by omega
      have l2 : (L : Int) ≤ 10 * (k : Int) := by omega
      go_wp2_with (go_at_call 45; refine (AW.out _).mono ?_; rintro e w4 ⟨rfl, hb⟩; have HB4 := Lib.hid hb; clear hb)
      go_ret
      exact ⟨rfl, HB1.out.trans (HB4.out.mono HB1.out.size)⟩
theorem walk (a : Option Addr) (n cap : Nat) (zs : List Int) (W : World) (b : IsRow .i64 W a n cap zs) :
    Calls Try.prog 13 #[.slice a n cap] W fun e w' => e = .returned (.bool true) ∧ Below W.heap.size W w' := by
  obtain ⟨b1, b2, b3, b4, b5⟩ := b
  by_cases hl : 1024 < n ∨ n = 0
  · exact skip a n cap hl W
  · refine main a n cap (fun i => zs.getD i 0) (by omega) (by omega) (fun i hi => bounds_i64 (b4 (zs.getD i 0) (by rw [List.getD_eq_getElem?_getD, List.getElem?_eq_getElem (by omega)]; simp))) W ?_
    rcases b5 with b5 | ⟨b, off, rfl, hb, hc⟩
    · exact .inl (by omega)
    · exact .inr ⟨b, off, rfl, fun i hi => hc i (by omega)⟩
theorem own : ownKnob Try.prog.godebug = none := by kernel_rfl
set_option maxRecDepth 100000 in
theorem contract (H : Type) (enc : TypeId × Value → H) (W : World) (base : Nat) (args : Array Value) (ds gs : List (DataW H)) (before : List MemPlace)
    (hval : ∀ (j : Nat) t v, Try.f13.params[j]? = some t → args[j]? = some v → Value.okWide Try.prog W .any base t v)
    (hW : DataW.Whole enc Try.prog Try.f13.params.toList Rows.zvarSmallSpec.vars false W args.toList ds gs before) :
    Calls Try.prog 13 args W fun e W' => ∃ v, e = .returned v ∧ Rows.zvarSmallSpec.post enc Try.prog Try.f13 false true false false W args v W' := by
  have hW' := hW
  obtain ⟨p, q, hA0, hV, rfl, hfz, hnd⟩ := hW
  have hA : DataW.TrodAll enc Try.prog W 0 (fun _ => true) true Try.f13.params.toList args.toList ds p := hA0
  rw [Try.params13] at hA hval
  obtain ⟨v0, vs0, d0, ds0, p0, q0, hargs, rfl, rfl, h0, r0⟩ := trodAll_cons hA
  obtain ⟨rfl, rfl, rfl⟩ := trodAll_nil r0
  obtain rfl : args = #[v0] := by cases args; simp_all
  obtain ⟨rfl, rfl⟩ := trodVars_none hV
  have hWhole := hW'
  obtain ⟨a0, len0, cap0, rfl⟩ := okWide_slice Try.underlying50 (hval 0 50 v0 rfl rfl)
  have k0 := h0
  have lt0 : ∀ x ∈ p0, x.block < W.heap.size := by obtain ⟨m, hm⟩ := k0; exact DataW.trod_lt m _ _ _ hm
  obtain ⟨z0, b0⟩ : ∃ zs, IsRow .i64 W a0 len0 cap0 zs := by
    obtain ⟨fuel, hf⟩ := h0
    rcases open_ints Try.underlying50 Try.underlying2 (by kernel_rfl) hf with ⟨hcs, _⟩ | ⟨x, l, c, zs, hcs, _, hl, hm, hz, _, hcell, hwz⟩
    · simp [Value.cells] at hcs
      obtain ⟨rfl, rfl, rfl⟩ := hcs
      exact ⟨[], isRow_nil _ _⟩
    · simp [Value.cells] at hcs
      obtain ⟨rfl, rfl, rfl⟩ := hcs
      exact ⟨zs, isRow_of hl hm (by simpa using hz) hcell hwz⟩
  clear hA0
  refine (walk a0 len0 cap0 z0 W b0).mono fun e W' ⟨he, hg⟩ => ?_
  subst he
  exact ⟨_, rfl, _, _, _, [], _, [], hW', trodAll_mk1 (shut_bool Try.underlying4 _), (trodAll_cons_mk (Below.trod laidOut (by kernel_rfl) (of_decide_eq_true (by kernel_rfl)) k0 hg lt0) trodAll_mk0), rfl, hg.frame _, fun h => by cases h⟩

set_option maxRecDepth 100000 in
theorem lifted (os : Os) (started : os.Started) (H : Type) (enc : TypeId × Value → H) :
    ReturnsInHanded {} Try.checked os 13 .any (Rows.zvarSmallSpec.pre6 enc Try.prog Try.f13 Rows.zvarSmallRow.domain false) (Rows.zvarSmallSpec.post enc Try.prog Try.f13 false true false false) := by
  refine returnsInHanded_of_change (C := Try.checked) own started (by kernel_rfl) Try.func13
    (ChangeSpec.witness6 (enc := enc) (C := Try.checked) false ⟨#[], #[.slice none 0 0], []⟩ 8 (by kernel_rfl) (by kernel_rfl) (by kernel_rfl) (by kernel_rfl)) ?_
  intro W base args ds gs before hval hW _ _
  exact contract H enc W base args ds gs before hval hW

/-- ████ THE STATEMENT ████ -/
theorem proved : Rows.ZvarSmallSaid :=
  OpenClaim.holds_of_wide 13 Try.f13 rfl rfl rfl rfl rfl rfl rfl ⟨rfl, rfl, rfl, rfl, rfl⟩ rfl rfl rfl rfl rfl (by kernel_rfl) Try.func13 (by kernel_rfl)
    (of_decide_eq_true (by kernel_rfl)) (by unfold Func.isWrapper; first | (rw [if_pos (by decide +kernel)]; kernel_rfl) | (rw [if_neg (by decide +kernel)]; exact ⟨rfl, rfl⟩))
    (fun os started H enc _ => lifted os started H enc)
end Go.Proofs.Ytknpekpigiclkaa.zvarSmall
