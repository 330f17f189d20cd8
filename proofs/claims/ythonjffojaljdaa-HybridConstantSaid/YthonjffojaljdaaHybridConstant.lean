/-
  THE STATEMENT corduroylaw10.HybridConstant: for any number, and how often it stands, the call returns true. No condition.
-/
import Derived.Test.YthonjffojaljdaaHybI
import Derived.Test.YthonjffojaljdaaIsRow
import Derived.Test.YthonjffojaljdaaVarPutRow
namespace Go.Proofs.Ythonjffojaljdaa.hybridConstant
open Go.ChangeShapes Go.WideShapes Go.ChangeAt Go.RowKit
set_option linter.unusedVariables false
theorem most_const (c : Nat) : ∀ n, 0 < n → most (fun _ => c) n = bl c
  | 0, h => absurd h (Nat.lt_irrefl _)
  | 1, _ => by show max 0 (bl c) = bl c; omega
  | n + 2, _ => by
    show max (most (fun _ => c) (n + 1)) (bl c) = bl c
    rw [most_const c (n + 1) (by omega)]; omega
theorem runs_const (c n : Nat) (h : 8 ≤ n) : runsN (fun _ => c) n = [(true, 0, n)] := by
  have ha : ∀ m, al (fun _ => c) m = m := fun m => al_is _ m m (Nat.le_refl _) (fun _ _ => rfl) (fun h => absurd h (Nat.lt_irrefl _))
  obtain ⟨k, rfl⟩ : ∃ k, n = k + 1 := ⟨n - 1, by omega⟩
  unfold runsN
  rw [runsF, if_pos (by omega)]
  have hf : fst1 (fun i => (fun _ => c) (0 + i)) (k + 1 - 0) = (true, k + 1) := by
    unfold fst1
    rw [show (fun i => (fun _ : Nat => c) (0 + i)) = (fun _ => c) from rfl, ha, if_pos (by omega)]
    rfl
  rw [hf]
  show (true, 0, k + 1) :: runsF _ (k + 1) (0 + (k + 1)) k = _
  rw [runsF_end _ _ _ _ (by omega)]
theorem const_size (v : Int) (n : Nat) (h : 8 ≤ n) : hln (fun _ => v) n = 1 + (digs 9 (2 * n)).length + (bl (zg v).toNat + 7) / 8 := by
  rw [hl_eq]
  have e1 : hz (fun _ => v) = fun _ => (zg v).toNat := rfl
  have e2 : hq (fun _ => v) n = bl (zg v).toNat := by unfold hq; rw [e1, most_const _ n (by omega)]
  rw [e2, e1, runs_const _ n h]
  have e3 : clr (fun _ => (zg v).toNat) n (true, 0, n) = (true, 0, n) := clr_eq _ _ _ (by rw [runs_const _ n h]; exact List.mem_singleton.2 rfl)
  show 1 + ((digs 9 (hd1 (clr (fun _ => (zg v).toNat) n (true, 0, n)))).length + bs1 (bl (zg v).toNat) (clr (fun _ => (zg v).toNat) n (true, 0, n)) + 0) = _
  rw [e3]
  show 1 + ((digs 9 (2 * n)).length + need 1 (bl (zg v).toNat) + 0) = _
  unfold need
  omega
theorem out (v : Int) (n : Nat) (h : n < 8 ∨ 1024 < n) (W : World) :
    Calls Try.prog 5 #[.int .i64 v, .int .u16 n] W fun e w' => e = .returned (.bool true) ∧ Below W.heap.size W w' := by
  by_cases h8 : n < 8
  · have g1 : (n : Int) < 8 := by omega
    clear h
    go_enter Try.func5, Try.ntmps5
    go_wp2
    go_ret
    exact ⟨rfl, Below.refl _ _⟩
  · have g1 : ¬ (n : Int) < 8 := by omega
    have g2 : (1024 : Int) < n := by omega
    clear h
    go_enter Try.func5, Try.ntmps5
    go_wp2
    go_ret
    exact ⟨rfl, Below.refl _ _⟩
set_option maxRecDepth 100000 in
set_option maxHeartbeats 1000000 in
theorem main (v : Int) (n : Nat) (hv : -9223372036854775808 ≤ v ∧ v ≤ 9223372036854775807) (h8 : 8 ≤ n) (h1 : n ≤ 1024) (W : World) :
    Calls Try.prog 5 #[.int .i64 v, .int .u16 n] W fun e w' => e = .returned (.bool true) ∧ Below W.heap.size W w' := by
  obtain ⟨i0, hi, hz0, hz1, hz2⟩ := info_parts i64Info
  have hbk : blk n = true := blk_in (by omega) (by omega)
  have SZ := fun (a : Option Addr) (c : Nat) (V : World) (hr : RowOf V a n (fun i => .int .i64 ((fun _ => v) i))) => hsize_in a n c (fun _ => v) (fun _ _ => hv) hbk V hr
  rw [const_size v n h8] at SZ
  have hzn : 0 ≤ zg v ∧ zg v ≤ 18446744073709551615 := by unfold zg; split <;> omega
  have ZG := rzig_any v hv.1 hv.2
  obtain ⟨u, hu⟩ : ∃ u : Nat, zg v = u := ⟨(zg v).toNat, by omega⟩
  rw [hu] at ZG SZ hzn
  rw [Int.toNat_natCast] at SZ
  have ZG := Lib.hid ZG
  have OF := Lib.hid (rof_any6 u (by omega))
  have PU := Lib.hid (fun V : World => rput_any (2 * n) (by omega) V)
  rw [show ((2 * n : Nat) : Int) = 2 * (n : Int) from by omega] at PU
  have hd9 := digs_len 9 (2 * n)
  have hbl := bl_le u
  obtain ⟨L, hL⟩ : ∃ L, (digs 9 (2 * n)).length = L := ⟨_, rfl⟩
  rw [hL] at SZ PU hd9
  clear hL
  have SZ := Lib.hid SZ
  have AW := Lib.hid (fun V => awake10_any V)
  have g1 : ¬ (n : Int) < 8 := by omega
  have g2 : ¬ (1024 : Int) < n := by omega
  clear hbk hu hzn
  generalize bl u = b at *
  generalize digs 9 (2 * n) = ds at *
  go_enter Try.func5, Try.ntmps5
  go_wp2
  go_loopw [5, 6] (fun q i wr => ∃ k : Nat, k ≤ n ∧ i = .int .i64 k ∧ wr.ownsRow W.heap.size 2 1 q k (rowV (fun _ => .int .i64 v) k) ∧ Below W.heap.size W wr) (fun _ i _ => n - (intOf i).toNat)
  case atStart => exact ⟨0, by omega, rfl, World.ownsRow_nil _ _ _ _, Below.refl _ _⟩
  case round =>
    obtain ⟨k, hk, rfl, ho, hb⟩ := hrel
    have hsz := hb.size
    have HOW := Lib.hid ho
    have HBW := Lib.hid hb
    clear ho hb
    by_cases hkn : k < n
    · have k1 : (k : Int) < n := by omega
      have RS := Lib.hid (rowV_succ (fun _ => Value.int .i64 v) k)
      go_wp2_with (at_builtin; go_must (refine wpList_append_own_at _ rfl _ _ 22 rfl W.heap.size 2 i0 (.int .i64 0) 1 8 Try.underlying22 hi hz0 hz1 hz2 rfl (by decide) _ _ _ rfl (HOW.out.alloc _) ⟨wr.heap.size, 0, none⟩ 1 1 [.int .i64 v] rfl rfl (cell_one_new _ _ _) (by simp [Value.oneCell']) (by unfold maxLen; omega) (by omega) (by simp; omega) ?_); intro v2 w2 hown2 hgrow2 _ _; have HO2 := Lib.hid hown2; have HG2 := Lib.hid hgrow2; clear hown2 hgrow2)
      go_roundw
      case rel => exact ⟨k + 1, by omega, by go_num, by rw [RS.out]; exact HO2.out, (HBW.out.alloc hsz _).grown HG2.out (by simp; omega) (fun j hj => (HOW.out.lt j hj).1)⟩
      case measure => simp [intOf]; omega
    · obtain rfl : k = n := by omega
      have k1 : ¬ (k : Int) < k := by omega
      obtain ⟨a3, c3, rfl, hr3, _⟩ := own_reads' HOW.out
      have HR3 := Lib.hid hr3
      clear hr3 HOW
      go_wp2_with (first
        | (go_at_call 19; refine (ZG.out _).mono ?_; rintro e w1 ⟨rfl, rfl⟩)
        | (go_at_call 18; refine (OF.out _).mono ?_; rintro e w1 ⟨rfl, rfl⟩)
        | (go_at_call 20; refine (SZ.out _ _ _ HR3.out).mono ?_; rintro e w2 ⟨rfl, hb⟩; have HB2 := Lib.hid (HBW.out.trans (hb.mono HBW.out.size)); clear hb)
        | (go_at_call 21; refine (PU.out _).mono ?_; rintro e w3 ⟨x3, rfl, ho, hb⟩; obtain ⟨a5, c5, rfl, _⟩ := own_bytes ho; have HB3 := Lib.hid (HB2.out.trans (hb.mono HB2.out.size)); clear hb ho)
        | (go_at_call 14; refine (AW.out _).mono ?_; rintro e w4 ⟨rfl, hb⟩; have HB4 := Lib.hid (HB3.out.trans (hb.mono HB3.out.size)); clear hb))
      go_ret
      exact ⟨rfl, HB4.out⟩
theorem walk (v : Int) (n : Int) (hv : -9223372036854775808 ≤ v ∧ v ≤ 9223372036854775807) (hn : 0 ≤ n ∧ n ≤ 65535) (W : World) :
    Calls Try.prog 5 #[.int .i64 v, .int .u16 n] W fun e w' => e = .returned (.bool true) ∧ Below W.heap.size W w' := by
  obtain ⟨k, rfl⟩ : ∃ k : Nat, n = k := ⟨n.toNat, by omega⟩
  by_cases h : k < 8 ∨ 1024 < k
  · exact out v k h W
  · exact main v k hv (by omega) (by omega) W
theorem own : ownKnob Try.prog.godebug = none := by kernel_rfl
set_option maxRecDepth 100000 in
theorem contract (H : Type) (enc : TypeId × Value → H) (W : World) (base : Nat) (args : Array Value) (ds gs : List (DataW H)) (before : List MemPlace)
    (hval : ∀ (j : Nat) t v, Try.f5.params[j]? = some t → args[j]? = some v → Value.okWide Try.prog W .any base t v)
    (hW : DataW.Whole enc Try.prog Try.f5.params.toList Rows.hybridConstantSpec.vars false W args.toList ds gs before) :
    Calls Try.prog 5 args W fun e W' => ∃ v, e = .returned v ∧ Rows.hybridConstantSpec.post enc Try.prog Try.f5 false true false false W args v W' := by
  have hW' := hW
  obtain ⟨p, q, hA0, hV, rfl, hfz, hnd⟩ := hW
  have hA : DataW.TrodAll enc Try.prog W 0 (fun _ => true) true Try.f5.params.toList args.toList ds p := hA0
  rw [Try.params5] at hA hval
  obtain ⟨v0, vs0, d0, ds0, p0, q0, hargs, rfl, rfl, h0, r0⟩ := trodAll_cons hA
  obtain ⟨v1, vs1, d1, ds1, p1, q1, rfl, rfl, rfl, h1, r1⟩ := trodAll_cons r0
  obtain ⟨rfl, rfl, rfl⟩ := trodAll_nil r1
  obtain rfl : args = #[v0, v1] := by cases args; simp_all
  obtain ⟨rfl, rfl⟩ := trodVars_none hV
  obtain ⟨a0, rfl, rfl, rfl, w0⟩ := open_int Try.underlying2 (hval 0 2 v0 rfl rfl) h0
  have b0 := bounds_i64 w0
  obtain ⟨a1, rfl, rfl, rfl, w1⟩ := open_int Try.underlying38 (hval 1 38 v1 rfl rfl) h1
  have b1 := bounds_u16 w1
  clear hA0
  simp only [List.append_nil] at hW'
  refine (walk a0 a1 b0 b1 W).mono fun e W' ⟨he, hg⟩ => ?_
  subst he
  exact ⟨_, rfl, _, _, _, [], [], [], hW', trodAll_mk1 (shut_bool Try.underlying4 _), (trodAll_cons_mk (shut_int Try.underlying2 w0) (trodAll_cons_mk (shut_int Try.underlying38 w1) trodAll_mk0)), rfl, hg.frame _, fun h => by cases h⟩

set_option maxRecDepth 100000 in
theorem lifted (os : Os) (started : os.Started) (H : Type) (enc : TypeId × Value → H) :
    ReturnsInHanded {} Try.checked os 5 .any (Rows.hybridConstantSpec.pre6 enc Try.prog Try.f5 Rows.hybridConstantRow.domain false) (Rows.hybridConstantSpec.post enc Try.prog Try.f5 false true false false) := by
  refine returnsInHanded_of_change (C := Try.checked) own started (by kernel_rfl) Try.func5
    (ChangeSpec.witness6 (enc := enc) (C := Try.checked) false ⟨#[], #[.int .i64 0, .int .u16 0], []⟩ 8 (by kernel_rfl) (by kernel_rfl) (by kernel_rfl) (by kernel_rfl)) ?_
  intro W base args ds gs before hval hW _ _
  exact contract H enc W base args ds gs before hval hW

/-- ████ THE STATEMENT ████ -/
theorem proved : Rows.HybridConstantSaid :=
  OpenClaim.holds_of_wide 5 Try.f5 rfl rfl rfl rfl rfl rfl rfl ⟨rfl, rfl, rfl, rfl, rfl⟩ rfl rfl rfl rfl rfl (by kernel_rfl) Try.func5 (by kernel_rfl)
    (of_decide_eq_true (by kernel_rfl)) (by unfold Func.isWrapper; first | (rw [if_pos (by decide +kernel)]; kernel_rfl) | (rw [if_neg (by decide +kernel)]; exact ⟨rfl, rfl⟩))
    (fun os started H enc _ => lifted os started H enc)
end Go.Proofs.Ythonjffojaljdaa.hybridConstant
