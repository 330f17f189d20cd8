/-
  THE STATEMENT corduroylaw04.VarintPuts: for every row of bytes and every number the call returns true and leaves its arguments as they were. No condition.
-/
import Derived.Test.YthfepljblofgfaaVarAwake
import Derived.Test.YthfepljblofgfaaIsRow
import Derived.Deep.RegionWith
import Derived.Laws.BytesArg
namespace Go.Proofs.Ythfepljblofgfaa.varintPuts
open Go.ChangeShapes Go.WideShapes Go.ChangeAt Go.RowKit
set_option linter.unusedVariables false

theorem puts_long (a : Option Addr) (len cap : Nat) (v : Int) (h : 200 < len) (w : World) :
    Calls Try.prog 6 #[.slice a len cap, .int .u64 v] w fun e w' => e = .returned (.bool true) ∧ Below w.heap.size w w' := by
  have h' : (200 : Int) < len := by omega
  go_enter Try.func6, Try.ntmps6
  go_wp2
  go_ret
  exact ⟨rfl, Below.refl _ _⟩
theorem digs_ne : ∀ k v, ∃ m, (digs k v).length = m + 1
  | 0, v => ⟨0, by simp [digs]⟩
  | k + 1, v => by
    unfold digs
    split
    · exact ⟨0, by simp⟩
    · exact ⟨(digs k (v / 128)).length, by simp⟩
set_option maxHeartbeats 4000000 in
theorem puts_walk (a : Option Addr) (b off len cap : Nat) (z : Nat → Int) (v : Nat) (hv : v < 18446744073709551616) (w : World) (ha : len = 0 ∨ a = some ⟨b, off, none⟩) (hz : BytesAt w b off len z) (hbs : len = 0 ∨ b < w.heap.size) (h : ¬ 200 < len) :
    Calls Try.prog 6 #[.slice a len cap, .int .u64 v] w fun e w' => e = .returned (.bool true) ∧ Below w.heap.size w w' := by
  have h' : ¬ (200 : Int) < len := by omega
  obtain ⟨m, hm⟩ := digs_ne 9 v
  have hm10 : m ≤ 9 := by have := digs_len 9 v; omega
  have SZ := size_any v (by omega) (by omega)
  rw [Int.toNat_natCast, hm] at SZ
  have SZ := Lib.hid SZ
  have RP := Lib.hid (rput_any v hv w)
  have PR := Lib.hid (fun W => put_row a b off len cap z v hv (by omega) W ha)
  have CB := Lib.hid (fun W => conv_row a b off len cap z W ha)
  have BZ : ∀ W, Below w.heap.size w W → BytesAt W b off len z := fun W hW i hi => by
    rw [hW.cell (p := ⟨b, off + i, none⟩) (by rcases hbs with h | h; · omega
                                              · exact h)]; exact hz i hi
  have BZ := Lib.hid BZ
  clear hz hbs ha hv
  have hzl : (rowOf z len ++ digs 9 v).length = len + m + 1 := by simp [rowOf, hm]; omega
  have HZL := Lib.hid hzl
  clear hzl
  generalize rowOf z len = zs at *
  generalize digs 9 v = ds at *
  have HA := Lib.hid (str_append zs ds)
  have hlim : ¬ 9223372036854775807 < (strOfNums zs).size + (strOfNums ds).size := by
    rw [strOfNums_size, strOfNums_size]
    have := HZL.out
    rw [List.length_append] at this
    omega
  have HM := Lib.hid hm
  go_enter Try.func6, Try.ntmps6
  go_wp2_with fail
  refine RP.out.mono ?_
  rintro e w1 ⟨x, rfl, hrow, hb1⟩
  rw [hm] at hrow
  obtain ⟨g, c1, rfl, hg1, hg2, hcells⟩ := ownsRow_cells hrow
  have CW : ∀ W, Below w1.heap.size w1 W → (convert 22 9 (.slice (some ⟨g, 0, none⟩) (m + 1) c1)).run Try.prog W = .ok (.string (strOfNums ds)) W := fun W hW =>
    conv_own g (m + 1) c1 ds HM.out W (fun i u hu => (hW.cell (p := ⟨g, i, none⟩) hg2).trans (hcells i u hu))
  have CW := Lib.hid CW
  have HB1 := Lib.hid hb1
  clear hrow hb1 hcells
  have D1 : Below w.heap.size w w1.drew := HB1.out.drew
  have D2 : Below w1.heap.size w1 w1.drew := (Below.refl _ _).drew
  have k1 := CB.out w1.drew (BZ.out _ D1)
  have k2 := CW.out w1.drew D2
  have D1 := Lib.hid D1
  have D2 := Lib.hid D2
  go_wp2_with fail
  go_region_with (first | (go_at_call 32; go_loud (refine (PR.out _ (BZ.out _ D1.out)).mono ?_); rintro e w2 ⟨y, rfl, hrow2, hb2⟩; rw [HM.out, ← Nat.add_assoc] at hrow2; obtain ⟨g2, c2, rfl, hg3, hg4, hcells2⟩ := ownsRow_cells hrow2; have k3 := CB.out w2 (BZ.out w2 (D1.out.trans (hb2.mono D1.out.size))); have k4 := CW.out w2 (D2.out.trans (hb2.mono D2.out.size)); have k5 := conv_own g2 (len + m + 1) c2 (zs ++ ds) HZL.out w2 (by rw [cellsOf, List.map_append]; exact hcells2); rw [HA.out] at k5; have HB2 := Lib.hid hb2; clear hrow2 hcells2 hb2) | (go_at_call 33; refine (SZ.out _).mono ?_; rintro e w3 ⟨rfl, rfl⟩) | (go_at_call 34; refine (awake_any _).mono ?_; rintro e w4 ⟨rfl, hb4⟩; have HB4 := Lib.hid hb4; clear hb4))
  all_goals
    go_wp2
    go_ret
    refine ⟨rfl, ?_⟩
    have t1 := D1.out.trans (HB2.out.mono D1.out.size)
    exact t1.trans (HB4.out.mono t1.size)
theorem walk (a0 : Option Addr) (len0 cap0 : Nat) (z0 : List Int) (v : Int) (w : World) (b0 : IsRow .u8 w a0 len0 cap0 z0) (b1 : 0 ≤ v ∧ v ≤ 18446744073709551615) :
    Calls Try.prog 6 #[.slice a0 len0 cap0, .int .u64 v] w fun e w' => e = .returned (.bool true) ∧ Below w.heap.size w w' := by
  obtain ⟨m, rfl⟩ : ∃ m : Nat, v = m := ⟨v.toNat, by omega⟩
  by_cases h : 200 < len0
  · exact puts_long a0 len0 cap0 m h w
  · obtain ⟨hl, hm, hz, hwf, h0 | ⟨b, off, rfl, hb, hc⟩⟩ := b0
    · exact puts_walk a0 0 0 len0 cap0 (fun i => z0.getD i 0) m (by omega) w (.inl (by omega)) (fun i hi => by omega) (.inl (by omega)) h
    · exact puts_walk _ b off len0 cap0 (fun i => z0.getD i 0) m (by omega) w (.inr rfl) (fun i hi => hc i (by omega)) (.inr hb) h
theorem own : ownKnob Try.prog.godebug = none := by kernel_rfl
theorem contract (H : Type) (enc : TypeId × Value → H) (W : World) (base : Nat) (args : Array Value) (ds gs : List (DataW H)) (before : List MemPlace)
    (hval : ∀ (j : Nat) t v, Try.f6.params[j]? = some t → args[j]? = some v → Value.okWide Try.prog W .any base t v)
    (hW : DataW.Whole enc Try.prog Try.f6.params.toList Rows.varintPutsSpec.vars false W args.toList ds gs before) :
    Calls Try.prog 6 args W fun e W' => ∃ v, e = .returned v ∧ Rows.varintPutsSpec.post enc Try.prog Try.f6 false true false false W args v W' := by
  have hW' := hW
  obtain ⟨p, q, hA0, hV, rfl, hfz, hnd⟩ := hW
  have hA : DataW.TrodAll enc Try.prog W 0 (fun _ => true) true Try.f6.params.toList args.toList ds p := hA0
  rw [Try.params6] at hA hval
  obtain ⟨v0, vs0, d0, ds0, p0, q0, hargs, rfl, rfl, h0, r0⟩ := trodAll_cons hA
  obtain ⟨v1, vs1, d1, ds1, p1, q1, rfl, rfl, rfl, h1, r1⟩ := trodAll_cons r0
  obtain ⟨rfl, rfl, rfl⟩ := trodAll_nil r1
  obtain rfl : args = #[v0, v1] := by cases args; simp_all
  obtain ⟨rfl, rfl⟩ := trodVars_none hV
  have hWhole := hW'
  obtain ⟨a0, len0, cap0, rfl⟩ := okWide_slice Try.underlying22 (hval 0 22 v0 rfl rfl)
  have k0 := h0
  have lt0 : ∀ x ∈ p0, x.block < W.heap.size := by obtain ⟨m, hm⟩ := k0; exact DataW.trod_lt m _ _ _ hm
  obtain ⟨z0, b0⟩ : ∃ zs, IsRow .u8 W a0 len0 cap0 zs := by
    obtain ⟨fuel, hf⟩ := h0
    rcases open_ints Try.underlying22 Try.underlying5 (by kernel_rfl) hf with ⟨hcs, _⟩ | ⟨x, l, c, zs, hcs, _, hl, hm, hz, _, hcell, hwz⟩
    · simp [Value.cells] at hcs
      obtain ⟨rfl, rfl, rfl⟩ := hcs
      exact ⟨[], isRow_nil _ _⟩
    · simp [Value.cells] at hcs
      obtain ⟨rfl, rfl, rfl⟩ := hcs
      exact ⟨zs, isRow_of hl hm (by simpa using hz) hcell hwz⟩
  obtain ⟨a1, rfl, rfl, rfl, w1⟩ := open_int Try.underlying40 (hval 1 40 v1 rfl rfl) h1
  have b1 := bounds_u64 w1
  clear hA0
  refine (walk a0 len0 cap0 z0 a1 W b0 b1).mono fun e W' ⟨he, hg⟩ => ?_
  subst he
  exact ⟨_, rfl, _, _, _, [], _, [], hW', trodAll_mk1 (shut_bool Try.underlying4 _), (trodAll_cons_mk (Below.trod laidOut (by kernel_rfl) (of_decide_eq_true (by kernel_rfl)) k0 hg lt0) (trodAll_cons_mk (shut_int Try.underlying40 w1) trodAll_mk0)), rfl, hg.frame _, fun h => by cases h⟩

set_option maxRecDepth 100000 in
theorem lifted (os : Os) (started : os.Started) (H : Type) (enc : TypeId × Value → H) :
    ReturnsInHanded {} Try.checked os 6 .any (Rows.varintPutsSpec.pre6 enc Try.prog Try.f6 Rows.varintPutsRow.domain false) (Rows.varintPutsSpec.post enc Try.prog Try.f6 false true false false) := by
  refine returnsInHanded_of_change (C := Try.checked) own started (by kernel_rfl) Try.func6
    (ChangeSpec.witness6 (enc := enc) (C := Try.checked) false ⟨#[], #[.slice none 0 0, .int .u64 0], []⟩ 8 (by kernel_rfl) (by kernel_rfl) (by kernel_rfl) (by kernel_rfl)) ?_
  intro W base args ds gs before hval hW _ _
  exact contract H enc W base args ds gs before hval hW

/-- ████ THE STATEMENT ████ -/
theorem proved : Rows.VarintPutsSaid :=
  OpenClaim.holds_of_wide 6 Try.f6 rfl rfl rfl rfl rfl rfl rfl ⟨rfl, rfl, rfl, rfl, rfl⟩ rfl rfl rfl rfl rfl (by kernel_rfl) Try.func6 (by kernel_rfl)
    (of_decide_eq_true (by kernel_rfl)) (by unfold Func.isWrapper; first | (rw [if_pos (by decide +kernel)]; kernel_rfl) | (rw [if_neg (by decide +kernel)]; exact ⟨rfl, rfl⟩))
    (fun os started H enc _ => lifted os started H enc)
end Go.Proofs.Ythfepljblofgfaa.varintPuts
