/-
  THE STATEMENT corduroylaw03.CursorPuts: for every row of bytes and every number the call returns true and leaves its arguments as they were. No condition.
-/
import Derived.Test.YtmfcopfcebacdaaCurAwake
import Derived.Test.YtmfcopfcebacdaaIsRow
import Derived.Laws.BytesArg
namespace Go.Proofs.Ytmfcopfcebacdaa.cursorPuts
open Go.ChangeShapes Go.WideShapes Go.ChangeAt Go.RowKit
set_option linter.unusedVariables false
set_option maxRecDepth 100000
theorem str_append (xs ys : List Int) : strOfNums (xs ++ ys) = strOfNums xs ++ strOfNums ys := by
  apply ByteArray.ext
  simp [strOfNums]
theorem bytesOf_mod (k n : Nat) : bytesOf k (n % 256 ^ k) = bytesOf k n := by
  unfold bytesOf
  refine List.map_congr_left fun i hi => ?_
  have hi : i < k := by simpa using hi
  obtain ⟨d, rfl⟩ : ∃ d, k = i + (d + 1) := ⟨k - i - 1, by omega⟩
  have e : n % 256 ^ (i + (d + 1)) / 256 ^ i % 256 = n / 256 ^ i % 256 := by
    rw [Nat.pow_add, Nat.mod_mul_right_div_self, Nat.pow_succ, Nat.mod_mul_left_mod]
  rw [e]
theorem puts_long (a : Option Addr) (len cap : Nat) (v : Int) (h : 200 < len) (w : World) :
    Calls Try.prog 13 #[.slice a len cap, .int .u64 v] w fun e w' => e = .returned (.bool true) ∧ Below w.heap.size w w' := by
  have h' : (200 : Int) < len := by omega
  go_enter Try.func13, Try.ntmps13
  go_wp2
  go_ret
  exact ⟨rfl, Below.refl _ _⟩
/-- What a callee that makes a row of its own leaves: its text is T, and stays so. -/
def Tells (w W : World) (n : Nat) (T : ByteArray) (e : Ending) (w' : World) : Prop :=
  ∃ g c, e = .returned (.slice g n c) ∧ Below w.heap.size w w' ∧ Below W.heap.size W w' ∧ ∀ W', Below w'.heap.size w' W' → (convert 34 9 (.slice g n c)).run Try.prog W' = .ok (.string T) W'
theorem tells_put {w W w' : World} {n : Nat} {v : Value} {xs ys : List Int} (hW : Below w.heap.size w W) (ho : w'.ownsRow W.heap.size 5 1 v n (cellsOf (xs ++ ys))) (hb : Below W.heap.size W w') : Tells w W n (strOfNums xs ++ strOfNums ys) (.returned v) w' := by
  obtain ⟨g, c, rfl, cv⟩ := own_conv' ho
  exact ⟨g, c, rfl, hW.trans (hb.mono hW.size), hb, fun W' h => by rw [cv W' h, str_append]⟩
theorem tells_ref {w W w' : World} {n : Nat} {v : Value} {xs : List Int} (hW : Below w.heap.size w W) (ho : w'.ownsRow W.heap.size 5 1 v n (cellsOf xs)) (hb : Below W.heap.size W w') : Tells w W n (strOfNums xs) (.returned v) w' := by
  obtain ⟨g, c, rfl, cv⟩ := own_conv' ho
  exact ⟨g, c, rfl, hW.trans (hb.mono hW.size), hb, cv⟩
set_option maxHeartbeats 4000000 in
theorem puts_walk (a : Option Addr) (len cap : Nat) (z : Nat → Int) (v : Nat) (hv : v < 18446744073709551616) (w : World) (hz : RowOf w a len (fun i => .int .u8 (z i))) (h : ¬ 200 < len) :
    Calls Try.prog 13 #[.slice a len cap, .int .u64 v] w fun e w' => e = .returned (.bool true) ∧ Below w.heap.size w w' := by
  have h' : ¬ (200 : Int) < len := by omega
  have CB := Lib.hid (fun W (hW : Below w.heap.size w W) => conv_any a len cap z W (hz.below hW))
  have l2 := bytesOf_length 2 v
  have l4 := bytesOf_length 4 v
  have l8 := bytesOf_length 8 v
  obtain ⟨v2, w2, P2⟩ : ∃ v2 : Nat, IntKind.u16.wrap (v : Int) = v2 ∧ ∀ W, Below w.heap.size w W → Calls Try.prog 47 #[.slice a len cap, .int .u16 v2] W (Tells w W (len + 2) (strOfNums ((List.range len).map z) ++ strOfNums (bytesOf 2 v))) :=
    ⟨v % 65536, by simp [IntKind.wrap, IntKind.bits, IntKind.signed], fun W hW => (Put16_any a len cap z (v % 65536) (Nat.mod_lt _ (by decide)) (by omega) W (hz.below hW)).mono (by
      rintro e w' ⟨x, rfl, ho, hb⟩
      rw [show bytesOf 2 (v % 65536) = bytesOf 2 v from bytesOf_mod 2 v] at ho
      exact tells_put hW ho hb)⟩
  obtain ⟨v4, w4, P4⟩ : ∃ v4 : Nat, (v : Int) % 4294967296 = v4 ∧ ∀ W, Below w.heap.size w W → Calls Try.prog 49 #[.slice a len cap, .int .u32 v4] W (Tells w W (len + 4) (strOfNums ((List.range len).map z) ++ strOfNums (bytesOf 4 v))) :=
    ⟨v % 4294967296, by simp, fun W hW => (Put32_any a len cap z (v % 4294967296) (Nat.mod_lt _ (by decide)) (by omega) W (hz.below hW)).mono (by
      rintro e w' ⟨x, rfl, ho, hb⟩
      rw [show bytesOf 4 (v % 4294967296) = bytesOf 4 v from bytesOf_mod 4 v] at ho
      exact tells_put hW ho hb)⟩
  have w4' : IntKind.u32.wrap (v : Int) = v4 := by rw [← w4]; simp [IntKind.wrap, IntKind.bits, IntKind.signed]
  have P8 : ∀ W, Below w.heap.size w W → Calls Try.prog 50 #[.slice a len cap, .int .u64 v] W (Tells w W (len + 8) (strOfNums ((List.range len).map z) ++ strOfNums (bytesOf 8 v))) := fun W hW => (Put64_any a len cap z v hv (by omega) W (hz.below hW)).mono (by
      rintro e w' ⟨x, rfl, ho, hb⟩
      exact tells_put hW ho hb)
  have R2 : ∀ W, Below w.heap.size w W → Calls Try.prog 48 #[.int .u64 v, .int .i64 2] W (Tells w W 2 (strOfNums (bytesOf 2 v))) := fun W hW => (rput3_any v 2 hv (by decide) W).mono (by
      rintro e w' ⟨x, rfl, ho, hb⟩
      exact tells_ref hW ho hb)
  have R4 : ∀ W, Below w.heap.size w W → Calls Try.prog 48 #[.int .u64 v, .int .i64 4] W (Tells w W 4 (strOfNums (bytesOf 4 v))) := fun W hW => (rput3_any v 4 hv (by decide) W).mono (by
      rintro e w' ⟨x, rfl, ho, hb⟩
      exact tells_ref hW ho hb)
  have R8 : ∀ W, Below w.heap.size w W → Calls Try.prog 48 #[.int .u64 v, .int .i64 8] W (Tells w W 8 (strOfNums (bytesOf 8 v))) := fun W hW => (rput3_any v 8 hv (by decide) W).mono (by
      rintro e w' ⟨x, rfl, ho, hb⟩
      exact tells_ref hW ho hb)
  replace P2 := Lib.hid P2
  replace P4 := Lib.hid P4
  replace P8 := Lib.hid P8
  replace R2 := Lib.hid R2
  replace R4 := Lib.hid R4
  replace R8 := Lib.hid R8
  have hlz : ((List.range len).map z).length = len := by simp
  generalize (List.range len).map z = zs at *
  generalize bytesOf 2 v = b2 at *
  generalize bytesOf 4 v = b4 at *
  generalize bytesOf 8 v = b8 at *
  have hlim2 : ¬ 9223372036854775807 < (strOfNums zs).size + (strOfNums b2).size := by rw [strOfNums_size, strOfNums_size]; omega
  have hlim4 : ¬ 9223372036854775807 < (strOfNums zs).size + (strOfNums b4).size := by rw [strOfNums_size, strOfNums_size]; omega
  have hlim8 : ¬ 9223372036854775807 < (strOfNums zs).size + (strOfNums b8).size := by rw [strOfNums_size, strOfNums_size]; omega
  clear l2 l4 l8 hlz hz
  generalize strOfNums zs = S at *
  generalize strOfNums b2 = T2 at *
  generalize strOfNums b4 = T4 at *
  generalize strOfNums b8 = T8 at *
  have D0 := Lib.hid (Below.refl w.heap.size w)
  have kb := CB.out _ D0.out.drew
  go_enter Try.func13, Try.ntmps13
  go_wp2
  go_region_held_law (fun w' => (convert 34 9 (.slice a len cap)).run Try.prog w' = .ok (.string S) w') (first | (exact kb) | go_keep)
    (first
      | (go_at_call 47; go_loud (refine (P2.out _ (by repeat (first | exact D0.out | refine Below.drew ?_))).mono ?_); rintro e wp ⟨g, c, rfl, hbp, hbw, cv⟩; have kp := cv _ (Below.refl _ _); have kb := CB.out _ hbp; (try (refine addfact (CR.out wp (Below.trans ?_ (hbw.mono ?_))) ?_; (· repeat (first | exact Below.refl _ _ | refine Below.drew ?_)); (· exact Nat.le_refl _); intro kr)); have D0 := Lib.hid hbp; have CP := Lib.hid cv; clear hbp hbw cv)
      | (go_at_call 48; go_loud (refine (R2.out _ (by repeat (first | exact D0.out | refine Below.drew ?_))).mono ?_); rintro e wr ⟨g', c', rfl, hbp, hbw, cv⟩; have kr := cv _ (Below.refl _ _); have kb := CB.out _ hbp; (try (refine addfact (CP.out wr (Below.trans ?_ (hbw.mono ?_))) ?_; (· repeat (first | exact Below.refl _ _ | refine Below.drew ?_)); (· exact Nat.le_refl _); intro kp)); have D0 := Lib.hid hbp; have CR := Lib.hid cv; clear hbp hbw cv))
  all_goals
    try clear CP
    try clear CR
    have kb := CB.out _ D0.out.drew
    go_wp2
    go_region_held_law (fun w' => (convert 34 9 (.slice a len cap)).run Try.prog w' = .ok (.string S) w') (first | (exact kb) | go_keep)
      (first
        | (go_at_call 49; go_loud (refine (P4.out _ (by repeat (first | exact D0.out | refine Below.drew ?_))).mono ?_); rintro e wp4 ⟨g, c, rfl, hbp, hbw, cv⟩; have kp := cv _ (Below.refl _ _); have kb := CB.out _ hbp; (try (refine addfact (CR.out wp4 (Below.trans ?_ (hbw.mono ?_))) ?_; (· repeat (first | exact Below.refl _ _ | refine Below.drew ?_)); (· exact Nat.le_refl _); intro kr)); have D0 := Lib.hid hbp; have CP := Lib.hid cv; clear hbp hbw cv)
        | (go_at_call 48; go_loud (refine (R4.out _ (by repeat (first | exact D0.out | refine Below.drew ?_))).mono ?_); rintro e wr4 ⟨g', c', rfl, hbp, hbw, cv⟩; have kr := cv _ (Below.refl _ _); have kb := CB.out _ hbp; (try (refine addfact (CP.out wr4 (Below.trans ?_ (hbw.mono ?_))) ?_; (· repeat (first | exact Below.refl _ _ | refine Below.drew ?_)); (· exact Nat.le_refl _); intro kp)); have D0 := Lib.hid hbp; have CR := Lib.hid cv; clear hbp hbw cv))
    all_goals
      try clear CP
      try clear CR
      have kb := CB.out _ D0.out.drew
      go_wp2
      go_region_held_law (fun w' => (convert 34 9 (.slice a len cap)).run Try.prog w' = .ok (.string S) w') (first | (exact kb) | go_keep)
        (first
          | (go_at_call 50; go_loud (refine (P8.out _ (by repeat (first | exact D0.out | refine Below.drew ?_))).mono ?_); rintro e wp8 ⟨g, c, rfl, hbp, hbw, cv⟩; have kp := cv _ (Below.refl _ _); have kb := CB.out _ hbp; (try (refine addfact (CR.out wp8 (Below.trans ?_ (hbw.mono ?_))) ?_; (· repeat (first | exact Below.refl _ _ | refine Below.drew ?_)); (· exact Nat.le_refl _); intro kr)); have D0 := Lib.hid hbp; have CP := Lib.hid cv; clear hbp hbw cv)
          | (go_at_call 48; go_loud (refine (R8.out _ (by repeat (first | exact D0.out | refine Below.drew ?_))).mono ?_); rintro e wr8 ⟨g', c', rfl, hbp, hbw, cv⟩; have kr := cv _ (Below.refl _ _); have kb := CB.out _ hbp; (try (refine addfact (CP.out wr8 (Below.trans ?_ (hbw.mono ?_))) ?_; (· repeat (first | exact Below.refl _ _ | refine Below.drew ?_)); (· exact Nat.le_refl _); intro kp)); have D0 := Lib.hid hbp; have CR := Lib.hid cv; clear hbp hbw cv)
          | (go_at_call 46; refine (awake3_any _).mono ?_; rintro e wa ⟨rfl, ha⟩; refine addfact (Below.trans (a := w) ?_ (ha.mono (B' := w.heap.size) ?_)) ?_; (· repeat (first | exact D0.out | refine Below.drew ?_)); (· exact D0.out.size); intro hd; have kb := CB.out _ hd; have DA := Lib.hid hd; clear ha hd))
      all_goals
        go_wp2
        go_ret
        exact ⟨rfl, DA.out⟩
theorem walk (a0 : Option Addr) (len0 cap0 : Nat) (z0 : List Int) (v : Int) (w : World) (b0 : IsRow .u8 w a0 len0 cap0 z0) (b1 : 0 ≤ v ∧ v ≤ 18446744073709551615) :
    Calls Try.prog 13 #[.slice a0 len0 cap0, .int .u64 v] w fun e w' => e = .returned (.bool true) ∧ Below w.heap.size w w' := by
  obtain ⟨m, rfl⟩ : ∃ m : Nat, v = m := ⟨v.toNat, by omega⟩
  by_cases h : 200 < len0
  · exact puts_long a0 len0 cap0 m h w
  · obtain ⟨hl, hm, hz, hwf, h0 | ⟨b, off, rfl, hb, hc⟩⟩ := b0
    · exact puts_walk a0 len0 cap0 (fun i => z0.getD i 0) m (by omega) w (.inl (by omega)) h
    · exact puts_walk _ len0 cap0 (fun i => z0.getD i 0) m (by omega) w (.inr ⟨b, off, rfl, fun i hi => hc i (by omega)⟩) h
theorem own : ownKnob Try.prog.godebug = none := by kernel_rfl
set_option maxRecDepth 100000 in
theorem contract (H : Type) (enc : TypeId × Value → H) (W : World) (base : Nat) (args : Array Value) (ds gs : List (DataW H)) (before : List MemPlace)
    (hval : ∀ (j : Nat) t v, Try.f13.params[j]? = some t → args[j]? = some v → Value.okWide Try.prog W .any base t v)
    (hW : DataW.Whole enc Try.prog Try.f13.params.toList Rows.cursorPutsSpec.vars false W args.toList ds gs before) :
    Calls Try.prog 13 args W fun e W' => ∃ v, e = .returned v ∧ Rows.cursorPutsSpec.post enc Try.prog Try.f13 false true false false W args v W' := by
  have hW' := hW
  obtain ⟨p, q, hA0, hV, rfl, hfz, hnd⟩ := hW
  have hA : DataW.TrodAll enc Try.prog W 0 (fun _ => true) true Try.f13.params.toList args.toList ds p := hA0
  rw [Try.params13] at hA hval
  obtain ⟨v0, vs0, d0, ds0, p0, q0, hargs, rfl, rfl, h0, r0⟩ := trodAll_cons hA
  obtain ⟨v1, vs1, d1, ds1, p1, q1, rfl, rfl, rfl, h1, r1⟩ := trodAll_cons r0
  obtain ⟨rfl, rfl, rfl⟩ := trodAll_nil r1
  obtain rfl : args = #[v0, v1] := by cases args; simp_all
  obtain ⟨rfl, rfl⟩ := trodVars_none hV
  have hWhole := hW'
  obtain ⟨a0, len0, cap0, rfl⟩ := okWide_slice Try.underlying34 (hval 0 34 v0 rfl rfl)
  have k0 := h0
  have lt0 : ∀ x ∈ p0, x.block < W.heap.size := by obtain ⟨m, hm⟩ := k0; exact DataW.trod_lt m _ _ _ hm
  obtain ⟨z0, b0⟩ : ∃ zs, IsRow .u8 W a0 len0 cap0 zs := by
    obtain ⟨fuel, hf⟩ := h0
    rcases open_ints Try.underlying34 Try.underlying5 (by kernel_rfl) hf with ⟨hcs, _⟩ | ⟨x, l, c, zs, hcs, _, hl, hm, hz, _, hcell, hwz⟩
    · simp [Value.cells] at hcs
      obtain ⟨rfl, rfl, rfl⟩ := hcs
      exact ⟨[], isRow_nil _ _⟩
    · simp [Value.cells] at hcs
      obtain ⟨rfl, rfl, rfl⟩ := hcs
      exact ⟨zs, isRow_of hl hm (by simpa using hz) hcell hwz⟩
  obtain ⟨a1, rfl, rfl, rfl, w1⟩ := open_int Try.underlying29 (hval 1 29 v1 rfl rfl) h1
  have b1 := bounds_u64 w1
  clear hA0
  refine (walk a0 len0 cap0 z0 a1 W b0 b1).mono fun e W' ⟨he, hg⟩ => ?_
  subst he
  exact ⟨_, rfl, _, _, _, [], _, [], hW', trodAll_mk1 (shut_bool Try.underlying4 _), (trodAll_cons_mk (Below.trod laidOut (by kernel_rfl) (of_decide_eq_true (by kernel_rfl)) k0 hg lt0) (trodAll_cons_mk (shut_int Try.underlying29 w1) trodAll_mk0)), rfl, hg.frame _, fun h => by cases h⟩

set_option maxRecDepth 100000 in
theorem lifted (os : Os) (started : os.Started) (H : Type) (enc : TypeId × Value → H) :
    ReturnsInHanded {} Try.checked os 13 .any (Rows.cursorPutsSpec.pre6 enc Try.prog Try.f13 Rows.cursorPutsRow.domain false) (Rows.cursorPutsSpec.post enc Try.prog Try.f13 false true false false) := by
  refine returnsInHanded_of_change (C := Try.checked) own started (by kernel_rfl) Try.func13
    (ChangeSpec.witness6 (enc := enc) (C := Try.checked) false ⟨#[], #[.slice none 0 0, .int .u64 0], []⟩ 8 (by kernel_rfl) (by kernel_rfl) (by kernel_rfl) (by kernel_rfl)) ?_
  intro W base args ds gs before hval hW _ _
  exact contract H enc W base args ds gs before hval hW

/-- ████ THE STATEMENT ████ -/
theorem proved : Rows.CursorPutsSaid :=
  OpenClaim.holds_of_wide 13 Try.f13 rfl rfl rfl rfl rfl rfl rfl ⟨rfl, rfl, rfl, rfl, rfl⟩ rfl rfl rfl rfl rfl (by kernel_rfl) Try.func13 (by kernel_rfl)
    (of_decide_eq_true (by kernel_rfl)) (by unfold Func.isWrapper; first | (rw [if_pos (by decide +kernel)]; kernel_rfl) | (rw [if_neg (by decide +kernel)]; exact ⟨rfl, rfl⟩))
    (fun os started H enc _ => lifted os started H enc)
end Go.Proofs.Ytmfcopfcebacdaa.cursorPuts
