/-
  THE STATEMENT corduroylaw06.WidthTells: for any row of numbers the call returns true and leaves its argument as it was. No condition.
-/
import Derived.Test.YtjdcafeljdnfeaaWidD
import Derived.Test.YtjdcafeljdnfeaaIsRow
import Derived.Deep.RegionHeld3
import Derived.Deep.DrawnRows
import Derived.Deep.MidRow
import Derived.Deep.QuietTactic
import Derived.BigQuiet
namespace Go.Proofs.Ytjdcafeljdnfeaa.widthTells
open Go.ChangeShapes Go.WideShapes Go.ChangeAt Go.RowKit
set_option linter.unusedVariables false
theorem isrow_u64 {w : World} {a : Option Addr} {len cap : Nat} {z : List Int} (h : IsRow .u64 w a len cap z) : RowOf w a len (fun i => .int .u64 ((z.getD i 0).toNat : Nat)) ∧ ∀ i, i < len → (z.getD i 0).toNat < 18446744073709551616 := by
  obtain ⟨hl, hm, hz, hw, h0⟩ := h
  have hb : ∀ i, i < len → 0 ≤ z.getD i 0 ∧ z.getD i 0 < 18446744073709551616 := fun i hi => by
    have hm : z.getD i 0 ∈ z := by simp [List.getD, (by omega : i < z.length)]
    have := bounds_u64 (hw _ hm)
    omega
  refine ⟨?_, fun i hi => by have := hb i hi; show (z.getD i 0).toNat < _; omega⟩
  rcases h0 with h0 | ⟨b, off, rfl, _, hc⟩
  · exact .inl (by omega)
  · exact .inr ⟨b, off, rfl, fun i hi => by rw [hc i (by omega)]; show some (Value.int .u64 _) = some (Value.int .u64 ((z.getD i 0).toNat : Int)); rw [Int.toNat_of_nonneg (hb i hi).1]⟩
theorem long (a0 : Option Addr) (n cap : Nat) (w : World) (h : 200 < n) :
    Calls Try.prog 6 #[.slice a0 n cap] w fun e w' => e = .returned (.bool true) ∧ Below w.heap.size w w' := by
  have h' : (200 : Int) < n := by omega
  go_enter Try.func6, Try.ntmps6
  go_wp2
  go_ret
  exact ⟨rfl, Below.refl _ _⟩
set_option maxRecDepth 100000 in
set_option maxHeartbeats 4000000 in
theorem main (a0 : Option Addr) (n cap : Nat) (l : Nat → Nat) (hn : n ≤ 200) (hl : ∀ i, i < n → l i < 18446744073709551616) (w : World) (H0 : RowOf w a0 n (fun i => .int .u64 (l i : Nat))) :
    Calls Try.prog 6 #[.slice a0 n cap] w fun e w' => e = .returned (.bool true) ∧ Below w.heap.size w w' := by
  have h' : ¬ (200 : Int) < n := by omega
  have MO := Lib.hid (fun W h => most_any a0 n cap l hl (by omega) W h)
  have RM := Lib.hid (fun W h => rmost_any a0 n cap l hl (by omega) W h)
  have CO := Lib.hid (fun W h => count_any a0 n cap l hl (by omega) W h)
  have H0 := Lib.hid H0
  have HL := Lib.hid hl
  clear hl
  obtain ⟨W0, hW0⟩ : ∃ W0, w.alloc (.cells Try.zeroCells62 62) = W0 := ⟨_, rfl⟩
  have l1 := Lies.new w 62 Try.zeroCells62
  rw [hW0] at l1
  have l3 : Below w.heap.size w W0 := by rw [← hW0]; exact (Below.refl _ _).alloc (Nat.le_refl _) _
  rw [← cntV_zero] at l1
  have B1 : Hid (Lies W0 w.heap.size 62 (cntV (cnt l 0))) := Lib.hid l1
  have B3 := Lib.hid l3
  clear l1 l3
  go_enter Try.func6, Try.ntmps6
  go_wp2
  go_loopw [4] (fun i wr => ∃ k : Nat, k ≤ n ∧ i = .int .i64 k ∧ Lies wr w.heap.size 62 (cntV (cnt l k)) ∧ Below w.heap.size w wr) (fun i _ => n - (intOf i).toNat)
  case atStart => exact ⟨0, by omega, rfl, B1.out, B3.out⟩
  case round =>
    obtain ⟨k, hk, rfl, l1, l3⟩ := hrel
    have z1 := l1.lt
    by_cases hkn : k < n
    · have k1 : (k : Int) < n := by omega
      have k0 : (0 : Int) ≤ k := by omega
      obtain ⟨b, off, rfl, hblt, hc⟩ := H0.out.at_ hkn
      have hcc : Hid (∀ W, Below w.heap.size w W → W.cell? ⟨b, off + k, none⟩ = some (.int .u64 (l k : Nat))) := Lib.hid (fun W hW => (hW.cell (p := ⟨b, off + k, none⟩) hblt).trans (hc k hkn))
      have c0 := hcc.out wr l3
      have hle := bl_le (l k)
      have OF : ∀ (W : World) (n : Nat), Calls Try.prog 34 #[.int .u64 (l k : Nat)] (W.drewN n) fun e w' => e = .returned (.int .i64 (bl (l k) : Nat)) ∧ ∃ m, w' = W.drewN m := fun W n => (of_any6 (l k) (HL.out k hkn) _).mono fun e w' h => ⟨h.1, n, h.2.symm⟩
      have RO := rof_any6 (l k) (HL.out k hkn)
      have ROQ : ∀ (W : World) (n : Nat), Calls Try.prog 35 #[.int .u64 (l k : Nat)] (W.drewN n) fun e w' => e = .returned (.int .i64 (bl (l k) : Nat)) ∧ ∃ m, w' = W.drewN m := fun W n => (RO _).mono fun e w' h => ⟨h.1, n, h.2.symm⟩
      have OF := Lib.hid OF
      have RO := Lib.hid RO
      have ROQ := Lib.hid ROQ
      obtain ⟨p0, p1⟩ := cnt_bd l k (bl (l k))
      have CS := Lib.hid (show cnt l (k + 1) = (fun i => if i = bl (l k) then cnt l k (bl (l k)) + 1 else cnt l k i) from rfl)
      have L1 := Lib.hid l1
      have L3 := Lib.hid l3
      have CA := Lib.hid (cntV_at (cnt l k) (bl (l k)) (by omega))
      clear hc l1 l3
      generalize hfun : (fun i => if i = bl (l k) then cnt l k (bl (l k)) + 1 else cnt l k i) = g at *
      have HF := Lib.hid hfun
      clear hfun
      have p2 : cnt l k (bl (l k)) ≤ 200 := by omega
      clear p1
      generalize hcv : cnt l k (bl (l k)) = cv at *
      have HCV := Lib.hid hcv
      clear hcv
      generalize hq : bl (l k) = q at *
      have HQ := Lib.hid hq
      clear hq
      generalize l k = y at *
      have en : (((q : Nat) : Int) != ((q : Nat) : Int)) = false := by simp
      have q0 : (0 : Int) ≤ (q : Nat) := by omega
      have q1 : ((q : Nat) : Int) < 65 := by omega
      have q2 : ((q : Nat) : Int).toNat = q := by omega
      go_wp2
      go_quiet ((first | (go_at_call 34; with_reducible exact OF.out _ _) | (go_at_call 35; with_reducible exact ROQ.out _ _)))
      have M1 := L1.out.drawn nq
      have M3 := below_drawn L3.out nq
      generalize wr.drewN nq = V at *
      clear c0
      have c1 := hcc.out V M3
      have cj : V.cell? ⟨w.heap.size, q, none⟩ = some (.int .i64 cv) := (M1.cell q).trans CA.out
      have fj := M1.frozen q
      obtain ⟨W1, hW1⟩ : ∃ W1, V.setCell ⟨w.heap.size, q, none⟩ (.int .i64 (cv + 1)) = W1 := ⟨_, rfl⟩
      have P1 := Lib.hid (lies_set M1 hW1 (cntV_set (cnt l k) q (cv + 1)))
      have P3 := Lib.hid (below_set M3 (Nat.le_refl _) hW1)
      have M3 := Lib.hid M3
      clear M1
      go_wp2_with (go_at_call 35; refine (RO.out _).mono ?_; rintro e w2 ⟨rfl, rfl⟩)
      go_roundw
      case rel => exact ⟨k + 1, by omega, by go_num, by rw [CS.out, ← HF.out]; exact P1.out, P3.out⟩
      case measure => simp [intOf]; omega
    · obtain rfl : k = n := by omega
      have L1 := Lib.hid l1
      have L3 := Lib.hid l3
      have EQ := run_eql_array (P := Try.prog) 62 3 65 .i64 (cntV (cnt l k)) (cnt l k) Try.underlying62 Try.underlying3 (by kernel_rfl) (cntV_at (cnt l k))
      have Z1 := cntV_size (cnt l k)
      clear l1 l3
      generalize most l k = mm at *
      have mq : ((mm : Int) == (mm : Int)) = true := by simp
      generalize cntV (cnt l k) = cs at *
      obtain ⟨cl, rfl⟩ : ∃ cl : List Value, cs = cl.toArray := ⟨cs.toList, by simp⟩
      have hu1 := Try.underlying62
      have hl1 : cl.length = 65 := by simpa using Z1
      have hi1 : (Try.prog.info? 62).map (·.size) = some cl.length := by rw [hl1]; exact cnt_info
      have D := Lib.hid ((Below.refl wr.heap.size wr).drew)
      have rng : ∀ W, Lies W w.heap.size 62 cl.toArray → W.rangeAt w.heap.size 0 cl := fun W h j v hv => by rw [Nat.zero_add, h.cell j]; simpa using hv
      have RNG := Lib.hid rng
      clear rng Z1
      have q := RNG.out _ L1.out.drew
      have MO := Lib.hid (fun W h => MO.out W (H0.out.below (L3.out.trans (Below.mono (B := wr.heap.size) h L3.out.size))))
      have RM := Lib.hid (fun W h => RM.out W (H0.out.below (L3.out.trans (Below.mono (B := wr.heap.size) h L3.out.size))))
      have CO := Lib.hid (fun W h => CO.out W (H0.out.below (L3.out.trans (Below.mono (B := wr.heap.size) h L3.out.size))))
      go_wp2
      go_region_held3 (fun w' => w'.rangeAt w.heap.size 0 cl) (first | (exact q) | go_keep_ranges | go_keep)
        (first
          | (go_at_call 36; refine (MO.out _ D.out).mono ?_; rintro e y1 ⟨rfl, rfl⟩)
          | (go_at_call 37; refine (RM.out _ D.out).mono ?_; rintro e y2 ⟨rfl, rfl⟩)
          | (go_at_call 38; refine (CO.out _ D.out).mono ?_; rintro e y3 ⟨rfl, hd⟩; have hd : Below wr.heap.size wr y3 := ⟨hd.os, hd.tape, hd.output, hd.size, hd.block⟩; have D := Lib.hid hd; have q := RNG.out _ (L1.out.below D.out z1); clear hd)
          | (go_at_call 39; refine (awake6_any _).mono ?_; rintro e y4 ⟨rfl, hd⟩; have D := Lib.hid (D.out.trans (hd.mono D.out.size)); have q := RNG.out _ (L1.out.below D.out z1); clear hd))
      all_goals
        go_wp2
        go_ret
        exact ⟨rfl, L3.out.trans (D.out.mono L3.out.size)⟩
theorem walk (a0 : Option Addr) (len0 cap0 : Nat) (z0 : List Int) (w : World) (b0 : IsRow .u64 w a0 len0 cap0 z0) :
    Calls Try.prog 6 #[.slice a0 len0 cap0] w fun e w' => e = .returned (.bool true) ∧ Below w.heap.size w w' := by
  by_cases h : 200 < len0
  · exact long a0 len0 cap0 w h
  · exact main a0 len0 cap0 _ (by omega) (isrow_u64 b0).2 w (isrow_u64 b0).1
theorem own : ownKnob Try.prog.godebug = none := by kernel_rfl
set_option maxRecDepth 100000 in
theorem contract (H : Type) (enc : TypeId × Value → H) (W : World) (base : Nat) (args : Array Value) (ds gs : List (DataW H)) (before : List MemPlace)
    (hval : ∀ (j : Nat) t v, Try.f6.params[j]? = some t → args[j]? = some v → Value.okWide Try.prog W .any base t v)
    (hW : DataW.Whole enc Try.prog Try.f6.params.toList Rows.widthTellsSpec.vars false W args.toList ds gs before) :
    Calls Try.prog 6 args W fun e W' => ∃ v, e = .returned v ∧ Rows.widthTellsSpec.post enc Try.prog Try.f6 false true false false W args v W' := by
  have hW' := hW
  obtain ⟨p, q, hA0, hV, rfl, hfz, hnd⟩ := hW
  have hA : DataW.TrodAll enc Try.prog W 0 (fun _ => true) true Try.f6.params.toList args.toList ds p := hA0
  rw [Try.params6] at hA hval
  obtain ⟨v0, vs0, d0, ds0, p0, q0, hargs, rfl, rfl, h0, r0⟩ := trodAll_cons hA
  obtain ⟨rfl, rfl, rfl⟩ := trodAll_nil r0
  obtain rfl : args = #[v0] := by cases args; simp_all
  obtain ⟨rfl, rfl⟩ := trodVars_none hV
  have hWhole := hW'
  obtain ⟨a0, len0, cap0, rfl⟩ := okWide_slice Try.underlying61 (hval 0 61 v0 rfl rfl)
  have k0 := h0
  have lt0 : ∀ x ∈ p0, x.block < W.heap.size := by obtain ⟨m, hm⟩ := k0; exact DataW.trod_lt m _ _ _ hm
  obtain ⟨z0, b0⟩ : ∃ zs, IsRow .u64 W a0 len0 cap0 zs := by
    obtain ⟨fuel, hf⟩ := h0
    rcases open_ints Try.underlying61 Try.underlying50 (by kernel_rfl) hf with ⟨hcs, _⟩ | ⟨x, l, c, zs, hcs, _, hl, hm, hz, _, hcell, hwz⟩
    · simp [Value.cells] at hcs
      obtain ⟨rfl, rfl, rfl⟩ := hcs
      exact ⟨[], isRow_nil _ _⟩
    · simp [Value.cells] at hcs
      obtain ⟨rfl, rfl, rfl⟩ := hcs
      exact ⟨zs, isRow_of hl hm (by simpa using hz) hcell hwz⟩
  clear hA0
  refine (walk a0 len0 cap0 z0 W b0).mono fun e W' ⟨he, hg⟩ => ?_
  subst he
  exact ⟨_, rfl, _, _, _, [], _, [], hW', trodAll_mk1 (shut_bool Try.underlying4 _), (trodAll_cons_mk (Below.trod laidOut (by kernel_rfl) (of_decide_eq_true (by kernel_rfl)) k0 hg lt0) trodAll_mk0), rfl, hg.frame _, fun h => by cases h⟩

set_option maxRecDepth 100000 in
theorem lifted (os : Os) (started : os.Started) (H : Type) (enc : TypeId × Value → H) :
    ReturnsInHanded {} Try.checked os 6 .any (Rows.widthTellsSpec.pre6 enc Try.prog Try.f6 Rows.widthTellsRow.domain false) (Rows.widthTellsSpec.post enc Try.prog Try.f6 false true false false) := by
  refine returnsInHanded_of_change (C := Try.checked) own started (by kernel_rfl) Try.func6
    (ChangeSpec.witness6 (enc := enc) (C := Try.checked) false ⟨#[], #[.slice none 0 0], []⟩ 8 (by kernel_rfl) (by kernel_rfl) (by kernel_rfl) (by kernel_rfl)) ?_
  intro W base args ds gs before hval hW _ _
  exact contract H enc W base args ds gs before hval hW

/-- ████ THE STATEMENT ████ -/
theorem proved : Rows.WidthTellsSaid :=
  OpenClaim.holds_of_wide 6 Try.f6 rfl rfl rfl rfl rfl rfl rfl ⟨rfl, rfl, rfl, rfl, rfl⟩ rfl rfl rfl rfl rfl (by kernel_rfl) Try.func6 (by kernel_rfl)
    (of_decide_eq_true (by kernel_rfl)) (by unfold Func.isWrapper; first | (rw [if_pos (by decide +kernel)]; kernel_rfl) | (rw [if_neg (by decide +kernel)]; exact ⟨rfl, rfl⟩))
    (fun os started H enc _ => lifted os started H enc)
end Go.Proofs.Ytjdcafeljdnfeaa.widthTells
