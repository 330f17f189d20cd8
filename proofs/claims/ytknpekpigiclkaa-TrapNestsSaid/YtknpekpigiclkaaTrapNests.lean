/-
  THE STATEMENT corduroylaw02.TrapNests: for every row of steps the call returns true and leaves its argument as it was. No condition.
-/
import Derived.Test.YtknpekpigiclkaaNest
import Derived.Test.YtknpekpigiclkaaNestRef
import Derived.Test.YtknpekpigiclkaaIsPairs
import Derived.Laws.EntriesVeiled
import Derived.LoopTactic
import Derived.Deep.QuietTactic
import Derived.BigQuiet
namespace Go.Proofs.Ytknpekpigiclkaa.trapNests
open Go.ChangeShapes Go.WideShapes Go.ChangeAt Go.RowKit
set_option linter.unusedVariables false
theorem getD_ints (l : List Int) (i : Nat) (hi : i < l.length) : (l.map (Value.int .i64)).getD i undef = .int .i64 (l.getD i 0) := by
  rw [List.getD_eq_getElem?_getD, List.getD_eq_getElem?_getD, List.getElem?_map, List.getElem?_eq_getElem hi]; rfl
/-- CONTRACT of the closure that is tried: from the first step on. -/
theorem first_any (bn : Nat) (a : Option Addr) (L lc : Nat) (t : Nat → Bool) (E : Nat → Int) (hE : ∀ i, i < L → -9223372036854775808 ≤ E i ∧ E i ≤ 9223372036854775807) (hL : L ≤ 60) (s : Nat) (v : Value) (W : World)
    (c2 : W.cell? ⟨s, 0, none⟩ = some (.pointer (some ⟨bn, 0, none⟩))) (h : NestAt W bn a L lc t E v []) :
    Calls Try.prog 16 #[.pointer (some ⟨s, 0, none⟩)] (W.alloc (.cells #[.int .i64 0] 27))
      (Comes1 W (fun m w1 => m = er t E L L ∧ ∃ v', NestAt w1 bn a L lc t E v' (nts t E L L) ∧ Kept bn v (W.alloc (.cells #[.int .i64 0] 27)) w1 v')) := by
  obtain ⟨Wa, hWa⟩ : ∃ Wa, W.alloc (.cells #[.int .i64 0] 27) = Wa := ⟨_, rfl⟩
  have hal := alive_new W
  have hT : Turned (fun _ => False) W (W.alloc (.cells #[.int .i64 0] 27)) := (Turned.refl _ _).alloc _
  have hs1 : W.heap.size < (W.alloc (.cells #[.int .i64 0] 27)).heap.size := by simp
  have d2 := (hT.cell (p := ⟨s, 0, none⟩) (World.block_lt_of_cell? W _ c2) (fun e => e)).trans c2
  have hN := h.aside hT (fun _ e => e.elim)
  rw [hWa] at hal hs1 d2 hN ⊢
  have KA := Lib.hid (fun w1 v' (hk : Kept bn v Wa w1 v') => (show Alive W w1 from ⟨(hk.1.cell (p := ⟨W.heap.size, 0, none⟩) hs1 (fun e => by
      rcases e with e | e
      · have := h.1.lt; simp at e; omega
      · have := (h.2.1.lt _ e).2; simp at this)).trans hal.1, (hk.1.frozen (p := ⟨W.heap.size, 0, none⟩) hs1 (fun e => by
      rcases e with e | e
      · have := h.1.lt; simp at e; omega
      · have := (h.2.1.lt _ e).2; simp at this)).trans hal.2.1, by have := hk.1.size; omega⟩))
  have IH := from_any bn a L lc t E hE hL L (Nat.le_refl _) v [] Wa (by simp; omega) hN
  rw [Nat.sub_self] at IH
  have IH := Lib.hid IH
  clear hal hT hN h c2 hWa
  go_enter Try.func16, Try.ntmps16
  go_wp2_with fail
  refine IH.out.mono ?_
  rintro e w1 ⟨hc, v', hn', hk'⟩
  rcases hc with ⟨h0, rfl⟩ | ⟨h0, rfl⟩
  · go_wp2
    go_end0
    exact ⟨KA.out w1 v' hk', .inl ⟨rfl, h0.symm, v', hn', hk'⟩⟩
  · go_wp2
    exact ⟨rfl, KA.out w1 v' hk', .inr ⟨_, h0, rfl, rfl, v', hn', hk'⟩⟩
theorem long (a : Option Addr) (len cap : Nat) (hl : 60 < len) (W : World) :
    Calls Try.prog 3 #[.slice a len cap] W fun e w' => e = .returned (.bool true) ∧ Below W.heap.size W w' := by
  have h1 : (60 : Int) < len := by omega
  go_enter Try.func3, Try.ntmps3
  go_wp2
  go_ret
  exact ⟨rfl, Below.refl _ _⟩
set_option maxRecDepth 100000 in
set_option maxHeartbeats 4000000 in
theorem main (a : Option Addr) (L cap : Nat) (t : Nat → Bool) (E : Nat → Int) (hL : L ≤ 60) (hE : ∀ i, i < L → -9223372036854775808 ≤ E i ∧ E i ≤ 9223372036854775807) (W : World) (h : Steps W a W.heap.size L t E) :
    Calls Try.prog 3 #[.slice a L cap] W fun e w' => e = .returned (.bool true) ∧ Below W.heap.size W w' := by
  have hmf : ∀ (fn : Fn) (first cap : Array Value) (w : World), (Instr.makeFunc fn first cap).run Try.prog w = .ok (.func fn first cap) w := fun _ _ _ _ => rfl
  have h1 : ¬ (60 : Int) < L := by omega
  obtain ⟨bn, hbn⟩ : ∃ bn, W.heap.size = bn := ⟨_, rfl⟩
  rw [hbn] at h
  obtain ⟨W1, hW1⟩ : ∃ W1, (W.alloc (.cells #[.slice a L cap, .slice none 0 0] 26)).alloc (.cells #[.pointer (some ⟨W.heap.size, 0, none⟩)] 23) = W1 := ⟨_, rfl⟩
  have hl1 : Lies W1 bn 26 #[.slice a L cap, .slice none 0 0] := by rw [← hW1, ← hbn]; exact (Lies.new _ _ _).alloc _
  have hx1 : Lies W1 (bn + 1) 23 #[.pointer (some ⟨bn, 0, none⟩)] := by
    rw [← hW1, ← hbn]
    have := Lies.new (W.alloc (.cells #[.slice a L cap, .slice none 0 0] 26)) 23 #[.pointer (some ⟨W.heap.size, 0, none⟩)]
    simpa using this
  have ht1 : Turned (fun _ => False) W W1 := by rw [← hW1]; exact ((Turned.refl _ W).alloc _).alloc _
  have hN1 : NestAt W1 bn a L cap t E (.slice none 0 0) [] := ⟨hl1, World.ownsRow_nil _ _ _ _, h.turned ht1 (fun _ _ e => e) (by omega)⟩
  have TR := Lib.hid (try_any 16 #[.pointer (some ⟨bn + 1, 0, none⟩)] W1 _ (fun _ => by simp [go_sem]) (first_any bn a L cap t E hE hL (bn + 1) (.slice none 0 0) W1 (hx1.cell 0) hN1))
  have HN1 := Lib.hid hN1
  have HT1 := Lib.hid ht1
  have HX1 := Lib.hid hx1
  rw [hbn] at hW1
  clear h hE hl1 hx1 ht1 hN1
  go_enter Try.func3, Try.ntmps3
  go_wp2_with fail
  (try rw [hW1])
  refine TR.out.mono ?_
  rintro e w4 ⟨m', w3, rfl, ⟨rfl, v4, hn4, hk4⟩, ha⟩
  obtain ⟨hn5, hk5⟩ := tried_on HN1.out hn4 hk4 ha
  clear hn4 hk4 ha hW1
  rw [nts_all] at hn5
  have hS : ∀ i, (i = bn ∨ (Value.slice none 0 0).ownBlock = some i) → i = bn := fun i e => e.elim id (fun e => by simp [Value.ownBlock] at e)
  have T4 : Turned (fun i => i = bn) W w4 := HT1.out.trans' (hk5.1.mono (fun i _ e => hS i e)) (fun i hi e => by omega) |>.mono (fun i _ e => by first | exact e.elim | exact e)
  have X4 := HX1.out.turned hk5.1 (fun e => by have := hS _ e; omega)
  have L4 := hn5.1
  obtain ⟨a4, c4, rfl, r4, h4, _⟩ := own_reads hn5.2.1
  obtain ⟨m, hm⟩ : ∃ m, er t E L L = m := ⟨_, rfl⟩
  have RU := run_any a L cap bn t E hL w4 hn5.2.2 (by have := L4.lt; omega)
  have hK : (upTo L ++ tl t E L L).length ≤ 120 := by have := tl_length t E L L; rw [List.length_append, upTo_length]; omega
  change RowOf w4 a4 (upTo L ++ tl t E L L).length (fun i => ((upTo L ++ tl t E L L).map (Value.int .i64)).getD i undef) at r4
  change Lies w4 bn 26 #[.slice a L cap, .slice a4 (upTo L ++ tl t E L L).length c4] at L4
  rw [hm] at RU ⊢
  have r4 : RowOf w4 a4 (upTo L ++ tl t E L L).length (fun i => .int .i64 ((upTo L ++ tl t E L L).getD i 0)) := r4.congr fun i hi => getD_ints _ i hi
  clear hn5 hk5 h4
  generalize upTo L ++ tl t E L L = N at *
  obtain ⟨K, hKN⟩ : ∃ K, N.length = K := ⟨_, rfl⟩
  rw [hKN] at RU r4 L4 hK
  have RU := Lib.hid RU
  have hb4 : Below W.heap.size W w4 := T4.below fun i hi => ⟨hi, fun e => by omega⟩
  have HB4 := Lib.hid hb4
  have L4 := Lib.hid L4
  have X4 := Lib.hid X4
  have R4 := Lib.hid r4
  clear hb4 r4 T4 hS HN1 HT1 HX1 TR
  have e1 : (m != m) = false := by simp
  go_wp2_with fail
  refine RU.out.mono ?_
  rintro e w5 ⟨v5, rfl, h5, hb5⟩
  obtain ⟨a5, c5, rfl, r5, _, _⟩ := own_reads h5
  have r5 : RowOf w5 a5 K (fun i => .int .i64 (N.getD i 0)) := r5.congr fun i hi => getD_ints N i (by omega)
  have L5 := L4.out.below hb5 L4.out.lt
  have X5 := X4.out.below hb5 X4.out.lt
  have R5 := Lib.hid r5
  have R4' := Lib.hid (R4.out.below hb5)
  have HB5 := Lib.hid (HB4.out.trans (hb5.mono HB4.out.size))
  have x5 := X5.cell 0
  have y5 := L5.cell 1
  have e2 : ((K : Int) != (K : Int)) = false := by simp
  have L5 := Lib.hid L5
  have X5 := Lib.hid X5
  clear h5 hb5 r5
  go_wp2
  go_loopw [7] (fun i wr => ∃ k : Nat, k ≤ K ∧ i = .int .i64 k ∧ ∃ q, wr = w5.drewN q) (fun i _ => K - (intOf i).toNat)
  case atStart => exact ⟨0, by omega, rfl, 0, rfl⟩
  case round =>
    obtain ⟨k, hk, rfl, q, rfl⟩ := hrel
    by_cases hkn : k < K
    · have k1 : (k : Int) < K := by omega
      have k0 : (0 : Int) ≤ k := by omega
      obtain ⟨b0, o0, rfl, _, z0⟩ := (RowOf.drawn R4'.out q).at_ hkn
      obtain ⟨b1, o1, rfl, _, z1⟩ := (RowOf.drawn R5.out q).at_ hkn
      have y0 := z0 k hkn
      have y1 := z1 k hkn
      have X6 := (X5.out.drewN q).cell 0
      have L6 := (L5.out.drewN q).cell 1
      clear z0 z1 x5 y5
      have HW := Lib.hid (show ∀ m, (w5.drewN q).drewN m = w5.drewN (q + m) from fun m => World.drewN_drewN ..)
      generalize w5.drewN q = V at *
      generalize N.getD k 0 = u at *
      have e3 : (u != u) = false := by simp
      go_wp2
      go_quiet (fail)
      go_wp2
      go_roundw
      case rel => exact ⟨k + 1, by omega, by go_num, _, HW.out _⟩
      case measure => simp [intOf]; omega
    · have AW := Lib.hid (awake2_any (w5.drewN q))
      have hD : Below W.heap.size W (w5.drewN q) := ⟨HB5.out.os, HB5.out.tape, HB5.out.output, HB5.out.size, HB5.out.block⟩
      have HD := Lib.hid hD
      have k1 : ¬ (k : Int) < K := by omega
      clear x5 y5 hD
      go_wp2_with (go_at_call 19; refine AW.out.mono ?_; rintro e w6 ⟨rfl, hb6⟩; have HB6 := Lib.hid hb6; clear hb6)
      go_ret
      exact ⟨rfl, HD.out.trans (HB6.out.mono HD.out.size)⟩
theorem walk (a : Option Addr) (len cap : Nat) (t : Nat → Bool) (E : Nat → Int) (W : World) (b : IsPairs W a len cap (fun i => .bool (t i)) (fun i => .int .i64 (E i)) ∧ ∀ i, i < cap → (Lit.int .i64 (E i)).wf = true) :
    Calls Try.prog 3 #[.slice a len cap] W fun e w' => e = .returned (.bool true) ∧ Below W.heap.size W w' := by
  obtain ⟨⟨g1, g2, g3⟩, hw⟩ := b
  by_cases hl : 60 < len
  · exact long a len cap hl W
  · refine main a len cap t E (by omega) (fun i hi => bounds_i64 (hw i (by omega))) W ?_
    rcases g3 with g3 | ⟨b, off, rfl, hb, hc⟩
    · exact .inl (by omega)
    · exact .inr ⟨b, off, rfl, hb, fun i hi => hc i (by omega)⟩
theorem own : ownKnob Try.prog.godebug = none := by kernel_rfl
set_option maxRecDepth 100000 in
theorem contract (H : Type) (enc : TypeId × Value → H) (W : World) (base : Nat) (args : Array Value) (ds gs : List (DataW H)) (before : List MemPlace)
    (hval : ∀ (j : Nat) t v, Try.f3.params[j]? = some t → args[j]? = some v → Value.okWide Try.prog W .any base t v)
    (hW : DataW.Whole enc Try.prog Try.f3.params.toList Rows.trapNestsSpec.vars false W args.toList ds gs before) :
    Calls Try.prog 3 args W fun e W' => ∃ v, e = .returned v ∧ Rows.trapNestsSpec.post enc Try.prog Try.f3 false true false false W args v W' := by
  have hW' := hW
  obtain ⟨p, q, hA0, hV, rfl, hfz, hnd⟩ := hW
  have hA : DataW.TrodAll enc Try.prog W 0 (fun _ => true) true Try.f3.params.toList args.toList ds p := hA0
  rw [Try.params3] at hA hval
  obtain ⟨v0, vs0, d0, ds0, p0, q0, hargs, rfl, rfl, h0, r0⟩ := trodAll_cons hA
  obtain ⟨rfl, rfl, rfl⟩ := trodAll_nil r0
  obtain rfl : args = #[v0] := by cases args; simp_all
  obtain ⟨rfl, rfl⟩ := trodVars_none hV
  have hWhole := hW'
  obtain ⟨a0, len0, cap0, rfl⟩ := okWide_slice Try.underlying22 (hval 0 22 v0 rfl rfl)
  have k0 := h0
  have lt0 : ∀ x ∈ p0, x.block < W.heap.size := by obtain ⟨m, hm⟩ := k0; exact DataW.trod_lt m _ _ _ hm
  obtain ⟨fuel0, hf0⟩ := h0
  obtain ⟨V0a, V0b, c0, hx0⟩ := isPairs_of Try.underlying22 Try.underlying92 (by kernel_rfl) rfl rfl (by kernel_rfl) (by kernel_rfl) hf0
  obtain ⟨y0a, e0a⟩ := bools_of Try.underlying4 (fun i hi => (hx0 i hi).1)
  obtain ⟨y0b, e0b⟩ := ints_of Try.underlying3 (fun i hi => (hx0 i hi).2)
  have b0 := And.intro (c0.named e0a (fun i hi => (e0b i hi).1)) (fun i hi => (e0b i hi).2)
  clear hA0
  refine (walk a0 len0 cap0 y0a y0b W b0).mono fun e W' ⟨he, hg⟩ => ?_
  subst he
  exact ⟨_, rfl, _, _, _, [], _, [], hW', trodAll_mk1 (shut_bool Try.underlying4 _), (trodAll_cons_mk (Below.trod laidOut (by kernel_rfl) (of_decide_eq_true (by kernel_rfl)) k0 hg lt0) trodAll_mk0), rfl, hg.frame _, fun h => by cases h⟩

set_option maxRecDepth 100000 in
theorem lifted (os : Os) (started : os.Started) (H : Type) (enc : TypeId × Value → H) :
    ReturnsInHanded {} Try.checked os 3 .any (Rows.trapNestsSpec.pre6 enc Try.prog Try.f3 Rows.trapNestsRow.domain false) (Rows.trapNestsSpec.post enc Try.prog Try.f3 false true false false) := by
  refine returnsInHanded_of_change (C := Try.checked) own started (by kernel_rfl) Try.func3
    (ChangeSpec.witness6 (enc := enc) (C := Try.checked) false ⟨#[], #[.slice none 0 0], []⟩ 8 (by kernel_rfl) (by kernel_rfl) (by kernel_rfl) (by kernel_rfl)) ?_
  intro W base args ds gs before hval hW _ _
  exact contract H enc W base args ds gs before hval hW

/-- ████ THE STATEMENT ████ -/
theorem proved : Rows.TrapNestsSaid :=
  OpenClaim.holds_of_wide 3 Try.f3 rfl rfl rfl rfl rfl rfl rfl ⟨rfl, rfl, rfl, rfl, rfl⟩ rfl rfl rfl rfl rfl (by kernel_rfl) Try.func3 (by kernel_rfl)
    (of_decide_eq_true (by kernel_rfl)) (by unfold Func.isWrapper; first | (rw [if_pos (by decide +kernel)]; kernel_rfl) | (rw [if_neg (by decide +kernel)]; exact ⟨rfl, rfl⟩))
    (fun os started H enc _ => lifted os started H enc)
end Go.Proofs.Ytknpekpigiclkaa.trapNests
