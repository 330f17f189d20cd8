/-
  THE STATEMENT corduroylaw25.ZoneStores: for any zones and any bytes the call returns true and leaves its arguments as they were. No condition.
-/
import Derived.Test.YtgclhblglohjpaaZoneQ
import Derived.Test.YtgclhblglohjpaaIsQuads
namespace Go.Proofs.Ytgclhblglohjpaa.zoneStores
open Go.ChangeShapes Go.WideShapes Go.ChangeAt Go.RowKit
set_option linter.unusedVariables false
set_option linter.unusedSimpArgs false
theorem long (a0 a1 : Option Addr) (n cap m cap1 : Nat) (w : World) (h : 40 < n ∨ 1000 < m) :
    Calls Try.prog 3 #[.slice a0 n cap, .slice a1 m cap1] w fun e w' => e = .returned (.bool true) ∧ Below w.heap.size w w' := by
  by_cases h1 : 40 < n
  · have h' : (40 : Int) < n := by omega
    go_enter Try.func3, Try.ntmps3
    go_wp2
    go_ret
    exact ⟨rfl, Below.refl _ _⟩
  · have h' : ¬ (40 : Int) < n := by omega
    have h'' : (1000 : Int) < m := by omega
    go_enter Try.func3, Try.ntmps3
    go_wp2
    go_ret
    exact ⟨rfl, Below.refl _ _⟩
set_option maxRecDepth 100000 in
set_option maxHeartbeats 2000000 in
theorem main (a0 a1 : Option Addr) (n cap nb cap1 : Nat) (C L H S z : Nat → Int) (hn : n ≤ 40) (hnb : nb ≤ 1000) (hc1 : nb ≤ cap1) (hc2 : cap1 ≤ maxLen) (hz : ∀ i, i < nb → 0 ≤ z i ∧ z i ≤ 255) (w : World) (hzo : Zones w a0 n C L H S w.heap.size) (hr : RowOf w a1 nb (fun i => .int .u8 (z i))) :
    Calls Try.prog 3 #[.slice a0 n cap, .slice a1 nb cap1] w fun e w' => e = .returned (.bool true) ∧ Below w.heap.size w w' := by
  obtain ⟨f, hf, hf1, hf2⟩ := first_false (fun i => zrt (C i) (L i) (H i) (S i) = true) n
  have hf2 : f < n → zrt (C f) (L f) (H f) (S f) = false := fun h => by simpa using hf2 h
  obtain ⟨g, hg1, hg2, hg3⟩ := first_false (fun i => zgood z nb i) (zN z)
  have hg : 4 ≤ nb → g ≤ zN z ∧ (∀ i, i < g → zgood z nb i) ∧ (g < zN z → ¬ zgood z nb g) := fun _ => ⟨hg1, hg2, hg3⟩
  have OW := Lib.hid (own_any a0 n cap C L H S (by omega) w hzo)
  have ST := Lib.hid (fun a c W hW => store_told a n c f C L H S (by omega) hf hf1 hf2 W hW)
  have RT := Lib.hid (fun W (hb : Below w.heap.size w W) => rstore_told a0 n cap f C L H S (by omega) hf hf1 hf2 W (hzo.below hb))
  have LO := Lib.hid (fun W (hb : Below w.heap.size w W) => load_any nb cap1 a1 z hz (by omega) g hg W (hr.below hb))
  have RL := Lib.hid (fun W (hb : Below w.heap.size w W) => rload_any nb cap1 a1 z hz (by omega) hc1 hc2 g hg W (hr.below hb))
  have AW := Lib.hid (fun W => awake25_any W)
  have HM := Lib.hid (zmany_le hg)
  have h1 : ¬ (40 : Int) < n := by omega
  have h2 : ¬ (1000 : Int) < nb := by omega
  unfold StTold at ST RT
  have HXL := Lib.hid (show (sxs n f C L H S).length = (sxs n f C L H S).length from rfl)
  clear hzo hr hg hf1 hf2 hg1 hg2 hg3 hz
  generalize sxs n f C L H S = xs at *
  generalize ser n f = er1 at *
  generalize zerr z nb g = er2 at *
  generalize zmany z nb g = m at *
  generalize zC z = C' at *
  generalize zL z = L' at *
  generalize zH z = H' at *
  generalize zS z = S' at *
  have SA := Lib.hid (fun a c a2 c2 W (h : Zones W a m C' L' H' S' W.heap.size) (h2 : Zones W a2 m C' L' H' S' W.heap.size) => same25_any a a2 m c m c2 C' L' H' S' C' L' H' S' (by have := HM.out; omega) (by have := HM.out; omega) W h h2 true (decide_eq_true ⟨rfl, fun i _ => ⟨rfl, rfl, rfl, rfl⟩⟩))
  go_enter Try.func3, Try.ntmps3
  go_wp2_with (first
    | (go_at_call 16; refine OW.out.mono ?_; rintro e w1 ⟨v, rfl, ho, hb⟩; obtain ⟨a5, c5, rfl, hz5⟩ := zones_own ho; have HZ5 := Lib.hid hz5; have HB1 := Lib.hid hb; clear ho hb hz5)
    | (go_at_call 15; refine (ST.out _ _ _ HZ5.out).mono ?_; rintro e w2 ⟨hb, a6, c6, rfl, hr6, _, _⟩; have HR6 := Lib.hid hr6; have HB2 := Lib.hid (HB1.out.trans (hb.mono HB1.out.size)); clear hb hr6)
    | (go_at_call 17; refine (RT.out _ HB2.out).mono ?_; rintro e w3 ⟨hb, a7, c7, rfl, hr7, _, _⟩; have hr6 := HR6.out.below hb; clear HR6; have HR6 := Lib.hid hr6; have HR7 := Lib.hid hr7; have HB3 := Lib.hid (HB2.out.trans (hb.mono HB2.out.size)); clear hb hr7 hr6)
    | (go_at_call 18; refine (LO.out _ HB3.out).mono ?_; rintro e w4 ⟨hb, a8, c8, rfl, hz8⟩; have hr6 := HR6.out.below hb; have hr7 := HR7.out.below hb; clear HR6 HR7; have HR6 := Lib.hid hr6; have HR7 := Lib.hid hr7; have HZ8 := Lib.hid hz8; have HB4 := Lib.hid (HB3.out.trans (hb.mono HB3.out.size)); clear hb hr7 hr6 hz8)
    | (go_at_call 19; refine (RL.out _ HB4.out).mono ?_; rintro e w5 ⟨hb, a9, c9, rfl, hz9⟩; have hr6 := HR6.out.below hb; have hr7 := HR7.out.below hb; have hz8 := HZ8.out.below hb; have cv1 := conv_list a6 _ c6 xs rfl w5 hr6; have cv2 := conv_list a7 _ c7 xs rfl w5 hr7; clear HR6 HR7 HZ8; have HZ8 := Lib.hid hz8; have HZ9 := Lib.hid hz9; have HB5 := Lib.hid (HB4.out.trans (hb.mono HB4.out.size)); clear hb hr7 hr6 hz8 hz9)
    | (go_at_call 20; refine (SA.out _ _ _ _ _ HZ8.out HZ9.out).mono ?_; rintro e w6 ⟨rfl, hb⟩; have HB6 := Lib.hid (HB5.out.trans (hb.mono HB5.out.size)); clear hb)
    | (go_at_call 21; refine (AW.out _).mono ?_; rintro e w7 ⟨rfl, hb⟩; have HB7 := Lib.hid (HB6.out.trans (hb.mono HB6.out.size)); clear hb))
  go_ret
  exact ⟨rfl, HB7.out⟩
theorem walk (a : Option Addr) (n cap : Nat) (C L H S : Nat → Int) (a2 : Option Addr) (m cap2 : Nat) (ys : List Int) (W : World) (b : IsQuads W a n cap C L H S) (d : IsRow .u8 W a2 m cap2 ys) :
    Calls Try.prog 3 #[.slice a n cap, .slice a2 m cap2] W fun e w' => e = .returned (.bool true) ∧ Below W.heap.size W w' := by
  obtain ⟨b1, b2, b3, b4⟩ := b
  by_cases hl : 40 < n ∨ 1000 < m
  · exact long a a2 n cap m cap2 W hl
  have hzo : Zones W a n C L H S W.heap.size := by
    rcases b3 with b3 | ⟨b, off, rfl, hb, hc⟩
    · exact .inl (by omega)
    · exact .inr ⟨b, off, rfl, hb, fun i hi => hc i (by omega)⟩
  obtain ⟨d1, d2, d3, d4, d5⟩ := d
  have hr2 : RowOf W a2 m (fun i => .int .u8 (ys.getD i 0)) := by
    rcases d5 with d5 | ⟨b, off, rfl, hb, hc⟩
    · exact .inl (by omega)
    · exact .inr ⟨b, off, rfl, fun i hi => hc i (by omega)⟩
  exact main a a2 n cap m cap2 C L H S (fun i => ys.getD i 0) (by omega) (by omega) d1 d2 (fun i hi => by
    have := bounds_u8 (d4 (ys.getD i 0) (by rw [List.getD_eq_getElem?_getD, List.getElem?_eq_getElem (by omega)]; simp))
    omega) W hzo hr2
theorem own : ownKnob Try.prog.godebug = none := by kernel_rfl
set_option maxRecDepth 100000 in
theorem contract (H : Type) (enc : TypeId × Value → H) (W : World) (base : Nat) (args : Array Value) (ds gs : List (DataW H)) (before : List MemPlace)
    (hval : ∀ (j : Nat) t v, Try.f3.params[j]? = some t → args[j]? = some v → Value.okWide Try.prog W .any base t v)
    (hW : DataW.Whole enc Try.prog Try.f3.params.toList Rows.zoneStoresSpec.vars false W args.toList ds gs before) :
    Calls Try.prog 3 args W fun e W' => ∃ v, e = .returned v ∧ Rows.zoneStoresSpec.post enc Try.prog Try.f3 false true false false W args v W' := by
  have hW' := hW
  obtain ⟨p, q, hA0, hV, rfl, hfz, hnd⟩ := hW
  have hA : DataW.TrodAll enc Try.prog W 0 (fun _ => true) true Try.f3.params.toList args.toList ds p := hA0
  rw [Try.params3] at hA hval
  obtain ⟨v0, vs0, d0, ds0, p0, q0, hargs, rfl, rfl, h0, r0⟩ := trodAll_cons hA
  obtain ⟨v1, vs1, d1, ds1, p1, q1, rfl, rfl, rfl, h1, r1⟩ := trodAll_cons r0
  obtain ⟨rfl, rfl, rfl⟩ := trodAll_nil r1
  obtain rfl : args = #[v0, v1] := by cases args; simp_all
  obtain ⟨rfl, rfl⟩ := trodVars_none hV
  have hWhole := hW'
  obtain ⟨a0, len0, cap0, rfl⟩ := okWide_slice Try.underlying22 (hval 0 22 v0 rfl rfl)
  have k0 := h0
  have lt0 : ∀ x ∈ p0, x.block < W.heap.size := by obtain ⟨m, hm⟩ := k0; exact DataW.trod_lt m _ _ _ hm
  obtain ⟨fuel0, hf0⟩ := h0
  obtain ⟨y0a, y0b, y0c, y0d, b0⟩ := isQuads_of Try.underlying22 Try.underlying43 (by kernel_rfl) rfl rfl rfl rfl (by kernel_rfl) (by kernel_rfl) (by kernel_rfl) (by kernel_rfl) Try.underlying3 Try.underlying2 Try.underlying2 Try.underlying2 hf0
  obtain ⟨a1, len1, cap1, rfl⟩ := okWide_slice Try.underlying23 (hval 1 23 v1 rfl rfl)
  have k1 := h1
  have lt1 : ∀ x ∈ p1, x.block < W.heap.size := by obtain ⟨m, hm⟩ := k1; exact DataW.trod_lt m _ _ _ hm
  obtain ⟨z1, b1⟩ : ∃ zs, IsRow .u8 W a1 len1 cap1 zs := by
    obtain ⟨fuel, hf⟩ := h1
    rcases open_ints Try.underlying23 Try.underlying5 (by kernel_rfl) hf with ⟨hcs, _⟩ | ⟨x, l, c, zs, hcs, _, hl, hm, hz, _, hcell, hwz⟩
    · simp [Value.cells] at hcs
      obtain ⟨rfl, rfl, rfl⟩ := hcs
      exact ⟨[], isRow_nil _ _⟩
    · simp [Value.cells] at hcs
      obtain ⟨rfl, rfl, rfl⟩ := hcs
      exact ⟨zs, isRow_of hl hm (by simpa using hz) hcell hwz⟩
  clear hA0
  refine (walk a0 len0 cap0 y0a y0b y0c y0d a1 len1 cap1 z1 W b0 b1).mono fun e W' ⟨he, hg⟩ => ?_
  subst he
  exact ⟨_, rfl, _, _, _, [], _, [], hW', trodAll_mk1 (shut_bool Try.underlying4 _), (trodAll_cons_mk (Below.trod laidOut (by kernel_rfl) (of_decide_eq_true (by kernel_rfl)) k0 hg lt0) (trodAll_cons_mk (Below.trod laidOut (by kernel_rfl) (of_decide_eq_true (by kernel_rfl)) k1 hg lt1) trodAll_mk0)), rfl, hg.frame _, fun h => by cases h⟩

set_option maxRecDepth 100000 in
theorem lifted (os : Os) (started : os.Started) (H : Type) (enc : TypeId × Value → H) :
    ReturnsInHanded {} Try.checked os 3 .any (Rows.zoneStoresSpec.pre6 enc Try.prog Try.f3 Rows.zoneStoresRow.domain false) (Rows.zoneStoresSpec.post enc Try.prog Try.f3 false true false false) := by
  refine returnsInHanded_of_change (C := Try.checked) own started (by kernel_rfl) Try.func3
    (ChangeSpec.witness6 (enc := enc) (C := Try.checked) false ⟨#[], #[.slice none 0 0, .slice none 0 0], []⟩ 8 (by kernel_rfl) (by kernel_rfl) (by kernel_rfl) (by kernel_rfl)) ?_
  intro W base args ds gs before hval hW _ _
  exact contract H enc W base args ds gs before hval hW

/-- ████ THE STATEMENT ████ -/
theorem proved : Rows.ZoneStoresSaid :=
  OpenClaim.holds_of_wide 3 Try.f3 rfl rfl rfl rfl rfl rfl rfl ⟨rfl, rfl, rfl, rfl, rfl⟩ rfl rfl rfl rfl rfl (by kernel_rfl) Try.func3 (by kernel_rfl)
    (of_decide_eq_true (by kernel_rfl)) (by unfold Func.isWrapper; first | (rw [if_pos (by decide +kernel)]; kernel_rfl) | (rw [if_neg (by decide +kernel)]; exact ⟨rfl, rfl⟩))
    (fun os started H enc _ => lifted os started H enc)
end Go.Proofs.Ytgclhblglohjpaa.zoneStores
