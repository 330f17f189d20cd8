/-
  THE STATEMENT corduroylaw25.ZoneBack: for any zones and any bytes the call returns true and leaves its arguments as they were. No condition.
-/
import Derived.Test.YtgclhblglohjpaaZoneR
import Derived.Test.YtgclhblglohjpaaIsQuads
namespace Go.Proofs.Ytgclhblglohjpaa.zoneBack
open Go.ChangeShapes Go.WideShapes Go.ChangeAt Go.RowKit
set_option linter.unusedVariables false
set_option linter.unusedSimpArgs false
theorem long (a0 a1 : Option Addr) (n cap m cap1 : Nat) (w : World) (h : 40 < n ∨ 1000 < m) :
    Calls Try.prog 13 #[.slice a0 n cap, .slice a1 m cap1] w fun e w' => e = .returned (.bool true) ∧ Below w.heap.size w w' := by
  by_cases h1 : 40 < n
  · have h' : (40 : Int) < n := by omega
    go_enter Try.func13, Try.ntmps13
    go_wp2
    go_ret
    exact ⟨rfl, Below.refl _ _⟩
  · have h' : ¬ (40 : Int) < n := by omega
    have h'' : (1000 : Int) < m := by omega
    go_enter Try.func13, Try.ntmps13
    go_wp2
    go_ret
    exact ⟨rfl, Below.refl _ _⟩
/-- What Load tells of bytes that Store told. -/
theorem load_back (n : Nat) (C L H S : Nat → Int) (hn : n ≤ 40) (hall : ∀ i, i < n → zrt (C i) (L i) (H i) (S i) = true) (hbd : ∀ i, i < n → (-9223372036854775808 ≤ L i ∧ L i ≤ 9223372036854775807) ∧ (-9223372036854775808 ≤ H i ∧ H i ≤ 9223372036854775807) ∧ (-9223372036854775808 ≤ S i ∧ S i ≤ 9223372036854775807))
    (a : Option Addr) (c : Nat) (w : World) (h : RowOf w a (4 + 26 * n) (fun i => .int .u8 ((sts n C L H S n).getD i 0))) :
    Calls Try.prog 18 #[.slice a (4 + 26 * n) c] w fun e w' => Below w.heap.size w w' ∧ ∃ a' c' C' L' H' S', e = .returned (.tuple #[.slice a' n c', .int .i64 0]) ∧ Zones w' a' n C' L' H' S' w'.heap.size ∧ ∀ i, i < n → C' i = C i ∧ L' i = L i ∧ H' i = H i ∧ S' i = S i := by
  have hz : ∀ i, i < 4 + 26 * n → 0 ≤ (sts n C L H S n).getD i 0 ∧ (sts n C L H S n).getD i 0 ≤ 255 := fun i hi => by
    rw [List.getD_eq_getElem?_getD, List.getElem?_eq_getElem (by rw [sts_length]; exact hi)]
    exact sts_bytes n C L H S n _ (List.getElem_mem _)
  have hN : zN (fun i => (sts n C L H S n).getD i 0) = n := read_n (by omega)
  have hv : ∀ i, i < n → zC (fun i => (sts n C L H S n).getD i 0) i = C i ∧ zL (fun i => (sts n C L H S n).getD i 0) i = L i ∧ zH (fun i => (sts n C L H S n).getD i 0) i = H i ∧ zS (fun i => (sts n C L H S n).getD i 0) i = S i := fun i hi =>
    ⟨read_c hi (zrt_c (hall i hi)), read_l hi (hbd i hi).1.1 (hbd i hi).1.2, read_h hi (hbd i hi).2.1.1 (hbd i hi).2.1.2, read_s hi (hbd i hi).2.2.1 (hbd i hi).2.2.2⟩
  generalize hzz : (fun i => (sts n C L H S n).getD i 0) = z at *
  have hze : ∀ i, (sts n C L H S n).getD i 0 = z i := fun i => by rw [← hzz]
  simp only [hze] at h hz
  have hg : 4 ≤ 4 + 26 * n → n ≤ zN z ∧ (∀ i, i < n → zgood z (4 + 26 * n) i) ∧ (n < zN z → ¬ zgood z (4 + 26 * n) n) := fun _ =>
    ⟨by omega, fun i hi => ⟨by omega, by obtain ⟨e1, e2, e3, e4⟩ := hv i hi; rw [e1, e2, e3, e4]; exact hall i hi⟩, fun h => by omega⟩
  have he : zerr z (4 + 26 * n) n = 0 := by
    unfold zerr
    rw [if_neg (by omega), if_neg (by omega), if_neg (by omega)]
  have hm : zmany z (4 + 26 * n) n = n := by unfold zmany; rw [if_pos he]
  refine (load_any (4 + 26 * n) c a z hz (by omega) n hg w h).mono ?_
  rintro e w' ⟨hb, a', c', rfl, hzo⟩
  rw [hm] at hzo ⊢
  rw [he]
  exact ⟨hb, a', c', _, _, _, _, rfl, hzo, hv⟩
set_option maxRecDepth 100000 in
set_option maxHeartbeats 2000000 in
theorem main (a0 a1 : Option Addr) (n cap nb cap1 : Nat) (C L H S z : Nat → Int) (hn : n ≤ 40) (hbd : ∀ i, i < n → (-9223372036854775808 ≤ L i ∧ L i ≤ 9223372036854775807) ∧ (-9223372036854775808 ≤ H i ∧ H i ≤ 9223372036854775807) ∧ (-9223372036854775808 ≤ S i ∧ S i ≤ 9223372036854775807)) (hnb : nb ≤ 1000) (hz : ∀ i, i < nb → 0 ≤ z i ∧ z i ≤ 255) (w : World) (hzo : Zones w a0 n C L H S w.heap.size) (hr : RowOf w a1 nb (fun i => .int .u8 (z i))) :
    Calls Try.prog 13 #[.slice a0 n cap, .slice a1 nb cap1] w fun e w' => e = .returned (.bool true) ∧ Below w.heap.size w w' := by
  obtain ⟨f, hf, hf1, hf2⟩ := first_false (fun i => zrt (C i) (L i) (H i) (S i) = true) n
  have hf2 : f < n → zrt (C f) (L f) (H f) (S f) = false := fun h => by simpa using hf2 h
  obtain ⟨g, hg1, hg2, hg3⟩ := first_false (fun i => zgood z nb i) (zN z)
  have hg : 4 ≤ nb → g ≤ zN z ∧ (∀ i, i < g → zgood z nb i) ∧ (g < zN z → ¬ zgood z nb g) := fun _ => ⟨hg1, hg2, hg3⟩
  have OW := Lib.hid (own_any a0 n cap C L H S (by omega) w hzo)
  have ST := Lib.hid (fun a c W hW => store_told a n c f C L H S (by omega) hf hf1 hf2 W hW)
  have LO := Lib.hid (fun W (hb : Below w.heap.size w W) => load_any nb cap1 a1 z hz (by omega) g hg W (hr.below hb))
  have AW := Lib.hid (fun W => awake25_any W)
  have HM := Lib.hid (zmany_le hg)
  have h1 : ¬ (40 : Int) < n := by omega
  have h2 : ¬ (1000 : Int) < nb := by omega
  -- what is told of the second half
  have SB := Lib.hid (show zerr z nb g = 0 → zmany z nb g = g ∧ ∀ a c W, Zones W a g (zC z) (zL z) (zH z) (zS z) W.heap.size → Calls Try.prog 15 #[.slice a g c] W fun e w' => Below W.heap.size W w' ∧ ∃ a c, e = .returned (.tuple #[.slice a nb c, .int .i64 0]) ∧ (convert 23 9 (.slice a nb c)).run Try.prog w' = .ok (.string (strOfNums ((List.range nb).map z))) w' from fun he => by
    have h4 : 4 ≤ nb := by
      rcases Nat.lt_or_ge nb 4 with h | h
      · unfold zerr at he; rw [if_pos h] at he; cases he
      · exact h
    have hgN : g = zN z := by
      rcases Nat.lt_or_ge g (zN z) with h | h
      · unfold zerr at he; rw [if_neg (by omega), if_pos h] at he; split at he <;> cases he
      · omega
    have hle : nb ≤ 4 + 26 * g := by
      rcases Nat.lt_or_ge (4 + 26 * g) nb with h | h
      · unfold zerr at he; rw [if_neg (by omega), if_neg (by omega), if_pos h] at he; cases he
      · exact h
    have hge : 4 + 26 * g ≤ nb := by
      rcases Nat.eq_zero_or_pos g with e | e
      · omega
      · have := (hg2 (g - 1) (by omega)).1; omega
    have hgl : g ≤ 100 := by omega
    refine ⟨by unfold zmany; rw [if_pos he], fun a c W hW => ?_⟩
    refine (store_told a g c g (zC z) (zL z) (zH z) (zS z) hgl (Nat.le_refl _) (fun i hi => (hg2 i hi).2) (fun h => by omega) W hW).mono ?_
    rintro e w' ⟨hb, a', c', rfl, hr', _, _⟩
    have hx : sxs g g (zC z) (zL z) (zH z) (zS z) = (List.range nb).map z := by
      unfold sxs
      rw [if_neg (by omega)]
      have := sts_back z nb hz g hge
      rw [← hgN] at this
      rw [this, show 4 + 26 * g = nb by omega]
    rw [hx] at hr' ⊢
    have hl : ((List.range nb).map z).length = nb := by simp
    rw [hl] at hr' ⊢
    refine ⟨hb, a', c', ?_, conv_list a' nb c' _ hl w' hr'⟩
    unfold ser
    rw [if_neg (by omega)])
  have CB := Lib.hid (fun W (hb : Below w.heap.size w W) => conv_any a1 nb cap1 z W (hr.below hb))
  have SA := Lib.hid (fun W (hb : Below w.heap.size w W) a c C' L' H' S' (h : Zones W a n C' L' H' S' W.heap.size) (he : ∀ i, i < n → C' i = C i ∧ L' i = L i ∧ H' i = H i ∧ S' i = S i) => same25_any a a0 n c n cap C' L' H' S' C L H S (by omega) (by omega) W h (hzo.below hb) true (decide_eq_true ⟨rfl, he⟩))
  have LB := Lib.hid (fun (h : f = n) => load_back n C L H S hn (fun i hi => hf1 i (by omega)) hbd)
  clear hzo hr hg hf1 hf2 hg1 hg2 hg3 hz hbd
  unfold StTold at ST
  generalize zC z = C2 at *
  generalize zL z = L2 at *
  generalize zH z = H2 at *
  generalize zS z = S2 at *
  obtain ⟨er, her⟩ : ∃ er, zerr z nb g = er := ⟨_, rfl⟩
  obtain ⟨m, hm⟩ : ∃ m, zmany z nb g = m := ⟨_, rfl⟩
  have ZM := Lib.hid (show er ≠ 0 → m = 0 from fun h => by rw [← hm]; unfold zmany; rw [her, if_neg h])
  rw [her, hm] at SB LO
  clear her hm HM
  have KEY : ∀ wa, Below w.heap.size w wa → True := fun _ _ => trivial
  go_enter Try.func13, Try.ntmps13
  by_cases hfn : f = n
  · have LB := Lib.hid (LB.out hfn)
    have e1 : ser n f = 0 := by unfold ser; rw [if_neg (by omega)]
    have e2 : sxs n f C L H S = sts n C L H S n := by unfold sxs; rw [if_neg (by omega)]
    rw [e1, e2, sts_length] at ST
    clear e1 e2
    by_cases h0 : er = 0
    · subst h0
      obtain ⟨hmg, hsb⟩ := SB.out rfl
      subst hmg
      have SB2 := Lib.hid hsb
      clear hsb SB
      go_wp2_with (first
        | (go_at_call 16; refine OW.out.mono ?_; rintro e w1 ⟨v, rfl, ho, hb⟩; obtain ⟨a5, c5, rfl, hz5⟩ := zones_own ho; have HZ5 := Lib.hid hz5; have HB1 := Lib.hid hb; clear ho hb hz5)
        | (go_at_call 15; refine (ST.out _ _ _ HZ5.out).mono ?_; clear ST; rintro e w2 ⟨hb, a6, c6, rfl, hr6, _, _⟩; have HR6 := Lib.hid hr6; have HB2 := Lib.hid (HB1.out.trans (hb.mono HB1.out.size)); clear hb hr6)
        | (go_at_call 18; refine (LB.out _ _ _ HR6.out).mono ?_; clear LB; rintro e w3 ⟨hb, a7, c7, C3, L3, H3, S3, rfl, hz7, he7⟩; have HZ7 := Lib.hid hz7; have HE7 := Lib.hid he7; have HB3 := Lib.hid (HB2.out.trans (hb.mono HB2.out.size)); clear hb hz7 he7)
        | (go_at_call 20; refine (SA.out _ HB3.out _ _ _ _ _ _ HZ7.out HE7.out).mono ?_; rintro e w4 ⟨rfl, hb⟩; have HB4 := Lib.hid (HB3.out.trans (hb.mono HB3.out.size)); clear hb)
        | (go_at_call 18; refine (LO.out _ HB4.out).mono ?_; rintro e w5 ⟨hb, a8, c8, rfl, hz8⟩; have HZ8 := Lib.hid hz8; have HB5 := Lib.hid (HB4.out.trans (hb.mono HB4.out.size)); clear hb hz8)
        | (go_at_call 15; refine (SB2.out _ _ _ HZ8.out).mono ?_; rintro e w6 ⟨hb, a9, c9, rfl, cv1⟩; have hb6 := HB5.out.trans (hb.mono HB5.out.size); have cv2 := CB.out w6 hb6; have HB6 := Lib.hid hb6; clear hb hb6)
        | (go_at_call 21; refine (AW.out _).mono ?_; rintro e w7 ⟨rfl, hb⟩; have HB7 := Lib.hid (HB6.out.trans (hb.mono HB6.out.size)); clear hb))
      go_ret
      exact ⟨rfl, HB7.out⟩
    · obtain rfl : m = 0 := ZM.out h0
      have h0b : (er == 0) = false := by simpa using h0
      go_wp2_with (first
        | (go_at_call 16; refine OW.out.mono ?_; rintro e w1 ⟨v, rfl, ho, hb⟩; obtain ⟨a5, c5, rfl, hz5⟩ := zones_own ho; have HZ5 := Lib.hid hz5; have HB1 := Lib.hid hb; clear ho hb hz5)
        | (go_at_call 15; refine (ST.out _ _ _ HZ5.out).mono ?_; clear ST; rintro e w2 ⟨hb, a6, c6, rfl, hr6, _, _⟩; have HR6 := Lib.hid hr6; have HB2 := Lib.hid (HB1.out.trans (hb.mono HB1.out.size)); clear hb hr6)
        | (go_at_call 18; refine (LB.out _ _ _ HR6.out).mono ?_; clear LB; rintro e w3 ⟨hb, a7, c7, C3, L3, H3, S3, rfl, hz7, he7⟩; have HZ7 := Lib.hid hz7; have HE7 := Lib.hid he7; have HB3 := Lib.hid (HB2.out.trans (hb.mono HB2.out.size)); clear hb hz7 he7)
        | (go_at_call 20; refine (SA.out _ HB3.out _ _ _ _ _ _ HZ7.out HE7.out).mono ?_; rintro e w4 ⟨rfl, hb⟩; have HB4 := Lib.hid (HB3.out.trans (hb.mono HB3.out.size)); clear hb)
        | (go_at_call 18; refine (LO.out _ HB4.out).mono ?_; rintro e w5 ⟨hb, a8, c8, rfl, hz8⟩; have HB5 := Lib.hid (HB4.out.trans (hb.mono HB4.out.size)); clear hb hz8)
        | (go_at_call 21; refine (AW.out _).mono ?_; rintro e w7 ⟨rfl, hb⟩; have HB7 := Lib.hid (HB5.out.trans (hb.mono HB5.out.size)); clear hb))
      go_ret
      exact ⟨rfl, HB7.out⟩
  · have hlt : f < n := by omega
    have e1 : ser n f = 4 := by unfold ser; rw [if_pos hlt]
    have e2 : sxs n f C L H S = [] := by unfold sxs; rw [if_pos hlt]
    rw [e1, e2] at ST
    clear e1 e2
    by_cases h0 : er = 0
    · subst h0
      obtain ⟨hmg, hsb⟩ := SB.out rfl
      subst hmg
      have SB2 := Lib.hid hsb
      clear hsb SB
      go_wp2_with (first
        | (go_at_call 16; refine OW.out.mono ?_; rintro e w1 ⟨v, rfl, ho, hb⟩; obtain ⟨a5, c5, rfl, hz5⟩ := zones_own ho; have HZ5 := Lib.hid hz5; have HB1 := Lib.hid hb; clear ho hb hz5)
        | (go_at_call 15; refine (ST.out _ _ _ HZ5.out).mono ?_; clear ST; rintro e w2 ⟨hb, a6, c6, rfl, hr6, _, _⟩; have HB4 := Lib.hid (HB1.out.trans (hb.mono HB1.out.size)); clear hb hr6)
        | (go_at_call 18; refine (LO.out _ HB4.out).mono ?_; rintro e w5 ⟨hb, a8, c8, rfl, hz8⟩; have HZ8 := Lib.hid hz8; have HB5 := Lib.hid (HB4.out.trans (hb.mono HB4.out.size)); clear hb hz8)
        | (go_at_call 15; refine (SB2.out _ _ _ HZ8.out).mono ?_; rintro e w6 ⟨hb, a9, c9, rfl, cv1⟩; have hb6 := HB5.out.trans (hb.mono HB5.out.size); have cv2 := CB.out w6 hb6; have HB6 := Lib.hid hb6; clear hb hb6)
        | (go_at_call 21; refine (AW.out _).mono ?_; rintro e w7 ⟨rfl, hb⟩; have HB7 := Lib.hid (HB6.out.trans (hb.mono HB6.out.size)); clear hb))
      go_ret
      exact ⟨rfl, HB7.out⟩
    · obtain rfl : m = 0 := ZM.out h0
      have h0b : (er == 0) = false := by simpa using h0
      go_wp2_with (first
        | (go_at_call 16; refine OW.out.mono ?_; rintro e w1 ⟨v, rfl, ho, hb⟩; obtain ⟨a5, c5, rfl, hz5⟩ := zones_own ho; have HZ5 := Lib.hid hz5; have HB1 := Lib.hid hb; clear ho hb hz5)
        | (go_at_call 15; refine (ST.out _ _ _ HZ5.out).mono ?_; clear ST; rintro e w2 ⟨hb, a6, c6, rfl, hr6, _, _⟩; have HB4 := Lib.hid (HB1.out.trans (hb.mono HB1.out.size)); clear hb hr6)
        | (go_at_call 18; refine (LO.out _ HB4.out).mono ?_; rintro e w5 ⟨hb, a8, c8, rfl, hz8⟩; have HB5 := Lib.hid (HB4.out.trans (hb.mono HB4.out.size)); clear hb hz8)
        | (go_at_call 21; refine (AW.out _).mono ?_; rintro e w7 ⟨rfl, hb⟩; have HB7 := Lib.hid (HB5.out.trans (hb.mono HB5.out.size)); clear hb))
      go_ret
      exact ⟨rfl, HB7.out⟩
theorem walk (a : Option Addr) (n cap : Nat) (C L H S : Nat → Int) (a2 : Option Addr) (m cap2 : Nat) (ys : List Int) (W : World) (b : IsQuads W a n cap C L H S) (d : IsRow .u8 W a2 m cap2 ys) :
    Calls Try.prog 13 #[.slice a n cap, .slice a2 m cap2] W fun e w' => e = .returned (.bool true) ∧ Below W.heap.size W w' := by
  obtain ⟨b1, b2, b3, b4⟩ := b
  by_cases hl : 40 < n ∨ 1000 < m
  · exact long a a2 n cap m cap2 W hl
  have hzo : Zones W a n C L H S W.heap.size := by
    rcases b3 with b3 | ⟨b, off, rfl, hb, hc⟩
    · exact .inl (by omega)
    · exact .inr ⟨b, off, rfl, hb, fun i hi => hc i (by omega)⟩
  obtain ⟨d1, d2, d3, d4, d5⟩ := d
  have hr2 : RowOf W a2 m (fun i => .int .u8 (ys.getD i 0)) := by
    rcases d5 with d5 | ⟨b, off, rfl, hb, hc⟩
    · exact .inl (by omega)
    · exact .inr ⟨b, off, rfl, fun i hi => hc i (by omega)⟩
  exact main a a2 n cap m cap2 C L H S (fun i => ys.getD i 0) (by omega) (fun i hi => (b4 i (by omega)).2) (by omega) (fun i hi => by
    have := bounds_u8 (d4 (ys.getD i 0) (by rw [List.getD_eq_getElem?_getD, List.getElem?_eq_getElem (by omega)]; simp))
    omega) W hzo hr2
theorem own : ownKnob Try.prog.godebug = none := by kernel_rfl
set_option maxRecDepth 100000 in
theorem contract (H : Type) (enc : TypeId × Value → H) (W : World) (base : Nat) (args : Array Value) (ds gs : List (DataW H)) (before : List MemPlace)
    (hval : ∀ (j : Nat) t v, Try.f13.params[j]? = some t → args[j]? = some v → Value.okWide Try.prog W .any base t v)
    (hW : DataW.Whole enc Try.prog Try.f13.params.toList Rows.zoneBackSpec.vars false W args.toList ds gs before) :
    Calls Try.prog 13 args W fun e W' => ∃ v, e = .returned v ∧ Rows.zoneBackSpec.post enc Try.prog Try.f13 false true false false W args v W' := by
  have hW' := hW
  obtain ⟨p, q, hA0, hV, rfl, hfz, hnd⟩ := hW
  have hA : DataW.TrodAll enc Try.prog W 0 (fun _ => true) true Try.f13.params.toList args.toList ds p := hA0
  rw [Try.params13] at hA hval
  obtain ⟨v0, vs0, d0, ds0, p0, q0, hargs, rfl, rfl, h0, r0⟩ := trodAll_cons hA
  obtain ⟨v1, vs1, d1, ds1, p1, q1, rfl, rfl, rfl, h1, r1⟩ := trodAll_cons r0
  obtain ⟨rfl, rfl, rfl⟩ := trodAll_nil r1
  obtain rfl : args = #[v0, v1] := by cases args; simp_all
  obtain ⟨rfl, rfl⟩ := trodVars_none hV
  have hWhole := hW'
  obtain ⟨a0, len0, cap0, rfl⟩ := okWide_slice Try.underlying22 (hval 0 22 v0 rfl rfl)
  have k0 := h0
  have lt0 : ∀ x ∈ p0, x.block < W.heap.size := by obtain ⟨m, hm⟩ := k0; exact DataW.trod_lt m _ _ _ hm
  obtain ⟨fuel0, hf0⟩ := h0
  obtain ⟨y0a, y0b, y0c, y0d, b0⟩ := isQuads_of Try.underlying22 Try.underlying43 (by kernel_rfl) rfl rfl rfl rfl (by kernel_rfl) (by kernel_rfl) (by kernel_rfl) (by kernel_rfl) Try.underlying3 Try.underlying2 Try.underlying2 Try.underlying2 hf0
  obtain ⟨a1, len1, cap1, rfl⟩ := okWide_slice Try.underlying23 (hval 1 23 v1 rfl rfl)
  have k1 := h1
  have lt1 : ∀ x ∈ p1, x.block < W.heap.size := by obtain ⟨m, hm⟩ := k1; exact DataW.trod_lt m _ _ _ hm
  obtain ⟨z1, b1⟩ : ∃ zs, IsRow .u8 W a1 len1 cap1 zs := by
    obtain ⟨fuel, hf⟩ := h1
    rcases open_ints Try.underlying23 Try.underlying5 (by kernel_rfl) hf with ⟨hcs, _⟩ | ⟨x, l, c, zs, hcs, _, hl, hm, hz, _, hcell, hwz⟩
    · simp [Value.cells] at hcs
      obtain ⟨rfl, rfl, rfl⟩ := hcs
      exact ⟨[], isRow_nil _ _⟩
    · simp [Value.cells] at hcs
      obtain ⟨rfl, rfl, rfl⟩ := hcs
      exact ⟨zs, isRow_of hl hm (by simpa using hz) hcell hwz⟩
  clear hA0
  refine (walk a0 len0 cap0 y0a y0b y0c y0d a1 len1 cap1 z1 W b0 b1).mono fun e W' ⟨he, hg⟩ => ?_
  subst he
  exact ⟨_, rfl, _, _, _, [], _, [], hW', trodAll_mk1 (shut_bool Try.underlying4 _), (trodAll_cons_mk (Below.trod laidOut (by kernel_rfl) (of_decide_eq_true (by kernel_rfl)) k0 hg lt0) (trodAll_cons_mk (Below.trod laidOut (by kernel_rfl) (of_decide_eq_true (by kernel_rfl)) k1 hg lt1) trodAll_mk0)), rfl, hg.frame _, fun h => by cases h⟩

set_option maxRecDepth 100000 in
theorem lifted (os : Os) (started : os.Started) (H : Type) (enc : TypeId × Value → H) :
    ReturnsInHanded {} Try.checked os 13 .any (Rows.zoneBackSpec.pre6 enc Try.prog Try.f13 Rows.zoneBackRow.domain false) (Rows.zoneBackSpec.post enc Try.prog Try.f13 false true false false) := by
  refine returnsInHanded_of_change (C := Try.checked) own started (by kernel_rfl) Try.func13
    (ChangeSpec.witness6 (enc := enc) (C := Try.checked) false ⟨#[], #[.slice none 0 0, .slice none 0 0], []⟩ 8 (by kernel_rfl) (by kernel_rfl) (by kernel_rfl) (by kernel_rfl)) ?_
  intro W base args ds gs before hval hW _ _
  exact contract H enc W base args ds gs before hval hW

/-- ████ THE STATEMENT ████ -/
theorem proved : Rows.ZoneBackSaid :=
  OpenClaim.holds_of_wide 13 Try.f13 rfl rfl rfl rfl rfl rfl rfl ⟨rfl, rfl, rfl, rfl, rfl⟩ rfl rfl rfl rfl rfl (by kernel_rfl) Try.func13 (by kernel_rfl)
    (of_decide_eq_true (by kernel_rfl)) (by unfold Func.isWrapper; first | (rw [if_pos (by decide +kernel)]; kernel_rfl) | (rw [if_neg (by decide +kernel)]; exact ⟨rfl, rfl⟩))
    (fun os started H enc _ => lifted os started H enc)
end Go.Proofs.Ytgclhblglohjpaa.zoneBack
