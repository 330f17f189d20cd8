/-
  THE STATEMENT corduroylaw10.HybridApart: for any two rows of numbers and any bytes the call returns true and leaves its arguments as they were. No condition.
-/
import Derived.Test.YthonjffojaljdaaHybZ
import Derived.Test.YthonjffojaljdaaText
import Derived.Test.YthonjffojaljdaaIsRow
import Derived.Deep.CutRange
namespace Go.Proofs.Ythonjffojaljdaa.hybridApart
open Go.ChangeShapes Go.WideShapes Go.ChangeAt Go.RowKit
set_option linter.unusedVariables false
theorem wpAnyH_pass {P : Program} {ops : Array Oper} {Q : Exit → Act → World → Prop} {md : Region.Mode} {S : World → Prop} {fuel : Nat} {listed : Array Bool} {a : Act} {w : World} {i : Nat} {o : Oper} (ho : ops[i]? = some o)
    (hr : Region.ready md ops listed = [i]) (hw : Region.wanted o (yielded ops a.tmps) = false) (hS : S w)
    (h : wpAnyH P md ops Q S fuel (listed.setIfInBounds i true) (a.put o.dst undef) w) : wpAnyH P md ops Q S (fuel + 1) listed a w :=
  wpAnyH_ready hr (by simp) (AllReadyH.cons ho (fun K hK => by rw [if_neg (by simp [hw])]; exact hK.out _ _ hS (fun _ => h)) AllReadyH.nil)
theorem long (a a2 a3 : Option Addr) (n cap m cap2 nb cap3 : Nat) (hl : 300 < n ∨ 300 < m ∨ 3000 < nb) (W : World) :
    Calls Try.prog 7 #[.slice a n cap, .slice a2 m cap2, .slice a3 nb cap3] W fun e w' => e = .returned (.bool true) ∧ Below W.heap.size W w' := by
  by_cases h : 300 < n
  · have h1 : (300 : Int) < n := by omega
    clear hl
    go_enter Try.func7, Try.ntmps7
    go_wp2
    go_ret
    exact ⟨rfl, Below.refl _ _⟩
  by_cases h' : 300 < m
  · have h1 : ¬ (300 : Int) < n := by omega
    have h2 : (300 : Int) < m := by omega
    clear hl
    go_enter Try.func7, Try.ntmps7
    go_wp2
    go_ret
    exact ⟨rfl, Below.refl _ _⟩
  · have h1 : ¬ (300 : Int) < n := by omega
    have h2 : ¬ (300 : Int) < m := by omega
    have h3 : (3000 : Int) < nb := by omega
    clear hl
    go_enter Try.func7, Try.ntmps7
    go_wp2
    go_ret
    exact ⟨rfl, Below.refl _ _⟩
theorem pkF_congr (z y : Nat → Nat) (m : Nat) (h : ∀ i, i < m → z i = y i) : ∀ k t, pkF z m t k = pkF y m t k
  | 0, t => rfl
  | k + 1, t => by
    unfold pkF
    by_cases c : t < m
    · rw [al_congr (fun i => z (t + i)) (fun i => y (t + i)) (m - t) (fun i hi => h _ (by omega)), pkF_congr z y m h k]
    · rw [if_neg (fun x => c x.1), if_neg (fun x => c x.1)]
theorem fst1_congr (z y : Nat → Nat) (m : Nat) (h : ∀ i, i < m → z i = y i) : fst1 z m = fst1 y m := by
  unfold fst1
  rw [al_congr z y m h, pkF_congr z y m h]
theorem runsF_congr (z y : Nat → Nat) (n : Nat) (h : ∀ i, i < n → z i = y i) : ∀ k p, runsF z n p k = runsF y n p k
  | 0, p => rfl
  | k + 1, p => by
    unfold runsF
    by_cases c : p < n
    · rw [if_pos c, if_pos c, fst1_congr (fun i => z (p + i)) (fun i => y (p + i)) (n - p) (fun i hi => h _ (by omega)), runsF_congr z y n h k]
    · rw [if_neg c, if_neg c]
theorem packN_alike (k : Nat) (l r : Nat → Nat) : ∀ n, (∀ i, i < n → l i = r i) → packN k l n = packN k r n
  | 0, _ => rfl
  | n + 1, h => by simp only [packN]; rw [packN_alike k l r n (fun i hi => h i (by omega)), h n (by omega)]
theorem hB_congr (z y : Nat → Nat) (n q : Nat) (h : ∀ i, i < n → z i = y i) : ∀ (l : List (Bool × Nat × Nat)) (p : Nat), (∀ r, r ∈ l → clr z n r = r ∧ clr y n r = r) → Chain z n p l → hB z n q l = hB y n q l
  | [], p, _, _ => rfl
  | r :: l, p, hc, hch => by
    obtain ⟨hp, hr, hch2⟩ := hch
    obtain ⟨c1, c2⟩ := hc r List.mem_cons_self
    rw [hB, hB, c1, c2, hB_congr z y n q h l _ (fun x hx => hc x (List.mem_cons_of_mem _ hx)) hch2]
    congr 2
    have h1 := hr.1
    have h2 := hr.2.1
    unfold bd1
    split
    · rw [h r.2.1 (by omega)]
    · rw [packN_alike q (full z r) (full y r) _ (fun i hi => by
        unfold full
        by_cases c : i < r.2.2
        · rw [if_pos c, if_pos c, h _ (by omega)]
        · rw [if_neg c, if_neg c])]
theorem most_alike (l m : Nat → Nat) : ∀ n, (∀ i, i < n → l i = m i) → most l n = most m n
  | 0, _ => rfl
  | n + 1, h => by simp only [most]; rw [most_alike l m n (fun i hi => h i (by omega)), h n (by omega)]
theorem hfm_congr (x y : Nat → Int) (n : Nat) (h : ∀ i, i < n → x i = y i) : hfm x n = hfm y n := by
  have hz' : ∀ i, i < n → hz x i = hz y i := fun i hi => by unfold hz; rw [h i hi]
  have hq' : hq x n = hq y n := most_alike (hz x) (hz y) n hz'
  have hr : runsN (hz x) n = runsN (hz y) n := runsF_congr (hz x) (hz y) n hz' n 0
  have hch := runsF_chain (hz x) n n 0 (by omega) (by omega)
  unfold hfm
  rw [hq', hB_congr (hz x) (hz y) n (hq y n) hz' (runsN (hz x) n) 0 (fun r h => ⟨clr_eq _ _ _ h, clr_eq _ _ _ (hr ▸ h)⟩) hch.1, hr]
theorem hfm_text (x y : Nat → Int) (n : Nat) (hn1 : 1 ≤ n) (hn : n ≤ 1024) (hx : ∀ i, i < n → -9223372036854775808 ≤ x i ∧ x i ≤ 9223372036854775807) (hy : ∀ i, i < n → -9223372036854775808 ≤ y i ∧ y i ≤ 9223372036854775807) :
    ((strOfNums (hfm x n)).toList == (strOfNums (hfm y n)).toList) = decide (n = n ∧ ∀ i, i < n → x i = y i) := by
  have hm : ∀ w : Nat → Int, ∀ b ∈ hfm w n, 0 ≤ b ∧ b ≤ 255 := fun w b hb => by
    obtain ⟨i, hi, rfl⟩ := List.getElem_of_mem hb
    have := hfm_byte w n hn i hi
    rw [List.getD_eq_getElem?_getD, List.getElem?_eq_getElem hi] at this
    exact this
  rw [str_beq _ _ (hm x) (hm y)]
  congr 1
  apply propext
  refine ⟨fun h => ⟨rfl, fun i hi => ?_⟩, fun ⟨_, h2⟩ => hfm_congr x y n h2⟩
  have hl : hln x n = hln y n := congrArg List.length h
  have h1 := hres_told x n (fun i => (hfm x n).getD i 0) (hln x n) hn1 hn hx (Nat.le_refl _) (fun i hi => rfl)
  have h2 := hres_told y n (fun i => (hfm x n).getD i 0) (hln x n) hn1 hn hy (by omega) (fun i hi => by rw [h])
  rw [h1] at h2
  have h3 := congrArg (fun l : List Int => l[i]?) (congrArg (fun p => p.2.2) h2)
  simpa [hi] using h3
theorem zag_bd {v : Int} (h0 : 0 ≤ v) (h1 : v ≤ 18446744073709551615) : -9223372036854775808 ≤ zag v ∧ zag v ≤ 9223372036854775807 := by unfold zag; split <;> omega
theorem hres_bd (z : Nat → Int) (nb n : Nat) : ∀ y ∈ (hres z nb n).2.2, -9223372036854775808 ≤ y ∧ y ≤ 9223372036854775807 := by
  intro y hy
  unfold hres at hy
  by_cases h0 : nb = 0
  · rw [if_pos h0] at hy; cases hy
  · rw [if_neg h0] at hy
    by_cases h6 : 64 < (z 0).toNat
    · rw [if_pos h6] at hy; cases hy
    · rw [if_neg h6] at hy
      obtain ⟨v, hv, rfl⟩ := List.mem_map.1 hy
      have h1 := hrun_lt n v hv
      have := pow_le64 (show (z 0).toNat ≤ 64 by omega)
      exact zag_bd (by omega) (by omega)
theorem hres_length (z : Nat → Int) (nb n : Nat) (h : (hres z nb n).1 = 0) : (hres z nb n).2.2.length = n := by
  unfold hres at h ⊢
  by_cases h0 : nb = 0
  · rw [if_pos h0] at h; cases h
  · rw [if_neg h0] at h ⊢
    by_cases h6 : 64 < (z 0).toNat
    · rw [if_pos h6] at h; cases h
    · rw [if_neg h6] at h ⊢
      have := hrun_len (z := z) (nb := nb) (n := n) (q := (z 0).toNat) (p0 := 1) (by omega) n
      have h2 := this.2.2 h
      show (List.map _ _).length = n
      rw [List.length_map]
      omega
/-- Encode of any block, or of none. -/
theorem enc_any (a : Option Addr) (n cap : Nat) (x : Nat → Int) (hx : ∀ i, i < n → -9223372036854775808 ≤ x i ∧ x i ≤ 9223372036854775807) (w : World) (h : RowOf w a n (fun i => .int .i64 (x i))) :
    Calls Try.prog 23 #[.agg #[], .slice a n cap] w fun e w' => ∃ a k c f, e = .returned (.tuple #[.slice a k c, .int .i64 f]) ∧ Below w.heap.size w w' ∧
      ((blk n = true ∧ f = 0 ∧ k = hln x n ∧ RowOf w' a (hln x n) (fun i => .int .u8 ((hfm x n).getD i 0))) ∨ (blk n = false ∧ f = 7)) := by
  cases hb : blk n
  · exact (hencode_out a n cap hb w).mono fun e w' ⟨he, hb⟩ => ⟨none, 0, 0, 7, he, hb, .inr ⟨rfl, rfl⟩⟩
  · exact (hencode_in a n cap x hx hb w h).mono fun e w' ⟨v, he, ho, hb⟩ => by
      obtain ⟨a3, c3, rfl, hr, _⟩ := own_bytes ho
      exact ⟨a3, _, c3, 0, he, hb, .inl ⟨rfl, rfl, rfl, hr⟩⟩
theorem redecode (n : Nat) (x : Nat → Int) (hb : blk n = true) (hx : ∀ i, i < n → -9223372036854775808 ≤ x i ∧ x i ≤ 9223372036854775807) (W : World) (a1 : Option Addr) (c1 : Nat) (hr : RowOf W a1 (hln x n) (fun i => .int .u8 ((hfm x n).getD i 0))) :
    Calls Try.prog 15 #[.agg #[], .slice a1 (hln x n) c1, .int .i64 n] W fun e w' => ∃ a2 c2, e = .returned (.tuple #[.slice a2 n c2, .int .i64 0]) ∧ RowOf w' a2 n (fun i => .int .i64 (x i)) ∧ Below W.heap.size W w' := by
  have hn : 1 ≤ n ∧ n ≤ 1024 := by have := of_decide_eq_true hb; omega
  have hzl := hln_bd x n hn.2
  have hrun := hres_told x n (fun i => (hfm x n).getD i 0) (hln x n) hn.1 hn.2 hx (Nat.le_refl _) (fun i hi => rfl)
  have hp : herr (fun i => (hfm x n).getD i 0) n (hln x n) = 0 := by unfold herr rerr; rw [hrun]; simp
  have hq : hnums (fun i => (hfm x n).getD i 0) n (hln x n) = (List.range n).map x := by unfold hnums rnums; rw [if_pos (show rerr _ _ _ = 0 from hp), hrun]
  have := hdecode_in a1 (hln x n) c1 n (fun i => (hfm x n).getD i 0) (fun i hi => hfm_byte x n hn.2 i hi) (by omega) hb W hr
  rw [hp, hq] at this
  refine this.mono fun e w' ⟨a2, c2, he, hr2, hb2⟩ => ⟨a2, c2, by rw [he]; simp, ?_, hb2⟩
  have h3 : ((List.range n).map x).length = n := by simp
  rw [h3] at hr2
  exact hr2.congr fun i hi => by simp [hi]
set_option maxRecDepth 100000 in
set_option maxHeartbeats 4000000 in
theorem main (a a2 a3 : Option Addr) (n cap m cap2 nb cap3 : Nat) (x y z : Nat → Int) (hn : n ≤ 300) (hm : m ≤ 300) (hnb : nb ≤ 3000) (hx : ∀ i, i < n → -9223372036854775808 ≤ x i ∧ x i ≤ 9223372036854775807) (hy : ∀ i, i < m → -9223372036854775808 ≤ y i ∧ y i ≤ 9223372036854775807) (hz : ∀ i, i < nb → 0 ≤ z i ∧ z i ≤ 255)
    (W : World) (h : RowOf W a n (fun i => .int .i64 (x i))) (h2 : RowOf W a2 m (fun i => .int .i64 (y i))) (h3 : RowOf W a3 nb (fun i => .int .u8 (z i))) :
    Calls Try.prog 7 #[.slice a n cap, .slice a2 m cap2, .slice a3 nb cap3] W fun e w' => e = .returned (.bool true) ∧ Below W.heap.size W w' := by
  have n1 : ¬ (300 : Int) < n := by omega
  have n2 : ¬ (300 : Int) < m := by omega
  have n3 : ¬ (3000 : Int) < nb := by omega
  obtain ⟨s, hs⟩ : ∃ s, W.heap.size = s := ⟨_, rfl⟩
  rw [hs]
  have E1 := Lib.hid (fun W1 (hb : Below s W W1) => enc_any a n cap x hx W1 (h.below (by rw [hs]; exact hb)))
  have E2 := Lib.hid (fun W1 (hb : Below s W W1) => enc_any a2 m cap2 y hy W1 (h2.below (by rw [hs]; exact hb)))
  have HX := Lib.hid hx
  have HY := Lib.hid hy
  have HZ := Lib.hid hz
  have H1 := Lib.hid h
  have H2 := Lib.hid h2
  have H3 := Lib.hid h3
  have HS := Lib.hid hs
  have B0 := Lib.hid (show Below s W (W.alloc (.cells #[] 25)) from by rw [← hs]; exact (Below.refl _ W).alloc (Nat.le_refl _) _)
  clear hx hy hz h h2 h3 hs
  go_enter Try.func7, Try.ntmps7
  go_wp2_with fail
  refine (E1.out _ B0.out).mono ?_
  rintro e w1 ⟨a4, k4, c4, f4, rfl, hb1, hq1⟩
  have B1 := Lib.hid (B0.out.trans (hb1.mono (by have := B0.out.size; have := HS.out; omega)))
  have HQ1 := Lib.hid hq1
  clear hb1 hq1
  go_wp2_with fail
  refine (E2.out _ B1.out).mono ?_
  rintro e w2 ⟨a5, k5, c5, f5, rfl, hb2, hq2⟩
  have B2 := Lib.hid (B1.out.trans (hb2.mono (by have := B1.out.size; have := HS.out; omega)))
  have HB2 := Lib.hid hb2
  have HQ2 := Lib.hid hq2
  clear hb2 hq2
  go_upto_region 6 with fail
  go_cut [6, 67] from 8 to 126 (fun s6 s67 wx => s6 = .bool false ∧ s67 = .bool false ∧ Below s W wx)
  case first =>
    have P0 := Lib.hid (show Below s W w2.drew from ⟨B2.out.os, B2.out.tape, B2.out.output, B2.out.size, B2.out.block⟩)
    rcases HQ1.out with ⟨g1, rfl, rfl, r1⟩ | ⟨g1, rfl⟩
    · rcases HQ2.out with ⟨g2, rfl, rfl, r2⟩ | ⟨g2, rfl⟩
      · by_cases hnm : n = m
        · subst hnm
          have HALL := Lib.hid (fun w' (hb : Below w2.heap.size w2 w') => (show (convert 26 9 (.slice a4 (hln x n) c4)).run Try.prog w' = .ok (.string (strOfNums (hfm x n))) w' ∧ (convert 26 9 (.slice a5 (hln y n) c5)).run Try.prog w' = .ok (.string (strOfNums (hfm y n))) w' from ⟨conv_list a4 (hln x n) c4 _ rfl w' ((r1.below HB2.out).below hb), conv_list a5 (hln y n) c5 _ rfl w' (r2.below hb)⟩))
          have hst := hfm_text x y n (by have := of_decide_eq_true g1; omega) (by omega) HX.out HY.out
          have SM := Lib.hid (samei a a2 n n cap cap2 x y (by omega) w2.drew ((H1.out.below (by rw [HS.out]; exact B2.out)).drew) ((H2.out.below (by rw [HS.out]; exact B2.out)).drew) (decide (n = n ∧ ∀ i, i < n → x i = y i)) rfl)
          have P2 := Lib.hid (((Below.refl w2.heap.size w2)).drew)
          clear r1 r2
          generalize decide (n = n ∧ ∀ i, i < n → x i = y i) = t at *
          generalize strOfNums (hfm x n) = X at *
          generalize strOfNums (hfm y n) = Y at *
          have htt : (t != t) = false := by simp
          refine wp_region_held_drew (S := (fun w' => (convert 26 9 (.slice a4 (hln x n) c4)).run Try.prog w' = .ok (.string X) w' ∧ (convert 26 9 (.slice a5 (hln y n) c5)).run Try.prog w' = .ok (.string Y) w')) (by kernel_rfl) (HALL.out _ P2.out) (fun hHeld => ?_)
          refine wpAnyH_take (i := 0) (oi := ?oix73) (v := ?vx73) ?hix73 ?hsx73 ?hfx73 ?hrx73 ?hQx73 ?hyx73 ?hSx73 ?hx73
          case hix73 =>
            simp only [List.getElem?_toArray, List.getElem?_cons_zero]
            rfl
          case hsx73 => kernel_rfl
          case hfx73 => kernel_rfl
          case hrx73 => kernel_rfl
          case hyx73 =>
            refine Or.inl ⟨by rfl, ?_⟩
            intro w hSw
            (try dsimp only at hSw)
            go_simp
            try with_reducible rfl
          case hQx73 => exact fun _ _ _ h => h
          case hSx73 => assumption
          try simp only [Act.put, List.setIfInBounds_toArray, List.set_cons_zero, List.set_cons_succ]
          refine wpAnyH_take (i := 1) (oi := ?oix74) (v := ?vx74) ?hix74 ?hsx74 ?hfx74 ?hrx74 ?hQx74 ?hyx74 ?hSx74 ?hx74
          case hix74 =>
            simp only [List.getElem?_toArray, List.getElem?_cons_succ, List.getElem?_cons_zero]
            rfl
          case hsx74 => kernel_rfl
          case hfx74 => kernel_rfl
          case hrx74 => kernel_rfl
          case hyx74 =>
            refine Or.inl ⟨by rfl, ?_⟩
            intro w hSw
            (try dsimp only at hSw)
            go_simp
            try with_reducible rfl
          case hQx74 => exact fun _ _ _ h => h
          case hSx74 => assumption
          try simp only [Act.put, List.setIfInBounds_toArray, List.set_cons_zero, List.set_cons_succ]
          refine wpAnyH_take (i := 2) (oi := ?oix75) (v := ?vx75) ?hix75 ?hsx75 ?hfx75 ?hrx75 ?hQx75 ?hyx75 ?hSx75 ?hx75
          case hix75 =>
            simp only [List.getElem?_toArray, List.getElem?_cons_succ, List.getElem?_cons_zero]
            rfl
          case hsx75 => kernel_rfl
          case hfx75 => kernel_rfl
          case hrx75 => kernel_rfl
          case hyx75 =>
            refine Or.inl ⟨by rfl, ?_⟩
            intro w hSw
            (try dsimp only at hSw)
            go_simp
            try with_reducible rfl
          case hQx75 => exact fun _ _ _ h => h
          case hSx75 => assumption
          try simp only [Act.put, List.setIfInBounds_toArray, List.set_cons_zero, List.set_cons_succ]
          refine wpAnyH_take (i := 3) (oi := ?oix76) (v := ?vx76) ?hix76 ?hsx76 ?hfx76 ?hrx76 ?hQx76 ?hyx76 ?hSx76 ?hx76
          case hix76 =>
            simp only [List.getElem?_toArray, List.getElem?_cons_succ, List.getElem?_cons_zero]
            rfl
          case hsx76 => kernel_rfl
          case hfx76 => kernel_rfl
          case hrx76 => kernel_rfl
          case hyx76 =>
            refine Or.inl ⟨by rfl, ?_⟩
            intro w hSw
            (try dsimp only at hSw)
            go_simp
            try with_reducible rfl
          case hQx76 => exact fun _ _ _ h => h
          case hSx76 => assumption
          try simp only [Act.put, List.setIfInBounds_toArray, List.set_cons_zero, List.set_cons_succ]
          refine wpAnyH_take (i := 4) (oi := ?oix77) (v := ?vx77) ?hix77 ?hsx77 ?hfx77 ?hrx77 ?hQx77 ?hyx77 ?hSx77 ?hx77
          case hix77 =>
            simp only [List.getElem?_toArray, List.getElem?_cons_succ, List.getElem?_cons_zero]
            rfl
          case hsx77 => kernel_rfl
          case hfx77 => kernel_rfl
          case hrx77 => kernel_rfl
          case hyx77 =>
            refine Or.inl ⟨by rfl, ?_⟩
            intro w hSw
            (try dsimp only at hSw)
            go_simp
            try with_reducible rfl
          case hQx77 => exact fun _ _ _ h => h
          case hSx77 => assumption
          try simp only [Act.put, List.setIfInBounds_toArray, List.set_cons_zero, List.set_cons_succ]
          refine wpAnyH_take (i := 5) (oi := ?oix78) (v := ?vx78) ?hix78 ?hsx78 ?hfx78 ?hrx78 ?hQx78 ?hyx78 ?hSx78 ?hx78
          case hix78 =>
            simp only [List.getElem?_toArray, List.getElem?_cons_succ, List.getElem?_cons_zero]
            rfl
          case hsx78 => kernel_rfl
          case hfx78 => kernel_rfl
          case hrx78 => kernel_rfl
          case hyx78 =>
            refine Or.inl ⟨by rfl, ?_⟩
            intro w hSw
            (try dsimp only at hSw)
            go_simp
            try with_reducible rfl
          case hQx78 => exact fun _ _ _ h => h
          case hSx78 => assumption
          try simp only [Act.put, List.setIfInBounds_toArray, List.set_cons_zero, List.set_cons_succ]
          refine wpAnyH_take (i := 6) (oi := ?oix79) (v := ?vx79) ?hix79 ?hsx79 ?hfx79 ?hrx79 ?hQx79 ?hyx79 ?hSx79 ?hx79
          case hix79 =>
            simp only [List.getElem?_toArray, List.getElem?_cons_succ, List.getElem?_cons_zero]
            rfl
          case hsx79 => kernel_rfl
          case hfx79 => kernel_rfl
          case hrx79 => kernel_rfl
          case hyx79 =>
            refine Or.inl ⟨by rfl, ?_⟩
            intro w hSw
            (try dsimp only at hSw)
            go_simp
            try with_reducible rfl
          case hQx79 => exact fun _ _ _ h => h
          case hSx79 => assumption
          try simp only [Act.put, List.setIfInBounds_toArray, List.set_cons_zero, List.set_cons_succ]
          refine wpAnyH_take (i := 7) (oi := ?oix80) (v := ?vx80) ?hix80 ?hsx80 ?hfx80 ?hrx80 ?hQx80 ?hyx80 ?hSx80 ?hx80
          case hix80 =>
            simp only [List.getElem?_toArray, List.getElem?_cons_succ, List.getElem?_cons_zero]
            rfl
          case hsx80 => kernel_rfl
          case hfx80 => kernel_rfl
          case hrx80 => kernel_rfl
          case hyx80 =>
            refine Or.inl ⟨by rfl, ?_⟩
            intro w hSw
            (try dsimp only at hSw)
            go_simp
            try with_reducible rfl
          case hQx80 => exact fun _ _ _ h => h
          case hSx80 => assumption
          try simp only [Act.put, List.setIfInBounds_toArray, List.set_cons_zero, List.set_cons_succ]
          refine wpAnyH_take (i := 8) (oi := ?oix81) (v := ?vx81) ?hix81 ?hsx81 ?hfx81 ?hrx81 ?hQx81 ?hyx81 ?hSx81 ?hx81
          case hix81 =>
            simp only [List.getElem?_toArray, List.getElem?_cons_succ, List.getElem?_cons_zero]
            rfl
          case hsx81 => kernel_rfl
          case hfx81 => kernel_rfl
          case hrx81 => kernel_rfl
          case hyx81 =>
            refine Or.inl ⟨by rfl, ?_⟩
            intro w hSw
            (try dsimp only at hSw)
            go_simp
            try with_reducible rfl
          case hQx81 => exact fun _ _ _ h => h
          case hSx81 => assumption
          try simp only [Act.put, List.setIfInBounds_toArray, List.set_cons_zero, List.set_cons_succ]
          refine wpAnyH_take (i := 9) (oi := ?oix82) (v := ?vx82) ?hix82 ?hsx82 ?hfx82 ?hrx82 ?hQx82 ?hyx82 ?hSx82 ?hx82
          case hix82 =>
            simp only [List.getElem?_toArray, List.getElem?_cons_succ, List.getElem?_cons_zero]
            rfl
          case hsx82 => kernel_rfl
          case hfx82 => kernel_rfl
          case hrx82 => kernel_rfl
          case hyx82 =>
            refine Or.inl ⟨by rfl, ?_⟩
            intro w hSw
            (try dsimp only at hSw)
            go_simp
            try with_reducible rfl
          case hQx82 => exact fun _ _ _ h => h
          case hSx82 => assumption
          try simp only [Act.put, List.setIfInBounds_toArray, List.set_cons_zero, List.set_cons_succ]
          refine wpAnyH_take (i := 10) (oi := ?oix83) (v := ?vx83) ?hix83 ?hsx83 ?hfx83 ?hrx83 ?hQx83 ?hyx83 ?hSx83 ?hx83
          case hix83 =>
            simp only [List.getElem?_toArray, List.getElem?_cons_succ, List.getElem?_cons_zero]
            rfl
          case hsx83 => kernel_rfl
          case hfx83 => kernel_rfl
          case hrx83 => kernel_rfl
          case hyx83 =>
            refine Or.inl ⟨by rfl, ?_⟩
            intro w hSw
            (try dsimp only at hSw)
            go_simp
            try with_reducible rfl
          case hQx83 => exact fun _ _ _ h => h
          case hSx83 => assumption
          try simp only [Act.put, List.setIfInBounds_toArray, List.set_cons_zero, List.set_cons_succ]
          refine wpAnyH_take (i := 11) (oi := ?oix84) (v := ?vx84) ?hix84 ?hsx84 ?hfx84 ?hrx84 ?hQx84 ?hyx84 ?hSx84 ?hx84
          case hix84 =>
            simp only [List.getElem?_toArray, List.getElem?_cons_succ, List.getElem?_cons_zero]
            rfl
          case hsx84 => kernel_rfl
          case hfx84 => kernel_rfl
          case hrx84 => kernel_rfl
          case hyx84 =>
            refine Or.inl ⟨by rfl, ?_⟩
            intro w hSw
            (try dsimp only at hSw)
            go_simp
            try with_reducible rfl
          case hQx84 => exact fun _ _ _ h => h
          case hSx84 => assumption
          try simp only [Act.put, List.setIfInBounds_toArray, List.set_cons_zero, List.set_cons_succ]
          refine wpAnyH_take (i := 12) (oi := ?oix85) (v := ?vx85) ?hix85 ?hsx85 ?hfx85 ?hrx85 ?hQx85 ?hyx85 ?hSx85 ?hx85
          case hix85 =>
            simp only [List.getElem?_toArray, List.getElem?_cons_succ, List.getElem?_cons_zero]
            rfl
          case hsx85 => kernel_rfl
          case hfx85 => kernel_rfl
          case hrx85 => kernel_rfl
          case hyx85 =>
            refine Or.inl ⟨by rfl, ?_⟩
            intro w hSw
            (try dsimp only at hSw)
            go_simp
            try with_reducible rfl
          case hQx85 => exact fun _ _ _ h => h
          case hSx85 => assumption
          try simp only [Act.put, List.setIfInBounds_toArray, List.set_cons_zero, List.set_cons_succ]
          refine wpAnyH_take (i := 13) (oi := ?oix86) (v := ?vx86) ?hix86 ?hsx86 ?hfx86 ?hrx86 ?hQx86 ?hyx86 ?hSx86 ?hx86
          case hix86 =>
            simp only [List.getElem?_toArray, List.getElem?_cons_succ, List.getElem?_cons_zero]
            rfl
          case hsx86 => kernel_rfl
          case hfx86 => kernel_rfl
          case hrx86 => kernel_rfl
          case hyx86 =>
            refine Or.inl ⟨by rfl, ?_⟩
            intro w hSw
            (try dsimp only at hSw)
            go_simp
            try with_reducible rfl
          case hQx86 => exact fun _ _ _ h => h
          case hSx86 => assumption
          try simp only [Act.put, List.setIfInBounds_toArray, List.set_cons_zero, List.set_cons_succ]
          refine wpAnyH_take (i := 14) (oi := ?oix87) (v := ?vx87) ?hix87 ?hsx87 ?hfx87 ?hrx87 ?hQx87 ?hyx87 ?hSx87 ?hx87
          case hix87 =>
            simp only [List.getElem?_toArray, List.getElem?_cons_succ, List.getElem?_cons_zero]
            rfl
          case hsx87 => kernel_rfl
          case hfx87 => kernel_rfl
          case hrx87 => kernel_rfl
          case hyx87 =>
            refine Or.inl ⟨by rfl, ?_⟩
            intro w hSw
            (try dsimp only at hSw)
            go_simp
            try with_reducible rfl
          case hQx87 => exact fun _ _ _ h => h
          case hSx87 => assumption
          try simp only [Act.put, List.setIfInBounds_toArray, List.set_cons_zero, List.set_cons_succ]
          refine wpAnyH_take (i := 15) (oi := ?oix88) (v := ?vx88) ?hix88 ?hsx88 ?hfx88 ?hrx88 ?hQx88 ?hyx88 ?hSx88 ?hx88
          case hix88 =>
            simp only [List.getElem?_toArray, List.getElem?_cons_succ, List.getElem?_cons_zero]
            rfl
          case hsx88 => kernel_rfl
          case hfx88 => kernel_rfl
          case hrx88 => kernel_rfl
          case hyx88 =>
            refine Or.inl ⟨by rfl, ?_⟩
            intro w hSw
            (try dsimp only at hSw)
            go_simp
            try with_reducible rfl
          case hQx88 => exact fun _ _ _ h => h
          case hSx88 => assumption
          try simp only [Act.put, List.setIfInBounds_toArray, List.set_cons_zero, List.set_cons_succ]
          refine wpAnyH_take (i := 16) (oi := ?oix89) (v := ?vx89) ?hix89 ?hsx89 ?hfx89 ?hrx89 ?hQx89 ?hyx89 ?hSx89 ?hx89
          case hix89 =>
            simp only [List.getElem?_toArray, List.getElem?_cons_succ, List.getElem?_cons_zero]
            rfl
          case hsx89 => kernel_rfl
          case hfx89 => kernel_rfl
          case hrx89 => kernel_rfl
          case hyx89 =>
            refine Or.inl ⟨by rfl, ?_⟩
            intro w hSw
            (try dsimp only at hSw)
            go_simp
            try with_reducible rfl
          case hQx89 => exact fun _ _ _ h => h
          case hSx89 => assumption
          try simp only [Act.put, List.setIfInBounds_toArray, List.set_cons_zero, List.set_cons_succ]
          refine wpAnyH_take (i := 17) (oi := ?oix90) (v := ?vx90) ?hix90 ?hsx90 ?hfx90 ?hrx90 ?hQx90 ?hyx90 ?hSx90 ?hx90
          case hix90 =>
            simp only [List.getElem?_toArray, List.getElem?_cons_succ, List.getElem?_cons_zero]
            rfl
          case hsx90 => kernel_rfl
          case hfx90 => kernel_rfl
          case hrx90 => kernel_rfl
          case hyx90 =>
            refine Or.inl ⟨by rfl, ?_⟩
            intro w hSw
            (try dsimp only at hSw)
            go_simp
            try with_reducible rfl
          case hQx90 => exact fun _ _ _ h => h
          case hSx90 => assumption
          try simp only [Act.put, List.setIfInBounds_toArray, List.set_cons_zero, List.set_cons_succ]
          refine wpAnyH_take (i := 18) (oi := ?oix91) (v := ?vx91) ?hix91 ?hsx91 ?hfx91 ?hrx91 ?hQx91 ?hyx91 ?hSx91 ?hx91
          case hix91 =>
            simp only [List.getElem?_toArray, List.getElem?_cons_succ, List.getElem?_cons_zero]
            rfl
          case hsx91 => kernel_rfl
          case hfx91 => kernel_rfl
          case hrx91 => kernel_rfl
          case hyx91 =>
            refine Or.inl ⟨by rfl, ?_⟩
            intro w hSw
            (try dsimp only at hSw)
            go_simp
            try with_reducible rfl
          case hQx91 => exact fun _ _ _ h => h
          case hSx91 => assumption
          try simp only [Act.put, List.setIfInBounds_toArray, List.set_cons_zero, List.set_cons_succ]
          refine wpAnyH_take (i := 19) (oi := ?oix92) (v := ?vx92) ?hix92 ?hsx92 ?hfx92 ?hrx92 ?hQx92 ?hyx92 ?hSx92 ?hx92
          case hix92 =>
            simp only [List.getElem?_toArray, List.getElem?_cons_succ, List.getElem?_cons_zero]
            rfl
          case hsx92 => kernel_rfl
          case hfx92 => kernel_rfl
          case hrx92 => kernel_rfl
          case hyx92 =>
            refine Or.inl ⟨by rfl, ?_⟩
            intro w hSw
            (try dsimp only at hSw)
            go_simp
            try with_reducible rfl
          case hQx92 => exact fun _ _ _ h => h
          case hSx92 => assumption
          try simp only [Act.put, List.setIfInBounds_toArray, List.set_cons_zero, List.set_cons_succ]
          refine wpAnyH_take (i := 20) (oi := ?oix93) (v := ?vx93) ?hix93 ?hsx93 ?hfx93 ?hrx93 ?hQx93 ?hyx93 ?hSx93 ?hx93
          case hix93 =>
            simp only [List.getElem?_toArray, List.getElem?_cons_succ, List.getElem?_cons_zero]
            rfl
          case hsx93 => kernel_rfl
          case hfx93 => kernel_rfl
          case hrx93 => kernel_rfl
          case hyx93 =>
            refine Or.inl ⟨by rfl, ?_⟩
            intro w hSw
            (try dsimp only at hSw)
            go_simp
            try with_reducible rfl
          case hQx93 => exact fun _ _ _ h => h
          case hSx93 => assumption
          try simp only [Act.put, List.setIfInBounds_toArray, List.set_cons_zero, List.set_cons_succ]
          refine wpAnyH_ready (rs := [21]) (by kernel_rfl) (by simp) ?_
          refine AllReadyH.cons (o := ?ox94) ?ix94 ?kx94 AllReadyH.nil
          case ix94 =>
            simp only [List.getElem?_toArray, List.getElem?_cons_succ, List.getElem?_cons_zero]
            rfl
          intro K hK
          go_simp
          go_at_call 17
          refine SM.out.mono ?_
          rintro e w3 ⟨rfl, hb⟩
          have P1 := Lib.hid (show Below w2.heap.size w2 w3 from ⟨hb.os, hb.tape, hb.output, hb.size, hb.block⟩)
          clear hb
          refine hK.out _ _ (HALL.out _ P1.out) (fun hHeld => ?_)
          clear hK K
          try simp only [Act.put, List.setIfInBounds_toArray, List.set_cons_zero, List.set_cons_succ]
          refine wpAnyH_take (i := 22) (oi := ?oix95) (v := ?vx95) ?hix95 ?hsx95 ?hfx95 ?hrx95 ?hQx95 ?hyx95 ?hSx95 ?hx95
          case hix95 =>
            simp only [List.getElem?_toArray, List.getElem?_cons_succ, List.getElem?_cons_zero]
            rfl
          case hsx95 => kernel_rfl
          case hfx95 => kernel_rfl
          case hrx95 => kernel_rfl
          case hyx95 =>
            refine Or.inl ⟨by rfl, ?_⟩
            intro w hSw
            (try dsimp only at hSw)
            go_simp
            try with_reducible rfl
          case hQx95 => exact fun _ _ _ h => h
          case hSx95 => assumption
          try simp only [Act.put, List.setIfInBounds_toArray, List.set_cons_zero, List.set_cons_succ]
          refine wpAnyH_take (i := 23) (oi := ?oix96) (v := ?vx96) ?hix96 ?hsx96 ?hfx96 ?hrx96 ?hQx96 ?hyx96 ?hSx96 ?hx96
          case hix96 =>
            simp only [List.getElem?_toArray, List.getElem?_cons_succ, List.getElem?_cons_zero]
            rfl
          case hsx96 => kernel_rfl
          case hfx96 => kernel_rfl
          case hrx96 => kernel_rfl
          case hyx96 =>
            refine Or.inl ⟨by rfl, ?_⟩
            intro w hSw
            (try dsimp only at hSw)
            go_simp
            try with_reducible rfl
          case hQx96 => exact fun _ _ _ h => h
          case hSx96 => assumption
          try simp only [Act.put, List.setIfInBounds_toArray, List.set_cons_zero, List.set_cons_succ]
          refine wpAnyH_done (by kernel_rfl) ?_ _
          go_wp2_with fail
          go_meet
          exact ⟨rfl, rfl, B2.out.trans (P1.out.mono (by have := B2.out.size; have := HS.out; omega))⟩
        · have hne : ((n : Int) == (m : Int)) = false := by rw [beq_eq_false_iff_ne]; omega
          refine wp_region_held_drew (S := (fun _ : World => True)) (by kernel_rfl) trivial (fun hHeld => ?_)
          refine wpAnyH_take (i := 0) (oi := ?oix1) (v := ?vx1) ?hix1 ?hsx1 ?hfx1 ?hrx1 ?hQx1 ?hyx1 ?hSx1 ?hx1
          case hix1 =>
            simp only [List.getElem?_toArray, List.getElem?_cons_zero]
            rfl
          case hsx1 => kernel_rfl
          case hfx1 => kernel_rfl
          case hrx1 => kernel_rfl
          case hyx1 =>
            refine Or.inl ⟨by rfl, ?_⟩
            intro w hSw
            (try dsimp only at hSw)
            go_simp
            try with_reducible rfl
          case hQx1 => exact fun _ _ _ h => h
          case hSx1 => trivial
          try simp only [Act.put, List.setIfInBounds_toArray, List.set_cons_zero, List.set_cons_succ]
          refine wpAnyH_take (i := 1) (oi := ?oix2) (v := ?vx2) ?hix2 ?hsx2 ?hfx2 ?hrx2 ?hQx2 ?hyx2 ?hSx2 ?hx2
          case hix2 =>
            simp only [List.getElem?_toArray, List.getElem?_cons_succ, List.getElem?_cons_zero]
            rfl
          case hsx2 => kernel_rfl
          case hfx2 => kernel_rfl
          case hrx2 => kernel_rfl
          case hyx2 =>
            refine Or.inl ⟨by rfl, ?_⟩
            intro w hSw
            (try dsimp only at hSw)
            go_simp
            try with_reducible rfl
          case hQx2 => exact fun _ _ _ h => h
          case hSx2 => trivial
          try simp only [Act.put, List.setIfInBounds_toArray, List.set_cons_zero, List.set_cons_succ]
          refine wpAnyH_take (i := 2) (oi := ?oix3) (v := ?vx3) ?hix3 ?hsx3 ?hfx3 ?hrx3 ?hQx3 ?hyx3 ?hSx3 ?hx3
          case hix3 =>
            simp only [List.getElem?_toArray, List.getElem?_cons_succ, List.getElem?_cons_zero]
            rfl
          case hsx3 => kernel_rfl
          case hfx3 => kernel_rfl
          case hrx3 => kernel_rfl
          case hyx3 =>
            refine Or.inl ⟨by rfl, ?_⟩
            intro w hSw
            (try dsimp only at hSw)
            go_simp
            try with_reducible rfl
          case hQx3 => exact fun _ _ _ h => h
          case hSx3 => trivial
          try simp only [Act.put, List.setIfInBounds_toArray, List.set_cons_zero, List.set_cons_succ]
          refine wpAnyH_take (i := 3) (oi := ?oix4) (v := ?vx4) ?hix4 ?hsx4 ?hfx4 ?hrx4 ?hQx4 ?hyx4 ?hSx4 ?hx4
          case hix4 =>
            simp only [List.getElem?_toArray, List.getElem?_cons_succ, List.getElem?_cons_zero]
            rfl
          case hsx4 => kernel_rfl
          case hfx4 => kernel_rfl
          case hrx4 => kernel_rfl
          case hyx4 =>
            refine Or.inl ⟨by rfl, ?_⟩
            intro w hSw
            (try dsimp only at hSw)
            go_simp
            try with_reducible rfl
          case hQx4 => exact fun _ _ _ h => h
          case hSx4 => trivial
          try simp only [Act.put, List.setIfInBounds_toArray, List.set_cons_zero, List.set_cons_succ]
          refine wpAnyH_take (i := 4) (oi := ?oix5) (v := ?vx5) ?hix5 ?hsx5 ?hfx5 ?hrx5 ?hQx5 ?hyx5 ?hSx5 ?hx5
          case hix5 =>
            simp only [List.getElem?_toArray, List.getElem?_cons_succ, List.getElem?_cons_zero]
            rfl
          case hsx5 => kernel_rfl
          case hfx5 => kernel_rfl
          case hrx5 => kernel_rfl
          case hyx5 =>
            refine Or.inl ⟨by rfl, ?_⟩
            intro w hSw
            (try dsimp only at hSw)
            go_simp
            try with_reducible rfl
          case hQx5 => exact fun _ _ _ h => h
          case hSx5 => trivial
          try simp only [Act.put, List.setIfInBounds_toArray, List.set_cons_zero, List.set_cons_succ]
          refine wpAnyH_take (i := 5) (oi := ?oix6) (v := ?vx6) ?hix6 ?hsx6 ?hfx6 ?hrx6 ?hQx6 ?hyx6 ?hSx6 ?hx6
          case hix6 =>
            simp only [List.getElem?_toArray, List.getElem?_cons_succ, List.getElem?_cons_zero]
            rfl
          case hsx6 => kernel_rfl
          case hfx6 => kernel_rfl
          case hrx6 => kernel_rfl
          case hyx6 =>
            refine Or.inl ⟨by rfl, ?_⟩
            intro w hSw
            (try dsimp only at hSw)
            go_simp
            try with_reducible rfl
          case hQx6 => exact fun _ _ _ h => h
          case hSx6 => trivial
          try simp only [Act.put, List.setIfInBounds_toArray, List.set_cons_zero, List.set_cons_succ]
          refine wpAnyH_take (i := 6) (oi := ?oix7) (v := ?vx7) ?hix7 ?hsx7 ?hfx7 ?hrx7 ?hQx7 ?hyx7 ?hSx7 ?hx7
          case hix7 =>
            simp only [List.getElem?_toArray, List.getElem?_cons_succ, List.getElem?_cons_zero]
            rfl
          case hsx7 => kernel_rfl
          case hfx7 => kernel_rfl
          case hrx7 => kernel_rfl
          case hyx7 =>
            refine Or.inl ⟨by rfl, ?_⟩
            intro w hSw
            (try dsimp only at hSw)
            go_simp
            try with_reducible rfl
          case hQx7 => exact fun _ _ _ h => h
          case hSx7 => trivial
          try simp only [Act.put, List.setIfInBounds_toArray, List.set_cons_zero, List.set_cons_succ]
          refine wpAnyH_take (i := 7) (oi := ?oix8) (v := ?vx8) ?hix8 ?hsx8 ?hfx8 ?hrx8 ?hQx8 ?hyx8 ?hSx8 ?hx8
          case hix8 =>
            simp only [List.getElem?_toArray, List.getElem?_cons_succ, List.getElem?_cons_zero]
            rfl
          case hsx8 => kernel_rfl
          case hfx8 => kernel_rfl
          case hrx8 => kernel_rfl
          case hyx8 =>
            refine Or.inl ⟨by rfl, ?_⟩
            intro w hSw
            (try dsimp only at hSw)
            go_simp
            try with_reducible rfl
          case hQx8 => exact fun _ _ _ h => h
          case hSx8 => trivial
          try simp only [Act.put, List.setIfInBounds_toArray, List.set_cons_zero, List.set_cons_succ]
          refine wpAnyH_take (i := 8) (oi := ?oix9) (v := ?vx9) ?hix9 ?hsx9 ?hfx9 ?hrx9 ?hQx9 ?hyx9 ?hSx9 ?hx9
          case hix9 =>
            simp only [List.getElem?_toArray, List.getElem?_cons_succ, List.getElem?_cons_zero]
            rfl
          case hsx9 => kernel_rfl
          case hfx9 => kernel_rfl
          case hrx9 => kernel_rfl
          case hyx9 =>
            refine Or.inl ⟨by rfl, ?_⟩
            intro w hSw
            (try dsimp only at hSw)
            go_simp
            try with_reducible rfl
          case hQx9 => exact fun _ _ _ h => h
          case hSx9 => trivial
          try simp only [Act.put, List.setIfInBounds_toArray, List.set_cons_zero, List.set_cons_succ]
          refine wpAnyH_take (i := 9) (oi := ?oix10) (v := ?vx10) ?hix10 ?hsx10 ?hfx10 ?hrx10 ?hQx10 ?hyx10 ?hSx10 ?hx10
          case hix10 =>
            simp only [List.getElem?_toArray, List.getElem?_cons_succ, List.getElem?_cons_zero]
            rfl
          case hsx10 => kernel_rfl
          case hfx10 => kernel_rfl
          case hrx10 => kernel_rfl
          case hyx10 =>
            refine Or.inl ⟨by rfl, ?_⟩
            intro w hSw
            (try dsimp only at hSw)
            go_simp
            try with_reducible rfl
          case hQx10 => exact fun _ _ _ h => h
          case hSx10 => trivial
          try simp only [Act.put, List.setIfInBounds_toArray, List.set_cons_zero, List.set_cons_succ]
          refine wpAnyH_take (i := 10) (oi := ?oix11) (v := ?vx11) ?hix11 ?hsx11 ?hfx11 ?hrx11 ?hQx11 ?hyx11 ?hSx11 ?hx11
          case hix11 =>
            simp only [List.getElem?_toArray, List.getElem?_cons_succ, List.getElem?_cons_zero]
            rfl
          case hsx11 => kernel_rfl
          case hfx11 => kernel_rfl
          case hrx11 => kernel_rfl
          case hyx11 =>
            refine Or.inl ⟨by rfl, ?_⟩
            intro w hSw
            (try dsimp only at hSw)
            go_simp
            try with_reducible rfl
          case hQx11 => exact fun _ _ _ h => h
          case hSx11 => trivial
          try simp only [Act.put, List.setIfInBounds_toArray, List.set_cons_zero, List.set_cons_succ]
          refine wpAnyH_take (i := 11) (oi := ?oix12) (v := ?vx12) ?hix12 ?hsx12 ?hfx12 ?hrx12 ?hQx12 ?hyx12 ?hSx12 ?hx12
          case hix12 =>
            simp only [List.getElem?_toArray, List.getElem?_cons_succ, List.getElem?_cons_zero]
            rfl
          case hsx12 => kernel_rfl
          case hfx12 => kernel_rfl
          case hrx12 => kernel_rfl
          case hyx12 =>
            refine Or.inl ⟨by rfl, ?_⟩
            intro w hSw
            (try dsimp only at hSw)
            go_simp
            try with_reducible rfl
          case hQx12 => exact fun _ _ _ h => h
          case hSx12 => trivial
          try simp only [Act.put, List.setIfInBounds_toArray, List.set_cons_zero, List.set_cons_succ]
          refine wpAnyH_take (i := 12) (oi := ?oix13) (v := ?vx13) ?hix13 ?hsx13 ?hfx13 ?hrx13 ?hQx13 ?hyx13 ?hSx13 ?hx13
          case hix13 =>
            simp only [List.getElem?_toArray, List.getElem?_cons_succ, List.getElem?_cons_zero]
            rfl
          case hsx13 => kernel_rfl
          case hfx13 => kernel_rfl
          case hrx13 => kernel_rfl
          case hyx13 =>
            refine Or.inl ⟨by rfl, ?_⟩
            intro w hSw
            (try dsimp only at hSw)
            go_simp
            try with_reducible rfl
          case hQx13 => exact fun _ _ _ h => h
          case hSx13 => trivial
          try simp only [Act.put, List.setIfInBounds_toArray, List.set_cons_zero, List.set_cons_succ]
          refine wpAnyH_take (i := 13) (oi := ?oix14) (v := ?vx14) ?hix14 ?hsx14 ?hfx14 ?hrx14 ?hQx14 ?hyx14 ?hSx14 ?hx14
          case hix14 =>
            simp only [List.getElem?_toArray, List.getElem?_cons_succ, List.getElem?_cons_zero]
            rfl
          case hsx14 => kernel_rfl
          case hfx14 => kernel_rfl
          case hrx14 => kernel_rfl
          case hyx14 =>
            refine Or.inl ⟨by rfl, ?_⟩
            intro w hSw
            (try dsimp only at hSw)
            go_simp
            try with_reducible rfl
          case hQx14 => exact fun _ _ _ h => h
          case hSx14 => trivial
          try simp only [Act.put, List.setIfInBounds_toArray, List.set_cons_zero, List.set_cons_succ]
          refine wpAnyH_take (i := 14) (oi := ?oix15) (v := undef) ?hix15 ?hsx15 ?hfx15 ?hrx15 ?hQx15 ?hyx15 ?hSx15 ?hx15
          case hix15 =>
            simp only [List.getElem?_toArray, List.getElem?_cons_succ, List.getElem?_cons_zero]
            rfl
          case hsx15 => kernel_rfl
          case hfx15 => kernel_rfl
          case hrx15 => kernel_rfl
          case hyx15 =>
            exact Or.inr ⟨by rfl, rfl⟩
          case hQx15 => exact fun _ _ _ h => h
          case hSx15 => trivial
          try simp only [Act.put, List.setIfInBounds_toArray, List.set_cons_zero, List.set_cons_succ]
          refine wpAnyH_take (i := 15) (oi := ?oix16) (v := undef) ?hix16 ?hsx16 ?hfx16 ?hrx16 ?hQx16 ?hyx16 ?hSx16 ?hx16
          case hix16 =>
            simp only [List.getElem?_toArray, List.getElem?_cons_succ, List.getElem?_cons_zero]
            rfl
          case hsx16 => kernel_rfl
          case hfx16 => kernel_rfl
          case hrx16 => kernel_rfl
          case hyx16 =>
            exact Or.inr ⟨by rfl, rfl⟩
          case hQx16 => exact fun _ _ _ h => h
          case hSx16 => trivial
          try simp only [Act.put, List.setIfInBounds_toArray, List.set_cons_zero, List.set_cons_succ]
          refine wpAnyH_take (i := 16) (oi := ?oix17) (v := undef) ?hix17 ?hsx17 ?hfx17 ?hrx17 ?hQx17 ?hyx17 ?hSx17 ?hx17
          case hix17 =>
            simp only [List.getElem?_toArray, List.getElem?_cons_succ, List.getElem?_cons_zero]
            rfl
          case hsx17 => kernel_rfl
          case hfx17 => kernel_rfl
          case hrx17 => kernel_rfl
          case hyx17 =>
            exact Or.inr ⟨by rfl, rfl⟩
          case hQx17 => exact fun _ _ _ h => h
          case hSx17 => trivial
          try simp only [Act.put, List.setIfInBounds_toArray, List.set_cons_zero, List.set_cons_succ]
          refine wpAnyH_take (i := 17) (oi := ?oix18) (v := undef) ?hix18 ?hsx18 ?hfx18 ?hrx18 ?hQx18 ?hyx18 ?hSx18 ?hx18
          case hix18 =>
            simp only [List.getElem?_toArray, List.getElem?_cons_succ, List.getElem?_cons_zero]
            rfl
          case hsx18 => kernel_rfl
          case hfx18 => kernel_rfl
          case hrx18 => kernel_rfl
          case hyx18 =>
            exact Or.inr ⟨by rfl, rfl⟩
          case hQx18 => exact fun _ _ _ h => h
          case hSx18 => trivial
          try simp only [Act.put, List.setIfInBounds_toArray, List.set_cons_zero, List.set_cons_succ]
          refine wpAnyH_take (i := 18) (oi := ?oix19) (v := undef) ?hix19 ?hsx19 ?hfx19 ?hrx19 ?hQx19 ?hyx19 ?hSx19 ?hx19
          case hix19 =>
            simp only [List.getElem?_toArray, List.getElem?_cons_succ, List.getElem?_cons_zero]
            rfl
          case hsx19 => kernel_rfl
          case hfx19 => kernel_rfl
          case hrx19 => kernel_rfl
          case hyx19 =>
            exact Or.inr ⟨by rfl, rfl⟩
          case hQx19 => exact fun _ _ _ h => h
          case hSx19 => trivial
          try simp only [Act.put, List.setIfInBounds_toArray, List.set_cons_zero, List.set_cons_succ]
          refine wpAnyH_take (i := 19) (oi := ?oix20) (v := undef) ?hix20 ?hsx20 ?hfx20 ?hrx20 ?hQx20 ?hyx20 ?hSx20 ?hx20
          case hix20 =>
            simp only [List.getElem?_toArray, List.getElem?_cons_succ, List.getElem?_cons_zero]
            rfl
          case hsx20 => kernel_rfl
          case hfx20 => kernel_rfl
          case hrx20 => kernel_rfl
          case hyx20 =>
            exact Or.inr ⟨by rfl, rfl⟩
          case hQx20 => exact fun _ _ _ h => h
          case hSx20 => trivial
          try simp only [Act.put, List.setIfInBounds_toArray, List.set_cons_zero, List.set_cons_succ]
          refine wpAnyH_take (i := 20) (oi := ?oix21) (v := undef) ?hix21 ?hsx21 ?hfx21 ?hrx21 ?hQx21 ?hyx21 ?hSx21 ?hx21
          case hix21 =>
            simp only [List.getElem?_toArray, List.getElem?_cons_succ, List.getElem?_cons_zero]
            rfl
          case hsx21 => kernel_rfl
          case hfx21 => kernel_rfl
          case hrx21 => kernel_rfl
          case hyx21 =>
            exact Or.inr ⟨by rfl, rfl⟩
          case hQx21 => exact fun _ _ _ h => h
          case hSx21 => trivial
          try simp only [Act.put, List.setIfInBounds_toArray, List.set_cons_zero, List.set_cons_succ]
          refine wpAnyH_pass (i := 21) (o := ?oix22) ?hix22 ?hrx22 ?hwx22 ?hSx22 ?hx22
          case hix22 =>
            simp only [List.getElem?_toArray, List.getElem?_cons_succ, List.getElem?_cons_zero]
            rfl
          case hrx22 => kernel_rfl
          case hwx22 => rfl
          case hSx22 => trivial
          try simp only [Act.put, List.setIfInBounds_toArray, List.set_cons_zero, List.set_cons_succ]
          refine wpAnyH_take (i := 22) (oi := ?oix23) (v := undef) ?hix23 ?hsx23 ?hfx23 ?hrx23 ?hQx23 ?hyx23 ?hSx23 ?hx23
          case hix23 =>
            simp only [List.getElem?_toArray, List.getElem?_cons_succ, List.getElem?_cons_zero]
            rfl
          case hsx23 => kernel_rfl
          case hfx23 => kernel_rfl
          case hrx23 => kernel_rfl
          case hyx23 =>
            exact Or.inr ⟨by rfl, rfl⟩
          case hQx23 => exact fun _ _ _ h => h
          case hSx23 => trivial
          try simp only [Act.put, List.setIfInBounds_toArray, List.set_cons_zero, List.set_cons_succ]
          refine wpAnyH_take (i := 23) (oi := ?oix24) (v := ?vx24) ?hix24 ?hsx24 ?hfx24 ?hrx24 ?hQx24 ?hyx24 ?hSx24 ?hx24
          case hix24 =>
            simp only [List.getElem?_toArray, List.getElem?_cons_succ, List.getElem?_cons_zero]
            rfl
          case hsx24 => kernel_rfl
          case hfx24 => kernel_rfl
          case hrx24 => kernel_rfl
          case hyx24 =>
            refine Or.inl ⟨by rfl, ?_⟩
            intro w hSw
            (try dsimp only at hSw)
            go_simp
            try with_reducible rfl
          case hQx24 => exact fun _ _ _ h => h
          case hSx24 => trivial
          try simp only [Act.put, List.setIfInBounds_toArray, List.set_cons_zero, List.set_cons_succ]
          refine wpAnyH_done (by kernel_rfl) ?_ _
          go_wp2_with fail
          go_meet
          exact ⟨rfl, rfl, P0.out⟩
      · skip
        refine wp_region_held_drew (S := (fun _ : World => True)) (by kernel_rfl) trivial (fun hHeld => ?_)
        refine wpAnyH_take (i := 0) (oi := ?oix25) (v := ?vx25) ?hix25 ?hsx25 ?hfx25 ?hrx25 ?hQx25 ?hyx25 ?hSx25 ?hx25
        case hix25 =>
          simp only [List.getElem?_toArray, List.getElem?_cons_zero]
          rfl
        case hsx25 => kernel_rfl
        case hfx25 => kernel_rfl
        case hrx25 => kernel_rfl
        case hyx25 =>
          refine Or.inl ⟨by rfl, ?_⟩
          intro w hSw
          (try dsimp only at hSw)
          go_simp
          try with_reducible rfl
        case hQx25 => exact fun _ _ _ h => h
        case hSx25 => trivial
        try simp only [Act.put, List.setIfInBounds_toArray, List.set_cons_zero, List.set_cons_succ]
        refine wpAnyH_take (i := 1) (oi := ?oix26) (v := ?vx26) ?hix26 ?hsx26 ?hfx26 ?hrx26 ?hQx26 ?hyx26 ?hSx26 ?hx26
        case hix26 =>
          simp only [List.getElem?_toArray, List.getElem?_cons_succ, List.getElem?_cons_zero]
          rfl
        case hsx26 => kernel_rfl
        case hfx26 => kernel_rfl
        case hrx26 => kernel_rfl
        case hyx26 =>
          refine Or.inl ⟨by rfl, ?_⟩
          intro w hSw
          (try dsimp only at hSw)
          go_simp
          try with_reducible rfl
        case hQx26 => exact fun _ _ _ h => h
        case hSx26 => trivial
        try simp only [Act.put, List.setIfInBounds_toArray, List.set_cons_zero, List.set_cons_succ]
        refine wpAnyH_take (i := 2) (oi := ?oix27) (v := ?vx27) ?hix27 ?hsx27 ?hfx27 ?hrx27 ?hQx27 ?hyx27 ?hSx27 ?hx27
        case hix27 =>
          simp only [List.getElem?_toArray, List.getElem?_cons_succ, List.getElem?_cons_zero]
          rfl
        case hsx27 => kernel_rfl
        case hfx27 => kernel_rfl
        case hrx27 => kernel_rfl
        case hyx27 =>
          refine Or.inl ⟨by rfl, ?_⟩
          intro w hSw
          (try dsimp only at hSw)
          go_simp
          try with_reducible rfl
        case hQx27 => exact fun _ _ _ h => h
        case hSx27 => trivial
        try simp only [Act.put, List.setIfInBounds_toArray, List.set_cons_zero, List.set_cons_succ]
        refine wpAnyH_take (i := 3) (oi := ?oix28) (v := ?vx28) ?hix28 ?hsx28 ?hfx28 ?hrx28 ?hQx28 ?hyx28 ?hSx28 ?hx28
        case hix28 =>
          simp only [List.getElem?_toArray, List.getElem?_cons_succ, List.getElem?_cons_zero]
          rfl
        case hsx28 => kernel_rfl
        case hfx28 => kernel_rfl
        case hrx28 => kernel_rfl
        case hyx28 =>
          refine Or.inl ⟨by rfl, ?_⟩
          intro w hSw
          (try dsimp only at hSw)
          go_simp
          try with_reducible rfl
        case hQx28 => exact fun _ _ _ h => h
        case hSx28 => trivial
        try simp only [Act.put, List.setIfInBounds_toArray, List.set_cons_zero, List.set_cons_succ]
        refine wpAnyH_take (i := 4) (oi := ?oix29) (v := ?vx29) ?hix29 ?hsx29 ?hfx29 ?hrx29 ?hQx29 ?hyx29 ?hSx29 ?hx29
        case hix29 =>
          simp only [List.getElem?_toArray, List.getElem?_cons_succ, List.getElem?_cons_zero]
          rfl
        case hsx29 => kernel_rfl
        case hfx29 => kernel_rfl
        case hrx29 => kernel_rfl
        case hyx29 =>
          refine Or.inl ⟨by rfl, ?_⟩
          intro w hSw
          (try dsimp only at hSw)
          go_simp
          try with_reducible rfl
        case hQx29 => exact fun _ _ _ h => h
        case hSx29 => trivial
        try simp only [Act.put, List.setIfInBounds_toArray, List.set_cons_zero, List.set_cons_succ]
        refine wpAnyH_take (i := 5) (oi := ?oix30) (v := ?vx30) ?hix30 ?hsx30 ?hfx30 ?hrx30 ?hQx30 ?hyx30 ?hSx30 ?hx30
        case hix30 =>
          simp only [List.getElem?_toArray, List.getElem?_cons_succ, List.getElem?_cons_zero]
          rfl
        case hsx30 => kernel_rfl
        case hfx30 => kernel_rfl
        case hrx30 => kernel_rfl
        case hyx30 =>
          refine Or.inl ⟨by rfl, ?_⟩
          intro w hSw
          (try dsimp only at hSw)
          go_simp
          try with_reducible rfl
        case hQx30 => exact fun _ _ _ h => h
        case hSx30 => trivial
        try simp only [Act.put, List.setIfInBounds_toArray, List.set_cons_zero, List.set_cons_succ]
        refine wpAnyH_take (i := 6) (oi := ?oix31) (v := ?vx31) ?hix31 ?hsx31 ?hfx31 ?hrx31 ?hQx31 ?hyx31 ?hSx31 ?hx31
        case hix31 =>
          simp only [List.getElem?_toArray, List.getElem?_cons_succ, List.getElem?_cons_zero]
          rfl
        case hsx31 => kernel_rfl
        case hfx31 => kernel_rfl
        case hrx31 => kernel_rfl
        case hyx31 =>
          refine Or.inl ⟨by rfl, ?_⟩
          intro w hSw
          (try dsimp only at hSw)
          go_simp
          try with_reducible rfl
        case hQx31 => exact fun _ _ _ h => h
        case hSx31 => trivial
        try simp only [Act.put, List.setIfInBounds_toArray, List.set_cons_zero, List.set_cons_succ]
        refine wpAnyH_take (i := 7) (oi := ?oix32) (v := undef) ?hix32 ?hsx32 ?hfx32 ?hrx32 ?hQx32 ?hyx32 ?hSx32 ?hx32
        case hix32 =>
          simp only [List.getElem?_toArray, List.getElem?_cons_succ, List.getElem?_cons_zero]
          rfl
        case hsx32 => kernel_rfl
        case hfx32 => kernel_rfl
        case hrx32 => kernel_rfl
        case hyx32 =>
          exact Or.inr ⟨by rfl, rfl⟩
        case hQx32 => exact fun _ _ _ h => h
        case hSx32 => trivial
        try simp only [Act.put, List.setIfInBounds_toArray, List.set_cons_zero, List.set_cons_succ]
        refine wpAnyH_take (i := 8) (oi := ?oix33) (v := undef) ?hix33 ?hsx33 ?hfx33 ?hrx33 ?hQx33 ?hyx33 ?hSx33 ?hx33
        case hix33 =>
          simp only [List.getElem?_toArray, List.getElem?_cons_succ, List.getElem?_cons_zero]
          rfl
        case hsx33 => kernel_rfl
        case hfx33 => kernel_rfl
        case hrx33 => kernel_rfl
        case hyx33 =>
          exact Or.inr ⟨by rfl, rfl⟩
        case hQx33 => exact fun _ _ _ h => h
        case hSx33 => trivial
        try simp only [Act.put, List.setIfInBounds_toArray, List.set_cons_zero, List.set_cons_succ]
        refine wpAnyH_take (i := 9) (oi := ?oix34) (v := undef) ?hix34 ?hsx34 ?hfx34 ?hrx34 ?hQx34 ?hyx34 ?hSx34 ?hx34
        case hix34 =>
          simp only [List.getElem?_toArray, List.getElem?_cons_succ, List.getElem?_cons_zero]
          rfl
        case hsx34 => kernel_rfl
        case hfx34 => kernel_rfl
        case hrx34 => kernel_rfl
        case hyx34 =>
          exact Or.inr ⟨by rfl, rfl⟩
        case hQx34 => exact fun _ _ _ h => h
        case hSx34 => trivial
        try simp only [Act.put, List.setIfInBounds_toArray, List.set_cons_zero, List.set_cons_succ]
        refine wpAnyH_take (i := 10) (oi := ?oix35) (v := undef) ?hix35 ?hsx35 ?hfx35 ?hrx35 ?hQx35 ?hyx35 ?hSx35 ?hx35
        case hix35 =>
          simp only [List.getElem?_toArray, List.getElem?_cons_succ, List.getElem?_cons_zero]
          rfl
        case hsx35 => kernel_rfl
        case hfx35 => kernel_rfl
        case hrx35 => kernel_rfl
        case hyx35 =>
          exact Or.inr ⟨by rfl, rfl⟩
        case hQx35 => exact fun _ _ _ h => h
        case hSx35 => trivial
        try simp only [Act.put, List.setIfInBounds_toArray, List.set_cons_zero, List.set_cons_succ]
        refine wpAnyH_take (i := 11) (oi := ?oix36) (v := undef) ?hix36 ?hsx36 ?hfx36 ?hrx36 ?hQx36 ?hyx36 ?hSx36 ?hx36
        case hix36 =>
          simp only [List.getElem?_toArray, List.getElem?_cons_succ, List.getElem?_cons_zero]
          rfl
        case hsx36 => kernel_rfl
        case hfx36 => kernel_rfl
        case hrx36 => kernel_rfl
        case hyx36 =>
          exact Or.inr ⟨by rfl, rfl⟩
        case hQx36 => exact fun _ _ _ h => h
        case hSx36 => trivial
        try simp only [Act.put, List.setIfInBounds_toArray, List.set_cons_zero, List.set_cons_succ]
        refine wpAnyH_take (i := 12) (oi := ?oix37) (v := ?vx37) ?hix37 ?hsx37 ?hfx37 ?hrx37 ?hQx37 ?hyx37 ?hSx37 ?hx37
        case hix37 =>
          simp only [List.getElem?_toArray, List.getElem?_cons_succ, List.getElem?_cons_zero]
          rfl
        case hsx37 => kernel_rfl
        case hfx37 => kernel_rfl
        case hrx37 => kernel_rfl
        case hyx37 =>
          refine Or.inl ⟨by rfl, ?_⟩
          intro w hSw
          (try dsimp only at hSw)
          go_simp
          try with_reducible rfl
        case hQx37 => exact fun _ _ _ h => h
        case hSx37 => trivial
        try simp only [Act.put, List.setIfInBounds_toArray, List.set_cons_zero, List.set_cons_succ]
        refine wpAnyH_take (i := 13) (oi := ?oix38) (v := ?vx38) ?hix38 ?hsx38 ?hfx38 ?hrx38 ?hQx38 ?hyx38 ?hSx38 ?hx38
        case hix38 =>
          simp only [List.getElem?_toArray, List.getElem?_cons_succ, List.getElem?_cons_zero]
          rfl
        case hsx38 => kernel_rfl
        case hfx38 => kernel_rfl
        case hrx38 => kernel_rfl
        case hyx38 =>
          refine Or.inl ⟨by rfl, ?_⟩
          intro w hSw
          (try dsimp only at hSw)
          go_simp
          try with_reducible rfl
        case hQx38 => exact fun _ _ _ h => h
        case hSx38 => trivial
        try simp only [Act.put, List.setIfInBounds_toArray, List.set_cons_zero, List.set_cons_succ]
        refine wpAnyH_take (i := 14) (oi := ?oix39) (v := undef) ?hix39 ?hsx39 ?hfx39 ?hrx39 ?hQx39 ?hyx39 ?hSx39 ?hx39
        case hix39 =>
          simp only [List.getElem?_toArray, List.getElem?_cons_succ, List.getElem?_cons_zero]
          rfl
        case hsx39 => kernel_rfl
        case hfx39 => kernel_rfl
        case hrx39 => kernel_rfl
        case hyx39 =>
          exact Or.inr ⟨by rfl, rfl⟩
        case hQx39 => exact fun _ _ _ h => h
        case hSx39 => trivial
        try simp only [Act.put, List.setIfInBounds_toArray, List.set_cons_zero, List.set_cons_succ]
        refine wpAnyH_take (i := 15) (oi := ?oix40) (v := undef) ?hix40 ?hsx40 ?hfx40 ?hrx40 ?hQx40 ?hyx40 ?hSx40 ?hx40
        case hix40 =>
          simp only [List.getElem?_toArray, List.getElem?_cons_succ, List.getElem?_cons_zero]
          rfl
        case hsx40 => kernel_rfl
        case hfx40 => kernel_rfl
        case hrx40 => kernel_rfl
        case hyx40 =>
          exact Or.inr ⟨by rfl, rfl⟩
        case hQx40 => exact fun _ _ _ h => h
        case hSx40 => trivial
        try simp only [Act.put, List.setIfInBounds_toArray, List.set_cons_zero, List.set_cons_succ]
        refine wpAnyH_take (i := 16) (oi := ?oix41) (v := undef) ?hix41 ?hsx41 ?hfx41 ?hrx41 ?hQx41 ?hyx41 ?hSx41 ?hx41
        case hix41 =>
          simp only [List.getElem?_toArray, List.getElem?_cons_succ, List.getElem?_cons_zero]
          rfl
        case hsx41 => kernel_rfl
        case hfx41 => kernel_rfl
        case hrx41 => kernel_rfl
        case hyx41 =>
          exact Or.inr ⟨by rfl, rfl⟩
        case hQx41 => exact fun _ _ _ h => h
        case hSx41 => trivial
        try simp only [Act.put, List.setIfInBounds_toArray, List.set_cons_zero, List.set_cons_succ]
        refine wpAnyH_take (i := 17) (oi := ?oix42) (v := undef) ?hix42 ?hsx42 ?hfx42 ?hrx42 ?hQx42 ?hyx42 ?hSx42 ?hx42
        case hix42 =>
          simp only [List.getElem?_toArray, List.getElem?_cons_succ, List.getElem?_cons_zero]
          rfl
        case hsx42 => kernel_rfl
        case hfx42 => kernel_rfl
        case hrx42 => kernel_rfl
        case hyx42 =>
          exact Or.inr ⟨by rfl, rfl⟩
        case hQx42 => exact fun _ _ _ h => h
        case hSx42 => trivial
        try simp only [Act.put, List.setIfInBounds_toArray, List.set_cons_zero, List.set_cons_succ]
        refine wpAnyH_take (i := 18) (oi := ?oix43) (v := undef) ?hix43 ?hsx43 ?hfx43 ?hrx43 ?hQx43 ?hyx43 ?hSx43 ?hx43
        case hix43 =>
          simp only [List.getElem?_toArray, List.getElem?_cons_succ, List.getElem?_cons_zero]
          rfl
        case hsx43 => kernel_rfl
        case hfx43 => kernel_rfl
        case hrx43 => kernel_rfl
        case hyx43 =>
          exact Or.inr ⟨by rfl, rfl⟩
        case hQx43 => exact fun _ _ _ h => h
        case hSx43 => trivial
        try simp only [Act.put, List.setIfInBounds_toArray, List.set_cons_zero, List.set_cons_succ]
        refine wpAnyH_take (i := 19) (oi := ?oix44) (v := undef) ?hix44 ?hsx44 ?hfx44 ?hrx44 ?hQx44 ?hyx44 ?hSx44 ?hx44
        case hix44 =>
          simp only [List.getElem?_toArray, List.getElem?_cons_succ, List.getElem?_cons_zero]
          rfl
        case hsx44 => kernel_rfl
        case hfx44 => kernel_rfl
        case hrx44 => kernel_rfl
        case hyx44 =>
          exact Or.inr ⟨by rfl, rfl⟩
        case hQx44 => exact fun _ _ _ h => h
        case hSx44 => trivial
        try simp only [Act.put, List.setIfInBounds_toArray, List.set_cons_zero, List.set_cons_succ]
        refine wpAnyH_take (i := 20) (oi := ?oix45) (v := undef) ?hix45 ?hsx45 ?hfx45 ?hrx45 ?hQx45 ?hyx45 ?hSx45 ?hx45
        case hix45 =>
          simp only [List.getElem?_toArray, List.getElem?_cons_succ, List.getElem?_cons_zero]
          rfl
        case hsx45 => kernel_rfl
        case hfx45 => kernel_rfl
        case hrx45 => kernel_rfl
        case hyx45 =>
          exact Or.inr ⟨by rfl, rfl⟩
        case hQx45 => exact fun _ _ _ h => h
        case hSx45 => trivial
        try simp only [Act.put, List.setIfInBounds_toArray, List.set_cons_zero, List.set_cons_succ]
        refine wpAnyH_pass (i := 21) (o := ?oix46) ?hix46 ?hrx46 ?hwx46 ?hSx46 ?hx46
        case hix46 =>
          simp only [List.getElem?_toArray, List.getElem?_cons_succ, List.getElem?_cons_zero]
          rfl
        case hrx46 => kernel_rfl
        case hwx46 => rfl
        case hSx46 => trivial
        try simp only [Act.put, List.setIfInBounds_toArray, List.set_cons_zero, List.set_cons_succ]
        refine wpAnyH_take (i := 22) (oi := ?oix47) (v := undef) ?hix47 ?hsx47 ?hfx47 ?hrx47 ?hQx47 ?hyx47 ?hSx47 ?hx47
        case hix47 =>
          simp only [List.getElem?_toArray, List.getElem?_cons_succ, List.getElem?_cons_zero]
          rfl
        case hsx47 => kernel_rfl
        case hfx47 => kernel_rfl
        case hrx47 => kernel_rfl
        case hyx47 =>
          exact Or.inr ⟨by rfl, rfl⟩
        case hQx47 => exact fun _ _ _ h => h
        case hSx47 => trivial
        try simp only [Act.put, List.setIfInBounds_toArray, List.set_cons_zero, List.set_cons_succ]
        refine wpAnyH_take (i := 23) (oi := ?oix48) (v := ?vx48) ?hix48 ?hsx48 ?hfx48 ?hrx48 ?hQx48 ?hyx48 ?hSx48 ?hx48
        case hix48 =>
          simp only [List.getElem?_toArray, List.getElem?_cons_succ, List.getElem?_cons_zero]
          rfl
        case hsx48 => kernel_rfl
        case hfx48 => kernel_rfl
        case hrx48 => kernel_rfl
        case hyx48 =>
          refine Or.inl ⟨by rfl, ?_⟩
          intro w hSw
          (try dsimp only at hSw)
          go_simp
          try with_reducible rfl
        case hQx48 => exact fun _ _ _ h => h
        case hSx48 => trivial
        try simp only [Act.put, List.setIfInBounds_toArray, List.set_cons_zero, List.set_cons_succ]
        refine wpAnyH_done (by kernel_rfl) ?_ _
        go_wp2_with fail
        go_meet
        exact ⟨rfl, rfl, P0.out⟩
    · skip
      refine wp_region_held_drew (S := (fun _ : World => True)) (by kernel_rfl) trivial (fun hHeld => ?_)
      refine wpAnyH_take (i := 0) (oi := ?oix49) (v := ?vx49) ?hix49 ?hsx49 ?hfx49 ?hrx49 ?hQx49 ?hyx49 ?hSx49 ?hx49
      case hix49 =>
        simp only [List.getElem?_toArray, List.getElem?_cons_zero]
        rfl
      case hsx49 => kernel_rfl
      case hfx49 => kernel_rfl
      case hrx49 => kernel_rfl
      case hyx49 =>
        refine Or.inl ⟨by rfl, ?_⟩
        intro w hSw
        (try dsimp only at hSw)
        go_simp
        try with_reducible rfl
      case hQx49 => exact fun _ _ _ h => h
      case hSx49 => trivial
      try simp only [Act.put, List.setIfInBounds_toArray, List.set_cons_zero, List.set_cons_succ]
      refine wpAnyH_take (i := 1) (oi := ?oix50) (v := ?vx50) ?hix50 ?hsx50 ?hfx50 ?hrx50 ?hQx50 ?hyx50 ?hSx50 ?hx50
      case hix50 =>
        simp only [List.getElem?_toArray, List.getElem?_cons_succ, List.getElem?_cons_zero]
        rfl
      case hsx50 => kernel_rfl
      case hfx50 => kernel_rfl
      case hrx50 => kernel_rfl
      case hyx50 =>
        refine Or.inl ⟨by rfl, ?_⟩
        intro w hSw
        (try dsimp only at hSw)
        go_simp
        try with_reducible rfl
      case hQx50 => exact fun _ _ _ h => h
      case hSx50 => trivial
      try simp only [Act.put, List.setIfInBounds_toArray, List.set_cons_zero, List.set_cons_succ]
      refine wpAnyH_take (i := 2) (oi := ?oix51) (v := ?vx51) ?hix51 ?hsx51 ?hfx51 ?hrx51 ?hQx51 ?hyx51 ?hSx51 ?hx51
      case hix51 =>
        simp only [List.getElem?_toArray, List.getElem?_cons_succ, List.getElem?_cons_zero]
        rfl
      case hsx51 => kernel_rfl
      case hfx51 => kernel_rfl
      case hrx51 => kernel_rfl
      case hyx51 =>
        refine Or.inl ⟨by rfl, ?_⟩
        intro w hSw
        (try dsimp only at hSw)
        go_simp
        try with_reducible rfl
      case hQx51 => exact fun _ _ _ h => h
      case hSx51 => trivial
      try simp only [Act.put, List.setIfInBounds_toArray, List.set_cons_zero, List.set_cons_succ]
      refine wpAnyH_take (i := 3) (oi := ?oix52) (v := undef) ?hix52 ?hsx52 ?hfx52 ?hrx52 ?hQx52 ?hyx52 ?hSx52 ?hx52
      case hix52 =>
        simp only [List.getElem?_toArray, List.getElem?_cons_succ, List.getElem?_cons_zero]
        rfl
      case hsx52 => kernel_rfl
      case hfx52 => kernel_rfl
      case hrx52 => kernel_rfl
      case hyx52 =>
        exact Or.inr ⟨by rfl, rfl⟩
      case hQx52 => exact fun _ _ _ h => h
      case hSx52 => trivial
      try simp only [Act.put, List.setIfInBounds_toArray, List.set_cons_zero, List.set_cons_succ]
      refine wpAnyH_take (i := 4) (oi := ?oix53) (v := undef) ?hix53 ?hsx53 ?hfx53 ?hrx53 ?hQx53 ?hyx53 ?hSx53 ?hx53
      case hix53 =>
        simp only [List.getElem?_toArray, List.getElem?_cons_succ, List.getElem?_cons_zero]
        rfl
      case hsx53 => kernel_rfl
      case hfx53 => kernel_rfl
      case hrx53 => kernel_rfl
      case hyx53 =>
        exact Or.inr ⟨by rfl, rfl⟩
      case hQx53 => exact fun _ _ _ h => h
      case hSx53 => trivial
      try simp only [Act.put, List.setIfInBounds_toArray, List.set_cons_zero, List.set_cons_succ]
      refine wpAnyH_take (i := 5) (oi := ?oix54) (v := ?vx54) ?hix54 ?hsx54 ?hfx54 ?hrx54 ?hQx54 ?hyx54 ?hSx54 ?hx54
      case hix54 =>
        simp only [List.getElem?_toArray, List.getElem?_cons_succ, List.getElem?_cons_zero]
        rfl
      case hsx54 => kernel_rfl
      case hfx54 => kernel_rfl
      case hrx54 => kernel_rfl
      case hyx54 =>
        refine Or.inl ⟨by rfl, ?_⟩
        intro w hSw
        (try dsimp only at hSw)
        go_simp
        try with_reducible rfl
      case hQx54 => exact fun _ _ _ h => h
      case hSx54 => trivial
      try simp only [Act.put, List.setIfInBounds_toArray, List.set_cons_zero, List.set_cons_succ]
      refine wpAnyH_take (i := 6) (oi := ?oix55) (v := ?vx55) ?hix55 ?hsx55 ?hfx55 ?hrx55 ?hQx55 ?hyx55 ?hSx55 ?hx55
      case hix55 =>
        simp only [List.getElem?_toArray, List.getElem?_cons_succ, List.getElem?_cons_zero]
        rfl
      case hsx55 => kernel_rfl
      case hfx55 => kernel_rfl
      case hrx55 => kernel_rfl
      case hyx55 =>
        refine Or.inl ⟨by rfl, ?_⟩
        intro w hSw
        (try dsimp only at hSw)
        go_simp
        try with_reducible rfl
      case hQx55 => exact fun _ _ _ h => h
      case hSx55 => trivial
      try simp only [Act.put, List.setIfInBounds_toArray, List.set_cons_zero, List.set_cons_succ]
      refine wpAnyH_take (i := 7) (oi := ?oix56) (v := undef) ?hix56 ?hsx56 ?hfx56 ?hrx56 ?hQx56 ?hyx56 ?hSx56 ?hx56
      case hix56 =>
        simp only [List.getElem?_toArray, List.getElem?_cons_succ, List.getElem?_cons_zero]
        rfl
      case hsx56 => kernel_rfl
      case hfx56 => kernel_rfl
      case hrx56 => kernel_rfl
      case hyx56 =>
        exact Or.inr ⟨by rfl, rfl⟩
      case hQx56 => exact fun _ _ _ h => h
      case hSx56 => trivial
      try simp only [Act.put, List.setIfInBounds_toArray, List.set_cons_zero, List.set_cons_succ]
      refine wpAnyH_take (i := 8) (oi := ?oix57) (v := undef) ?hix57 ?hsx57 ?hfx57 ?hrx57 ?hQx57 ?hyx57 ?hSx57 ?hx57
      case hix57 =>
        simp only [List.getElem?_toArray, List.getElem?_cons_succ, List.getElem?_cons_zero]
        rfl
      case hsx57 => kernel_rfl
      case hfx57 => kernel_rfl
      case hrx57 => kernel_rfl
      case hyx57 =>
        exact Or.inr ⟨by rfl, rfl⟩
      case hQx57 => exact fun _ _ _ h => h
      case hSx57 => trivial
      try simp only [Act.put, List.setIfInBounds_toArray, List.set_cons_zero, List.set_cons_succ]
      refine wpAnyH_take (i := 9) (oi := ?oix58) (v := undef) ?hix58 ?hsx58 ?hfx58 ?hrx58 ?hQx58 ?hyx58 ?hSx58 ?hx58
      case hix58 =>
        simp only [List.getElem?_toArray, List.getElem?_cons_succ, List.getElem?_cons_zero]
        rfl
      case hsx58 => kernel_rfl
      case hfx58 => kernel_rfl
      case hrx58 => kernel_rfl
      case hyx58 =>
        exact Or.inr ⟨by rfl, rfl⟩
      case hQx58 => exact fun _ _ _ h => h
      case hSx58 => trivial
      try simp only [Act.put, List.setIfInBounds_toArray, List.set_cons_zero, List.set_cons_succ]
      refine wpAnyH_take (i := 10) (oi := ?oix59) (v := undef) ?hix59 ?hsx59 ?hfx59 ?hrx59 ?hQx59 ?hyx59 ?hSx59 ?hx59
      case hix59 =>
        simp only [List.getElem?_toArray, List.getElem?_cons_succ, List.getElem?_cons_zero]
        rfl
      case hsx59 => kernel_rfl
      case hfx59 => kernel_rfl
      case hrx59 => kernel_rfl
      case hyx59 =>
        exact Or.inr ⟨by rfl, rfl⟩
      case hQx59 => exact fun _ _ _ h => h
      case hSx59 => trivial
      try simp only [Act.put, List.setIfInBounds_toArray, List.set_cons_zero, List.set_cons_succ]
      refine wpAnyH_take (i := 11) (oi := ?oix60) (v := undef) ?hix60 ?hsx60 ?hfx60 ?hrx60 ?hQx60 ?hyx60 ?hSx60 ?hx60
      case hix60 =>
        simp only [List.getElem?_toArray, List.getElem?_cons_succ, List.getElem?_cons_zero]
        rfl
      case hsx60 => kernel_rfl
      case hfx60 => kernel_rfl
      case hrx60 => kernel_rfl
      case hyx60 =>
        exact Or.inr ⟨by rfl, rfl⟩
      case hQx60 => exact fun _ _ _ h => h
      case hSx60 => trivial
      try simp only [Act.put, List.setIfInBounds_toArray, List.set_cons_zero, List.set_cons_succ]
      refine wpAnyH_take (i := 12) (oi := ?oix61) (v := ?vx61) ?hix61 ?hsx61 ?hfx61 ?hrx61 ?hQx61 ?hyx61 ?hSx61 ?hx61
      case hix61 =>
        simp only [List.getElem?_toArray, List.getElem?_cons_succ, List.getElem?_cons_zero]
        rfl
      case hsx61 => kernel_rfl
      case hfx61 => kernel_rfl
      case hrx61 => kernel_rfl
      case hyx61 =>
        refine Or.inl ⟨by rfl, ?_⟩
        intro w hSw
        (try dsimp only at hSw)
        go_simp
        try with_reducible rfl
      case hQx61 => exact fun _ _ _ h => h
      case hSx61 => trivial
      try simp only [Act.put, List.setIfInBounds_toArray, List.set_cons_zero, List.set_cons_succ]
      refine wpAnyH_take (i := 13) (oi := ?oix62) (v := ?vx62) ?hix62 ?hsx62 ?hfx62 ?hrx62 ?hQx62 ?hyx62 ?hSx62 ?hx62
      case hix62 =>
        simp only [List.getElem?_toArray, List.getElem?_cons_succ, List.getElem?_cons_zero]
        rfl
      case hsx62 => kernel_rfl
      case hfx62 => kernel_rfl
      case hrx62 => kernel_rfl
      case hyx62 =>
        refine Or.inl ⟨by rfl, ?_⟩
        intro w hSw
        (try dsimp only at hSw)
        go_simp
        try with_reducible rfl
      case hQx62 => exact fun _ _ _ h => h
      case hSx62 => trivial
      try simp only [Act.put, List.setIfInBounds_toArray, List.set_cons_zero, List.set_cons_succ]
      refine wpAnyH_take (i := 14) (oi := ?oix63) (v := undef) ?hix63 ?hsx63 ?hfx63 ?hrx63 ?hQx63 ?hyx63 ?hSx63 ?hx63
      case hix63 =>
        simp only [List.getElem?_toArray, List.getElem?_cons_succ, List.getElem?_cons_zero]
        rfl
      case hsx63 => kernel_rfl
      case hfx63 => kernel_rfl
      case hrx63 => kernel_rfl
      case hyx63 =>
        exact Or.inr ⟨by rfl, rfl⟩
      case hQx63 => exact fun _ _ _ h => h
      case hSx63 => trivial
      try simp only [Act.put, List.setIfInBounds_toArray, List.set_cons_zero, List.set_cons_succ]
      refine wpAnyH_take (i := 15) (oi := ?oix64) (v := undef) ?hix64 ?hsx64 ?hfx64 ?hrx64 ?hQx64 ?hyx64 ?hSx64 ?hx64
      case hix64 =>
        simp only [List.getElem?_toArray, List.getElem?_cons_succ, List.getElem?_cons_zero]
        rfl
      case hsx64 => kernel_rfl
      case hfx64 => kernel_rfl
      case hrx64 => kernel_rfl
      case hyx64 =>
        exact Or.inr ⟨by rfl, rfl⟩
      case hQx64 => exact fun _ _ _ h => h
      case hSx64 => trivial
      try simp only [Act.put, List.setIfInBounds_toArray, List.set_cons_zero, List.set_cons_succ]
      refine wpAnyH_take (i := 16) (oi := ?oix65) (v := undef) ?hix65 ?hsx65 ?hfx65 ?hrx65 ?hQx65 ?hyx65 ?hSx65 ?hx65
      case hix65 =>
        simp only [List.getElem?_toArray, List.getElem?_cons_succ, List.getElem?_cons_zero]
        rfl
      case hsx65 => kernel_rfl
      case hfx65 => kernel_rfl
      case hrx65 => kernel_rfl
      case hyx65 =>
        exact Or.inr ⟨by rfl, rfl⟩
      case hQx65 => exact fun _ _ _ h => h
      case hSx65 => trivial
      try simp only [Act.put, List.setIfInBounds_toArray, List.set_cons_zero, List.set_cons_succ]
      refine wpAnyH_take (i := 17) (oi := ?oix66) (v := undef) ?hix66 ?hsx66 ?hfx66 ?hrx66 ?hQx66 ?hyx66 ?hSx66 ?hx66
      case hix66 =>
        simp only [List.getElem?_toArray, List.getElem?_cons_succ, List.getElem?_cons_zero]
        rfl
      case hsx66 => kernel_rfl
      case hfx66 => kernel_rfl
      case hrx66 => kernel_rfl
      case hyx66 =>
        exact Or.inr ⟨by rfl, rfl⟩
      case hQx66 => exact fun _ _ _ h => h
      case hSx66 => trivial
      try simp only [Act.put, List.setIfInBounds_toArray, List.set_cons_zero, List.set_cons_succ]
      refine wpAnyH_take (i := 18) (oi := ?oix67) (v := undef) ?hix67 ?hsx67 ?hfx67 ?hrx67 ?hQx67 ?hyx67 ?hSx67 ?hx67
      case hix67 =>
        simp only [List.getElem?_toArray, List.getElem?_cons_succ, List.getElem?_cons_zero]
        rfl
      case hsx67 => kernel_rfl
      case hfx67 => kernel_rfl
      case hrx67 => kernel_rfl
      case hyx67 =>
        exact Or.inr ⟨by rfl, rfl⟩
      case hQx67 => exact fun _ _ _ h => h
      case hSx67 => trivial
      try simp only [Act.put, List.setIfInBounds_toArray, List.set_cons_zero, List.set_cons_succ]
      refine wpAnyH_take (i := 19) (oi := ?oix68) (v := undef) ?hix68 ?hsx68 ?hfx68 ?hrx68 ?hQx68 ?hyx68 ?hSx68 ?hx68
      case hix68 =>
        simp only [List.getElem?_toArray, List.getElem?_cons_succ, List.getElem?_cons_zero]
        rfl
      case hsx68 => kernel_rfl
      case hfx68 => kernel_rfl
      case hrx68 => kernel_rfl
      case hyx68 =>
        exact Or.inr ⟨by rfl, rfl⟩
      case hQx68 => exact fun _ _ _ h => h
      case hSx68 => trivial
      try simp only [Act.put, List.setIfInBounds_toArray, List.set_cons_zero, List.set_cons_succ]
      refine wpAnyH_take (i := 20) (oi := ?oix69) (v := undef) ?hix69 ?hsx69 ?hfx69 ?hrx69 ?hQx69 ?hyx69 ?hSx69 ?hx69
      case hix69 =>
        simp only [List.getElem?_toArray, List.getElem?_cons_succ, List.getElem?_cons_zero]
        rfl
      case hsx69 => kernel_rfl
      case hfx69 => kernel_rfl
      case hrx69 => kernel_rfl
      case hyx69 =>
        exact Or.inr ⟨by rfl, rfl⟩
      case hQx69 => exact fun _ _ _ h => h
      case hSx69 => trivial
      try simp only [Act.put, List.setIfInBounds_toArray, List.set_cons_zero, List.set_cons_succ]
      refine wpAnyH_pass (i := 21) (o := ?oix70) ?hix70 ?hrx70 ?hwx70 ?hSx70 ?hx70
      case hix70 =>
        simp only [List.getElem?_toArray, List.getElem?_cons_succ, List.getElem?_cons_zero]
        rfl
      case hrx70 => kernel_rfl
      case hwx70 => rfl
      case hSx70 => trivial
      try simp only [Act.put, List.setIfInBounds_toArray, List.set_cons_zero, List.set_cons_succ]
      refine wpAnyH_take (i := 22) (oi := ?oix71) (v := undef) ?hix71 ?hsx71 ?hfx71 ?hrx71 ?hQx71 ?hyx71 ?hSx71 ?hx71
      case hix71 =>
        simp only [List.getElem?_toArray, List.getElem?_cons_succ, List.getElem?_cons_zero]
        rfl
      case hsx71 => kernel_rfl
      case hfx71 => kernel_rfl
      case hrx71 => kernel_rfl
      case hyx71 =>
        exact Or.inr ⟨by rfl, rfl⟩
      case hQx71 => exact fun _ _ _ h => h
      case hSx71 => trivial
      try simp only [Act.put, List.setIfInBounds_toArray, List.set_cons_zero, List.set_cons_succ]
      refine wpAnyH_take (i := 23) (oi := ?oix72) (v := ?vx72) ?hix72 ?hsx72 ?hfx72 ?hrx72 ?hQx72 ?hyx72 ?hSx72 ?hx72
      case hix72 =>
        simp only [List.getElem?_toArray, List.getElem?_cons_succ, List.getElem?_cons_zero]
        rfl
      case hsx72 => kernel_rfl
      case hfx72 => kernel_rfl
      case hrx72 => kernel_rfl
      case hyx72 =>
        refine Or.inl ⟨by rfl, ?_⟩
        intro w hSw
        (try dsimp only at hSw)
        go_simp
        try with_reducible rfl
      case hQx72 => exact fun _ _ _ h => h
      case hSx72 => trivial
      try simp only [Act.put, List.setIfInBounds_toArray, List.set_cons_zero, List.set_cons_succ]
      refine wpAnyH_done (by kernel_rfl) ?_ _
      go_wp2_with fail
      go_meet
      exact ⟨rfl, rfl, P0.out⟩
  case rest =>
    obtain ⟨rfl, rfl, hbc⟩ := hcut
    have BC := Lib.hid hbc
    clear hbc HQ1 HQ2 B1 B2 HB2 E2
    cases hb : blk n
    · have DC := Lib.hid (hdecode_out a3 nb cap3 n hb wc)
      have AW := Lib.hid (fun W => awake10_any W)
      go_wp2_with (first
        | (go_at_call 15; refine DC.out.mono ?_; rintro e w3 ⟨rfl, hb3⟩; have B3 := Lib.hid (BC.out.trans (hb3.mono (by have := BC.out.size; have := HS.out; omega))); clear hb3)
        | (go_at_call 14; refine (AW.out _).mono ?_; rintro e w4 ⟨rfl, hb4⟩; have B4 := Lib.hid (B3.out.trans (hb4.mono (by have := B3.out.size; have := HS.out; omega))); clear hb4))
      go_ret
      exact ⟨rfl, B4.out⟩
    · have AW := Lib.hid (fun W => awake10_any W)
      have DC := hdecode_in a3 nb cap3 n z HZ.out (by omega) hb wc (H3.out.below (by rw [HS.out]; exact BC.out))
      have hsz := BC.out.size
      have hss := HS.out
      by_cases hze : herr z n nb = 0
      · have hzr : (hres z nb n).1 = 0 := by
          unfold herr rerr at hze
          split at hze
          · assumption
          · rename_i h; exact absurd hze h
        have hzn : hnums z n nb = (hres z nb n).2.2 := by unfold hnums rnums; rw [if_pos (show rerr _ _ _ = 0 from hze)]
        have hlen := hres_length z nb n hzr
        have hbd := hres_bd z nb n
        rw [hze, hzn, hlen] at DC
        generalize (hres z nb n).2.2 = xs at *
        have hx' : ∀ i, i < n → -9223372036854775808 ≤ xs.getD i 0 ∧ xs.getD i 0 ≤ 9223372036854775807 := fun i hi => by
          rw [List.getD_eq_getElem?_getD, List.getElem?_eq_getElem (by omega)]
          exact hbd _ (List.getElem_mem (by omega))
        obtain ⟨x', hxx⟩ : ∃ x' : Nat → Int, (fun i => xs.getD i 0) = x' := ⟨_, rfl⟩
        have DC : Calls Try.prog 15 #[.agg #[], .slice a3 nb cap3, .int .i64 n] wc fun e w' => ∃ a c, e = .returned (.tuple #[.slice a n c, .int .i64 0]) ∧ RowOf w' a n (fun i => .int .i64 (x' i)) ∧ Below wc.heap.size wc w' := by rw [← hxx]; exact DC
        have hx'' : ∀ i, i < n → -9223372036854775808 ≤ x' i ∧ x' i ≤ 9223372036854775807 := by rw [← hxx]; exact hx'
        have TK := fun (a : Option Addr) (c : Nat) W => htakes_any a n c W
        rw [hb] at TK
        have TK := Lib.hid TK
        have EN := Lib.hid (fun (W1 : World) (a1 : Option Addr) (c1 : Nat) (hr : RowOf W1 a1 n (fun i => .int .i64 (x' i))) => hencode_in a1 n c1 x' hx'' hb W1 hr)
        have RD := Lib.hid (fun (W1 : World) (a1 : Option Addr) (c1 : Nat) hr => redecode n x' hb hx'' W1 a1 c1 hr)
        have SM := Lib.hid (fun (a1 a2 : Option Addr) (c1 c2 : Nat) W (h1 : RowOf W a1 n (fun i => .int .i64 (x' i))) (h2 : RowOf W a2 n (fun i => .int .i64 (x' i))) => samei a1 a2 n n c1 c2 x' x' (by omega) W h1 h2 true (by simp))
        have DC := Lib.hid DC
        have HSZ := Lib.hid (show s ≤ wc.heap.size from by omega)
        clear hze hzr hzn hlen hbd hx' hx'' hxx hb hsz hss
        go_wp2_with fail
        refine DC.out.mono ?_
        rintro e w3 ⟨a6, c6, rfl, hr6, hb3⟩
        have HR6 := Lib.hid hr6
        have B3 := Lib.hid (BC.out.trans (hb3.mono HSZ.out))
        clear hr6 hb3
        have e1 : ((n : Int) != (n : Int)) = false := by simp
        go_wp2_with (first
          | (go_at_call 24; refine (TK.out _ _ _).mono ?_; rintro e w4 ⟨rfl, hb4⟩; have HR6b := Lib.hid (HR6.out.below hb4); have B4 := Lib.hid (B3.out.trans (hb4.mono (by have := B3.out.size; have := HS.out; omega))); clear hb4)
          | (go_at_call 23; refine (EN.out _ _ _ HR6b.out).mono ?_; rintro e w5 ⟨v5, rfl, ho5, hb5⟩; obtain ⟨a7, c7, rfl, hr7, _⟩ := own_bytes ho5; have HR7 := Lib.hid hr7; have HR6c := Lib.hid (HR6b.out.below hb5); have B5 := Lib.hid (B4.out.trans (hb5.mono (by have := B4.out.size; have := HS.out; omega))); clear hb5 ho5 hr7)
          | (go_at_call 15; refine (RD.out _ _ _ HR7.out).mono ?_; rintro e w6 ⟨a8, c8, rfl, hr8, hb6⟩; have HR8 := Lib.hid hr8; have HR6d := Lib.hid (HR6c.out.below hb6); have B6 := Lib.hid (B5.out.trans (hb6.mono (by have := B5.out.size; have := HS.out; omega))); clear hb6 hr8)
          | (go_at_call 17; refine (SM.out _ _ _ _ _ HR8.out HR6d.out).mono ?_; rintro e w7 ⟨rfl, hb7⟩; have B7 := Lib.hid (B6.out.trans (hb7.mono (by have := B6.out.size; have := HS.out; omega))); clear hb7)
          | (go_at_call 14; refine (AW.out _).mono ?_; rintro e w8 ⟨rfl, hb8⟩; have B8 := Lib.hid (B7.out.trans (hb8.mono (by have := B7.out.size; have := HS.out; omega))); clear hb8))
        go_ret
        exact ⟨rfl, B8.out⟩
      · have hzn : hnums z n nb = [] := by unfold hnums rnums; rw [if_neg (show ¬ rerr _ _ _ = 0 from hze)]
        have hne : (herr z n nb != 0) = true := by simpa using hze
        rw [hzn] at DC
        have DC := Lib.hid DC
        have HSZ := Lib.hid (show s ≤ wc.heap.size from by omega)
        generalize herr z n nb = er at *
        clear hzn hb hze hsz hss
        go_wp2_with (first
          | (go_at_call 15; refine DC.out.mono ?_; rintro e w3 ⟨a6, c6, rfl, _, hb3⟩; have B3 := Lib.hid (BC.out.trans (hb3.mono HSZ.out)); clear hb3)
          | (go_at_call 14; refine (AW.out _).mono ?_; rintro e w4 ⟨rfl, hb4⟩; have B4 := Lib.hid (B3.out.trans (hb4.mono (by have := B3.out.size; have := HS.out; omega))); clear hb4))
        go_ret
        exact ⟨rfl, B4.out⟩
theorem walk (a : Option Addr) (n cap : Nat) (xs : List Int) (a2 : Option Addr) (m cap2 : Nat) (ys : List Int) (a3 : Option Addr) (nb cap3 : Nat) (zs : List Int) (W : World) (b : IsRow .i64 W a n cap xs) (b2 : IsRow .i64 W a2 m cap2 ys) (b3 : IsRow .u8 W a3 nb cap3 zs) :
    Calls Try.prog 7 #[.slice a n cap, .slice a2 m cap2, .slice a3 nb cap3] W fun e w' => e = .returned (.bool true) ∧ Below W.heap.size W w' := by
  by_cases hl : 300 < n ∨ 300 < m ∨ 3000 < nb
  · exact long a a2 a3 n cap m cap2 nb cap3 hl W
  obtain ⟨b1, _, b3', b4, b5⟩ := b
  obtain ⟨d1, _, d3, d4, d5⟩ := b2
  obtain ⟨f1, _, f3, f4, f5⟩ := b3
  have hr : RowOf W a n (fun i => .int .i64 (xs.getD i 0)) := by
    rcases b5 with b5 | ⟨b, off, rfl, hb, hc⟩
    · exact .inl (by omega)
    · exact .inr ⟨b, off, rfl, fun i hi => hc i (by omega)⟩
  have hr2 : RowOf W a2 m (fun i => .int .i64 (ys.getD i 0)) := by
    rcases d5 with d5 | ⟨b, off, rfl, hb, hc⟩
    · exact .inl (by omega)
    · exact .inr ⟨b, off, rfl, fun i hi => hc i (by omega)⟩
  have hr3 : RowOf W a3 nb (fun i => .int .u8 (zs.getD i 0)) := by
    rcases f5 with f5 | ⟨b, off, rfl, hb, hc⟩
    · exact .inl (by omega)
    · exact .inr ⟨b, off, rfl, fun i hi => hc i (by omega)⟩
  exact main a a2 a3 n cap m cap2 nb cap3 _ _ _ (by omega) (by omega) (by omega) (fun i hi => bounds_i64 (b4 (xs.getD i 0) (by rw [List.getD_eq_getElem?_getD, List.getElem?_eq_getElem (by omega)]; simp)))
    (fun i hi => bounds_i64 (d4 (ys.getD i 0) (by rw [List.getD_eq_getElem?_getD, List.getElem?_eq_getElem (by omega)]; simp))) (fun i hi => bounds_u8 (f4 (zs.getD i 0) (by rw [List.getD_eq_getElem?_getD, List.getElem?_eq_getElem (by omega)]; simp))) W hr hr2 hr3
theorem own : ownKnob Try.prog.godebug = none := by kernel_rfl
set_option maxRecDepth 100000 in
theorem contract (H : Type) (enc : TypeId × Value → H) (W : World) (base : Nat) (args : Array Value) (ds gs : List (DataW H)) (before : List MemPlace)
    (hval : ∀ (j : Nat) t v, Try.f7.params[j]? = some t → args[j]? = some v → Value.okWide Try.prog W .any base t v)
    (hW : DataW.Whole enc Try.prog Try.f7.params.toList Rows.hybridApartSpec.vars false W args.toList ds gs before) :
    Calls Try.prog 7 args W fun e W' => ∃ v, e = .returned v ∧ Rows.hybridApartSpec.post enc Try.prog Try.f7 false true false false W args v W' := by
  have hW' := hW
  obtain ⟨p, q, hA0, hV, rfl, hfz, hnd⟩ := hW
  have hA : DataW.TrodAll enc Try.prog W 0 (fun _ => true) true Try.f7.params.toList args.toList ds p := hA0
  rw [Try.params7] at hA hval
  obtain ⟨v0, vs0, d0, ds0, p0, q0, hargs, rfl, rfl, h0, r0⟩ := trodAll_cons hA
  obtain ⟨v1, vs1, d1, ds1, p1, q1, rfl, rfl, rfl, h1, r1⟩ := trodAll_cons r0
  obtain ⟨v2, vs2, d2, ds2, p2, q2, rfl, rfl, rfl, h2, r2⟩ := trodAll_cons r1
  obtain ⟨rfl, rfl, rfl⟩ := trodAll_nil r2
  obtain rfl : args = #[v0, v1, v2] := by cases args; simp_all
  obtain ⟨rfl, rfl⟩ := trodVars_none hV
  have hWhole := hW'
  obtain ⟨a0, len0, cap0, rfl⟩ := okWide_slice Try.underlying22 (hval 0 22 v0 rfl rfl)
  have k0 := h0
  have lt0 : ∀ x ∈ p0, x.block < W.heap.size := by obtain ⟨m, hm⟩ := k0; exact DataW.trod_lt m _ _ _ hm
  obtain ⟨z0, b0⟩ : ∃ zs, IsRow .i64 W a0 len0 cap0 zs := by
    obtain ⟨fuel, hf⟩ := h0
    rcases open_ints Try.underlying22 Try.underlying2 (by kernel_rfl) hf with ⟨hcs, _⟩ | ⟨x, l, c, zs, hcs, _, hl, hm, hz, _, hcell, hwz⟩
    · simp [Value.cells] at hcs
      obtain ⟨rfl, rfl, rfl⟩ := hcs
      exact ⟨[], isRow_nil _ _⟩
    · simp [Value.cells] at hcs
      obtain ⟨rfl, rfl, rfl⟩ := hcs
      exact ⟨zs, isRow_of hl hm (by simpa using hz) hcell hwz⟩
  obtain ⟨a1, len1, cap1, rfl⟩ := okWide_slice Try.underlying22 (hval 1 22 v1 rfl rfl)
  have k1 := h1
  have lt1 : ∀ x ∈ p1, x.block < W.heap.size := by obtain ⟨m, hm⟩ := k1; exact DataW.trod_lt m _ _ _ hm
  obtain ⟨z1, b1⟩ : ∃ zs, IsRow .i64 W a1 len1 cap1 zs := by
    obtain ⟨fuel, hf⟩ := h1
    rcases open_ints Try.underlying22 Try.underlying2 (by kernel_rfl) hf with ⟨hcs, _⟩ | ⟨x, l, c, zs, hcs, _, hl, hm, hz, _, hcell, hwz⟩
    · simp [Value.cells] at hcs
      obtain ⟨rfl, rfl, rfl⟩ := hcs
      exact ⟨[], isRow_nil _ _⟩
    · simp [Value.cells] at hcs
      obtain ⟨rfl, rfl, rfl⟩ := hcs
      exact ⟨zs, isRow_of hl hm (by simpa using hz) hcell hwz⟩
  obtain ⟨a2, len2, cap2, rfl⟩ := okWide_slice Try.underlying26 (hval 2 26 v2 rfl rfl)
  have k2 := h2
  have lt2 : ∀ x ∈ p2, x.block < W.heap.size := by obtain ⟨m, hm⟩ := k2; exact DataW.trod_lt m _ _ _ hm
  obtain ⟨z2, b2⟩ : ∃ zs, IsRow .u8 W a2 len2 cap2 zs := by
    obtain ⟨fuel, hf⟩ := h2
    rcases open_ints Try.underlying26 Try.underlying5 (by kernel_rfl) hf with ⟨hcs, _⟩ | ⟨x, l, c, zs, hcs, _, hl, hm, hz, _, hcell, hwz⟩
    · simp [Value.cells] at hcs
      obtain ⟨rfl, rfl, rfl⟩ := hcs
      exact ⟨[], isRow_nil _ _⟩
    · simp [Value.cells] at hcs
      obtain ⟨rfl, rfl, rfl⟩ := hcs
      exact ⟨zs, isRow_of hl hm (by simpa using hz) hcell hwz⟩
  clear hA0
  refine (walk a0 len0 cap0 z0 a1 len1 cap1 z1 a2 len2 cap2 z2 W b0 b1 b2).mono fun e W' ⟨he, hg⟩ => ?_
  subst he
  exact ⟨_, rfl, _, _, _, [], _, [], hW', trodAll_mk1 (shut_bool Try.underlying4 _), (trodAll_cons_mk (Below.trod laidOut (by kernel_rfl) (of_decide_eq_true (by kernel_rfl)) k0 hg lt0) (trodAll_cons_mk (Below.trod laidOut (by kernel_rfl) (of_decide_eq_true (by kernel_rfl)) k1 hg lt1) (trodAll_cons_mk (Below.trod laidOut (by kernel_rfl) (of_decide_eq_true (by kernel_rfl)) k2 hg lt2) trodAll_mk0))), rfl, hg.frame _, fun h => by cases h⟩

set_option maxRecDepth 100000 in
theorem lifted (os : Os) (started : os.Started) (H : Type) (enc : TypeId × Value → H) :
    ReturnsInHanded {} Try.checked os 7 .any (Rows.hybridApartSpec.pre6 enc Try.prog Try.f7 Rows.hybridApartRow.domain false) (Rows.hybridApartSpec.post enc Try.prog Try.f7 false true false false) := by
  refine returnsInHanded_of_change (C := Try.checked) own started (by kernel_rfl) Try.func7
    (ChangeSpec.witness6 (enc := enc) (C := Try.checked) false ⟨#[], #[.slice none 0 0, .slice none 0 0, .slice none 0 0], []⟩ 8 (by kernel_rfl) (by kernel_rfl) (by kernel_rfl) (by kernel_rfl)) ?_
  intro W base args ds gs before hval hW _ _
  exact contract H enc W base args ds gs before hval hW

/-- ████ THE STATEMENT ████ -/
theorem proved : Rows.HybridApartSaid :=
  OpenClaim.holds_of_wide 7 Try.f7 rfl rfl rfl rfl rfl rfl rfl ⟨rfl, rfl, rfl, rfl, rfl⟩ rfl rfl rfl rfl rfl (by kernel_rfl) Try.func7 (by kernel_rfl)
    (of_decide_eq_true (by kernel_rfl)) (by unfold Func.isWrapper; first | (rw [if_pos (by decide +kernel)]; kernel_rfl) | (rw [if_neg (by decide +kernel)]; exact ⟨rfl, rfl⟩))
    (fun os started H enc _ => lifted os started H enc)
end Go.Proofs.Ythonjffojaljdaa.hybridApart
