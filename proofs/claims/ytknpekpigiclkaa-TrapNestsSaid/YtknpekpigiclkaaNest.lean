/-
  CONTRACT OF (*corduroylaw02.nest).from, in any world where the nest lies: what it notes, what comes out. Conditions: at most 60 steps.
-/
import Derived.Test.YtknpekpigiclkaaNestA
import Derived.WalkLawsBesides
import Derived.WalkSpells
import Derived.ProofKit
import Derived.IntWalk
import Derived.BigRegion
import Derived.Deep.RegionHeld3
import Derived.Deep.QuietTactic
import Derived.BigQuiet
import Derived.Deep.RegionHeldLaw
import Derived.Deep.DeepMust
import Derived.Outline
import Derived.Lib.Hide
namespace Go.Proofs.Ytknpekpigiclkaa
open Go.ChangeShapes Go.WideShapes Go.ChangeAt Go.RowKit
set_option linter.unusedVariables false
/-- How a call ends of which n comes out. -/
def Came (n : Int) (e : Ending) : Prop := (n = 0 ∧ e = .returned (.tuple #[])) ∨ ((n != 0) = true ∧ e = .panicked [{ v := .iface 89 (.agg #[.int .i64 n]), recovered := false }])
theorem throw_any (n : Int) (w : World) : Calls Try.prog 38 #[.int .i64 n] w fun e w' => Came n e ∧ w = w' := by
  by_cases h : n = 0
  · subst h
    exact (throw_ok w).mono fun e w' ⟨h1, h2⟩ => ⟨.inl ⟨rfl, h1⟩, h2⟩
  · exact (throw_some n (by simpa using h) w).mono fun e w' ⟨h1, h2⟩ => ⟨.inr ⟨by simpa using h, h1⟩, h2⟩
set_option maxHeartbeats 1000000 in
set_option maxRecDepth 100000 in
theorem from_end (bn : Nat) (a : Option Addr) (L lc : Nat) (t : Nat → Bool) (E : Nat → Int) (v : Value) (ns : List Int) (w : World) (h : NestAt w bn a L lc t E v ns) :
    Calls Try.prog 17 #[.pointer (some ⟨bn, 0, none⟩), .int .i64 L] w fun e w' => e = .returned (.tuple #[]) ∧ NestAt w' bn a L lc t E v ns ∧ Kept bn v w w' v := by
  obtain ⟨s, hs⟩ : ∃ s, w.heap.size = s := ⟨_, rfl⟩
  have LV := Lib.hid (Level.start h (L : Int) hs)
  have hL : ¬ ((L : Int) < L) := by omega
  clear h
  go_enter Try.func17, Try.ntmps17
  go_wp2_with fail
  obtain ⟨W0, hW0⟩ : ∃ W0, (w.alloc (.cells #[.pointer (some ⟨bn, 0, none⟩)] 23)).alloc (.cells #[.int .i64 (L : Int)] 3) = W0 := ⟨_, rfl⟩
  rw [hW0] at LV ⊢
  clear hW0 hs
  have c2 := LV.out.drew.c2
  have c3 := LV.out.drew.c3
  have n0 := LV.out.drew.n0
  go_region_held3 (fun w' => w'.cell? ⟨s, 0, none⟩ = some (.pointer (some ⟨bn, 0, none⟩)) ∧ w'.cell? ⟨s + 1, 0, none⟩ = some (.int .i64 L) ∧ w'.cell? ⟨bn, 0, none⟩ = some (.slice a L lc)) (first | go_keep) (fail)
  go_wp2
  exact bodyPost_ret (results_none rfl _ _ _) rfl ⟨rfl, LV.out.drew.nest, LV.out.drew.kept⟩
theorem by_end {G C : Prop} (k : Hid G → C) (h : G) : C := k (Lib.hid h)
theorem inner_any (bn : Nat) (a : Option Addr) (L lc : Nat) (t : Nat → Bool) (E : Nat → Int) (n j s : Nat) (hjn : L - n = j + 1) (hj0 : (j : Int) + 1 ≤ 60) (v : Value) (ns : List Int) (W : World) (hns : ns.length + 2 * n ≤ 800)
    (c2 : W.cell? ⟨s, 0, none⟩ = some (.pointer (some ⟨bn, 0, none⟩))) (c3 : W.cell? ⟨s + 1, 0, none⟩ = some (.int .i64 (j : Nat))) (h : NestAt W bn a L lc t E v ns)
    (ih : ∀ (v : Value) (ns : List Int) (w : World), ns.length + 2 * n ≤ 800 → NestAt w bn a L lc t E v ns →
      Calls Try.prog 17 #[.pointer (some ⟨bn, 0, none⟩), .int .i64 ((L - n : Nat) : Int)] w fun e w' => Came (er t E L n) e ∧ ∃ v', NestAt w' bn a L lc t E v' (ns ++ nts t E L n) ∧ Kept bn v w w' v') :
    Calls Try.prog 57 #[.pointer (some ⟨s, 0, none⟩), .pointer (some ⟨s + 1, 0, none⟩)] (W.alloc (.cells #[.int .i64 0] 27))
      (Comes1 W (fun m w1 => m = er t E L n ∧ ∃ v', NestAt w1 bn a L lc t E v' (ns ++ nts t E L n) ∧ Kept bn v (W.alloc (.cells #[.int .i64 0] 27)) w1 v')) := by
  have hwj : IntKind.i64.wrap ((j : Int) + 1) = ((j + 1 : Nat) : Int) := by
    rw [IntWalk.i64_in _ (by omega)]; omega
  obtain ⟨Wa, hWa⟩ : ∃ Wa, W.alloc (.cells #[.int .i64 0] 27) = Wa := ⟨_, rfl⟩
  have hal := alive_new W
  have hT : Turned (fun _ => False) W (W.alloc (.cells #[.int .i64 0] 27)) := (Turned.refl _ _).alloc _
  have hs1 : W.heap.size < (W.alloc (.cells #[.int .i64 0] 27)).heap.size := by simp
  have d2 := (hT.cell (p := ⟨s, 0, none⟩) (World.block_lt_of_cell? W _ c2) (fun e => e)).trans c2
  have d3 := (hT.cell (p := ⟨s + 1, 0, none⟩) (World.block_lt_of_cell? W _ c3) (fun e => e)).trans c3
  have hN := h.aside hT (fun _ e => e.elim)
  rw [hWa] at hal hs1 d2 d3 hN ⊢
  have KA := Lib.hid (fun w1 v' (hk : Kept bn v Wa w1 v') => (show Alive W w1 from ⟨(hk.1.cell (p := ⟨W.heap.size, 0, none⟩) hs1 (fun e => by
      rcases e with e | e
      · have := h.1.lt; simp at e; omega
      · have := (h.2.1.lt _ e).2; simp at this)).trans hal.1, (hk.1.frozen (p := ⟨W.heap.size, 0, none⟩) hs1 (fun e => by
      rcases e with e | e
      · have := h.1.lt; simp at e; omega
      · have := (h.2.1.lt _ e).2; simp at this)).trans hal.2.1, by have := hk.1.size; omega⟩))
  have IH := Lib.hid (ih v ns Wa hns hN)
  clear hal hT hN h ih c2 c3 hWa
  rw [hjn] at IH
  go_enter Try.func57, Try.ntmps57
  go_wp2_with fail
  refine IH.out.mono ?_
  rintro e w1 ⟨hc, v', hn', hk'⟩
  rcases hc with ⟨h0, rfl⟩ | ⟨h0, rfl⟩
  · go_wp2
    go_end0
    exact ⟨KA.out w1 v' hk', .inl ⟨rfl, h0.symm, v', hn', hk'⟩⟩
  · go_wp2
    exact ⟨rfl, KA.out w1 v' hk', .inr ⟨_, h0, rfl, rfl, v', hn', hk'⟩⟩
set_option maxHeartbeats 2000000 in
set_option maxRecDepth 100000 in
theorem from_step (bn : Nat) (a : Option Addr) (L lc : Nat) (t : Nat → Bool) (E : Nat → Int) (hE : ∀ i, i < L → -9223372036854775808 ≤ E i ∧ E i ≤ 9223372036854775807) (n : Nat) (hn : n + 1 ≤ L) (hL : L ≤ 60)
    (ih : ∀ (v : Value) (ns : List Int) (w : World), ns.length + 2 * n ≤ 800 → NestAt w bn a L lc t E v ns →
      Calls Try.prog 17 #[.pointer (some ⟨bn, 0, none⟩), .int .i64 ((L - n : Nat) : Int)] w fun e w' => Came (er t E L n) e ∧ ∃ v', NestAt w' bn a L lc t E v' (ns ++ nts t E L n) ∧ Kept bn v w w' v')
    (v : Value) (ns : List Int) (w : World) (hns : ns.length + 2 * (n + 1) ≤ 800) (h : NestAt w bn a L lc t E v ns) :
    Calls Try.prog 17 #[.pointer (some ⟨bn, 0, none⟩), .int .i64 ((L - (n + 1) : Nat) : Int)] w fun e w' => Came (er t E L (n + 1)) e ∧ ∃ v', NestAt w' bn a L lc t E v' (ns ++ nts t E L (n + 1)) ∧ Kept bn v w w' v' := by
  obtain ⟨b, off, rfl⟩ := h.some_ (show 0 < L by omega)
  obtain ⟨s, hs⟩ : ∃ s, w.heap.size = s := ⟨_, rfl⟩
  obtain ⟨j, hj⟩ : ∃ j, L - (n + 1) = j := ⟨_, rfl⟩
  have hjn : L - n = j + 1 := by omega
  have hjL : (j : Int) < L := by omega
  have hj0 : (0 : Int) ≤ j := by omega
  have hj1 : j < L := by omega
  have hwj : IntKind.i64.wrap ((j : Int) + 1) = ((j + 1 : Nat) : Int) := by
    rw [IntWalk.i64_in _ (by omega)]; omega
  have hj60 : (j : Int) + 1 ≤ 60 := by omega
  have IH := Lib.hid ih
  have HE := Lib.hid hE
  have LV := Lib.hid (Level.start h (j : Int) hs)
  have HNS := Lib.hid hns
  rw [hj]
  have HJ := Lib.hid hj
  have HJN := Lib.hid hjn
  have HJ1 := Lib.hid hj1
  have HN := Lib.hid hn
  clear h ih hE hj hns hjn hj1 hn hL
  go_enter Try.func17, Try.ntmps17
  go_wp2_with fail
  obtain ⟨W0, hW0⟩ : ∃ W0, (w.alloc (.cells #[.pointer (some ⟨bn, 0, none⟩)] 23)).alloc (.cells #[.int .i64 (j : Int)] 3) = W0 := ⟨_, rfl⟩
  rw [hW0] at LV ⊢
  clear hW0 hs
  have c2 := LV.out.drew.c2
  have c3 := LV.out.drew.c3
  have n0 := LV.out.drew.n0
  go_region_held3 (fun w' => w'.cell? ⟨s, 0, none⟩ = some (.pointer (some ⟨bn, 0, none⟩)) ∧ w'.cell? ⟨s + 1, 0, none⟩ = some (.int .i64 (j : Int)) ∧ w'.cell? ⟨bn, 0, none⟩ = some (.slice (some ⟨b, off, none⟩) L lc)) (first | go_keep) (fail)
  go_wp2_with fail
  clear c2 c3 n0
  have LV1 := Lib.hid LV.out.drew
  generalize W0.drew = W1 at *
  clear LV
  have n1 := LV1.out.drew.n1
  have n2 : (W1.alloc (.cells #[.int .i64 (j : Int)] 3)).drew.cell? ⟨bn, 1, none⟩ = some v := (LV1.out.nest.1.alloc _).drew.cell 1
  have n3 : (W1.alloc (.cells #[.int .i64 (j : Int)] 3)).cell? ⟨bn, 1, none⟩ = some v := (LV1.out.nest.1.alloc _).cell 1
  obtain ⟨_, w2, ⟨g2, l2, k2, rfl⟩, hrun, hl2, ht2, hn2, hk2⟩ := note_on LV1.out.drew.nest (by have := HNS.out; omega) (j : Int) (.cells #[.int .i64 (j : Int)] 3) (by simp [go_sem])
  have HR := Lib.hid hrun
  have HS1 := Lib.hid (show (W1.drew.alloc (.cells #[.int .i64 (j : Int)] 3)).cell? ⟨s, 0, none⟩ = some (.pointer (some ⟨bn, 0, none⟩)) ∧ (W1.drew.alloc (.cells #[.int .i64 (j : Int)] 3)).cell? ⟨s + 1, 0, none⟩ = some (.int .i64 (j : Int)) from ⟨(LV1.out.drew.box.alloc _).cell 0, (LV1.out.drew.idx.alloc _).cell 0⟩)
  have q1 : w2.cell? ⟨bn, 1, none⟩ = some v := hl2.cell 1
  have q2 : w2.frozen? ⟨bn, 1, none⟩ = false := hl2.frozen 1
  have HS2 := Lib.hid (show w2.cell? ⟨s, 0, none⟩ = some (.pointer (some ⟨bn, 0, none⟩)) ∧ w2.cell? ⟨s + 1, 0, none⟩ = some (.int .i64 (j : Int)) from ⟨(LV1.out.drew.box.turned ht2 (fun e => (LV1.out.own _ e).1 rfl)).cell 0, (LV1.out.drew.idx.turned ht2 (fun e => (LV1.out.own _ e).2 rfl)).cell 0⟩)
  obtain ⟨W2, hW2⟩ : ∃ W2, w2.setCell ⟨bn, 1, none⟩ (.slice (some ⟨g2, 0, none⟩) l2 k2) = W2 := ⟨_, rfl⟩
  rw [hW2] at hn2 hk2
  have LV2 := Lib.hid (LV1.out.drew.on hn2 hk2)
  have HS3 := Lib.hid (show W2.cell? ⟨s, 0, none⟩ = some (.pointer (some ⟨bn, 0, none⟩)) ∧ W2.cell? ⟨s + 1, 0, none⟩ = some (.int .i64 (j : Int)) from ⟨LV2.out.c2, LV2.out.c3⟩)
  clear hrun hl2 ht2 hn2 hk2
  refine by_end (G := ?G19) ?main19 ?fin19
  case main19 =>
    intro hG
    refine wp_region_held_drew (S := (fun w' => w'.cell? ⟨s, 0, none⟩ = some (.pointer (some ⟨bn, 0, none⟩)) ∧ w'.cell? ⟨s + 1, 0, none⟩ = some (.int .i64 (j : Nat)))) (by kernel_rfl) ⟨LV1.out.drew.c2, LV1.out.drew.c3⟩ (fun hHeld => ?_)
    refine wpAnyH_take (i := 0) (oi := ?oix20) (v := ?vx20) ?hix20 ?hsx20 ?hfx20 ?hrx20 ?hQx20 ?hyx20 ?hSx20 ?hx20
    case hix20 =>
      simp only [List.getElem?_toArray, List.getElem?_cons_zero]
      rfl
    case hsx20 => kernel_rfl
    case hfx20 => kernel_rfl
    case hrx20 => kernel_rfl
    case hyx20 =>
      refine Or.inl ⟨by rfl, ?_⟩
      intro w hSw
      (try dsimp only at hSw)
      go_simp
      try with_reducible rfl
    case hQx20 => exact fun _ _ _ h => h
    case hSx20 => assumption
    try simp only [Act.put, List.setIfInBounds_toArray, List.set_cons_zero, List.set_cons_succ]
    refine wpAnyH_take (i := 1) (oi := ?oix21) (v := ?vx21) ?hix21 ?hsx21 ?hfx21 ?hrx21 ?hQx21 ?hyx21 ?hSx21 ?hx21
    case hix21 =>
      simp only [List.getElem?_toArray, List.getElem?_cons_succ, List.getElem?_cons_zero]
      rfl
    case hsx21 => kernel_rfl
    case hfx21 => kernel_rfl
    case hrx21 => kernel_rfl
    case hyx21 =>
      refine Or.inl ⟨by rfl, ?_⟩
      intro w hSw
      (try dsimp only at hSw)
      go_simp
      try with_reducible rfl
    case hQx21 => exact fun _ _ _ h => h
    case hSx21 => assumption
    try simp only [Act.put, List.setIfInBounds_toArray, List.set_cons_zero, List.set_cons_succ]
    refine wpAnyH_take (i := 2) (oi := ?oix22) (v := ?vx22) ?hix22 ?hsx22 ?hfx22 ?hrx22 ?hQx22 ?hyx22 ?hSx22 ?hx22
    case hix22 =>
      simp only [List.getElem?_toArray, List.getElem?_cons_succ, List.getElem?_cons_zero]
      rfl
    case hsx22 => kernel_rfl
    case hfx22 => kernel_rfl
    case hrx22 => kernel_rfl
    case hyx22 =>
      refine Or.inl ⟨by rfl, ?_⟩
      intro w hSw
      (try dsimp only at hSw)
      go_simp
      try with_reducible rfl
    case hQx22 => exact fun _ _ _ h => h
    case hSx22 => assumption
    try simp only [Act.put, List.setIfInBounds_toArray, List.set_cons_zero, List.set_cons_succ]
    refine wpAnyH_take (i := 3) (oi := ?oix23) (v := ?vx23) ?hix23 ?hsx23 ?hfx23 ?hrx23 ?hQx23 ?hyx23 ?hSx23 ?hx23
    case hix23 =>
      simp only [List.getElem?_toArray, List.getElem?_cons_succ, List.getElem?_cons_zero]
      rfl
    case hsx23 => kernel_rfl
    case hfx23 => kernel_rfl
    case hrx23 => kernel_rfl
    case hyx23 =>
      refine Or.inl ⟨by rfl, ?_⟩
      intro w hSw
      (try dsimp only at hSw)
      go_simp
      try with_reducible rfl
    case hQx23 => exact fun _ _ _ h => h
    case hSx23 => assumption
    try simp only [Act.put, List.setIfInBounds_toArray, List.set_cons_zero, List.set_cons_succ]
    refine wpAnyH_take (i := 5) (oi := ?oix24) (v := ?vx24) ?hix24 ?hsx24 ?hfx24 ?hrx24 ?hQx24 ?hyx24 ?hSx24 ?hx24
    case hix24 =>
      simp only [List.getElem?_toArray, List.getElem?_cons_succ, List.getElem?_cons_zero]
      rfl
    case hsx24 => kernel_rfl
    case hfx24 => kernel_rfl
    case hrx24 => kernel_rfl
    case hyx24 =>
      refine Or.inl ⟨by rfl, ?_⟩
      intro w hSw
      (try dsimp only at hSw)
      go_simp
      try with_reducible rfl
    case hQx24 => exact fun _ _ _ h => h
    case hSx24 => assumption
    try simp only [Act.put, List.setIfInBounds_toArray, List.set_cons_zero, List.set_cons_succ]
    refine wpAnyH_ready (rs := [4, 6]) (by kernel_rfl) (by simp) ?_
    refine AllReadyH.cons (o := ?ox25) ?ix25 ?kx25 ?mx25
    case ix25 =>
      simp only [List.getElem?_toArray, List.getElem?_cons_succ, List.getElem?_cons_zero]
      rfl
    case' mx25 =>
      refine AllReadyH.cons (o := ?ox26) ?ix26 ?kx26 AllReadyH.nil
      case ix26 =>
        simp only [List.getElem?_toArray, List.getElem?_cons_succ, List.getElem?_cons_zero]
        rfl
      intro K hK
      go_simp
      refine hK.out _ _ HS1.out (fun hHeld => ?_)
      clear hK K
      try simp only [Act.put, List.setIfInBounds_toArray, List.set_cons_zero, List.set_cons_succ]
      refine wpAnyH_ready (rs := [4]) (by kernel_rfl) (by simp) ?_
      refine AllReadyH.cons (o := ?ox27) ?ix27 ?kx27 AllReadyH.nil
      case ix27 =>
        simp only [List.getElem?_toArray, List.getElem?_cons_succ, List.getElem?_cons_zero]
        rfl
      intro K hK
      go_simp
      refine hK.out _ _ HS1.out (fun hHeld => ?_)
      clear hK K
      try simp only [Act.put, List.setIfInBounds_toArray, List.set_cons_zero, List.set_cons_succ]
      refine wpAnyH_ready (rs := [7]) (by kernel_rfl) (by simp) ?_
      refine AllReadyH.cons (o := ?ox28) ?ix28 ?kx28 AllReadyH.nil
      case ix28 =>
        simp only [List.getElem?_toArray, List.getElem?_cons_succ, List.getElem?_cons_zero]
        rfl
      intro K hK
      refine step_append_ran _ _ (by rfl) _ _ 24 (by rfl) _ _ _ (by rfl) (by rfl) HR.out ?_
      refine hK.out _ _ HS2.out (fun hHeld => ?_)
      clear hK K
      try simp only [Act.put, List.setIfInBounds_toArray, List.set_cons_zero, List.set_cons_succ]
      refine wpAnyH_take (i := 8) (oi := ?oix29) (v := ?vx29) ?hix29 ?hsx29 ?hfx29 ?hrx29 ?hQx29 ?hyx29 ?hSx29 ?hx29
      case hix29 =>
        simp only [List.getElem?_toArray, List.getElem?_cons_succ, List.getElem?_cons_zero]
        rfl
      case hsx29 => kernel_rfl
      case hfx29 => kernel_rfl
      case hrx29 => kernel_rfl
      case hyx29 =>
        refine Or.inl ⟨by rfl, ?_⟩
        intro w hSw
        (try dsimp only at hSw)
        go_simp
        try with_reducible rfl
      case hQx29 => exact fun _ _ _ h => h
      case hSx29 => assumption
      try simp only [Act.put, List.setIfInBounds_toArray, List.set_cons_zero, List.set_cons_succ]
      refine wpAnyH_take (i := 9) (oi := ?oix30) (v := ?vx30) ?hix30 ?hsx30 ?hfx30 ?hrx30 ?hQx30 ?hyx30 ?hSx30 ?hx30
      case hix30 =>
        simp only [List.getElem?_toArray, List.getElem?_cons_succ, List.getElem?_cons_zero]
        rfl
      case hsx30 => kernel_rfl
      case hfx30 => kernel_rfl
      case hrx30 => kernel_rfl
      case hyx30 =>
        refine Or.inl ⟨by rfl, ?_⟩
        intro w hSw
        (try dsimp only at hSw)
        go_simp
        try with_reducible rfl
      case hQx30 => exact fun _ _ _ h => h
      case hSx30 => assumption
      try simp only [Act.put, List.setIfInBounds_toArray, List.set_cons_zero, List.set_cons_succ]
      refine wpAnyH_ready (rs := [10]) (by kernel_rfl) (by simp) ?_
      refine AllReadyH.cons (o := ?ox31) ?ix31 ?kx31 AllReadyH.nil
      case ix31 =>
        simp only [List.getElem?_toArray, List.getElem?_cons_succ, List.getElem?_cons_zero]
        rfl
      intro K hK
      go_simp
      (try rw [hW2])
      refine hK.out _ _ HS3.out (fun hHeld => ?_)
      clear hK K
      try simp only [Act.put, List.setIfInBounds_toArray, List.set_cons_zero, List.set_cons_succ]
      refine wpAnyH_done (by kernel_rfl) ?_ _
      exact hG.out
    case' kx25 =>
      intro K hK
      go_simp
      refine hK.out _ _ ⟨LV1.out.drew.c2, LV1.out.drew.c3⟩ (fun hHeld => ?_)
      clear hK K
      try simp only [Act.put, List.setIfInBounds_toArray, List.set_cons_zero, List.set_cons_succ]
      refine wpAnyH_ready (rs := [6]) (by kernel_rfl) (by simp) ?_
      refine AllReadyH.cons (o := ?ox32) ?ix32 ?kx32 AllReadyH.nil
      case ix32 =>
        simp only [List.getElem?_toArray, List.getElem?_cons_succ, List.getElem?_cons_zero]
        rfl
      intro K hK
      go_simp
      refine hK.out _ _ HS1.out (fun hHeld => ?_)
      clear hK K
      try simp only [Act.put, List.setIfInBounds_toArray, List.set_cons_zero, List.set_cons_succ]
      refine wpAnyH_ready (rs := [7]) (by kernel_rfl) (by simp) ?_
      refine AllReadyH.cons (o := ?ox33) ?ix33 ?kx33 AllReadyH.nil
      case ix33 =>
        simp only [List.getElem?_toArray, List.getElem?_cons_succ, List.getElem?_cons_zero]
        rfl
      intro K hK
      refine step_append_ran _ _ (by rfl) _ _ 24 (by rfl) _ _ _ (by rfl) (by rfl) HR.out ?_
      refine hK.out _ _ HS2.out (fun hHeld => ?_)
      clear hK K
      try simp only [Act.put, List.setIfInBounds_toArray, List.set_cons_zero, List.set_cons_succ]
      refine wpAnyH_take (i := 8) (oi := ?oix34) (v := ?vx34) ?hix34 ?hsx34 ?hfx34 ?hrx34 ?hQx34 ?hyx34 ?hSx34 ?hx34
      case hix34 =>
        simp only [List.getElem?_toArray, List.getElem?_cons_succ, List.getElem?_cons_zero]
        rfl
      case hsx34 => kernel_rfl
      case hfx34 => kernel_rfl
      case hrx34 => kernel_rfl
      case hyx34 =>
        refine Or.inl ⟨by rfl, ?_⟩
        intro w hSw
        (try dsimp only at hSw)
        go_simp
        try with_reducible rfl
      case hQx34 => exact fun _ _ _ h => h
      case hSx34 => assumption
      try simp only [Act.put, List.setIfInBounds_toArray, List.set_cons_zero, List.set_cons_succ]
      refine wpAnyH_take (i := 9) (oi := ?oix35) (v := ?vx35) ?hix35 ?hsx35 ?hfx35 ?hrx35 ?hQx35 ?hyx35 ?hSx35 ?hx35
      case hix35 =>
        simp only [List.getElem?_toArray, List.getElem?_cons_succ, List.getElem?_cons_zero]
        rfl
      case hsx35 => kernel_rfl
      case hfx35 => kernel_rfl
      case hrx35 => kernel_rfl
      case hyx35 =>
        refine Or.inl ⟨by rfl, ?_⟩
        intro w hSw
        (try dsimp only at hSw)
        go_simp
        try with_reducible rfl
      case hQx35 => exact fun _ _ _ h => h
      case hSx35 => assumption
      try simp only [Act.put, List.setIfInBounds_toArray, List.set_cons_zero, List.set_cons_succ]
      refine wpAnyH_ready (rs := [10]) (by kernel_rfl) (by simp) ?_
      refine AllReadyH.cons (o := ?ox36) ?ix36 ?kx36 AllReadyH.nil
      case ix36 =>
        simp only [List.getElem?_toArray, List.getElem?_cons_succ, List.getElem?_cons_zero]
        rfl
      intro K hK
      go_simp
      (try rw [hW2])
      refine hK.out _ _ HS3.out (fun hHeld => ?_)
      clear hK K
      try simp only [Act.put, List.setIfInBounds_toArray, List.set_cons_zero, List.set_cons_succ]
      refine wpAnyH_done (by kernel_rfl) ?_ _
      exact hG.out
  case' fin19 =>
    skip
  all_goals
    clear n1 n2 n3 q1 q2 hW2
    have c2 := LV2.out.drew.c2
    have c3 := LV2.out.drew.c3
    have n0 := LV2.out.drew.n0
    have s0 := (LV2.out.drew.nest.step HJ1.out).1
    clear HR HS1 HS2 HS3 LV1
    obtain ⟨tj, htj⟩ : ∃ tj, t j = tj := ⟨_, rfl⟩
    rw [htj] at s0
    have HTJ := Lib.hid htj
    clear htj
    go_wp2_with fail
    go_region_held3 (fun w' => w'.cell? ⟨s, 0, none⟩ = some (.pointer (some ⟨bn, 0, none⟩)) ∧ w'.cell? ⟨s + 1, 0, none⟩ = some (.int .i64 (j : Int)) ∧ w'.cell? ⟨bn, 0, none⟩ = some (.slice (some ⟨b, off, none⟩) L lc) ∧ w'.cell? ⟨b, off + j * 2, none⟩ = some (.bool tj)) (first | go_keep) (fail)
    clear c2 c3 n0 s0
    have LV3 := Lib.hid LV2.out.drew
    clear LV2
    generalize W2.drew = W3 at *
    obtain ⟨m, hm⟩ : ∃ m, er t E L n = m := ⟨_, rfl⟩
    have c2 := LV3.out.c2
    have c3 := LV3.out.c3
    cases tj
    · have CI := Lib.hid (IH.out _ (ns ++ [(j : Int)]) W3 (by simp; have := HNS.out; omega) LV3.out.nest)
      rw [HJN.out, hm] at CI
      have HM := Lib.hid hm
      clear hm
      go_wp2_with fail
      refine CI.out.mono ?_
      rintro e w4 ⟨hc, v4, hn4, hk4⟩
      have LV4 := Lib.hid (LV3.out.on hn4 hk4)
      clear hn4 hk4
      rcases hc with ⟨rfl, rfl⟩ | ⟨hne, rfl⟩
      · have ER := Lib.hid ((er_plain HJ.out HTJ.out (E := E)).trans (if_pos HM.out))
        have NT := Lib.hid (nts_plain HJ.out HTJ.out ns (E := E))
        clear c2 c3
        have c2 := LV4.out.drew.c2
        have c3 := LV4.out.drew.c3
        have n0 := LV4.out.drew.n0
        have s1 := (LV4.out.drew.nest.step HJ1.out).2
        go_wp2_with fail
        by_cases hz : E j = 0
        · rw [hz] at s1 ER
          clear hz
          go_region_held3 (fun w' => w'.cell? ⟨s, 0, none⟩ = some (.pointer (some ⟨bn, 0, none⟩)) ∧ w'.cell? ⟨s + 1, 0, none⟩ = some (.int .i64 (j : Int)) ∧ w'.cell? ⟨bn, 0, none⟩ = some (.slice (some ⟨b, off, none⟩) L lc) ∧ w'.cell? ⟨b, off + j * 2 + 1, none⟩ = some (.int .i64 0)) (first | go_keep)
            (first | (go_at_call 38; refine (throw_ok _).mono ?_; rintro e w5 ⟨rfl, rfl⟩))
          go_wp2
          go_end0
          rw [ER.out, NT.out]
          exact ⟨.inl ⟨rfl, rfl⟩, _, LV4.out.drew.nest, LV4.out.drew.kept⟩
        · obtain ⟨y, hy⟩ : ∃ y, E j = y := ⟨_, rfl⟩
          rw [hy] at s1 ER hz
          have HZ := Lib.hid (show (y != 0) = true from by simpa using hz)
          clear hz hy
          refine wp_region_held_drew (S := (fun w' => w'.cell? ⟨s, 0, none⟩ = some (.pointer (some ⟨bn, 0, none⟩)) ∧ w'.cell? ⟨s + 1, 0, none⟩ = some (.int .i64 (j : Int)) ∧ w'.cell? ⟨bn, 0, none⟩ = some (.slice (some ⟨b, off, none⟩) L lc) ∧ w'.cell? ⟨b, off + j * 2 + 1, none⟩ = some (.int .i64 y))) (by kernel_rfl) ⟨c2, c3, n0, s1⟩ (fun hHeld => ?_)
          refine wpAnyH_take (i := 0) (oi := ?oix1) (v := ?vx1) ?hix1 ?hsx1 ?hfx1 ?hrx1 ?hQx1 ?hyx1 ?hSx1 ?hx1
          case hix1 =>
            simp only [List.getElem?_toArray, List.getElem?_cons_zero]
            rfl
          case hsx1 => kernel_rfl
          case hfx1 => kernel_rfl
          case hrx1 => kernel_rfl
          case hyx1 =>
            refine Or.inl ⟨by rfl, ?_⟩
            intro w hSw
            (try dsimp only at hSw)
            go_simp
            try with_reducible rfl
          case hQx1 => exact fun _ _ _ h => h
          case hSx1 => assumption
          try simp only [Act.put, List.setIfInBounds_toArray, List.set_cons_zero, List.set_cons_succ]
          refine wpAnyH_take (i := 1) (oi := ?oix2) (v := ?vx2) ?hix2 ?hsx2 ?hfx2 ?hrx2 ?hQx2 ?hyx2 ?hSx2 ?hx2
          case hix2 =>
            simp only [List.getElem?_toArray, List.getElem?_cons_succ, List.getElem?_cons_zero]
            rfl
          case hsx2 => kernel_rfl
          case hfx2 => kernel_rfl
          case hrx2 => kernel_rfl
          case hyx2 =>
            refine Or.inl ⟨by rfl, ?_⟩
            intro w hSw
            (try dsimp only at hSw)
            go_simp
            try with_reducible rfl
          case hQx2 => exact fun _ _ _ h => h
          case hSx2 => assumption
          try simp only [Act.put, List.setIfInBounds_toArray, List.set_cons_zero, List.set_cons_succ]
          refine wpAnyH_take (i := 2) (oi := ?oix3) (v := ?vx3) ?hix3 ?hsx3 ?hfx3 ?hrx3 ?hQx3 ?hyx3 ?hSx3 ?hx3
          case hix3 =>
            simp only [List.getElem?_toArray, List.getElem?_cons_succ, List.getElem?_cons_zero]
            rfl
          case hsx3 => kernel_rfl
          case hfx3 => kernel_rfl
          case hrx3 => kernel_rfl
          case hyx3 =>
            refine Or.inl ⟨by rfl, ?_⟩
            intro w hSw
            (try dsimp only at hSw)
            go_simp
            try with_reducible rfl
          case hQx3 => exact fun _ _ _ h => h
          case hSx3 => assumption
          try simp only [Act.put, List.setIfInBounds_toArray, List.set_cons_zero, List.set_cons_succ]
          refine wpAnyH_take (i := 3) (oi := ?oix4) (v := ?vx4) ?hix4 ?hsx4 ?hfx4 ?hrx4 ?hQx4 ?hyx4 ?hSx4 ?hx4
          case hix4 =>
            simp only [List.getElem?_toArray, List.getElem?_cons_succ, List.getElem?_cons_zero]
            rfl
          case hsx4 => kernel_rfl
          case hfx4 => kernel_rfl
          case hrx4 => kernel_rfl
          case hyx4 =>
            refine Or.inl ⟨by rfl, ?_⟩
            intro w hSw
            (try dsimp only at hSw)
            go_simp
            try with_reducible rfl
          case hQx4 => exact fun _ _ _ h => h
          case hSx4 => assumption
          try simp only [Act.put, List.setIfInBounds_toArray, List.set_cons_zero, List.set_cons_succ]
          refine wpAnyH_take (i := 4) (oi := ?oix5) (v := ?vx5) ?hix5 ?hsx5 ?hfx5 ?hrx5 ?hQx5 ?hyx5 ?hSx5 ?hx5
          case hix5 =>
            simp only [List.getElem?_toArray, List.getElem?_cons_succ, List.getElem?_cons_zero]
            rfl
          case hsx5 => kernel_rfl
          case hfx5 => kernel_rfl
          case hrx5 => kernel_rfl
          case hyx5 =>
            refine Or.inl ⟨by rfl, ?_⟩
            intro w hSw
            (try dsimp only at hSw)
            go_simp
            try with_reducible rfl
          case hQx5 => exact fun _ _ _ h => h
          case hSx5 => assumption
          try simp only [Act.put, List.setIfInBounds_toArray, List.set_cons_zero, List.set_cons_succ]
          refine wpAnyH_take (i := 5) (oi := ?oix6) (v := ?vx6) ?hix6 ?hsx6 ?hfx6 ?hrx6 ?hQx6 ?hyx6 ?hSx6 ?hx6
          case hix6 =>
            simp only [List.getElem?_toArray, List.getElem?_cons_succ, List.getElem?_cons_zero]
            rfl
          case hsx6 => kernel_rfl
          case hfx6 => kernel_rfl
          case hrx6 => kernel_rfl
          case hyx6 =>
            refine Or.inl ⟨by rfl, ?_⟩
            intro w hSw
            (try dsimp only at hSw)
            go_simp
            try with_reducible rfl
          case hQx6 => exact fun _ _ _ h => h
          case hSx6 => assumption
          try simp only [Act.put, List.setIfInBounds_toArray, List.set_cons_zero, List.set_cons_succ]
          refine wpAnyH_take (i := 6) (oi := ?oix7) (v := ?vx7) ?hix7 ?hsx7 ?hfx7 ?hrx7 ?hQx7 ?hyx7 ?hSx7 ?hx7
          case hix7 =>
            simp only [List.getElem?_toArray, List.getElem?_cons_succ, List.getElem?_cons_zero]
            rfl
          case hsx7 => kernel_rfl
          case hfx7 => kernel_rfl
          case hrx7 => kernel_rfl
          case hyx7 =>
            refine Or.inl ⟨by rfl, ?_⟩
            intro w hSw
            (try dsimp only at hSw)
            go_simp
            try with_reducible rfl
          case hQx7 => exact fun _ _ _ h => h
          case hSx7 => assumption
          try simp only [Act.put, List.setIfInBounds_toArray, List.set_cons_zero, List.set_cons_succ]
          refine wpAnyH_take (i := 7) (oi := ?oix8) (v := ?vx8) ?hix8 ?hsx8 ?hfx8 ?hrx8 ?hQx8 ?hyx8 ?hSx8 ?hx8
          case hix8 =>
            simp only [List.getElem?_toArray, List.getElem?_cons_succ, List.getElem?_cons_zero]
            rfl
          case hsx8 => kernel_rfl
          case hfx8 => kernel_rfl
          case hrx8 => kernel_rfl
          case hyx8 =>
            refine Or.inl ⟨by rfl, ?_⟩
            intro w hSw
            (try dsimp only at hSw)
            go_simp
            try with_reducible rfl
          case hQx8 => exact fun _ _ _ h => h
          case hSx8 => assumption
          try simp only [Act.put, List.setIfInBounds_toArray, List.set_cons_zero, List.set_cons_succ]
          refine wpAnyH_ready (rs := [8]) (by kernel_rfl) (by simp) ?_
          refine AllReadyH.cons (o := ?ox9) ?ix9 ?kx9 AllReadyH.nil
          case ix9 =>
            simp only [List.getElem?_toArray, List.getElem?_cons_succ, List.getElem?_cons_zero]
            rfl
          intro K hK
          go_simp
          go_at_call 38
          refine (throw_some _ HZ.out _).mono ?_
          rintro e w5 ⟨rfl, rfl⟩
          refine ⟨rfl, ?_⟩
          rw [ER.out, NT.out]
          exact ⟨.inr ⟨HZ.out, rfl⟩, _, LV4.out.drew.nest, LV4.out.drew.kept⟩
      · have ER := Lib.hid ((er_plain HJ.out HTJ.out (E := E)).trans ((if_neg (by rw [HM.out]; simpa using hne)).trans HM.out))
        go_wp2
        refine ⟨rfl, ?_⟩
        rw [ER.out, nts_plain HJ.out HTJ.out ns]
        exact ⟨.inr ⟨hne, rfl⟩, v4, LV4.out.nest, LV4.out.kept⟩
    · have TR := try_any 57 #[.pointer (some ⟨s, 0, none⟩), .pointer (some ⟨s + 1, 0, none⟩)] W3 _ (fun _ => by simp [go_sem]) (inner_any bn _ L lc t E n j s HJN.out hj60 _ (ns ++ [(j : Int)]) W3 (by simp; have := HNS.out; omega) c2 c3 LV3.out.nest IH.out)
      rw [hm] at TR
      have TR := Lib.hid TR
      have HM := Lib.hid hm
      clear hm
      go_wp2_with fail
      refine TR.out.mono ?_
      rintro e w4 ⟨m', w3, rfl, ⟨hmm, v4, hn4, hk4⟩, ha⟩
      obtain rfl : m = m' := hmm.symm
      obtain ⟨hn5, hk5⟩ := tried_on LV3.out.nest hn4 hk4 ha
      have LV4 := Lib.hid (LV3.out.on hn5 hk5)
      clear hn4 hk4 ha hn5 hk5 c2 c3
      go_wp2_with fail
      have n1 := LV4.out.drew.n1
      have n2 : (w4.alloc (.cells #[.int .i64 (IntKind.i64.wrap (100 + m))] 3)).drew.cell? ⟨bn, 1, none⟩ = some v4 := (LV4.out.nest.1.alloc _).drew.cell 1
      have n3 : (w4.alloc (.cells #[.int .i64 (IntKind.i64.wrap (100 + m))] 3)).cell? ⟨bn, 1, none⟩ = some v4 := (LV4.out.nest.1.alloc _).cell 1
      obtain ⟨_, w5, ⟨g5, l5, k5, rfl⟩, hrun, hl2, ht2, hn2, hk2⟩ := note_on LV4.out.drew.nest (by have := HNS.out; have := nts_length t E L n; simp; omega) (IntKind.i64.wrap (100 + m)) (.cells #[.int .i64 (IntKind.i64.wrap (100 + m))] 3) (by simp [go_sem])
      have HR := Lib.hid hrun
      have HS1 := Lib.hid (show (w4.drew.alloc (.cells #[.int .i64 (IntKind.i64.wrap (100 + m))] 3)).cell? ⟨s, 0, none⟩ = some (.pointer (some ⟨bn, 0, none⟩)) ∧ (w4.drew.alloc (.cells #[.int .i64 (IntKind.i64.wrap (100 + m))] 3)).cell? ⟨s + 1, 0, none⟩ = some (.int .i64 (j : Int)) from ⟨(LV4.out.drew.box.alloc _).cell 0, (LV4.out.drew.idx.alloc _).cell 0⟩)
      have q1 : w5.cell? ⟨bn, 1, none⟩ = some v4 := hl2.cell 1
      have q2 : w5.frozen? ⟨bn, 1, none⟩ = false := hl2.frozen 1
      have HS2 := Lib.hid (show w5.cell? ⟨s, 0, none⟩ = some (.pointer (some ⟨bn, 0, none⟩)) ∧ w5.cell? ⟨s + 1, 0, none⟩ = some (.int .i64 (j : Int)) from ⟨(LV4.out.drew.box.turned ht2 (fun e => (LV4.out.own _ e).1 rfl)).cell 0, (LV4.out.drew.idx.turned ht2 (fun e => (LV4.out.own _ e).2 rfl)).cell 0⟩)
      obtain ⟨W5, hW2⟩ : ∃ W2, w5.setCell ⟨bn, 1, none⟩ (.slice (some ⟨g5, 0, none⟩) l5 k5) = W2 := ⟨_, rfl⟩
      rw [hW2] at hn2 hk2
      have LV5 := Lib.hid (LV4.out.drew.on hn2 hk2)
      have HS3 := Lib.hid (show W5.cell? ⟨s, 0, none⟩ = some (.pointer (some ⟨bn, 0, none⟩)) ∧ W5.cell? ⟨s + 1, 0, none⟩ = some (.int .i64 (j : Int)) from ⟨LV5.out.c2, LV5.out.c3⟩)
      clear hrun hl2 ht2 hn2 hk2
      refine by_end (G := ?G37) ?main37 ?fin37
      case main37 =>
        intro hG
        refine wp_region_held_drew (S := (fun w' => w'.cell? ⟨s, 0, none⟩ = some (.pointer (some ⟨bn, 0, none⟩)) ∧ w'.cell? ⟨s + 1, 0, none⟩ = some (.int .i64 (j : Nat)))) (by kernel_rfl) ⟨LV4.out.drew.c2, LV4.out.drew.c3⟩ (fun hHeld => ?_)
        refine wpAnyH_take (i := 0) (oi := ?oix38) (v := ?vx38) ?hix38 ?hsx38 ?hfx38 ?hrx38 ?hQx38 ?hyx38 ?hSx38 ?hx38
        case hix38 =>
          simp only [List.getElem?_toArray, List.getElem?_cons_zero]
          rfl
        case hsx38 => kernel_rfl
        case hfx38 => kernel_rfl
        case hrx38 => kernel_rfl
        case hyx38 =>
          refine Or.inl ⟨by rfl, ?_⟩
          intro w hSw
          (try dsimp only at hSw)
          go_simp
          try with_reducible rfl
        case hQx38 => exact fun _ _ _ h => h
        case hSx38 => assumption
        try simp only [Act.put, List.setIfInBounds_toArray, List.set_cons_zero, List.set_cons_succ]
        refine wpAnyH_take (i := 1) (oi := ?oix39) (v := ?vx39) ?hix39 ?hsx39 ?hfx39 ?hrx39 ?hQx39 ?hyx39 ?hSx39 ?hx39
        case hix39 =>
          simp only [List.getElem?_toArray, List.getElem?_cons_succ, List.getElem?_cons_zero]
          rfl
        case hsx39 => kernel_rfl
        case hfx39 => kernel_rfl
        case hrx39 => kernel_rfl
        case hyx39 =>
          refine Or.inl ⟨by rfl, ?_⟩
          intro w hSw
          (try dsimp only at hSw)
          go_simp
          try with_reducible rfl
        case hQx39 => exact fun _ _ _ h => h
        case hSx39 => assumption
        try simp only [Act.put, List.setIfInBounds_toArray, List.set_cons_zero, List.set_cons_succ]
        refine wpAnyH_take (i := 2) (oi := ?oix40) (v := ?vx40) ?hix40 ?hsx40 ?hfx40 ?hrx40 ?hQx40 ?hyx40 ?hSx40 ?hx40
        case hix40 =>
          simp only [List.getElem?_toArray, List.getElem?_cons_succ, List.getElem?_cons_zero]
          rfl
        case hsx40 => kernel_rfl
        case hfx40 => kernel_rfl
        case hrx40 => kernel_rfl
        case hyx40 =>
          refine Or.inl ⟨by rfl, ?_⟩
          intro w hSw
          (try dsimp only at hSw)
          go_simp
          try with_reducible rfl
        case hQx40 => exact fun _ _ _ h => h
        case hSx40 => assumption
        try simp only [Act.put, List.setIfInBounds_toArray, List.set_cons_zero, List.set_cons_succ]
        refine wpAnyH_take (i := 3) (oi := ?oix41) (v := ?vx41) ?hix41 ?hsx41 ?hfx41 ?hrx41 ?hQx41 ?hyx41 ?hSx41 ?hx41
        case hix41 =>
          simp only [List.getElem?_toArray, List.getElem?_cons_succ, List.getElem?_cons_zero]
          rfl
        case hsx41 => kernel_rfl
        case hfx41 => kernel_rfl
        case hrx41 => kernel_rfl
        case hyx41 =>
          refine Or.inl ⟨by rfl, ?_⟩
          intro w hSw
          (try dsimp only at hSw)
          go_simp
          try with_reducible rfl
        case hQx41 => exact fun _ _ _ h => h
        case hSx41 => assumption
        try simp only [Act.put, List.setIfInBounds_toArray, List.set_cons_zero, List.set_cons_succ]
        refine wpAnyH_take (i := 5) (oi := ?oix42) (v := ?vx42) ?hix42 ?hsx42 ?hfx42 ?hrx42 ?hQx42 ?hyx42 ?hSx42 ?hx42
        case hix42 =>
          simp only [List.getElem?_toArray, List.getElem?_cons_succ, List.getElem?_cons_zero]
          rfl
        case hsx42 => kernel_rfl
        case hfx42 => kernel_rfl
        case hrx42 => kernel_rfl
        case hyx42 =>
          refine Or.inl ⟨by rfl, ?_⟩
          intro w hSw
          (try dsimp only at hSw)
          go_simp
          try with_reducible rfl
        case hQx42 => exact fun _ _ _ h => h
        case hSx42 => assumption
        try simp only [Act.put, List.setIfInBounds_toArray, List.set_cons_zero, List.set_cons_succ]
        refine wpAnyH_take (i := 6) (oi := ?oix43) (v := ?vx43) ?hix43 ?hsx43 ?hfx43 ?hrx43 ?hQx43 ?hyx43 ?hSx43 ?hx43
        case hix43 =>
          simp only [List.getElem?_toArray, List.getElem?_cons_succ, List.getElem?_cons_zero]
          rfl
        case hsx43 => kernel_rfl
        case hfx43 => kernel_rfl
        case hrx43 => kernel_rfl
        case hyx43 =>
          refine Or.inl ⟨by rfl, ?_⟩
          intro w hSw
          (try dsimp only at hSw)
          go_simp
          try with_reducible rfl
        case hQx43 => exact fun _ _ _ h => h
        case hSx43 => assumption
        try simp only [Act.put, List.setIfInBounds_toArray, List.set_cons_zero, List.set_cons_succ]
        refine wpAnyH_ready (rs := [4, 7]) (by kernel_rfl) (by simp) ?_
        refine AllReadyH.cons (o := ?ox44) ?ix44 ?kx44 ?mx44
        case ix44 =>
          simp only [List.getElem?_toArray, List.getElem?_cons_succ, List.getElem?_cons_zero]
          rfl
        case' mx44 =>
          refine AllReadyH.cons (o := ?ox45) ?ix45 ?kx45 AllReadyH.nil
          case ix45 =>
            simp only [List.getElem?_toArray, List.getElem?_cons_succ, List.getElem?_cons_zero]
            rfl
          intro K hK
          go_simp
          refine hK.out _ _ HS1.out (fun hHeld => ?_)
          clear hK K
          try simp only [Act.put, List.setIfInBounds_toArray, List.set_cons_zero, List.set_cons_succ]
          refine wpAnyH_ready (rs := [4]) (by kernel_rfl) (by simp) ?_
          refine AllReadyH.cons (o := ?ox46) ?ix46 ?kx46 AllReadyH.nil
          case ix46 =>
            simp only [List.getElem?_toArray, List.getElem?_cons_succ, List.getElem?_cons_zero]
            rfl
          intro K hK
          go_simp
          refine hK.out _ _ HS1.out (fun hHeld => ?_)
          clear hK K
          try simp only [Act.put, List.setIfInBounds_toArray, List.set_cons_zero, List.set_cons_succ]
          refine wpAnyH_ready (rs := [8]) (by kernel_rfl) (by simp) ?_
          refine AllReadyH.cons (o := ?ox47) ?ix47 ?kx47 AllReadyH.nil
          case ix47 =>
            simp only [List.getElem?_toArray, List.getElem?_cons_succ, List.getElem?_cons_zero]
            rfl
          intro K hK
          refine step_append_ran _ _ (by rfl) _ _ 24 (by rfl) _ _ _ (by rfl) (by rfl) HR.out ?_
          refine hK.out _ _ HS2.out (fun hHeld => ?_)
          clear hK K
          try simp only [Act.put, List.setIfInBounds_toArray, List.set_cons_zero, List.set_cons_succ]
          refine wpAnyH_take (i := 9) (oi := ?oix48) (v := ?vx48) ?hix48 ?hsx48 ?hfx48 ?hrx48 ?hQx48 ?hyx48 ?hSx48 ?hx48
          case hix48 =>
            simp only [List.getElem?_toArray, List.getElem?_cons_succ, List.getElem?_cons_zero]
            rfl
          case hsx48 => kernel_rfl
          case hfx48 => kernel_rfl
          case hrx48 => kernel_rfl
          case hyx48 =>
            refine Or.inl ⟨by rfl, ?_⟩
            intro w hSw
            (try dsimp only at hSw)
            go_simp
            try with_reducible rfl
          case hQx48 => exact fun _ _ _ h => h
          case hSx48 => assumption
          try simp only [Act.put, List.setIfInBounds_toArray, List.set_cons_zero, List.set_cons_succ]
          refine wpAnyH_take (i := 10) (oi := ?oix49) (v := ?vx49) ?hix49 ?hsx49 ?hfx49 ?hrx49 ?hQx49 ?hyx49 ?hSx49 ?hx49
          case hix49 =>
            simp only [List.getElem?_toArray, List.getElem?_cons_succ, List.getElem?_cons_zero]
            rfl
          case hsx49 => kernel_rfl
          case hfx49 => kernel_rfl
          case hrx49 => kernel_rfl
          case hyx49 =>
            refine Or.inl ⟨by rfl, ?_⟩
            intro w hSw
            (try dsimp only at hSw)
            go_simp
            try with_reducible rfl
          case hQx49 => exact fun _ _ _ h => h
          case hSx49 => assumption
          try simp only [Act.put, List.setIfInBounds_toArray, List.set_cons_zero, List.set_cons_succ]
          refine wpAnyH_ready (rs := [11]) (by kernel_rfl) (by simp) ?_
          refine AllReadyH.cons (o := ?ox50) ?ix50 ?kx50 AllReadyH.nil
          case ix50 =>
            simp only [List.getElem?_toArray, List.getElem?_cons_succ, List.getElem?_cons_zero]
            rfl
          intro K hK
          go_simp
          (try rw [hW2])
          refine hK.out _ _ HS3.out (fun hHeld => ?_)
          clear hK K
          try simp only [Act.put, List.setIfInBounds_toArray, List.set_cons_zero, List.set_cons_succ]
          refine wpAnyH_done (by kernel_rfl) ?_ _
          exact hG.out
        case' kx44 =>
          intro K hK
          go_simp
          refine hK.out _ _ ⟨LV4.out.drew.c2, LV4.out.drew.c3⟩ (fun hHeld => ?_)
          clear hK K
          try simp only [Act.put, List.setIfInBounds_toArray, List.set_cons_zero, List.set_cons_succ]
          refine wpAnyH_ready (rs := [7]) (by kernel_rfl) (by simp) ?_
          refine AllReadyH.cons (o := ?ox51) ?ix51 ?kx51 AllReadyH.nil
          case ix51 =>
            simp only [List.getElem?_toArray, List.getElem?_cons_succ, List.getElem?_cons_zero]
            rfl
          intro K hK
          go_simp
          refine hK.out _ _ HS1.out (fun hHeld => ?_)
          clear hK K
          try simp only [Act.put, List.setIfInBounds_toArray, List.set_cons_zero, List.set_cons_succ]
          refine wpAnyH_ready (rs := [8]) (by kernel_rfl) (by simp) ?_
          refine AllReadyH.cons (o := ?ox52) ?ix52 ?kx52 AllReadyH.nil
          case ix52 =>
            simp only [List.getElem?_toArray, List.getElem?_cons_succ, List.getElem?_cons_zero]
            rfl
          intro K hK
          refine step_append_ran _ _ (by rfl) _ _ 24 (by rfl) _ _ _ (by rfl) (by rfl) HR.out ?_
          refine hK.out _ _ HS2.out (fun hHeld => ?_)
          clear hK K
          try simp only [Act.put, List.setIfInBounds_toArray, List.set_cons_zero, List.set_cons_succ]
          refine wpAnyH_take (i := 9) (oi := ?oix53) (v := ?vx53) ?hix53 ?hsx53 ?hfx53 ?hrx53 ?hQx53 ?hyx53 ?hSx53 ?hx53
          case hix53 =>
            simp only [List.getElem?_toArray, List.getElem?_cons_succ, List.getElem?_cons_zero]
            rfl
          case hsx53 => kernel_rfl
          case hfx53 => kernel_rfl
          case hrx53 => kernel_rfl
          case hyx53 =>
            refine Or.inl ⟨by rfl, ?_⟩
            intro w hSw
            (try dsimp only at hSw)
            go_simp
            try with_reducible rfl
          case hQx53 => exact fun _ _ _ h => h
          case hSx53 => assumption
          try simp only [Act.put, List.setIfInBounds_toArray, List.set_cons_zero, List.set_cons_succ]
          refine wpAnyH_take (i := 10) (oi := ?oix54) (v := ?vx54) ?hix54 ?hsx54 ?hfx54 ?hrx54 ?hQx54 ?hyx54 ?hSx54 ?hx54
          case hix54 =>
            simp only [List.getElem?_toArray, List.getElem?_cons_succ, List.getElem?_cons_zero]
            rfl
          case hsx54 => kernel_rfl
          case hfx54 => kernel_rfl
          case hrx54 => kernel_rfl
          case hyx54 =>
            refine Or.inl ⟨by rfl, ?_⟩
            intro w hSw
            (try dsimp only at hSw)
            go_simp
            try with_reducible rfl
          case hQx54 => exact fun _ _ _ h => h
          case hSx54 => assumption
          try simp only [Act.put, List.setIfInBounds_toArray, List.set_cons_zero, List.set_cons_succ]
          refine wpAnyH_ready (rs := [11]) (by kernel_rfl) (by simp) ?_
          refine AllReadyH.cons (o := ?ox55) ?ix55 ?kx55 AllReadyH.nil
          case ix55 =>
            simp only [List.getElem?_toArray, List.getElem?_cons_succ, List.getElem?_cons_zero]
            rfl
          intro K hK
          go_simp
          (try rw [hW2])
          refine hK.out _ _ HS3.out (fun hHeld => ?_)
          clear hK K
          try simp only [Act.put, List.setIfInBounds_toArray, List.set_cons_zero, List.set_cons_succ]
          refine wpAnyH_done (by kernel_rfl) ?_ _
          exact hG.out
      case' fin37 =>
        skip
      all_goals
        clear n1 n2 n3 q1 q2 hW2 HR HS1 HS2 HS3 LV4
        have ER := Lib.hid (er_try HJ.out HTJ.out (E := E))
        have NT := nts_try HJ.out HTJ.out ns (E := E)
        rw [HM.out] at NT
        have NT := Lib.hid NT
        have c2 := LV5.out.drew.c2
        have c3 := LV5.out.drew.c3
        have n0 := LV5.out.drew.n0
        have s1 := (LV5.out.drew.nest.step HJ1.out).2
        go_wp2_with fail
        by_cases hz : E j = 0
        · rw [hz] at s1 ER
          clear hz
          go_region_held3 (fun w' => w'.cell? ⟨s, 0, none⟩ = some (.pointer (some ⟨bn, 0, none⟩)) ∧ w'.cell? ⟨s + 1, 0, none⟩ = some (.int .i64 (j : Int)) ∧ w'.cell? ⟨bn, 0, none⟩ = some (.slice (some ⟨b, off, none⟩) L lc) ∧ w'.cell? ⟨b, off + j * 2 + 1, none⟩ = some (.int .i64 0)) (first | go_keep)
            (first | (go_at_call 38; refine (throw_ok _).mono ?_; rintro e w5 ⟨rfl, rfl⟩))
          go_wp2
          go_end0
          rw [ER.out, NT.out]
          exact ⟨.inl ⟨rfl, rfl⟩, _, LV5.out.drew.nest, LV5.out.drew.kept⟩
        · obtain ⟨y, hy⟩ : ∃ y, E j = y := ⟨_, rfl⟩
          rw [hy] at s1 ER hz
          have HZ := Lib.hid (show (y != 0) = true from by simpa using hz)
          clear hz hy
          refine wp_region_held_drew (S := (fun w' => w'.cell? ⟨s, 0, none⟩ = some (.pointer (some ⟨bn, 0, none⟩)) ∧ w'.cell? ⟨s + 1, 0, none⟩ = some (.int .i64 (j : Int)) ∧ w'.cell? ⟨bn, 0, none⟩ = some (.slice (some ⟨b, off, none⟩) L lc) ∧ w'.cell? ⟨b, off + j * 2 + 1, none⟩ = some (.int .i64 y))) (by kernel_rfl) ⟨c2, c3, n0, s1⟩ (fun hHeld => ?_)
          refine wpAnyH_take (i := 0) (oi := ?oix10) (v := ?vx10) ?hix10 ?hsx10 ?hfx10 ?hrx10 ?hQx10 ?hyx10 ?hSx10 ?hx10
          case hix10 =>
            simp only [List.getElem?_toArray, List.getElem?_cons_zero]
            rfl
          case hsx10 => kernel_rfl
          case hfx10 => kernel_rfl
          case hrx10 => kernel_rfl
          case hyx10 =>
            refine Or.inl ⟨by rfl, ?_⟩
            intro w hSw
            (try dsimp only at hSw)
            go_simp
            try with_reducible rfl
          case hQx10 => exact fun _ _ _ h => h
          case hSx10 => assumption
          try simp only [Act.put, List.setIfInBounds_toArray, List.set_cons_zero, List.set_cons_succ]
          refine wpAnyH_take (i := 1) (oi := ?oix11) (v := ?vx11) ?hix11 ?hsx11 ?hfx11 ?hrx11 ?hQx11 ?hyx11 ?hSx11 ?hx11
          case hix11 =>
            simp only [List.getElem?_toArray, List.getElem?_cons_succ, List.getElem?_cons_zero]
            rfl
          case hsx11 => kernel_rfl
          case hfx11 => kernel_rfl
          case hrx11 => kernel_rfl
          case hyx11 =>
            refine Or.inl ⟨by rfl, ?_⟩
            intro w hSw
            (try dsimp only at hSw)
            go_simp
            try with_reducible rfl
          case hQx11 => exact fun _ _ _ h => h
          case hSx11 => assumption
          try simp only [Act.put, List.setIfInBounds_toArray, List.set_cons_zero, List.set_cons_succ]
          refine wpAnyH_take (i := 2) (oi := ?oix12) (v := ?vx12) ?hix12 ?hsx12 ?hfx12 ?hrx12 ?hQx12 ?hyx12 ?hSx12 ?hx12
          case hix12 =>
            simp only [List.getElem?_toArray, List.getElem?_cons_succ, List.getElem?_cons_zero]
            rfl
          case hsx12 => kernel_rfl
          case hfx12 => kernel_rfl
          case hrx12 => kernel_rfl
          case hyx12 =>
            refine Or.inl ⟨by rfl, ?_⟩
            intro w hSw
            (try dsimp only at hSw)
            go_simp
            try with_reducible rfl
          case hQx12 => exact fun _ _ _ h => h
          case hSx12 => assumption
          try simp only [Act.put, List.setIfInBounds_toArray, List.set_cons_zero, List.set_cons_succ]
          refine wpAnyH_take (i := 3) (oi := ?oix13) (v := ?vx13) ?hix13 ?hsx13 ?hfx13 ?hrx13 ?hQx13 ?hyx13 ?hSx13 ?hx13
          case hix13 =>
            simp only [List.getElem?_toArray, List.getElem?_cons_succ, List.getElem?_cons_zero]
            rfl
          case hsx13 => kernel_rfl
          case hfx13 => kernel_rfl
          case hrx13 => kernel_rfl
          case hyx13 =>
            refine Or.inl ⟨by rfl, ?_⟩
            intro w hSw
            (try dsimp only at hSw)
            go_simp
            try with_reducible rfl
          case hQx13 => exact fun _ _ _ h => h
          case hSx13 => assumption
          try simp only [Act.put, List.setIfInBounds_toArray, List.set_cons_zero, List.set_cons_succ]
          refine wpAnyH_take (i := 4) (oi := ?oix14) (v := ?vx14) ?hix14 ?hsx14 ?hfx14 ?hrx14 ?hQx14 ?hyx14 ?hSx14 ?hx14
          case hix14 =>
            simp only [List.getElem?_toArray, List.getElem?_cons_succ, List.getElem?_cons_zero]
            rfl
          case hsx14 => kernel_rfl
          case hfx14 => kernel_rfl
          case hrx14 => kernel_rfl
          case hyx14 =>
            refine Or.inl ⟨by rfl, ?_⟩
            intro w hSw
            (try dsimp only at hSw)
            go_simp
            try with_reducible rfl
          case hQx14 => exact fun _ _ _ h => h
          case hSx14 => assumption
          try simp only [Act.put, List.setIfInBounds_toArray, List.set_cons_zero, List.set_cons_succ]
          refine wpAnyH_take (i := 5) (oi := ?oix15) (v := ?vx15) ?hix15 ?hsx15 ?hfx15 ?hrx15 ?hQx15 ?hyx15 ?hSx15 ?hx15
          case hix15 =>
            simp only [List.getElem?_toArray, List.getElem?_cons_succ, List.getElem?_cons_zero]
            rfl
          case hsx15 => kernel_rfl
          case hfx15 => kernel_rfl
          case hrx15 => kernel_rfl
          case hyx15 =>
            refine Or.inl ⟨by rfl, ?_⟩
            intro w hSw
            (try dsimp only at hSw)
            go_simp
            try with_reducible rfl
          case hQx15 => exact fun _ _ _ h => h
          case hSx15 => assumption
          try simp only [Act.put, List.setIfInBounds_toArray, List.set_cons_zero, List.set_cons_succ]
          refine wpAnyH_take (i := 6) (oi := ?oix16) (v := ?vx16) ?hix16 ?hsx16 ?hfx16 ?hrx16 ?hQx16 ?hyx16 ?hSx16 ?hx16
          case hix16 =>
            simp only [List.getElem?_toArray, List.getElem?_cons_succ, List.getElem?_cons_zero]
            rfl
          case hsx16 => kernel_rfl
          case hfx16 => kernel_rfl
          case hrx16 => kernel_rfl
          case hyx16 =>
            refine Or.inl ⟨by rfl, ?_⟩
            intro w hSw
            (try dsimp only at hSw)
            go_simp
            try with_reducible rfl
          case hQx16 => exact fun _ _ _ h => h
          case hSx16 => assumption
          try simp only [Act.put, List.setIfInBounds_toArray, List.set_cons_zero, List.set_cons_succ]
          refine wpAnyH_take (i := 7) (oi := ?oix17) (v := ?vx17) ?hix17 ?hsx17 ?hfx17 ?hrx17 ?hQx17 ?hyx17 ?hSx17 ?hx17
          case hix17 =>
            simp only [List.getElem?_toArray, List.getElem?_cons_succ, List.getElem?_cons_zero]
            rfl
          case hsx17 => kernel_rfl
          case hfx17 => kernel_rfl
          case hrx17 => kernel_rfl
          case hyx17 =>
            refine Or.inl ⟨by rfl, ?_⟩
            intro w hSw
            (try dsimp only at hSw)
            go_simp
            try with_reducible rfl
          case hQx17 => exact fun _ _ _ h => h
          case hSx17 => assumption
          try simp only [Act.put, List.setIfInBounds_toArray, List.set_cons_zero, List.set_cons_succ]
          refine wpAnyH_ready (rs := [8]) (by kernel_rfl) (by simp) ?_
          refine AllReadyH.cons (o := ?ox18) ?ix18 ?kx18 AllReadyH.nil
          case ix18 =>
            simp only [List.getElem?_toArray, List.getElem?_cons_succ, List.getElem?_cons_zero]
            rfl
          intro K hK
          go_simp
          go_at_call 38
          refine (throw_some _ HZ.out _).mono ?_
          rintro e w5 ⟨rfl, rfl⟩
          refine ⟨rfl, ?_⟩
          rw [ER.out, NT.out]
          exact ⟨.inr ⟨HZ.out, rfl⟩, _, LV5.out.drew.nest, LV5.out.drew.kept⟩
/-- CONTRACT of from, at any level: what it notes, what comes out. -/
theorem from_any (bn : Nat) (a : Option Addr) (L lc : Nat) (t : Nat → Bool) (E : Nat → Int) (hE : ∀ i, i < L → -9223372036854775808 ≤ E i ∧ E i ≤ 9223372036854775807) (hL : L ≤ 60) :
    ∀ (n : Nat), n ≤ L → ∀ (v : Value) (ns : List Int) (w : World), ns.length + 2 * n ≤ 800 → NestAt w bn a L lc t E v ns →
      Calls Try.prog 17 #[.pointer (some ⟨bn, 0, none⟩), .int .i64 ((L - n : Nat) : Int)] w fun e w' => Came (er t E L n) e ∧ ∃ v', NestAt w' bn a L lc t E v' (ns ++ nts t E L n) ∧ Kept bn v w w' v'
  | 0, _, v, ns, w, hns, h => (from_end bn a L lc t E v ns w h).mono fun e w' ⟨h1, h2, h3⟩ => ⟨.inl ⟨rfl, h1⟩, v, by simpa [nts] using h2, h3⟩
  | n + 1, hn, v, ns, w, hns, h => from_step bn a L lc t E hE n hn hL (fun v ns w => from_any bn a L lc t E hE hL n (by omega) v ns w) v ns w hns h
end Go.Proofs.Ytknpekpigiclkaa
