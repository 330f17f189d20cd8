/-
  CONTRACTS OF a run's head, size and body, in any world. Conditions: at most 1024 numbers, which lie in memory as told; a width of at most 64 that holds them.
-/
import Derived.Test.YthonjffojaljdaaHybM4
import Derived.Test.YthonjffojaljdaaHybN
import Derived.Test.YthonjffojaljdaaBitsSmall
import Derived.Test.YthonjffojaljdaaHybM9
import Derived.Test.YthonjffojaljdaaBitsUnpackRow
import Derived.Deep.RegionHeld3
import Derived.Deep.DrawnRows
import Derived.Deep.CutRange
import Derived.Laws.CopyOwn
import Derived.Test.YthonjffojaljdaaHybM5
namespace Go.Proofs.Ythonjffojaljdaa
open Go.RowKit
set_option linter.unusedVariables false
theorem groups_any (n : Nat) (hn : n ≤ 1024) (w : World) : Calls Try.prog 88 #[.int .i64 n] w fun e w' => e = .returned (.int .i64 (grp n : Nat)) ∧ w = w' := by
  have he : ((n : Int) + 8 - 1) / 8 = (grp n : Nat) := by unfold grp; omega
  have HE := Lib.hid he
  clear he
  go_enter Try.func88, Try.ntmps88
  go_wp2
  go_ret
  exact ⟨by rw [← HE.out]; rfl, rfl⟩
theorem grp_le (n : Nat) (h : n ≤ 1024) : grp n ≤ 128 := by unfold grp; omega
set_option maxRecDepth 100000 in
theorem head_any (o : Bool) (a : Option Addr) (p len c : Nat) (hl : len ≤ 1024) (w : World) :
    Calls Try.prog 54 #[.agg #[.bool o, .slice a len c]] w fun e w' => e = .returned (.int .u64 (hd1 (o, p, len) : Nat)) ∧ Below w.heap.size w w' := by
  have HB := Lib.hid ((Below.refl w.heap.size w).alloc (Nat.le_refl _) (.cells #[.bool o, .slice a len c] 83))
  have hL := Lies.new w 83 #[.bool o, .slice a len c]
  have c0 := hL.cell 0
  have c1 := hL.cell 1
  have GR := Lib.hid (groups_any len hl)
  have hg := grp_le len hl
  cases o
  · have hh : hd1 (false, p, len) = 2 * grp len + 1 := rfl
    rw [hh]
    clear hh hL
    generalize grp len = k at *
    go_enter Try.func54, Try.ntmps54
    go_wp2_with (go_at_call 88; refine (GR.out _).mono ?_; rintro e w1 ⟨rfl, rfl⟩)
    go_ret
    exact ⟨by simp, HB.out⟩
  · have hh : hd1 (true, p, len) = 2 * len := rfl
    rw [hh]
    clear hh hL
    go_enter Try.func54, Try.ntmps54
    go_wp2
    go_ret
    exact ⟨by simp, HB.out⟩
set_option maxRecDepth 100000 in
theorem rsize_any (o : Bool) (a : Option Addr) (p len c q : Nat) (hl : len ≤ 1024) (hq : q ≤ 64) (w : World) :
    Calls Try.prog 55 #[.agg #[.bool o, .slice a len c], .int .i64 q] w fun e w' => e = .returned (.int .i64 (bs1 q (o, p, len) : Nat)) ∧ Below w.heap.size w w' := by
  have HB := Lib.hid ((Below.refl w.heap.size w).alloc (Nat.le_refl _) (.cells #[.bool o, .slice a len c] 83))
  have hL := Lies.new w 83 #[.bool o, .slice a len c]
  have c0 := hL.cell 0
  have c1 := hL.cell 1
  have GR := Lib.hid (groups_any len hl)
  have hg := grp_le len hl
  cases o
  · have hh : bs1 q (false, p, len) = need (8 * grp len) q := rfl
    rw [hh]
    have NE := Lib.hid (fun W => need_yes (8 * grp len) q (by omega) hq W)
    clear hh hL
    generalize need (8 * grp len) q = nd at *
    rw [show ((8 * grp len : Nat) : Int) = 8 * (grp len : Nat) from by omega] at NE
    generalize grp len = k at *
    go_enter Try.func55, Try.ntmps55
    go_wp2_with (first
      | (go_at_call 88; refine (GR.out _).mono ?_; rintro e w1 ⟨rfl, rfl⟩)
      | (go_at_call 65; refine (NE.out _).mono ?_; rintro e w1 ⟨rfl, rfl⟩))
    go_ret
    exact ⟨rfl, HB.out⟩
  · have hh : bs1 q (true, p, len) = need 1 q := rfl
    rw [hh]
    have NE := Lib.hid (fun W => need_yes 1 q (by omega) hq W)
    clear hh hL
    rw [show ((1 : Nat) : Int) = 1 from rfl] at NE
    generalize need 1 q = nd at *
    go_enter Try.func55, Try.ntmps55
    go_wp2_with (go_at_call 65; refine (NE.out _).mono ?_; rintro e w1 ⟨rfl, rfl⟩)
    go_ret
    exact ⟨rfl, HB.out⟩
theorem wpAnyH_pass {P : Program} {ops : Array Oper} {Q : Exit → Act → World → Prop} {md : Region.Mode} {S : World → Prop} {fuel : Nat} {listed : Array Bool} {a : Act} {w : World} {i : Nat} {o : Oper} (ho : ops[i]? = some o)
    (hr : Region.ready md ops listed = [i]) (hw : Region.wanted o (yielded ops a.tmps) = false) (hS : S w)
    (h : wpAnyH P md ops Q S fuel (listed.setIfInBounds i true) (a.put o.dst undef) w) : wpAnyH P md ops Q S (fuel + 1) listed a w :=
  wpAnyH_ready hr (by simp) (AllReadyH.cons ho (fun K hK => by rw [if_neg (by simp [hw])]; exact hK.out _ _ hS (fun _ => h)) AllReadyH.nil)
theorem pack_all (q : Nat) (hq : q ≤ 64) (a : Option Addr) (n c : Nat) (l : Nat → Nat) (hn : n ≤ 1024) (h1 : ∀ i, i < n → l i < 2 ^ q) (V : World) (hr : RowOf V a n (fun i => .int .u64 (l i : Nat))) :
    Calls Try.prog 99 #[.int .i64 q, .slice a n c] V fun e w' => ∃ v, e = .returned (.tuple #[v, .int .i64 0]) ∧ w'.ownsRow V.heap.size 5 1 v (need n q) (cellsOf (bytesOf (need n q) (packN q l n))) ∧ Below V.heap.size V w' := by
  have h := pack_any q hq a n c l n hn (Nat.le_refl _) h1 (fun h => absurd h (Nat.lt_irrefl _)) V ⟨hr, fun i hi => Nat.lt_of_lt_of_le (h1 i hi) (by have := pow_le64 hq; omega)⟩
  refine h.mono fun e w' he => ?_
  unfold PackEnd at he
  rwa [if_neg (Nat.lt_irrefl _)] at he
theorem need_one (q : Nat) (hq : q ≤ 64) : need 1 (8 * need 1 q) = need 1 q ∧ q ≤ 8 * need 1 q ∧ 8 * need 1 q ≤ 64 := by unfold need; omega
set_option maxRecDepth 100000 in
set_option maxHeartbeats 1000000 in
theorem body_one (g p len c q : Nat) (v0 : Nat) (hl : 1 ≤ len) (hq : q ≤ 64) (hv : v0 < 2 ^ q) (w : World) (hc0 : w.cell? ⟨g, p, none⟩ = some (.int .u64 v0)) (hg : g < w.heap.size) :
    Calls Try.prog 57 #[.agg #[.bool true, .slice (some ⟨g, p, none⟩) len c], .int .i64 q] w fun e w' => ∃ v, e = .returned v ∧ w'.ownsRow w.heap.size 5 1 v (need 1 q) (cellsOf (bytesOf (need 1 q) v0)) ∧ Below w.heap.size w w' := by
  have HB := Lib.hid ((Below.refl w.heap.size w).alloc (Nat.le_refl _) (.cells #[.bool true, .slice (some ⟨g, p, none⟩) len c] 83))
  have hL := Lies.new w 83 #[.bool true, .slice (some ⟨g, p, none⟩) len c]
  have c0 := hL.cell 0
  have c1 := hL.cell 1
  have c2 := (HB.out.cell (p := ⟨g, p, none⟩) hg).trans hc0
  obtain ⟨hn1, hn2, hn3⟩ := need_one q hq
  have NE := Lib.hid (fun W => need_yes 1 q (by omega) hq W)
  rw [show ((1 : Nat) : Int) = 1 from rfl] at NE
  have PK := Lib.hid (fun (V : World) => pack_all (8 * need 1 q) hn3 (some ⟨V.heap.size, 0, none⟩) 1 1 (fun _ => v0) (by omega) (fun i _ => Nat.lt_of_lt_of_le hv (Nat.pow_le_pow_right (by decide) hn2)) (V.alloc (.cells #[.int .u64 v0] 40)) (RowOf.lit V _ _ _ 1 rfl (by intro i hi; match i, hi with | 0, _ => rfl)))
  have hpk : packN (8 * need 1 q) (fun _ => v0) 1 = v0 := by simp [packN]
  rw [hn1, hpk] at PK
  have g1 : (0 : Int) < len := by omega
  have g2 : 0 < len := by omega
  clear hpk hn1 hn2 hL hv hc0
  rw [show ((8 * need 1 q : Nat) : Int) = 8 * (need 1 q : Nat) from by omega] at PK
  generalize need 1 q = nd at *
  go_enter Try.func57, Try.ntmps57
  go_upto_region 2 with fail
  have HW8 := Lib.hid (show IntKind.i64.wrap (8 * (nd : Int)) = 8 * (nd : Int) from IntWalk.i64_in _ (by omega))
  have HBW := Lib.hid HB.out.drew
  have hlt1 : w.heap.size < (w.alloc (.cells #[.bool true, .slice (some ⟨g, p, none⟩) len c] 83)).drew.heap.size := by show _ < (w.alloc _).heap.size; simp
  have hlt2 : g < (w.alloc (.cells #[.bool true, .slice (some ⟨g, p, none⟩) len c] 83)).drew.heap.size := by show _ < (w.alloc _).heap.size; simp; omega
  refine wp_region_held_drew (S := (fun V : World => V.cell? ⟨w.heap.size, 1, none⟩ = some (.slice (some ⟨g, p, none⟩) len c) ∧ V.cell? ⟨g, p, none⟩ = some (.int .u64 v0))) (by kernel_rfl) ⟨c1, c2⟩ (fun hHeld => ?_)
  generalize (w.alloc (.cells #[.bool true, .slice (some ⟨g, p, none⟩) len c] 83)).drew = W1 at *
  refine wpAnyH_take (i := 0) (oi := ?oix17) (v := ?vx17) ?hix17 ?hsx17 ?hfx17 ?hrx17 ?hQx17 ?hyx17 ?hSx17 ?hx17
  case hix17 =>
    simp only [List.getElem?_toArray, List.getElem?_cons_zero]
    rfl
  case hsx17 => kernel_rfl
  case hfx17 => kernel_rfl
  case hrx17 => kernel_rfl
  case hyx17 =>
    refine Or.inl ⟨by rfl, ?_⟩
    intro w hSw
    (try dsimp only at hSw)
    go_simp
    try with_reducible rfl
  case hQx17 => exact fun _ _ _ h => h
  case hSx17 => assumption
  try simp only [Act.put, List.setIfInBounds_toArray, List.set_cons_zero, List.set_cons_succ]
  refine wpAnyH_take (i := 3) (oi := ?oix18) (v := ?vx18) ?hix18 ?hsx18 ?hfx18 ?hrx18 ?hQx18 ?hyx18 ?hSx18 ?hx18
  case hix18 =>
    simp only [List.getElem?_toArray, List.getElem?_cons_succ, List.getElem?_cons_zero]
    rfl
  case hsx18 => kernel_rfl
  case hfx18 => kernel_rfl
  case hrx18 => kernel_rfl
  case hyx18 =>
    refine Or.inl ⟨by rfl, ?_⟩
    intro w hSw
    (try dsimp only at hSw)
    go_simp
    try with_reducible rfl
  case hQx18 => exact fun _ _ _ h => h
  case hSx18 => assumption
  try simp only [Act.put, List.setIfInBounds_toArray, List.set_cons_zero, List.set_cons_succ]
  refine wpAnyH_take (i := 4) (oi := ?oix19) (v := ?vx19) ?hix19 ?hsx19 ?hfx19 ?hrx19 ?hQx19 ?hyx19 ?hSx19 ?hx19
  case hix19 =>
    simp only [List.getElem?_toArray, List.getElem?_cons_succ, List.getElem?_cons_zero]
    rfl
  case hsx19 => kernel_rfl
  case hfx19 => kernel_rfl
  case hrx19 => kernel_rfl
  case hyx19 =>
    refine Or.inl ⟨by rfl, ?_⟩
    intro w hSw
    (try dsimp only at hSw)
    go_simp
    try with_reducible rfl
  case hQx19 => exact fun _ _ _ h => h
  case hSx19 => assumption
  try simp only [Act.put, List.setIfInBounds_toArray, List.set_cons_zero, List.set_cons_succ]
  refine wpAnyH_take (i := 5) (oi := ?oix20) (v := ?vx20) ?hix20 ?hsx20 ?hfx20 ?hrx20 ?hQx20 ?hyx20 ?hSx20 ?hx20
  case hix20 =>
    simp only [List.getElem?_toArray, List.getElem?_cons_succ, List.getElem?_cons_zero]
    rfl
  case hsx20 => kernel_rfl
  case hfx20 => kernel_rfl
  case hrx20 => kernel_rfl
  case hyx20 =>
    refine Or.inl ⟨by rfl, ?_⟩
    intro w hSw
    (try dsimp only at hSw)
    go_simp
    try with_reducible rfl
  case hQx20 => exact fun _ _ _ h => h
  case hSx20 => assumption
  try simp only [Act.put, List.setIfInBounds_toArray, List.set_cons_zero, List.set_cons_succ]
  refine wpAnyH_take (i := 6) (oi := ?oix21) (v := ?vx21) ?hix21 ?hsx21 ?hfx21 ?hrx21 ?hQx21 ?hyx21 ?hSx21 ?hx21
  case hix21 =>
    simp only [List.getElem?_toArray, List.getElem?_cons_succ, List.getElem?_cons_zero]
    rfl
  case hsx21 => kernel_rfl
  case hfx21 => kernel_rfl
  case hrx21 => kernel_rfl
  case hyx21 =>
    refine Or.inl ⟨by rfl, ?_⟩
    intro w hSw
    (try dsimp only at hSw)
    go_simp
    try with_reducible rfl
  case hQx21 => exact fun _ _ _ h => h
  case hSx21 => assumption
  try simp only [Act.put, List.setIfInBounds_toArray, List.set_cons_zero, List.set_cons_succ]
  refine wpAnyH_ready (rs := [1, 7]) (by kernel_rfl) (by simp) ?_
  refine AllReadyH.cons (o := ?ox22) ?ix22 ?kx22 ?mx22
  case ix22 =>
    simp only [List.getElem?_toArray, List.getElem?_cons_succ, List.getElem?_cons_zero]
    rfl
  case' mx22 =>
    refine AllReadyH.cons (o := ?ox23) ?ix23 ?kx23 AllReadyH.nil
    case ix23 =>
      simp only [List.getElem?_toArray, List.getElem?_cons_succ, List.getElem?_cons_zero]
      rfl
    intro K hK
    go_simp
    refine hK.out _ _ ⟨(((Below.refl W1.heap.size W1).alloc (Nat.le_refl _) (.cells #[.int .u64 v0] 40)).cell (p := ⟨w.heap.size, 1, none⟩) hlt1).trans hHeld.1, (((Below.refl W1.heap.size W1).alloc (Nat.le_refl _) (.cells #[.int .u64 v0] 40)).cell (p := ⟨g, p, none⟩) hlt2).trans hHeld.2⟩ (fun hHeld => ?_)
    clear hK K
    try simp only [Act.put, List.setIfInBounds_toArray, List.set_cons_zero, List.set_cons_succ]
    refine wpAnyH_ready (rs := [1]) (by kernel_rfl) (by simp) ?_
    refine AllReadyH.cons (o := ?ox9) ?ix9 ?kx9 AllReadyH.nil
    case ix9 =>
      simp only [List.getElem?_toArray, List.getElem?_cons_succ, List.getElem?_cons_zero]
      rfl
    intro K hK
    go_simp
    refine (NE.out _).mono ?_
    rintro e w1 ⟨rfl, rfl⟩
    (try dsimp only)
    refine hK.out _ _ hHeld (fun hHeld => ?_)
    clear hK K
    try simp only [Act.put, List.setIfInBounds_toArray, List.set_cons_zero, List.set_cons_succ]
    refine wpAnyH_take (i := 2) (oi := ?oix10) (v := ?vx10) ?hix10 ?hsx10 ?hfx10 ?hrx10 ?hQx10 ?hyx10 ?hSx10 ?hx10
    case hix10 =>
      simp only [List.getElem?_toArray, List.getElem?_cons_succ, List.getElem?_cons_zero]
      rfl
    case hsx10 => kernel_rfl
    case hfx10 => kernel_rfl
    case hrx10 => kernel_rfl
    case hyx10 =>
      refine Or.inl ⟨by rfl, ?_⟩
      intro w hSw
      (try dsimp only at hSw)
      go_simp
      try with_reducible rfl
    case hQx10 => exact fun _ _ _ h => h
    case hSx10 => assumption
    try simp only [Act.put, List.setIfInBounds_toArray, List.set_cons_zero, List.set_cons_succ]
    refine wpAnyH_ready (rs := [8]) (by kernel_rfl) (by simp) ?_
    refine AllReadyH.cons (o := ?ox11) ?ix11 ?kx11 AllReadyH.nil
    case ix11 =>
      simp only [List.getElem?_toArray, List.getElem?_cons_succ, List.getElem?_cons_zero]
      rfl
    intro K hK
    go_simp
    rw [HW8.out]
    refine (PK.out W1).mono ?_
    rintro e w2 ⟨v2, rfl, ho2, hb2⟩
    (try dsimp only)
    refine hK.out _ _ ⟨(hb2.cell (p := ⟨w.heap.size, 1, none⟩) (by simp; omega)).trans hHeld.1, (hb2.cell (p := ⟨g, p, none⟩) (by simp; omega)).trans hHeld.2⟩ (fun hHeld => ?_)
    clear hK K
    try simp only [Act.put, List.setIfInBounds_toArray, List.set_cons_zero, List.set_cons_succ]
    refine wpAnyH_take (i := 9) (oi := ?oix12) (v := ?vx12) ?hix12 ?hsx12 ?hfx12 ?hrx12 ?hQx12 ?hyx12 ?hSx12 ?hx12
    case hix12 =>
      simp only [List.getElem?_toArray, List.getElem?_cons_succ, List.getElem?_cons_zero]
      rfl
    case hsx12 => kernel_rfl
    case hfx12 => kernel_rfl
    case hrx12 => kernel_rfl
    case hyx12 =>
      refine Or.inl ⟨by rfl, ?_⟩
      intro w hSw
      (try dsimp only at hSw)
      go_simp
      try with_reducible rfl
    case hQx12 => exact fun _ _ _ h => h
    case hSx12 => assumption
    try simp only [Act.put, List.setIfInBounds_toArray, List.set_cons_zero, List.set_cons_succ]
    refine wpAnyH_take (i := 10) (oi := ?oix13) (v := ?vx13) ?hix13 ?hsx13 ?hfx13 ?hrx13 ?hQx13 ?hyx13 ?hSx13 ?hx13
    case hix13 =>
      simp only [List.getElem?_toArray, List.getElem?_cons_succ, List.getElem?_cons_zero]
      rfl
    case hsx13 => kernel_rfl
    case hfx13 => kernel_rfl
    case hrx13 => kernel_rfl
    case hyx13 =>
      refine Or.inl ⟨by rfl, ?_⟩
      intro w hSw
      (try dsimp only at hSw)
      go_simp
      try with_reducible rfl
    case hQx13 => exact fun _ _ _ h => h
    case hSx13 => assumption
    try simp only [Act.put, List.setIfInBounds_toArray, List.set_cons_zero, List.set_cons_succ]
    refine wpAnyH_take (i := 11) (oi := ?oix14) (v := ?vx14) ?hix14 ?hsx14 ?hfx14 ?hrx14 ?hQx14 ?hyx14 ?hSx14 ?hx14
    case hix14 =>
      simp only [List.getElem?_toArray, List.getElem?_cons_succ, List.getElem?_cons_zero]
      rfl
    case hsx14 => kernel_rfl
    case hfx14 => kernel_rfl
    case hrx14 => kernel_rfl
    case hyx14 =>
      refine Or.inl ⟨by rfl, ?_⟩
      intro w hSw
      (try dsimp only at hSw)
      go_simp
      try with_reducible rfl
    case hQx14 => exact fun _ _ _ h => h
    case hSx14 => assumption
    try simp only [Act.put, List.setIfInBounds_toArray, List.set_cons_zero, List.set_cons_succ]
    refine wpAnyH_take (i := 12) (oi := ?oix15) (v := ?vx15) ?hix15 ?hsx15 ?hfx15 ?hrx15 ?hQx15 ?hyx15 ?hSx15 ?hx15
    case hix15 =>
      simp only [List.getElem?_toArray, List.getElem?_cons_succ, List.getElem?_cons_zero]
      rfl
    case hsx15 => kernel_rfl
    case hfx15 => kernel_rfl
    case hrx15 => kernel_rfl
    case hyx15 =>
      refine Or.inl ⟨by rfl, ?_⟩
      intro w hSw
      (try dsimp only at hSw)
      go_simp
      try with_reducible rfl
    case hQx15 => exact fun _ _ _ h => h
    case hSx15 => assumption
    try simp only [Act.put, List.setIfInBounds_toArray, List.set_cons_zero, List.set_cons_succ]
    refine wpAnyH_take (i := 13) (oi := ?oix16) (v := ?vx16) ?hix16 ?hsx16 ?hfx16 ?hrx16 ?hQx16 ?hyx16 ?hSx16 ?hx16
    case hix16 =>
      simp only [List.getElem?_toArray, List.getElem?_cons_succ, List.getElem?_cons_zero]
      rfl
    case hsx16 => kernel_rfl
    case hfx16 => kernel_rfl
    case hrx16 => kernel_rfl
    case hyx16 =>
      refine Or.inl ⟨by rfl, ?_⟩
      intro w hSw
      (try dsimp only at hSw)
      go_simp
      try with_reducible rfl
    case hQx16 => exact fun _ _ _ h => h
    case hSx16 => assumption
    try simp only [Act.put, List.setIfInBounds_toArray, List.set_cons_zero, List.set_cons_succ]
    refine wpAnyH_done (by kernel_rfl) ?_ _
    go_wp2
    go_ret
    have hbA : Below w.heap.size w (W1.alloc (.cells #[.int .u64 v0] 40)) := HBW.out.alloc HBW.out.size _
    exact ⟨_, rfl, owns_base ho2 (fun j hj => by have := (ho2.lt j hj).1; have := hbA.size; omega), hbA.trans (hb2.mono hbA.size)⟩
  case' kx22 =>
    intro K hK
    go_simp
    refine (NE.out _).mono ?_
    rintro e w1 ⟨rfl, rfl⟩
    (try dsimp only)
    refine hK.out _ _ hHeld (fun hHeld => ?_)
    clear hK K
    try simp only [Act.put, List.setIfInBounds_toArray, List.set_cons_zero, List.set_cons_succ]
    refine wpAnyH_take (i := 2) (oi := ?oix1) (v := ?vx1) ?hix1 ?hsx1 ?hfx1 ?hrx1 ?hQx1 ?hyx1 ?hSx1 ?hx1
    case hix1 =>
      simp only [List.getElem?_toArray, List.getElem?_cons_succ, List.getElem?_cons_zero]
      rfl
    case hsx1 => kernel_rfl
    case hfx1 => kernel_rfl
    case hrx1 => kernel_rfl
    case hyx1 =>
      refine Or.inl ⟨by rfl, ?_⟩
      intro w hSw
      (try dsimp only at hSw)
      go_simp
      try with_reducible rfl
    case hQx1 => exact fun _ _ _ h => h
    case hSx1 => assumption
    try simp only [Act.put, List.setIfInBounds_toArray, List.set_cons_zero, List.set_cons_succ]
    refine wpAnyH_ready (rs := [7]) (by kernel_rfl) (by simp) ?_
    refine AllReadyH.cons (o := ?ox2) ?ix2 ?kx2 AllReadyH.nil
    case ix2 =>
      simp only [List.getElem?_toArray, List.getElem?_cons_succ, List.getElem?_cons_zero]
      rfl
    intro K hK
    go_simp
    refine hK.out _ _ ⟨(((Below.refl W1.heap.size W1).alloc (Nat.le_refl _) (.cells #[.int .u64 v0] 40)).cell (p := ⟨w.heap.size, 1, none⟩) hlt1).trans hHeld.1, (((Below.refl W1.heap.size W1).alloc (Nat.le_refl _) (.cells #[.int .u64 v0] 40)).cell (p := ⟨g, p, none⟩) hlt2).trans hHeld.2⟩ (fun hHeld => ?_)
    clear hK K
    try simp only [Act.put, List.setIfInBounds_toArray, List.set_cons_zero, List.set_cons_succ]
    refine wpAnyH_ready (rs := [8]) (by kernel_rfl) (by simp) ?_
    refine AllReadyH.cons (o := ?ox3) ?ix3 ?kx3 AllReadyH.nil
    case ix3 =>
      simp only [List.getElem?_toArray, List.getElem?_cons_succ, List.getElem?_cons_zero]
      rfl
    intro K hK
    go_simp
    rw [HW8.out]
    refine (PK.out W1).mono ?_
    rintro e w2 ⟨v2, rfl, ho2, hb2⟩
    (try dsimp only)
    refine hK.out _ _ ⟨(hb2.cell (p := ⟨w.heap.size, 1, none⟩) (by simp; omega)).trans hHeld.1, (hb2.cell (p := ⟨g, p, none⟩) (by simp; omega)).trans hHeld.2⟩ (fun hHeld => ?_)
    clear hK K
    try simp only [Act.put, List.setIfInBounds_toArray, List.set_cons_zero, List.set_cons_succ]
    refine wpAnyH_take (i := 9) (oi := ?oix4) (v := ?vx4) ?hix4 ?hsx4 ?hfx4 ?hrx4 ?hQx4 ?hyx4 ?hSx4 ?hx4
    case hix4 =>
      simp only [List.getElem?_toArray, List.getElem?_cons_succ, List.getElem?_cons_zero]
      rfl
    case hsx4 => kernel_rfl
    case hfx4 => kernel_rfl
    case hrx4 => kernel_rfl
    case hyx4 =>
      refine Or.inl ⟨by rfl, ?_⟩
      intro w hSw
      (try dsimp only at hSw)
      go_simp
      try with_reducible rfl
    case hQx4 => exact fun _ _ _ h => h
    case hSx4 => assumption
    try simp only [Act.put, List.setIfInBounds_toArray, List.set_cons_zero, List.set_cons_succ]
    refine wpAnyH_take (i := 10) (oi := ?oix5) (v := ?vx5) ?hix5 ?hsx5 ?hfx5 ?hrx5 ?hQx5 ?hyx5 ?hSx5 ?hx5
    case hix5 =>
      simp only [List.getElem?_toArray, List.getElem?_cons_succ, List.getElem?_cons_zero]
      rfl
    case hsx5 => kernel_rfl
    case hfx5 => kernel_rfl
    case hrx5 => kernel_rfl
    case hyx5 =>
      refine Or.inl ⟨by rfl, ?_⟩
      intro w hSw
      (try dsimp only at hSw)
      go_simp
      try with_reducible rfl
    case hQx5 => exact fun _ _ _ h => h
    case hSx5 => assumption
    try simp only [Act.put, List.setIfInBounds_toArray, List.set_cons_zero, List.set_cons_succ]
    refine wpAnyH_take (i := 11) (oi := ?oix6) (v := ?vx6) ?hix6 ?hsx6 ?hfx6 ?hrx6 ?hQx6 ?hyx6 ?hSx6 ?hx6
    case hix6 =>
      simp only [List.getElem?_toArray, List.getElem?_cons_succ, List.getElem?_cons_zero]
      rfl
    case hsx6 => kernel_rfl
    case hfx6 => kernel_rfl
    case hrx6 => kernel_rfl
    case hyx6 =>
      refine Or.inl ⟨by rfl, ?_⟩
      intro w hSw
      (try dsimp only at hSw)
      go_simp
      try with_reducible rfl
    case hQx6 => exact fun _ _ _ h => h
    case hSx6 => assumption
    try simp only [Act.put, List.setIfInBounds_toArray, List.set_cons_zero, List.set_cons_succ]
    refine wpAnyH_take (i := 12) (oi := ?oix7) (v := ?vx7) ?hix7 ?hsx7 ?hfx7 ?hrx7 ?hQx7 ?hyx7 ?hSx7 ?hx7
    case hix7 =>
      simp only [List.getElem?_toArray, List.getElem?_cons_succ, List.getElem?_cons_zero]
      rfl
    case hsx7 => kernel_rfl
    case hfx7 => kernel_rfl
    case hrx7 => kernel_rfl
    case hyx7 =>
      refine Or.inl ⟨by rfl, ?_⟩
      intro w hSw
      (try dsimp only at hSw)
      go_simp
      try with_reducible rfl
    case hQx7 => exact fun _ _ _ h => h
    case hSx7 => assumption
    try simp only [Act.put, List.setIfInBounds_toArray, List.set_cons_zero, List.set_cons_succ]
    refine wpAnyH_take (i := 13) (oi := ?oix8) (v := ?vx8) ?hix8 ?hsx8 ?hfx8 ?hrx8 ?hQx8 ?hyx8 ?hSx8 ?hx8
    case hix8 =>
      simp only [List.getElem?_toArray, List.getElem?_cons_succ, List.getElem?_cons_zero]
      rfl
    case hsx8 => kernel_rfl
    case hfx8 => kernel_rfl
    case hrx8 => kernel_rfl
    case hyx8 =>
      refine Or.inl ⟨by rfl, ?_⟩
      intro w hSw
      (try dsimp only at hSw)
      go_simp
      try with_reducible rfl
    case hQx8 => exact fun _ _ _ h => h
    case hSx8 => assumption
    try simp only [Act.put, List.setIfInBounds_toArray, List.set_cons_zero, List.set_cons_succ]
    refine wpAnyH_done (by kernel_rfl) ?_ _
    go_wp2
    go_ret
    have hbA : Below w.heap.size w (W1.alloc (.cells #[.int .u64 v0] 40)) := HBW.out.alloc HBW.out.size _
    exact ⟨_, rfl, owns_base ho2 (fun j hj => by have := (ho2.lt j hj).1; have := hbA.size; omega), hbA.trans (hb2.mono hbA.size)⟩
theorem made_block {W : World} {b N g cap : Nat} {e : TypeId} {f : Nat → Value} (h : W.ownsRow b e 1 (.slice (some ⟨g, 0, none⟩) N cap) N (rowV f N)) (hc : cap = N) : W.heap[g]? = some (.cells (rowV f N).toArray e (0, 0)) := by
  rcases h.2 with ⟨h0, _⟩ | ⟨g', cap', cur, he, _, hg, _, _, hs, ht⟩
  · cases h0
  · cases he
    rw [hg]
    have : cur.toList = rowV f N := by
      rw [← ht, List.take_of_length_le (by simp; omega)]
    rw [← this]
theorem row_src {W : World} {g p len : Nat} {z : Nat → Nat} (h : RowOf W (some ⟨g, p, none⟩) len (fun i => .int .u64 ((fun j => z (p + j)) i : Nat))) : ∀ (j : Nat) (v : Value), (rowV (fun j => .int .u64 (z (p + j) : Nat)) len)[j]? = some v → W.cell? ((⟨g, p, none⟩ : Addr).add j) = some v := by
  intro j v hj
  have hl : j < len := by
    rcases Nat.lt_or_ge j len with h | h
    · exact h
    · rw [rowV_ge _ h] at hj; cases hj
  obtain ⟨b, off, ha, _, hc⟩ := h.at_ hl
  cases ha
  have hadd : (⟨g, p, none⟩ : Addr).add j = ⟨g, p + j, none⟩ := by unfold Addr.add; split <;> simp_all
  rw [hadd, hc j hl, ← rowV_get (fun j => .int .u64 (z (p + j) : Nat)) hl]
  exact hj
theorem row_one (len : Nat) (f : Nat → Int) : ∀ v ∈ rowV (fun j => .int .u64 (f j)) len, v.oneCell' = true := by
  intro u hu
  obtain ⟨i, hi, rfl⟩ := List.mem_map.mp hu
  rfl
theorem full_row {W : World} {B p len N : Nat} {z : Nat → Nat} (h : W.heap[B]? = some (.cells (splice (rowV (fun _ => Value.int .u64 0) N) 0 (rowV (fun j => .int .u64 (z (p + j) : Nat)) len)).toArray 40 (0, 0))) :
    RowOf W (some ⟨B, 0, none⟩) N (fun i => .int .u64 (full z (false, p, len) i : Nat)) := by
  refine .inr ⟨B, 0, rfl, fun i hi => ?_⟩
  rw [Nat.zero_add, cell_of_row W B i _ _ (0, 0) h]
  show (splice _ 0 _).toArray[i]? = _
  rw [List.getElem?_toArray]
  unfold splice full
  dsimp only
  by_cases e : i < len
  · rw [if_pos e, List.take_zero, List.nil_append, List.getElem?_append_left (by rw [rowV_length]; exact e), rowV_get _ e]
  · rw [if_neg e, List.take_zero, List.nil_append, List.getElem?_append_right (by rw [rowV_length]; omega), rowV_length, List.getElem?_drop, Nat.zero_add, show len + (i - len) = i by omega, rowV_get _ hi]
    rfl
set_option maxRecDepth 100000 in
set_option maxHeartbeats 1000000 in
theorem body_many (g p len c q : Nat) (z : Nat → Nat) (hl1 : 1 ≤ len) (hl : len ≤ 1024) (hq : q ≤ 64) (hz : ∀ i, i < len → z (p + i) < 2 ^ q) (w : World) (hrow : RowOf w (some ⟨g, p, none⟩) len (fun i => .int .u64 ((fun j => z (p + j)) i : Nat))) :
    Calls Try.prog 57 #[.agg #[.bool false, .slice (some ⟨g, p, none⟩) len c], .int .i64 q] w fun e w' => ∃ v, e = .returned v ∧ w'.ownsRow w.heap.size 5 1 v (need (8 * grp len) q) (cellsOf (bytesOf (need (8 * grp len) q) (packN q (full z (false, p, len)) (8 * grp len)))) ∧ Below w.heap.size w w' := by
  obtain ⟨i0, hi, hz0, hz1, hz2⟩ := info_parts u64Info
  have HB := Lib.hid ((Below.refl w.heap.size w).alloc (Nat.le_refl _) (.cells #[.bool false, .slice (some ⟨g, p, none⟩) len c] 83))
  have hL := Lies.new w 83 #[.bool false, .slice (some ⟨g, p, none⟩) len c]
  have c0 := hL.cell 0
  have c1 := hL.cell 1
  have GR := Lib.hid (groups_any len hl)
  have hk := grp_le len hl
  have hkl : len ≤ 8 * grp len := by unfold grp; omega
  have hp0 : 0 < 2 ^ q := Nat.pow_pos (by decide)
  have PK := Lib.hid (fun (a : Option Addr) (V : World) (hr : RowOf V a (8 * grp len) (fun i => .int .u64 (full z (false, p, len) i : Nat))) => pack_all q hq a (8 * grp len) (8 * grp len) (full z (false, p, len)) (by omega) (fun i _ => by
    show (if i < len then z (p + i) else 0) < 2 ^ q
    by_cases e : i < len
    · rw [if_pos e]; exact hz i e
    · rw [if_neg e]; exact hp0) V hr)
  have HR := Lib.hid (hrow.below HB.out)
  have hinfo : (Try.prog.info? 40).map (·.size) = some 1 := by kernel_rfl
  have HI := Lib.hid hinfo
  clear hrow hz hL hp0 hinfo
  obtain ⟨k, hkk⟩ : ∃ k, grp len = k := ⟨_, rfl⟩
  rw [hkk] at GR hk hkl PK ⊢
  clear hkk
  obtain ⟨N, hN⟩ : ∃ N, 8 * k = N := ⟨_, rfl⟩
  rw [hN] at hkl PK ⊢
  have hNl : N ≤ 1024 := by omega
  have hNi : (8 : Int) * (k : Int) = (N : Int) := by omega
  clear hN
  generalize hG : bytesOf (need N q) (packN q (full z (false, p, len)) N) = BY at *
  generalize need N q = nd at *
  go_enter Try.func57, Try.ntmps57
  go_wp2_with (first
    | (go_at_call 88; refine (GR.out _).mono ?_; rintro e w1 ⟨rfl, rfl⟩)
    | (at_make; go_must (refine wpList_make_full _ rfl _ _ 58 rfl w.heap.size 40 i0 (.int .u64 0) 1 Try.underlying58 hi hz0 hz1 _ _ _ _ N rfl rfl rfl rfl (by rw [hz2]; omega) (by unfold maxLen; omega) (by simp) ?_); intro w2 hown hg; rw [show (Value.int .u64 0).cells = #[Value.int .u64 0] from rfl, rowV_zero] at hown; 
       have hbe : Below (w.alloc (.cells #[.bool false, .slice (some ⟨g, p, none⟩) len c] 83)).heap.size (w.alloc (.cells #[.bool false, .slice (some ⟨g, p, none⟩) len c] 83)) w2 := (Below.refl _ _).grown hg (Nat.le_refl _) (fun j hj => by cases hj)
       have l2 := (Lies.new w 83 #[.bool false, .slice (some ⟨g, p, none⟩) len c]).below hbe (by simp)
       have d1 := l2.cell 1
       have hgm := made_block hown rfl
       rw [World.size_alloc] at hgm
       have HGM := Lib.hid hgm
       have HBE := Lib.hid (HB.out.trans (hbe.mono HB.out.size))
       have HR2 := Lib.hid (HR.out.below hbe)
       clear hown hg hbe l2 hgm)
    | (refine wpList_copy_splice rfl _ _ 58 58 rfl 40 Try.underlying58 HI.out _ _ _ _ _ _ rfl rfl (w.heap.size + 1) 0 (rowV (fun _ => .int .u64 0) N) 40 HGM.out (rowV (fun j => .int .u64 (z (p + j) : Nat)) len) (by rw [rowV_length]; exact (Nat.min_eq_left hkl).symm) (fun _ => ⟨rfl, _, rfl, row_src HR2.out⟩) (by rw [rowV_length, rowV_length]; omega) (row_one len (fun j => (z (p + j) : Nat))) w.heap.size w HBE.out (by omega) ?_; intro w3 hg3 hb3
       have HG3 := Lib.hid hg3; have HB3 := Lib.hid hb3; clear hg3 hb3)
    | (go_at_call 99; refine (PK.out _ _ (full_row HG3.out.out)).mono ?_; rintro e w4 ⟨v4, rfl, ho4, hb4⟩; have HO4 := Lib.hid ho4; have HB4 := Lib.hid hb4; clear ho4 hb4))
  go_ret
  exact ⟨_, rfl, owns_base HO4.out (fun j hj => by have := (HO4.out.lt j hj).1; have := HB3.out.size; omega), HB3.out.trans (HB4.out.mono HB3.out.size)⟩
end Go.Proofs.Ythonjffojaljdaa
