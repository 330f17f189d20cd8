/-
  CONTRACTS OF corduroylaw21.Reals, plain.Block, xor.Encode and Size, in any world, under the condition that the library's table for trailing noughts lies as its initialiser laid it. Conditions: at most 2000 reals, which lie in memory as told.
-/
import Derived.Test.YtejiboinkapkcaaDoorXorB
import Derived.Test.YtejiboinkapkcaaDoorBitsNew
import Derived.Test.YtejiboinkapkcaaDoorRealBase
import Derived.LoopTactic
namespace Go.Proofs.YtejiboinkapkcaaDoor
open Go.RowKit
set_option linter.unusedVariables false
set_option linter.unusedSimpArgs false
theorem f64Info : (Tryd.prog.info? 45).map (fun i => (i.zero, i.size, i.bytes)) = some (some (.float .f64 0), 1, 8) := by kernel_rfl
set_option maxRecDepth 100000 in
set_option maxHeartbeats 1000000 in
theorem reals_any (a : Option Addr) (n cap : Nat) (l : Nat → Nat) (hn : n ≤ 2000) (w : World) (h : RowOf w a n (fun i => .int .u64 (l i : Nat))) :
    Calls Tryd.prog 8 #[.slice a n cap] w fun e w' => ∃ v, e = .returned v ∧ w'.ownsRow w.heap.size 45 1 v n (rowV (fun i => .float .f64 (l i)) n) ∧ Below w.heap.size w w' := by
  obtain ⟨i0, hi, hz0, hz1, hz2⟩ := info_parts f64Info
  have hf := call_frombits
  have H := Lib.hid h
  clear h
  go_enter Tryd.func8, Tryd.ntmps8
  go_wp2
  go_loopw [3, 4] (fun v i wr => ∃ k : Nat, k ≤ n ∧ i = .int .i64 k ∧ wr.ownsRow w.heap.size 45 1 v k (rowV (fun i => .float .f64 (l i)) k) ∧ Below w.heap.size w wr) (fun _ i _ => n - (intOf i).toNat)
  case atStart => exact ⟨0, by omega, rfl, World.ownsRow_nil _ _ _ _, Below.refl _ _⟩
  case round =>
    obtain ⟨k, hk, rfl, ho, hb⟩ := hrel
    have hsz := hb.size
    by_cases hkn : k < n
    · have k1 : (k : Int) < n := by omega
      obtain ⟨b, off, rfl, hblt, hc⟩ := (H.out.below hb).at_ hkn
      have c0 := hc k hkn
      have RS := Lib.hid (rowV_succ (fun i => Value.float .f64 (l i)) k)
      have HOW := Lib.hid ho
      have HBW := Lib.hid hb
      clear ho hb hc
      generalize l k = y at *
      go_wp2_with (first | (at_builtin; go_must (refine wpList_append_own_at _ rfl _ _ 23 rfl w.heap.size 45 i0 (.float .f64 0) 1 8 Tryd.underlying23 hi hz0 hz1 hz2 rfl (by decide) _ _ _ rfl (HOW.out.alloc _) ⟨wr.heap.size, 0, none⟩ 1 1 [.float .f64 y] rfl rfl (cell_one_new _ _ _) (by simp [Value.oneCell']) (by unfold maxLen; omega) (by omega) (by simp; omega) ?_); intro v2 w2 hown2 hgrow2 _ _; have HO2 := Lib.hid hown2; have HG2 := Lib.hid hgrow2; clear hown2 hgrow2))
      go_roundw
      case rel => exact ⟨k + 1, by omega, by go_num, by rw [RS.out]; exact HO2.out, (HBW.out.alloc hsz _).grown HG2.out (by simp; omega) (fun j hj => (HOW.out.lt j hj).1)⟩
      case measure => simp [intOf]; omega
    · obtain rfl : k = n := by omega
      have HOW := Lib.hid ho
      have HBW := Lib.hid hb
      clear ho hb
      go_wp2
      go_ret
      exact ⟨_, rfl, HOW.out, HBW.out⟩
theorem xblock_any (n : Int) (w : World) : Calls Tryd.prog 19 #[.int .i64 n] w fun e w' => e = .returned (.bool (decide (1 ≤ n ∧ n ≤ 1024))) ∧ w = w' := by
  by_cases h1 : 1 ≤ n
  · by_cases h2 : n ≤ 1024
    · rw [decide_eq_true (And.intro h1 h2)]
      go_enter Tryd.func19, Tryd.ntmps19
      go_wp2
      go_ret
      exact ⟨rfl, rfl⟩
    · rw [decide_eq_false (fun h => h2 h.2)]
      go_enter Tryd.func19, Tryd.ntmps19
      go_wp2
      go_ret
      exact ⟨rfl, rfl⟩
  · rw [decide_eq_false (fun h => h1 h.1)]
    go_enter Tryd.func19, Tryd.ntmps19
    go_wp2
    go_ret
    exact ⟨rfl, rfl⟩
theorem Tab.below {w w' : World} (h : Tab w) (hb : Below w.heap.size w w') : Tab w' := fun j hj => (hb.cell (p := ⟨1, j, none⟩) (World.block_lt_of_cell? w _ (h j hj))).trans (h j hj)
theorem Tab.lt {w : World} (h : Tab w) : 1 < w.heap.size := World.block_lt_of_cell? w _ (h 0 (by decide))
theorem WS.step {w0 w1 w2 : World} {bw : Nat} {v0 v1 v2 : Value} {N1 c1 N2 c2 : Nat} (h : WS w0 bw v0 w1 v1 N1 c1) (h2 : WS w1 bw v1 w2 v2 N2 c2) : WS w0 bw v0 w2 v2 N2 c2 := h.put h2.1 h2.2.1 h2.2.2
theorem WS.belowW {w wk : World} {bw : Nat} {vk : Value} {N c : Nat} (h : WS w bw (.slice none 0 0) wk vk N c) (hb : w.heap.size ≤ bw) : Below w.heap.size w wk :=
  h.2.1.below fun i hi => ⟨hi, fun e => by
    rcases e with e | e
    · omega
    · simp [Value.ownBlock] at e⟩
theorem sgn_u (b : Nat) (hb : b < 18446744073709551616) : IntKind.u64.wrap (sgn b) = (b : Int) := by rw [u64w]; unfold sgn; split <;> omega
theorem put64 (bw : Nat) (v : Value) (N c u : Nat) (hu : u < 18446744073709551616) (hc : c + 64 ≤ 100000) (w : World) (h : WriterAt w bw v N c) : Calls Tryd.prog 22 #[.pointer (some ⟨bw, 0, none⟩), .int .u64 u, .int .i64 64] w (PutTold bw v N c u 64 w) := put_ok bw v N c u 64 hu (by decide) hu hc w h
/-- How Encode ends. -/
def XEnd (l : Nat → Nat) (n : Nat) (w : World) (e : Ending) (w' : World) : Prop :=
  ∃ v, e = .returned (.tuple #[v, .int .i64 0]) ∧ w'.ownsRow w.heap.size 5 1 v (((xrun l (n - 1)).c + 7) / 8) (cellsOf (bytesOf (((xrun l (n - 1)).c + 7) / 8) (xrun l (n - 1)).N)) ∧ Below w.heap.size w w'
theorem xencode_out (a : Option Addr) (n cap : Nat) (hn : ¬ (1 ≤ n ∧ n ≤ 1024)) (w : World) :
    Calls Tryd.prog 9 #[.slice a n cap] w fun e w' => e = .returned (.tuple #[.slice none 0 0, .int .i64 7]) ∧ w = w' := by
  have BK := xblock_any n
  rw [decide_eq_false (by omega)] at BK
  have BK := Lib.hid BK
  go_enter Tryd.func9, Tryd.ntmps9
  go_wp2_with (go_at_call 19; refine (BK.out _).mono ?_; rintro e w1 ⟨rfl, rfl⟩)
  go_ret2
  exact ⟨rfl, rfl⟩
set_option maxRecDepth 100000 in
set_option maxHeartbeats 2000000 in
theorem xencode_any (a : Option Addr) (n cap : Nat) (l : Nat → Nat) (hl : ∀ i, i < n → l i < 18446744073709551616) (hn1 : 1 ≤ n) (hn : n ≤ 1024) (hcap : n ≤ cap) (hcm : cap ≤ maxLen) (w : World) (h : RowOf w a n (fun i => .float .f64 (l i))) (hT : Tab w) :
    Calls Tryd.prog 9 #[.slice a n cap] w (XEnd l n w) := by
  have BK := xblock_any n
  rw [decide_eq_true (by omega)] at BK
  have BK := Lib.hid BK
  obtain ⟨b, off, rfl, hblt, hc⟩ := h.at_ (show 0 < n by omega)
  have h00 := hc 0 (by omega)
  have s1 : (1 : Int) ≤ n := by omega
  have s2 : (1 : Int) ≤ cap := by omega
  have s3 : (n : Int) ≤ cap := by omega
  have hn1' : (1 : Int) ≤ n := by omega
  have HNW := Lib.hid (fun W => newWriter_any W)
  have NO := Lib.hid (fun W => none_any W)
  have RB0 := Lib.hid (fun W => bits_any (l 0) (hl 0 (by omega)) W)
  have hs0 := sgn_u (l 0) (hl 0 (by omega))
  have PU := Lib.hid (fun v N c hc bw W h => put64 bw v N c (l 0) (hl 0 (by omega)) hc W h)
  have HC := Lib.hid (fun W (hb : Below w.heap.size w W) i (hi : i < n) => (hb.cell (p := ⟨b, off + i, none⟩) (World.block_lt_of_cell? w _ (hc i hi))).trans (hc i hi))
  have HL := Lib.hid hl
  have HT := Lib.hid hT
  have L0 := Lib.hid (show xrun l 0 = ⟨l 0, 64, 64, 0⟩ from rfl)
  unfold maxLen at hcm
  clear h hc hT hl
  by_cases hc1 : cap = 1
  · subst hc1
    have HN1 := Lib.hid (show n = 1 by omega)
    go_enter Tryd.func9, Tryd.ntmps9
    go_wp2_with (first
      | (go_at_call 19; refine (BK.out _).mono ?_; rintro e w1 ⟨rfl, rfl⟩)
      | (go_at_call 20; refine (HNW.out _).mono ?_; rintro e w1 ⟨rfl, hw1, hb1⟩; have c0 : w1.cell? ⟨b, off, none⟩ = some (.float .f64 (l 0)) := HC.out w1 hb1 0 (by omega); have HS := Lib.hid (show WS w w.heap.size (.slice none 0 0) w1 (.slice none 0 0) 0 0 from ⟨hw1, Turned.of_below hb1 (fun i hi _ => hi), fun i e => by simp [Value.ownBlock] at e⟩); clear hw1 hb1)
      | (go_at_call 21; refine (RB0.out _).mono ?_; rintro e w2 ⟨rfl, rfl⟩)
      | (go_at_call 22; refine (PU.out _ _ _ (by omega) _ _ HS.out.1).mono ?_; rintro r w3 ⟨rfl, v3, hw3, ht3, hn3⟩; have hs3 := HS.out.put hw3 ht3 hn3; clear HS; have HS := Lib.hid hs3; clear hs3 hw3 ht3 hn3)
      | (go_at_call 23; refine (NO.out _).mono ?_; rintro e w4 ⟨rfl, hb4⟩; have hs4 := HS.out.below hb4; have LG := Lib.hid (Lies.new w4 52 (wV 64 0)); have FG := Lib.hid (show Far v3 w.heap.size w4.heap.size from ⟨by have := hs4.lt.1; omega, fun i e => by have := (hs4.lt.2 i e).2; omega⟩); have GG := Lib.hid (show w.heap.size ≤ w4.heap.size from hs4.2.1.size); have hs5 := hs4.below ((Below.refl _ _).alloc (Nat.le_refl _) (.cells (wV 64 0) 52)); clear HS; have HS := Lib.hid hs5; clear hs4 hs5 hb4))
    generalize w4.alloc (.cells (wV 64 0) 52) = w5 at *
    generalize w4.heap.size = g at *
    go_loopw [5, 27] (fun x i wr => ∃ (k : Nat) (vk : Value), k ≤ n - 1 ∧ i = .int .i64 k ∧ x = .int .u64 (l k : Nat) ∧ WS w w.heap.size (.slice none 0 0) wr vk (xrun l k).N (xrun l k).c ∧ Lies wr g 52 (wV (xrun l k).t (xrun l k).e) ∧ Far vk w.heap.size g) (fun _ i _ => n - (intOf i).toNat)
    case atStart => exact ⟨0, v3, by omega, rfl, rfl, by rw [L0.out]; simpa using HS.out, by rw [L0.out]; exact LG.out, FG.out⟩
    case round =>
      obtain ⟨k, vk, hk, rfl, rfl, hs, hlg, hfg⟩ := hrel
      by_cases hkn : k < n - 1
      · exfalso; have := HN1.out; omega
      · obtain rfl : k = n - 1 := by omega
        have WB := Lib.hid (wbytes_any w.heap.size vk _ _ (by have := (xrun_ok l (n - 1) (fun i hi => HL.out i (by omega)) (n - 1) (Nat.le_refl _)).2.2; omega) wr hs.1)
        have HS := Lib.hid hs
        clear hs hlg hfg LG FG
        obtain ⟨s, hsx⟩ : ∃ s, xrun l (n - 1) = s := ⟨_, rfl⟩
        have HX := Lib.hid hsx
        rw [hsx] at WB HS
        clear hsx
        have k1 : ¬ ((n - 1 : Nat) : Int) < ((n - 1 : Nat) : Int) := by omega
        go_wp2_with (go_at_call 25; refine WB.out.mono ?_; rintro r w8 ⟨v8, rfl, ho8, hb8⟩; have HO8 := Lib.hid ho8; have HB8 := Lib.hid hb8; clear ho8 hb8)
        go_ret2
        have hbw := HS.out.belowW (Nat.le_refl _)
        refine ⟨v8, rfl, ?_⟩
        rw [HX.out]
        exact ⟨owns_base HO8.out (fun i e => by have := (HO8.out.lt i e).1; have := hbw.size; omega), hbw.trans (HB8.out.mono hbw.size)⟩
  · skip
    go_enter Tryd.func9, Tryd.ntmps9
    go_wp2_with (first
      | (go_at_call 19; refine (BK.out _).mono ?_; rintro e w1 ⟨rfl, rfl⟩)
      | (go_at_call 20; refine (HNW.out _).mono ?_; rintro e w1 ⟨rfl, hw1, hb1⟩; have c0 : w1.cell? ⟨b, off, none⟩ = some (.float .f64 (l 0)) := HC.out w1 hb1 0 (by omega); have HS := Lib.hid (show WS w w.heap.size (.slice none 0 0) w1 (.slice none 0 0) 0 0 from ⟨hw1, Turned.of_below hb1 (fun i hi _ => hi), fun i e => by simp [Value.ownBlock] at e⟩); clear hw1 hb1)
      | (go_at_call 21; refine (RB0.out _).mono ?_; rintro e w2 ⟨rfl, rfl⟩)
      | (go_at_call 22; refine (PU.out _ _ _ (by omega) _ _ HS.out.1).mono ?_; rintro r w3 ⟨rfl, v3, hw3, ht3, hn3⟩; have hs3 := HS.out.put hw3 ht3 hn3; clear HS; have HS := Lib.hid hs3; clear hs3 hw3 ht3 hn3)
      | (go_at_call 23; refine (NO.out _).mono ?_; rintro e w4 ⟨rfl, hb4⟩; have hs4 := HS.out.below hb4; have LG := Lib.hid (Lies.new w4 52 (wV 64 0)); have FG := Lib.hid (show Far v3 w.heap.size w4.heap.size from ⟨by have := hs4.lt.1; omega, fun i e => by have := (hs4.lt.2 i e).2; omega⟩); have GG := Lib.hid (show w.heap.size ≤ w4.heap.size from hs4.2.1.size); have hs5 := hs4.below ((Below.refl _ _).alloc (Nat.le_refl _) (.cells (wV 64 0) 52)); clear HS; have HS := Lib.hid hs5; clear hs4 hs5 hb4))
    generalize w4.alloc (.cells (wV 64 0) 52) = w5 at *
    generalize w4.heap.size = g at *
    go_loopw [5, 27] (fun x i wr => ∃ (k : Nat) (vk : Value), k ≤ n - 1 ∧ i = .int .i64 k ∧ x = .int .u64 (l k : Nat) ∧ WS w w.heap.size (.slice none 0 0) wr vk (xrun l k).N (xrun l k).c ∧ Lies wr g 52 (wV (xrun l k).t (xrun l k).e) ∧ Far vk w.heap.size g) (fun _ i _ => n - (intOf i).toNat)
    case atStart => exact ⟨0, v3, by omega, rfl, rfl, by rw [L0.out]; simpa using HS.out, by rw [L0.out]; exact LG.out, FG.out⟩
    case round =>
      obtain ⟨k, vk, hk, rfl, rfl, hs, hlg, hfg⟩ := hrel
      by_cases hkn : k < n - 1
      · have k1 : (k : Int) < ((n - 1 : Nat) : Int) := by omega
        have k0 : (0 : Int) ≤ k := by omega
        have hbw := hs.belowW (Nat.le_refl _)
        have cy : wr.cell? ⟨b, off + 1 + k, none⟩ = some (.float .f64 (l (k + 1))) := by
          have := HC.out wr hbw (k + 1) (by omega)
          rwa [show off + (k + 1) = off + 1 + k by omega] at this
        have hly := HL.out (k + 1) (by omega)
        have hlk := HL.out k (by omega)
        have ok := xrun_ok l (n - 1) (fun i hi => HL.out i (by omega)) k hk
        have RS := Lib.hid (show xrun l (k + 1) = xstep (xrun l k) (l (k + 1) ^^^ l k) from rfl)
        have WR := Lib.hid (write_any w.heap.size vk (xrun l k) (l (k + 1) ^^^ l k) (xor_lt hly hlk) ok.1 (by omega) wr hs.1 (HT.out.below hbw) HT.out.lt)
        have RB := Lib.hid (fun W => bits_any (l (k + 1)) hly W)
        have hsy := sgn_u (l (k + 1)) hly
        have hxy := bits_xor_u64_nat (l (k + 1)) (l k) hly hlk
        have HS := Lib.hid hs
        have HQ := Lib.hid (And.intro hlg hfg)
        clear hs hlg hfg ok LG FG
        generalize xstep (xrun l k) (l (k + 1) ^^^ l k) = s' at *
        generalize xrun l k = s at *
        generalize l (k + 1) ^^^ l k = xx at *
        obtain ⟨y, hy⟩ : ∃ y, l (k + 1) = y := ⟨_, rfl⟩
        have HY := Lib.hid hy
        rw [hy] at cy hly RB hsy hxy
        clear hy
        obtain ⟨u, hu⟩ : ∃ u, l k = u := ⟨_, rfl⟩
        rw [hu] at hlk hxy
        rw [hu]
        clear hu
        have q0 := wlies HQ.out.1
        obtain ⟨c60, c61, f60, f61⟩ := q0
        go_wp2_with (first
          | (go_at_call 21; refine (RB.out _).mono ?_; rintro e w2 ⟨rfl, rfl⟩)
          | (go_at_call 24; refine WR.out.mono ?_; rintro r w7 ⟨rfl, v7, hws⟩; have q := far_put HQ.out.1 HQ.out.2 hws.2.1 hws.2.2; obtain ⟨c60, c61, f60, f61⟩ := wlies q.1; have hs7 := HS.out.step hws; clear HQ HS; have HQ := Lib.hid q; have HS := Lib.hid hs7; clear q hs7 hws))
        go_roundw
        case rel => exact ⟨k + 1, v7, by omega, by go_num, by rw [HY.out], by rw [RS.out]; exact HS.out.set2 GG.out HQ.out.2 _ _, by rw [RS.out]; exact (HQ.out.1.set_ 0 (.int .i64 s'.t)).set_ 1 (.int .i64 s'.e), HQ.out.2⟩
        case measure => simp [intOf]; omega
      · obtain rfl : k = n - 1 := by omega
        have WB := Lib.hid (wbytes_any w.heap.size vk _ _ (by have := (xrun_ok l (n - 1) (fun i hi => HL.out i (by omega)) (n - 1) (Nat.le_refl _)).2.2; omega) wr hs.1)
        have HS := Lib.hid hs
        clear hs hlg hfg LG FG
        obtain ⟨s, hsx⟩ : ∃ s, xrun l (n - 1) = s := ⟨_, rfl⟩
        have HX := Lib.hid hsx
        rw [hsx] at WB HS
        clear hsx
        have k1 : ¬ ((n - 1 : Nat) : Int) < ((n - 1 : Nat) : Int) := by omega
        go_wp2_with (go_at_call 25; refine WB.out.mono ?_; rintro r w8 ⟨v8, rfl, ho8, hb8⟩; have HO8 := Lib.hid ho8; have HB8 := Lib.hid hb8; clear ho8 hb8)
        go_ret2
        have hbw := HS.out.belowW (Nat.le_refl _)
        refine ⟨v8, rfl, ?_⟩
        rw [HX.out]
        exact ⟨owns_base HO8.out (fun i e => by have := (HO8.out.lt i e).1; have := hbw.size; omega), hbw.trans (HB8.out.mono hbw.size)⟩
end Go.Proofs.YtejiboinkapkcaaDoor
