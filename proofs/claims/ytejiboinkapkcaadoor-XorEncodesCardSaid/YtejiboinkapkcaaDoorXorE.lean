/-
  CONTRACT OF the document's own Encode of reals' bits (corduroyref22.Encode), in any world. Conditions: from 1 to 1024 numbers, which lie in memory as told.
-/
import Derived.Test.YtejiboinkapkcaaDoorXorM
import Derived.Test.YtejiboinkapkcaaDoorNumW
import Derived.LoopTactic
import Derived.Laws.Bits64b
import Derived.BigRegion
import Derived.Deep.RegionHeld3
import Derived.Deep.DeepMust
import Derived.Outline
import Derived.Lib.Hide
namespace Go.Proofs.YtejiboinkapkcaaDoor
open Go.RowKit
set_option linter.unusedVariables false
set_option linter.unusedSimpArgs false
/-- Bits of one's own, in a world behind. -/
theorem bits_below {w w' : World} {base c : Nat} {v : Value} {xs : List Value} (h : w.ownsRow base 4 1 v c xs) (hb : Below w.heap.size w w') : w'.ownsRow base 4 1 v c xs :=
  owns_turned h (Turned.of_below (S := fun i => w.heap.size ≤ i) hb (fun i hi _ => hi)) (fun i hi hs => by have := h.lt i hi; omega)
/-- A number's bits behind bits of one's own. -/
theorem app_bits {w0 w1 : World} {base c k N u cp : Nat} {v : Value} {a : Option Addr} (ho : w0.ownsRow base 4 1 v c (bitsV N c)) (hN : N < 2 ^ c) (hr : RowOf w1 a k (fun i => .bool (bitB u i))) (hb : Below w0.heap.size w0 w1) (hbase : base ≤ w0.heap.size) (hm : c + k ≤ 100000) :
    ∃ v' w2, (Builtin.append_ #[56, 56] 56 #[v, .slice a k cp]).run Tryd.prog w1 = .ok v' w2 ∧ w2.ownsRow base 4 1 v' (c + k) (bitsV (N + u * 2 ^ c) (c + k)) ∧ Turned (fun i => v.ownBlock = some i) w1 w2 ∧ (∀ i, v'.ownBlock = some i → v.ownBlock = some i ∨ w1.heap.size ≤ i) := by
  obtain ⟨i0, hi, hz0, hz1, hz2⟩ := info_parts boolInfo
  obtain ⟨v', w2, hrun, ho2, hg, hv⟩ := run_append_row (P := Tryd.prog) w1 base 56 56 4 i0 (.bool false) 1 Tryd.underlying56 hi hz0 hz1 hz2 rfl v c _ (bits_below ho hb) a k cp _ hr (fun i _ => rfl) (by unfold maxLen; omega) (by omega) (Nat.le_trans hbase hb.size)
  refine ⟨v', w2, hrun, ?_, (Turned.refl _ w1).grown hg (fun i h => .inl h), fun i h => ?_⟩
  · have h3 := bitsV_append N c u k hN
    rw [← h3]
    exact ho2
  · rcases hv with hv | hv
    · exact .inl (hv ▸ h)
    · rw [hv] at h; cases h; exact .inr (Nat.le_refl _)
/-- What stands while a round runs: the bits of one's own, and those of the number at hand. -/
def RS2 (w : World) (x b8 o8 : Nat) (wk : World) (v : Value) (N c : Nat) : Prop :=
  wk.ownsRow w.heap.size 4 1 v c (bitsV N c) ∧ N < 2 ^ c ∧ RowOf wk (some ⟨b8, o8, none⟩) 64 (fun i => .bool (bitB x i)) ∧ b8 < wk.heap.size ∧ (∀ i, v.ownBlock = some i → i ≠ b8) ∧ Below w.heap.size w wk
theorem RS2.app {w wk w1 : World} {x b8 o8 N c k u cp : Nat} {v : Value} {a : Option Addr} (h : RS2 w x b8 o8 wk v N c) (hr : RowOf w1 a k (fun i => .bool (bitB u i))) (hb : Below wk.heap.size wk w1) (hm : c + k ≤ 100000) (hu : u < 2 ^ k) :
    ∃ v' w2, (Builtin.append_ #[56, 56] 56 #[v, .slice a k cp]).run Tryd.prog w1 = .ok v' w2 ∧ RS2 w x b8 o8 w2 v' (N + u * 2 ^ c) (c + k) := by
  obtain ⟨ho, hN, hx, hl, hn, hbw⟩ := h
  obtain ⟨v', w2, hrun, ho2, ht, hv⟩ := app_bits (cp := cp) ho hN hr hb hbw.size hm
  refine ⟨v', w2, hrun, ho2, num_add hN hu, (hx.below hb).turned ht (fun p hp e => by cases hp; exact hn _ e rfl), Nat.lt_of_lt_of_le (Nat.lt_of_lt_of_le hl hb.size) ht.size, fun i e => ?_, ?_⟩
  · rcases hv i e with e | e
    · exact hn i e
    · have := hb.size; omega
  · exact (hbw.trans (hb.mono hbw.size)).trans (ht.below fun i hi => ⟨by have := hbw.size; have := hb.size; omega, fun e => by have := (ho.lt _ e).1; omega⟩)
theorem RS2.lit {w wk : World} {x b8 o8 N c : Nat} {v : Value} (h : RS2 w x b8 o8 wk v N c) (u : Nat) (hu : u < 2) (hm : c + 1 ≤ 100000) :
    ∃ v' w2, (Builtin.append_ #[56, 56] 56 #[v, .slice (some ⟨wk.heap.size, 0, none⟩) 1 1]).run Tryd.prog (wk.alloc (.cells #[.bool (bitB u 0)] 4)) = .ok v' w2 ∧ RS2 w x b8 o8 w2 v' (N + u * 2 ^ c) (c + 1) :=
  h.app (cp := 1) (RowOf.lit wk _ _ _ 1 rfl (fun i hi => by match i, hi with | 0, _ => rfl)) ((Below.refl _ _).alloc (Nat.le_refl _) _) hm (by omega)
theorem RS2.lit0 {w wk : World} {x b8 o8 N c : Nat} {v : Value} (h : RS2 w x b8 o8 wk v N c) (hm : c + 1 ≤ 100000) :
    ∃ v' w2, (Builtin.append_ #[56, 56] 56 #[v, .slice (some ⟨wk.heap.size, 0, none⟩) 1 1]).run Tryd.prog (wk.alloc (.cells #[.bool false] 4)) = .ok v' w2 ∧ RS2 w x b8 o8 w2 v' (N + 0 * 2 ^ c) (c + 1) := h.lit 0 (by decide) hm
theorem RS2.lit1 {w wk : World} {x b8 o8 N c : Nat} {v : Value} (h : RS2 w x b8 o8 wk v N c) (hm : c + 1 ≤ 100000) :
    ∃ v' w2, (Builtin.append_ #[56, 56] 56 #[v, .slice (some ⟨wk.heap.size, 0, none⟩) 1 1]).run Tryd.prog (wk.alloc (.cells #[.bool true] 4)) = .ok v' w2 ∧ RS2 w x b8 o8 w2 v' (N + 1 * 2 ^ c) (c + 1) := h.lit 1 (by decide) hm
theorem RS2.tail {w wk : World} {x b8 o8 N c : Nat} {v : Value} (h : RS2 w x b8 o8 wk v N c) (e m : Nat) (he : e + m ≤ 64) : RowOf wk (some ⟨b8, o8 + e, none⟩) m (fun i => .bool (bitB (x / 2 ^ e) i)) := by
  rcases h.2.2.1 with h0 | ⟨b', o', hb, hc⟩
  · cases h0
  · cases hb
    exact .inr ⟨b8, o8 + e, rfl, fun i hi => by show wk.cell? ⟨b8, o8 + e + i, none⟩ = some (Value.bool (bitB (x / 2 ^ e) i)); rw [← bit_shift, Nat.add_assoc]; exact hc (e + i) (by omega)⟩
theorem rbits_lit2 (u k : Nat) (U : Int) (K : Int) (hu : u < 18446744073709551616) (hk : k ≤ 64) (hU : U = (u : Int)) (hK : K = (k : Int)) (W : World) : Calls Tryd.prog 26 #[.int .u64 U, .int .i64 K] W fun e w' => ∃ x, e = .returned x ∧ w'.ownsRow W.heap.size 4 1 x k (bitsV u k) ∧ Below W.heap.size W w' := by
  subst hK hU
  exact rbits_any u k hu hk W
theorem rbits_lit (u k : Nat) (K : Int) (hu : u < 18446744073709551616) (hk : k ≤ 64) (hK : K = (k : Int)) (W : World) : Calls Tryd.prog 26 #[.int .u64 u, .int .i64 K] W fun e w' => ∃ x, e = .returned x ∧ w'.ownsRow W.heap.size 4 1 x k (bitsV u k) ∧ Below W.heap.size W w' := by
  subst hK
  exact rbits_any u k hu hk W
set_option maxRecDepth 100000 in
set_option maxHeartbeats 4000000 in
theorem rxencode_any (a : Option Addr) (n cap : Nat) (l : Nat → Nat) (hl : ∀ i, i < n → l i < 18446744073709551616) (hn1 : 1 ≤ n) (hn : n ≤ 1024) (w : World) (h : RowOf w a n (fun i => .int .u64 (l i : Nat))) :
    Calls Tryd.prog 13 #[.slice a n cap] w fun e w' => ∃ v, e = .returned v ∧ w'.ownsRow w.heap.size 5 1 v (((xrun l (n - 1)).c + 7) / 8) (cellsOf (bytesOf (((xrun l (n - 1)).c + 7) / 8) (xrun l (n - 1)).N)) ∧ Below w.heap.size w w' := by
  obtain ⟨b, off, rfl, hblt, hc⟩ := h.at_ (show 0 < n by omega)
  have HC := Lib.hid (fun W (hb : Below w.heap.size w W) i (hi : i < n) => (hb.cell (p := ⟨b, off + i, none⟩) (World.block_lt_of_cell? w _ (hc i hi))).trans (hc i hi))
  have h00 : w.cell? ⟨b, off, none⟩ = some (.int .u64 (l 0 : Nat)) := hc 0 (by omega)
  have s1 : (1 : Int) ≤ n := by omega
  have s2 : ((n : Int) == 0) = false := by rw [beq_eq_false_iff_ne]; omega
  have s2' : ¬ (n : Int) = 0 := by omega
  have HL := Lib.hid hl
  have RB := Lib.hid (fun u (hu : u < 18446744073709551616) W => rbits_lit u 64 64 hu (by decide) rfl W)
  have B0 := Lib.hid (RB.out (l 0) (hl 0 (by omega)))
  have L0 := Lib.hid (show xrun l 0 = ⟨l 0, 64, 64, 0⟩ from rfl)
  clear h hc hl
  go_enter Tryd.func13, Tryd.ntmps13
  go_wp2_with (go_at_call 26; refine (B0.out _).mono ?_; rintro e w1 ⟨v1, rfl, ho, hb⟩; have HO1 := Lib.hid ho; have HB1 := Lib.hid hb; clear ho hb)
  go_loopw [3, 4, 5, 6, 7] (fun v tp en is i wr => ∃ k : Nat, k + 1 ≤ n ∧ i = .int .i64 ((k : Int) + 1) ∧ wr.ownsRow w.heap.size 4 1 v (xrun l k).c (bitsV (xrun l k).N (xrun l k).c) ∧ ((is = .bool false ∧ (xrun l k).t = 64 ∧ (xrun l k).e = 0 ∧ tp = .int .i64 0 ∧ en = .int .i64 0) ∨ (is = .bool true ∧ (xrun l k).t ≤ 31 ∧ tp = .int .i64 (xrun l k).t ∧ en = .int .i64 (xrun l k).e)) ∧ Below w.heap.size w wr) (fun _ _ _ _ i _ => n - (intOf i).toNat)
  case atStart => exact ⟨0, by omega, rfl, by rw [L0.out]; exact HO1.out, .inl ⟨rfl, rfl, rfl, rfl, rfl⟩, HB1.out⟩
  case round =>
    obtain ⟨k, hk, rfl, ho, his, hb⟩ := hrel
    have hok := xrun_ok l (n - 1) (fun i hi => HL.out i (by omega)) k (by omega)
    have hlt := xrun_lt l (n - 1) (fun i hi => HL.out i (by omega)) k (by omega)
    have HO := Lib.hid ho
    have HB := Lib.hid hb
    have HIS := Lib.hid his
    clear ho hb his
    by_cases hkn : k + 1 < n
    · have k1 : (k : Int) + 1 < n := by omega
      have k0 : (0 : Int) ≤ k := by omega
      have k01 : (0 : Int) ≤ (k : Int) + 1 := by omega
      have k02 : (k : Int) < n := by omega
      have k03 : IntKind.i64.wrap (k : Int) = k := IntWalk.i64_in _ (by omega)
      have cy := HC.out wr HB.out (k + 1) hkn
      have cu := HC.out wr HB.out k (by omega)
      have hly := HL.out (k + 1) (by omega)
      have hlu := HL.out k (by omega)
      have hxl := xor_lt hly hlu
      have hxy := bits_xor_u64_nat (l (k + 1)) (l k) hly hlu
      have RSX := Lib.hid (show xrun l (k + 1) = xstep (xrun l k) (l (k + 1) ^^^ l k) from rfl)
      generalize xrun l k = s at *
      generalize l (k + 1) ^^^ l k = x at *
      generalize l (k + 1) = y at *
      generalize l k = u at *
      have BX := Lib.hid (RB.out x hxl)
      have HCU := Lib.hid (And.intro cy cu)
      clear cy cu RB
      go_wp2_with fail
      refine wp_region_held_drew (S := (fun W : World => W.cell? ⟨b, off + (k + 1), none⟩ = some (.int .u64 (y : Nat)) ∧ W.cell? ⟨b, off + k, none⟩ = some (.int .u64 (u : Nat)))) (by kernel_rfl) ⟨HCU.out.1, HCU.out.2⟩ (fun hHeld => ?_)
      refine wpAnyH_take (i := 0) (oi := ?oix1) (v := ?vx1) ?hix1 ?hsx1 ?hfx1 ?hrx1 ?hQx1 ?hyx1 ?hSx1 ?hx1
      case hix1 =>
        simp only [List.getElem?_toArray, List.getElem?_cons_zero]
        rfl
      case hsx1 => kernel_rfl
      case hfx1 => kernel_rfl
      case hrx1 => kernel_rfl
      case hyx1 =>
        refine Or.inl ⟨by rfl, ?_⟩
        intro w hSw
        (try dsimp only at hSw)
        go_simp
        try with_reducible rfl
      case hQx1 => exact fun _ _ _ h => h
      case hSx1 => assumption
      try simp only [Act.put, List.setIfInBounds_toArray, List.set_cons_zero, List.set_cons_succ]
      refine wpAnyH_take (i := 1) (oi := ?oix2) (v := ?vx2) ?hix2 ?hsx2 ?hfx2 ?hrx2 ?hQx2 ?hyx2 ?hSx2 ?hx2
      case hix2 =>
        simp only [List.getElem?_toArray, List.getElem?_cons_succ, List.getElem?_cons_zero]
        rfl
      case hsx2 => kernel_rfl
      case hfx2 => kernel_rfl
      case hrx2 => kernel_rfl
      case hyx2 =>
        refine Or.inl ⟨by rfl, ?_⟩
        intro w hSw
        (try dsimp only at hSw)
        go_simp
        try with_reducible rfl
      case hQx2 => exact fun _ _ _ h => h
      case hSx2 => assumption
      try simp only [Act.put, List.setIfInBounds_toArray, List.set_cons_zero, List.set_cons_succ]
      refine wpAnyH_take (i := 2) (oi := ?oix3) (v := ?vx3) ?hix3 ?hsx3 ?hfx3 ?hrx3 ?hQx3 ?hyx3 ?hSx3 ?hx3
      case hix3 =>
        simp only [List.getElem?_toArray, List.getElem?_cons_succ, List.getElem?_cons_zero]
        rfl
      case hsx3 => kernel_rfl
      case hfx3 => kernel_rfl
      case hrx3 => kernel_rfl
      case hyx3 =>
        refine Or.inl ⟨by rfl, ?_⟩
        intro w hSw
        (try dsimp only at hSw)
        go_simp
        try with_reducible rfl
      case hQx3 => exact fun _ _ _ h => h
      case hSx3 => assumption
      try simp only [Act.put, List.setIfInBounds_toArray, List.set_cons_zero, List.set_cons_succ]
      refine wpAnyH_take (i := 3) (oi := ?oix4) (v := ?vx4) ?hix4 ?hsx4 ?hfx4 ?hrx4 ?hQx4 ?hyx4 ?hSx4 ?hx4
      case hix4 =>
        simp only [List.getElem?_toArray, List.getElem?_cons_succ, List.getElem?_cons_zero]
        rfl
      case hsx4 => kernel_rfl
      case hfx4 => kernel_rfl
      case hrx4 => kernel_rfl
      case hyx4 =>
        refine Or.inl ⟨by rfl, ?_⟩
        intro w hSw
        (try dsimp only at hSw)
        go_simp
        try with_reducible rfl
      case hQx4 => exact fun _ _ _ h => h
      case hSx4 => assumption
      try simp only [Act.put, List.setIfInBounds_toArray, List.set_cons_zero, List.set_cons_succ]
      refine wpAnyH_take (i := 4) (oi := ?oix5) (v := ?vx5) ?hix5 ?hsx5 ?hfx5 ?hrx5 ?hQx5 ?hyx5 ?hSx5 ?hx5
      case hix5 =>
        simp only [List.getElem?_toArray, List.getElem?_cons_succ, List.getElem?_cons_zero]
        rfl
      case hsx5 => kernel_rfl
      case hfx5 => kernel_rfl
      case hrx5 => kernel_rfl
      case hyx5 =>
        refine Or.inl ⟨by rfl, ?_⟩
        intro w hSw
        (try dsimp only at hSw)
        go_simp
        try with_reducible rfl
      case hQx5 => exact fun _ _ _ h => h
      case hSx5 => assumption
      try simp only [Act.put, List.setIfInBounds_toArray, List.set_cons_zero, List.set_cons_succ]
      refine wpAnyH_take (i := 5) (oi := ?oix6) (v := ?vx6) ?hix6 ?hsx6 ?hfx6 ?hrx6 ?hQx6 ?hyx6 ?hSx6 ?hx6
      case hix6 =>
        simp only [List.getElem?_toArray, List.getElem?_cons_succ, List.getElem?_cons_zero]
        rfl
      case hsx6 => kernel_rfl
      case hfx6 => kernel_rfl
      case hrx6 => kernel_rfl
      case hyx6 =>
        refine Or.inl ⟨by rfl, ?_⟩
        intro w hSw
        (try dsimp only at hSw)
        go_simp
        try with_reducible rfl
      case hQx6 => exact fun _ _ _ h => h
      case hSx6 => assumption
      try simp only [Act.put, List.setIfInBounds_toArray, List.set_cons_zero, List.set_cons_succ]
      refine wpAnyH_take (i := 6) (oi := ?oix7) (v := ?vx7) ?hix7 ?hsx7 ?hfx7 ?hrx7 ?hQx7 ?hyx7 ?hSx7 ?hx7
      case hix7 =>
        simp only [List.getElem?_toArray, List.getElem?_cons_succ, List.getElem?_cons_zero]
        rfl
      case hsx7 => kernel_rfl
      case hfx7 => kernel_rfl
      case hrx7 => kernel_rfl
      case hyx7 =>
        refine Or.inl ⟨by rfl, ?_⟩
        intro w hSw
        (try dsimp only at hSw)
        go_simp
        try with_reducible rfl
      case hQx7 => exact fun _ _ _ h => h
      case hSx7 => assumption
      try simp only [Act.put, List.setIfInBounds_toArray, List.set_cons_zero, List.set_cons_succ]
      refine wpAnyH_take (i := 7) (oi := ?oix8) (v := ?vx8) ?hix8 ?hsx8 ?hfx8 ?hrx8 ?hQx8 ?hyx8 ?hSx8 ?hx8
      case hix8 =>
        simp only [List.getElem?_toArray, List.getElem?_cons_succ, List.getElem?_cons_zero]
        rfl
      case hsx8 => kernel_rfl
      case hfx8 => kernel_rfl
      case hrx8 => kernel_rfl
      case hyx8 =>
        refine Or.inl ⟨by rfl, ?_⟩
        intro w hSw
        (try dsimp only at hSw)
        go_simp
        try with_reducible rfl
      case hQx8 => exact fun _ _ _ h => h
      case hSx8 => assumption
      try simp only [Act.put, List.setIfInBounds_toArray, List.set_cons_zero, List.set_cons_succ]
      refine wpAnyH_take (i := 8) (oi := ?oix9) (v := ?vx9) ?hix9 ?hsx9 ?hfx9 ?hrx9 ?hQx9 ?hyx9 ?hSx9 ?hx9
      case hix9 =>
        simp only [List.getElem?_toArray, List.getElem?_cons_succ, List.getElem?_cons_zero]
        rfl
      case hsx9 => kernel_rfl
      case hfx9 => kernel_rfl
      case hrx9 => kernel_rfl
      case hyx9 =>
        refine Or.inl ⟨by rfl, ?_⟩
        intro w hSw
        (try dsimp only at hSw)
        go_simp
        try with_reducible rfl
      case hQx9 => exact fun _ _ _ h => h
      case hSx9 => assumption
      try simp only [Act.put, List.setIfInBounds_toArray, List.set_cons_zero, List.set_cons_succ]
      refine wpAnyH_take (i := 9) (oi := ?oix10) (v := ?vx10) ?hix10 ?hsx10 ?hfx10 ?hrx10 ?hQx10 ?hyx10 ?hSx10 ?hx10
      case hix10 =>
        simp only [List.getElem?_toArray, List.getElem?_cons_succ, List.getElem?_cons_zero]
        rfl
      case hsx10 => kernel_rfl
      case hfx10 => kernel_rfl
      case hrx10 => kernel_rfl
      case hyx10 =>
        refine Or.inl ⟨by rfl, ?_⟩
        intro w hSw
        (try dsimp only at hSw)
        go_simp
        try with_reducible rfl
      case hQx10 => exact fun _ _ _ h => h
      case hSx10 => assumption
      try simp only [Act.put, List.setIfInBounds_toArray, List.set_cons_zero, List.set_cons_succ]
      refine wpAnyH_ready (rs := [10]) (by kernel_rfl) (by simp) ?_
      refine AllReadyH.cons (o := ?ox11) ?ix11 ?kx11 AllReadyH.nil
      case ix11 =>
        simp only [List.getElem?_toArray, List.getElem?_cons_succ, List.getElem?_cons_zero]
        rfl
      intro K hK
      go_simp
      go_at_call 26
      refine (BX.out _).mono ?_
      rintro e w3 ⟨x8, rfl, ho8, hb8⟩
      obtain ⟨a8, c8, rfl, hr8, hp8, hc8, _⟩ := own_reads ho8
      have hr8 : RowOf w3 a8 64 (fun i => .bool (bitB x i)) := hr8.congr fun i hi => by simp [bitsV, rowV, hi]
      obtain ⟨b8, o8, rfl, hb8l, hx8⟩ := hr8.at_ (show 0 < 64 by decide)
      have hb8 : Below wr.heap.size wr w3 := ⟨hb8.os, hb8.tape, hb8.output, hb8.size, hb8.block⟩
      have HRS := Lib.hid (show RS2 w x b8 o8 w3 u3 s.N s.c from ⟨bits_below HO.out hb8, hlt, hr8, hb8l, fun i e => by have := (HO.out.lt i e).2; have := (hp8 _ rfl).1; simp at this; omega, HB.out.trans (hb8.mono HB.out.size)⟩)
      have HX8 := Lib.hid (fun i (hi : i < 64) => hx8 i hi)
      have HCW := Lib.hid (show w3.cell? ⟨b, off + (k + 1), none⟩ = some (.int .u64 (y : Nat)) ∧ w3.cell? ⟨b, off + k, none⟩ = some (.int .u64 (u : Nat)) from ⟨(hb8.cell (p := ⟨b, off + (k + 1), none⟩) (World.block_lt_of_cell? wr _ HCU.out.1)).trans HCU.out.1, (hb8.cell (p := ⟨b, off + k, none⟩) (World.block_lt_of_cell? wr _ HCU.out.2)).trans HCU.out.2⟩)
      clear ho8 hr8 hp8 hb8 hx8
      refine hK.out _ _ ⟨HCW.out.1, HCW.out.2⟩ (fun hHeld => ?_)
      clear hK K
      try simp only [Act.put, List.setIfInBounds_toArray, List.set_cons_zero, List.set_cons_succ]
      refine wpAnyH_take (i := 11) (oi := ?oix12) (v := ?vx12) ?hix12 ?hsx12 ?hfx12 ?hrx12 ?hQx12 ?hyx12 ?hSx12 ?hx12
      case hix12 =>
        simp only [List.getElem?_toArray, List.getElem?_cons_succ, List.getElem?_cons_zero]
        rfl
      case hsx12 => kernel_rfl
      case hfx12 => kernel_rfl
      case hrx12 => kernel_rfl
      case hyx12 =>
        refine Or.inl ⟨by rfl, ?_⟩
        intro w hSw
        (try dsimp only at hSw)
        go_simp
        try with_reducible rfl
      case hQx12 => exact fun _ _ _ h => h
      case hSx12 => assumption
      try simp only [Act.put, List.setIfInBounds_toArray, List.set_cons_zero, List.set_cons_succ]
      refine wpAnyH_done (by kernel_rfl) ?_ _
      clear HCU HCW BX HO HB
      by_cases hx0 : x = 0
      · subst hx0
        have RSX := Lib.hid (show xrun l (k + 1) = ⟨s.N + 0 * 2 ^ s.c, s.c + 1, s.t, s.e⟩ from by rw [RSX.out]; unfold xstep; rw [if_pos rfl])
        go_wp2_with fail
        go_loopw [9] (fun a wr => ∃ m : Nat, m ≤ 64 ∧ a = .int .i64 m ∧ wr = w3) (fun a _ => 64 - (intOf a).toNat)
        case atStart => exact ⟨0, by omega, rfl, rfl⟩
        case round =>
          obtain ⟨m, hm, rfl, hw⟩ := hrel
          obtain rfl : w3 = wr := hw.symm
          by_cases hm64 : m < 64
          · have m1 : (m : Int) < 64 := by omega
            have m0 : (0 : Int) ≤ m := by omega
            have m2 : (63 : Int) - m = ((63 - m : Nat) : Int) := by omega
            have m3 : ((63 - m : Nat) : Int) < 64 := by omega
            have cb := HX8.out (63 - m) (by omega)
            rw [bit_zero] at cb
            go_wp2_with fail
            go_roundw
            case rel => exact ⟨m + 1, by omega, by go_num, trivial⟩
            case measure => simp [intOf]; omega
          · obtain rfl : m = 64 := by omega
            go_wp2_with (at_builtin; obtain ⟨v9, w9, hrun, hrs⟩ := HRS.out.lit0 (by omega); go_must (refine wpList_append_ran _ _ rfl _ _ 56 rfl _ _ _ rfl rfl hrun ?_); clear HRS; have HRS := Lib.hid hrs; clear hrs hrun)
            go_roundw
            case rel => exact ⟨k + 1, by omega, by go_num, by rw [RSX.out]; exact HRS.out.1, by rw [RSX.out]; exact HIS.out, HRS.out.2.2.2.2.2⟩
            case measure => simp [intOf]; omega
      · have hxt := bit_top hx0 hxl
        have hxe := bit_end hx0 hxl
        have hwin := fun t e => xwin (x := x) (t := t) (e := e) hx0 hxl
        have htop : xtop x = min (xlz x) 31 := rfl
        have hel := (xend_spec hx0 hxl).choose_spec.2
        have RSX := Lib.hid RSX.out
        unfold xstep at RSX
        rw [if_neg hx0] at RSX
        generalize xlz x = z at *
        generalize xtop x = T at *
        generalize xend x = E at *
        have z1 : ((z : Int) == 64) = false := by rw [beq_eq_false_iff_ne]; omega
        have z2 : ¬ (z : Int) = 64 := by omega
        have HXT := Lib.hid hxt
        have HXE := Lib.hid hxe
        have HWIN := Lib.hid hwin
        have HTOP := Lib.hid htop
        clear hxt hxe hwin htop
        go_wp2_with fail
        go_loopw [9] (fun a wr => ∃ m : Nat, m ≤ z ∧ a = .int .i64 m ∧ wr = w3) (fun a _ => 64 - (intOf a).toNat)
        case atStart => exact ⟨0, by omega, rfl, rfl⟩
        case round =>
          obtain ⟨m, hm, rfl, hw⟩ := hrel
          obtain rfl : w3 = wr := hw.symm
          have m1 : (m : Int) < 64 := by have := HXT.out.1; omega
          have m0 : (0 : Int) ≤ m := by omega
          have m2 : (63 : Int) - m = ((63 - m : Nat) : Int) := by have := HXT.out.1; omega
          have m3 : ((63 - m : Nat) : Int) < 64 := by omega
          have cb := HX8.out (63 - m) (by omega)
          by_cases hmz : m < z
          · rw [HXT.out.2.2 m hmz] at cb
            go_wp2_with fail
            go_roundw
            case rel => exact ⟨m + 1, by omega, by go_num, trivial⟩
            case measure => simp [intOf]; omega
          · obtain rfl : m = z := by omega
            rw [HXT.out.2.1] at cb
            go_wp2_with fail
            go_loopw [10] (fun a wr => ∃ q : Nat, q ≤ E ∧ a = .int .i64 q ∧ wr = w3) (fun a _ => 64 - (intOf a).toNat)
            case atStart => exact ⟨0, by omega, rfl, rfl⟩
            case round =>
              obtain ⟨q, hq, rfl, hw⟩ := hrel
              obtain rfl : w3 = wr := hw.symm
              have q1 : (q : Int) < 64 := by omega
              have q0 : (0 : Int) ≤ q := by omega
              have cq := HX8.out q (by omega)
              by_cases hqE : q < E
              · rw [HXE.out.2 q hqE] at cq
                go_wp2_with fail
                go_roundw
                case rel => exact ⟨q + 1, by omega, by go_num, trivial⟩
                case measure => simp [intOf]; omega
              · obtain rfl : q = E := by omega
                rw [HXE.out.1] at cq
                have hz63 := HXT.out.1
                clear HXE HXT
                by_cases h31 : m ≤ 31
                · obtain rfl : m = T := by have := HTOP.out; omega
                  have h31i : ¬ (31 : Int) < m := by omega
                  clear HTOP
                  rcases HIS.out with hisx | hisx
                  · skip
                    obtain ⟨rfl, ht64, he0, rfl, rfl⟩ := hisx
                    have hnot : ¬ (s.t ≤ m ∧ s.e ≤ q) := by rw [ht64]; omega
                    have hwn := HWIN.out m q (by omega) (Nat.le_refl _)
                    have e63 : (63 : Int) - m = ((63 - m : Nat) : Int) := by omega
                    have e63q : ((63 - m : Nat) : Int) - q = ((63 - m - q : Nat) : Int) := by omega
                    have w5 : (m : Int) % 18446744073709551616 = m := by omega
                    have w5b : IntKind.u64.wrap (m : Int) = m := by rw [u64w]; omega
                    have w6 : ((63 - m - q : Nat) : Int) % 18446744073709551616 = ((63 - m - q : Nat) : Int) := by omega
                    have w6b : IntKind.u64.wrap ((63 - m - q : Nat) : Int) = ((63 - m - q : Nat) : Int) := by rw [u64w]; omega
                    have e64 : (64 : Int) - m = ((64 - m : Nat) : Int) := by omega
                    have l1 : (q : Int) ≤ ((64 - m : Nat) : Int) := by omega
                    have l2 : ((64 - m : Nat) : Int) ≤ c8 := by omega
                    have B4 := Lib.hid (fun W => rbits_lit m 5 5 (by omega) (by decide) rfl W)
                    have B5 := Lib.hid (fun W => rbits_lit (63 - m - q) 6 6 (by omega) (by decide) rfl W)
                    have l3 : ¬ c8 = q := by omega
                    have l0 : (0 : Int) ≤ q := by omega
                    have G1 := Lib.hid True.intro
                    have G2 := Lib.hid True.intro
                    have G3 := Lib.hid True.intro
                    go_wp2_with (first
                      | (at_builtin; refine wpList_append_ran _ _ rfl _ _ 56 rfl _ _ _ rfl rfl HRUN.out ?_; clear HRUN)
                      | (at_builtin; clear G1; obtain ⟨v9, w9, hrun, hrs⟩ := HRS.out.lit1 (by omega); refine wpList_append_ran _ _ rfl _ _ 56 rfl _ _ _ rfl rfl hrun ?_; clear HRS; have HRS := Lib.hid hrs; clear hrs hrun)
                      | (at_builtin; clear G2; obtain ⟨v9, w9, hrun, hrs⟩ := HRS.out.lit1 (by omega); refine wpList_append_ran _ _ rfl _ _ 56 rfl _ _ _ rfl rfl hrun ?_; clear HRS; have HRS := Lib.hid hrs; clear hrs hrun)
                      | (go_at_call 26; refine (B4.out _).mono ?_; clear B4; rintro e w5 ⟨xv, rfl, ho5, hb5⟩; obtain ⟨a5, c5, rfl, hr5, _⟩ := own_reads ho5; obtain ⟨v9, w9, hrun, hrs⟩ := HRS.out.app (cp := c5) (u := m) (k := 5) (hr5.congr fun i hi => by simp [bitsV, rowV, hi]) hb5 (by omega) (by omega); have HRUN := Lib.hid hrun; clear HRS; have HRS := Lib.hid hrs; clear hrun hrs ho5 hr5 hb5)
                      | (go_at_call 26; refine (B5.out _).mono ?_; clear B5; rintro e w5 ⟨xv, rfl, ho5, hb5⟩; obtain ⟨a5, c5, rfl, hr5, _⟩ := own_reads ho5; obtain ⟨v9, w9, hrun, hrs⟩ := HRS.out.app (cp := c5) (u := 63 - m - q) (k := 6) (hr5.congr fun i hi => by simp [bitsV, rowV, hi]) hb5 (by omega) (by omega); have HRUN := Lib.hid hrun; clear HRS; have HRS := Lib.hid hrs; clear hrun hrs ho5 hr5 hb5)
                      | (at_builtin; clear G3; obtain ⟨v9, w9, hrun, hrs⟩ := HRS.out.app (cp := c8 - q) (HRS.out.tail q (64 - m - q) (by omega)) (Below.refl _ _) (by omega) hwn.2.1; refine wpList_append_ran _ _ rfl _ _ 56 rfl _ _ _ rfl rfl hrun ?_; clear HRS; have HRS := Lib.hid hrs; clear hrs hrun))
                    go_roundw
                    case rel => exact ⟨k + 1, by omega, by go_num, by rw [RSX.out, if_neg hnot]; exact HRS.out.1, by rw [RSX.out, if_neg hnot]; exact .inr ⟨rfl, by show m ≤ 31; omega, rfl, rfl⟩, HRS.out.2.2.2.2.2⟩
                    case measure => simp [intOf]; omega
                  · by_cases g1 : s.t ≤ m
                    · by_cases g2 : s.e ≤ q
                      · skip
                        obtain ⟨rfl, ht31, rfl, rfl⟩ := hisx
                        have f1 : (s.t : Int) ≤ m := by omega
                        have f2 : (s.e : Int) ≤ q := by omega
                        have hwn := HWIN.out s.t s.e (by omega) (by omega)
                        have e64 : (64 : Int) - s.t = ((64 - s.t : Nat) : Int) := by omega
                        have l1 : (s.e : Int) ≤ ((64 - s.t : Nat) : Int) := by omega
                        have l2 : ((64 - s.t : Nat) : Int) ≤ c8 := by omega
                        have l3 : ¬ c8 = s.e := by omega
                        have l0 : (0 : Int) ≤ s.e := by omega
                        have G1 := Lib.hid True.intro
                        have G2 := Lib.hid True.intro
                        have G3 := Lib.hid True.intro
                        go_wp2_with (first
                          | (at_builtin; clear G1; obtain ⟨v9, w9, hrun, hrs⟩ := HRS.out.lit1 (by omega); refine wpList_append_ran _ _ rfl _ _ 56 rfl _ _ _ rfl rfl hrun ?_; clear HRS; have HRS := Lib.hid hrs; clear hrs hrun)
                          | (at_builtin; clear G2; obtain ⟨v9, w9, hrun, hrs⟩ := HRS.out.lit0 (by omega); refine wpList_append_ran _ _ rfl _ _ 56 rfl _ _ _ rfl rfl hrun ?_; clear HRS; have HRS := Lib.hid hrs; clear hrs hrun)
                          | (at_builtin; clear G3; obtain ⟨v9, w9, hrun, hrs⟩ := HRS.out.app (cp := c8 - s.e) (HRS.out.tail s.e (64 - s.t - s.e) (by omega)) (Below.refl _ _) (by omega) hwn.2.1; refine wpList_append_ran _ _ rfl _ _ 56 rfl _ _ _ rfl rfl hrun ?_; clear HRS; have HRS := Lib.hid hrs; clear hrs hrun))
                        go_roundw
                        case rel => exact ⟨k + 1, by omega, by go_num, by rw [RSX.out, if_pos ⟨by omega, by omega⟩]; exact HRS.out.1, by rw [RSX.out, if_pos ⟨by omega, by omega⟩]; exact .inr ⟨rfl, ht31, rfl, rfl⟩, HRS.out.2.2.2.2.2⟩
                        case measure => simp [intOf]; omega
                      · skip
                        obtain ⟨rfl, ht31, rfl, rfl⟩ := hisx
                        have f1 : (s.t : Int) ≤ m := by omega
                        have f2 : ¬ (s.e : Int) ≤ q := by omega
                        have hnot : ¬ (s.t ≤ m ∧ s.e ≤ q) := by omega
                        have hwn := HWIN.out m q (by omega) (Nat.le_refl _)
                        have e63 : (63 : Int) - m = ((63 - m : Nat) : Int) := by omega
                        have e63q : ((63 - m : Nat) : Int) - q = ((63 - m - q : Nat) : Int) := by omega
                        have w5 : (m : Int) % 18446744073709551616 = m := by omega
                        have w5b : IntKind.u64.wrap (m : Int) = m := by rw [u64w]; omega
                        have w6 : ((63 - m - q : Nat) : Int) % 18446744073709551616 = ((63 - m - q : Nat) : Int) := by omega
                        have w6b : IntKind.u64.wrap ((63 - m - q : Nat) : Int) = ((63 - m - q : Nat) : Int) := by rw [u64w]; omega
                        have e64 : (64 : Int) - m = ((64 - m : Nat) : Int) := by omega
                        have l1 : (q : Int) ≤ ((64 - m : Nat) : Int) := by omega
                        have l2 : ((64 - m : Nat) : Int) ≤ c8 := by omega
                        have B4 := Lib.hid (fun W => rbits_lit m 5 5 (by omega) (by decide) rfl W)
                        have B5 := Lib.hid (fun W => rbits_lit (63 - m - q) 6 6 (by omega) (by decide) rfl W)
                        have l3 : ¬ c8 = q := by omega
                        have l0 : (0 : Int) ≤ q := by omega
                        have G1 := Lib.hid True.intro
                        have G2 := Lib.hid True.intro
                        have G3 := Lib.hid True.intro
                        go_wp2_with (first
                          | (at_builtin; refine wpList_append_ran _ _ rfl _ _ 56 rfl _ _ _ rfl rfl HRUN.out ?_; clear HRUN)
                          | (at_builtin; clear G1; obtain ⟨v9, w9, hrun, hrs⟩ := HRS.out.lit1 (by omega); refine wpList_append_ran _ _ rfl _ _ 56 rfl _ _ _ rfl rfl hrun ?_; clear HRS; have HRS := Lib.hid hrs; clear hrs hrun)
                          | (at_builtin; clear G2; obtain ⟨v9, w9, hrun, hrs⟩ := HRS.out.lit1 (by omega); refine wpList_append_ran _ _ rfl _ _ 56 rfl _ _ _ rfl rfl hrun ?_; clear HRS; have HRS := Lib.hid hrs; clear hrs hrun)
                          | (go_at_call 26; refine (B4.out _).mono ?_; clear B4; rintro e w5 ⟨xv, rfl, ho5, hb5⟩; obtain ⟨a5, c5, rfl, hr5, _⟩ := own_reads ho5; obtain ⟨v9, w9, hrun, hrs⟩ := HRS.out.app (cp := c5) (u := m) (k := 5) (hr5.congr fun i hi => by simp [bitsV, rowV, hi]) hb5 (by omega) (by omega); have HRUN := Lib.hid hrun; clear HRS; have HRS := Lib.hid hrs; clear hrun hrs ho5 hr5 hb5)
                          | (go_at_call 26; refine (B5.out _).mono ?_; clear B5; rintro e w5 ⟨xv, rfl, ho5, hb5⟩; obtain ⟨a5, c5, rfl, hr5, _⟩ := own_reads ho5; obtain ⟨v9, w9, hrun, hrs⟩ := HRS.out.app (cp := c5) (u := 63 - m - q) (k := 6) (hr5.congr fun i hi => by simp [bitsV, rowV, hi]) hb5 (by omega) (by omega); have HRUN := Lib.hid hrun; clear HRS; have HRS := Lib.hid hrs; clear hrun hrs ho5 hr5 hb5)
                          | (at_builtin; clear G3; obtain ⟨v9, w9, hrun, hrs⟩ := HRS.out.app (cp := c8 - q) (HRS.out.tail q (64 - m - q) (by omega)) (Below.refl _ _) (by omega) hwn.2.1; refine wpList_append_ran _ _ rfl _ _ 56 rfl _ _ _ rfl rfl hrun ?_; clear HRS; have HRS := Lib.hid hrs; clear hrs hrun))
                        go_roundw
                        case rel => exact ⟨k + 1, by omega, by go_num, by rw [RSX.out, if_neg hnot]; exact HRS.out.1, by rw [RSX.out, if_neg hnot]; exact .inr ⟨rfl, by show m ≤ 31; omega, rfl, rfl⟩, HRS.out.2.2.2.2.2⟩
                        case measure => simp [intOf]; omega
                    · skip
                      obtain ⟨rfl, ht31, rfl, rfl⟩ := hisx
                      have f1 : ¬ (s.t : Int) ≤ m := by omega
                      have hnot : ¬ (s.t ≤ m ∧ s.e ≤ q) := by omega
                      have hwn := HWIN.out m q (by omega) (Nat.le_refl _)
                      have e63 : (63 : Int) - m = ((63 - m : Nat) : Int) := by omega
                      have e63q : ((63 - m : Nat) : Int) - q = ((63 - m - q : Nat) : Int) := by omega
                      have w5 : (m : Int) % 18446744073709551616 = m := by omega
                      have w5b : IntKind.u64.wrap (m : Int) = m := by rw [u64w]; omega
                      have w6 : ((63 - m - q : Nat) : Int) % 18446744073709551616 = ((63 - m - q : Nat) : Int) := by omega
                      have w6b : IntKind.u64.wrap ((63 - m - q : Nat) : Int) = ((63 - m - q : Nat) : Int) := by rw [u64w]; omega
                      have e64 : (64 : Int) - m = ((64 - m : Nat) : Int) := by omega
                      have l1 : (q : Int) ≤ ((64 - m : Nat) : Int) := by omega
                      have l2 : ((64 - m : Nat) : Int) ≤ c8 := by omega
                      have B4 := Lib.hid (fun W => rbits_lit m 5 5 (by omega) (by decide) rfl W)
                      have B5 := Lib.hid (fun W => rbits_lit (63 - m - q) 6 6 (by omega) (by decide) rfl W)
                      have l3 : ¬ c8 = q := by omega
                      have l0 : (0 : Int) ≤ q := by omega
                      have G1 := Lib.hid True.intro
                      have G2 := Lib.hid True.intro
                      have G3 := Lib.hid True.intro
                      go_wp2_with (first
                        | (at_builtin; refine wpList_append_ran _ _ rfl _ _ 56 rfl _ _ _ rfl rfl HRUN.out ?_; clear HRUN)
                        | (at_builtin; clear G1; obtain ⟨v9, w9, hrun, hrs⟩ := HRS.out.lit1 (by omega); refine wpList_append_ran _ _ rfl _ _ 56 rfl _ _ _ rfl rfl hrun ?_; clear HRS; have HRS := Lib.hid hrs; clear hrs hrun)
                        | (at_builtin; clear G2; obtain ⟨v9, w9, hrun, hrs⟩ := HRS.out.lit1 (by omega); refine wpList_append_ran _ _ rfl _ _ 56 rfl _ _ _ rfl rfl hrun ?_; clear HRS; have HRS := Lib.hid hrs; clear hrs hrun)
                        | (go_at_call 26; refine (B4.out _).mono ?_; clear B4; rintro e w5 ⟨xv, rfl, ho5, hb5⟩; obtain ⟨a5, c5, rfl, hr5, _⟩ := own_reads ho5; obtain ⟨v9, w9, hrun, hrs⟩ := HRS.out.app (cp := c5) (u := m) (k := 5) (hr5.congr fun i hi => by simp [bitsV, rowV, hi]) hb5 (by omega) (by omega); have HRUN := Lib.hid hrun; clear HRS; have HRS := Lib.hid hrs; clear hrun hrs ho5 hr5 hb5)
                        | (go_at_call 26; refine (B5.out _).mono ?_; clear B5; rintro e w5 ⟨xv, rfl, ho5, hb5⟩; obtain ⟨a5, c5, rfl, hr5, _⟩ := own_reads ho5; obtain ⟨v9, w9, hrun, hrs⟩ := HRS.out.app (cp := c5) (u := 63 - m - q) (k := 6) (hr5.congr fun i hi => by simp [bitsV, rowV, hi]) hb5 (by omega) (by omega); have HRUN := Lib.hid hrun; clear HRS; have HRS := Lib.hid hrs; clear hrun hrs ho5 hr5 hb5)
                        | (at_builtin; clear G3; obtain ⟨v9, w9, hrun, hrs⟩ := HRS.out.app (cp := c8 - q) (HRS.out.tail q (64 - m - q) (by omega)) (Below.refl _ _) (by omega) hwn.2.1; refine wpList_append_ran _ _ rfl _ _ 56 rfl _ _ _ rfl rfl hrun ?_; clear HRS; have HRS := Lib.hid hrs; clear hrs hrun))
                      go_roundw
                      case rel => exact ⟨k + 1, by omega, by go_num, by rw [RSX.out, if_neg hnot]; exact HRS.out.1, by rw [RSX.out, if_neg hnot]; exact .inr ⟨rfl, by show m ≤ 31; omega, rfl, rfl⟩, HRS.out.2.2.2.2.2⟩
                      case measure => simp [intOf]; omega
                · obtain rfl : T = 31 := by have := HTOP.out; omega
                  have h31i : (31 : Int) < m := by omega
                  clear HTOP
                  rcases HIS.out with hisx | hisx
                  · skip
                    obtain ⟨rfl, ht64, he0, rfl, rfl⟩ := hisx
                    have hnot : ¬ (s.t ≤ 31 ∧ s.e ≤ q) := by rw [ht64]; omega
                    have hwn := HWIN.out 31 q (by omega) (Nat.le_refl _)
                    have e63q : (32 : Int) - q = ((32 - q : Nat) : Int) := by omega
                    have w6 : ((32 - q : Nat) : Int) % 18446744073709551616 = ((32 - q : Nat) : Int) := by omega
                    have w6b : IntKind.u64.wrap ((32 - q : Nat) : Int) = ((32 - q : Nat) : Int) := by rw [u64w]; omega
                    have l1 : (q : Int) ≤ 33 := by omega
                    have l2 : (33 : Int) ≤ c8 := by omega
                    have B4 := Lib.hid (fun W => rbits_lit2 31 5 31 5 (by omega) (by decide) rfl rfl W)
                    have B5 := Lib.hid (fun W => rbits_lit (32 - q) 6 6 (by omega) (by decide) rfl W)
                    have l3 : ¬ c8 = q := by omega
                    have l0 : (0 : Int) ≤ q := by omega
                    have G1 := Lib.hid True.intro
                    have G2 := Lib.hid True.intro
                    have G3 := Lib.hid True.intro
                    go_wp2_with (first
                      | (at_builtin; refine wpList_append_ran _ _ rfl _ _ 56 rfl _ _ _ rfl rfl HRUN.out ?_; clear HRUN)
                      | (at_builtin; clear G1; obtain ⟨v9, w9, hrun, hrs⟩ := HRS.out.lit1 (by omega); refine wpList_append_ran _ _ rfl _ _ 56 rfl _ _ _ rfl rfl hrun ?_; clear HRS; have HRS := Lib.hid hrs; clear hrs hrun)
                      | (at_builtin; clear G2; obtain ⟨v9, w9, hrun, hrs⟩ := HRS.out.lit1 (by omega); refine wpList_append_ran _ _ rfl _ _ 56 rfl _ _ _ rfl rfl hrun ?_; clear HRS; have HRS := Lib.hid hrs; clear hrs hrun)
                      | (go_at_call 26; refine (B4.out _).mono ?_; clear B4; rintro e w5 ⟨xv, rfl, ho5, hb5⟩; obtain ⟨a5, c5, rfl, hr5, _⟩ := own_reads ho5; obtain ⟨v9, w9, hrun, hrs⟩ := HRS.out.app (cp := c5) (u := 31) (k := 5) (hr5.congr fun i hi => by simp [bitsV, rowV, hi]) hb5 (by omega) (by omega); have HRUN := Lib.hid hrun; clear HRS; have HRS := Lib.hid hrs; clear hrun hrs ho5 hr5 hb5)
                      | (go_at_call 26; refine (B5.out _).mono ?_; clear B5; rintro e w5 ⟨xv, rfl, ho5, hb5⟩; obtain ⟨a5, c5, rfl, hr5, _⟩ := own_reads ho5; obtain ⟨v9, w9, hrun, hrs⟩ := HRS.out.app (cp := c5) (u := 32 - q) (k := 6) (hr5.congr fun i hi => by simp [bitsV, rowV, hi]) hb5 (by omega) (by omega); have HRUN := Lib.hid hrun; clear HRS; have HRS := Lib.hid hrs; clear hrun hrs ho5 hr5 hb5)
                      | (at_builtin; clear G3; obtain ⟨v9, w9, hrun, hrs⟩ := HRS.out.app (cp := c8 - q) (HRS.out.tail q (64 - 31 - q) (by omega)) (Below.refl _ _) (by omega) hwn.2.1; refine wpList_append_ran _ _ rfl _ _ 56 rfl _ _ _ rfl rfl hrun ?_; clear HRS; have HRS := Lib.hid hrs; clear hrs hrun))
                    go_roundw
                    case rel => exact ⟨k + 1, by omega, by go_num, by rw [RSX.out, if_neg hnot]; exact HRS.out.1, by rw [RSX.out, if_neg hnot]; exact .inr ⟨rfl, by show 31 ≤ 31; omega, rfl, rfl⟩, HRS.out.2.2.2.2.2⟩
                    case measure => simp [intOf]; omega
                  · by_cases g1 : s.t ≤ 31
                    · by_cases g2 : s.e ≤ q
                      · skip
                        obtain ⟨rfl, ht31, rfl, rfl⟩ := hisx
                        have f1 : (s.t : Int) ≤ 31 := by omega
                        have f2 : (s.e : Int) ≤ q := by omega
                        have hwn := HWIN.out s.t s.e (by omega) (by omega)
                        have e64 : (64 : Int) - s.t = ((64 - s.t : Nat) : Int) := by omega
                        have l1 : (s.e : Int) ≤ ((64 - s.t : Nat) : Int) := by omega
                        have l2 : ((64 - s.t : Nat) : Int) ≤ c8 := by omega
                        have l3 : ¬ c8 = s.e := by omega
                        have l0 : (0 : Int) ≤ s.e := by omega
                        have G1 := Lib.hid True.intro
                        have G2 := Lib.hid True.intro
                        have G3 := Lib.hid True.intro
                        go_wp2_with (first
                          | (at_builtin; clear G1; obtain ⟨v9, w9, hrun, hrs⟩ := HRS.out.lit1 (by omega); refine wpList_append_ran _ _ rfl _ _ 56 rfl _ _ _ rfl rfl hrun ?_; clear HRS; have HRS := Lib.hid hrs; clear hrs hrun)
                          | (at_builtin; clear G2; obtain ⟨v9, w9, hrun, hrs⟩ := HRS.out.lit0 (by omega); refine wpList_append_ran _ _ rfl _ _ 56 rfl _ _ _ rfl rfl hrun ?_; clear HRS; have HRS := Lib.hid hrs; clear hrs hrun)
                          | (at_builtin; clear G3; obtain ⟨v9, w9, hrun, hrs⟩ := HRS.out.app (cp := c8 - s.e) (HRS.out.tail s.e (64 - s.t - s.e) (by omega)) (Below.refl _ _) (by omega) hwn.2.1; refine wpList_append_ran _ _ rfl _ _ 56 rfl _ _ _ rfl rfl hrun ?_; clear HRS; have HRS := Lib.hid hrs; clear hrs hrun))
                        go_roundw
                        case rel => exact ⟨k + 1, by omega, by go_num, by rw [RSX.out, if_pos ⟨by omega, by omega⟩]; exact HRS.out.1, by rw [RSX.out, if_pos ⟨by omega, by omega⟩]; exact .inr ⟨rfl, ht31, rfl, rfl⟩, HRS.out.2.2.2.2.2⟩
                        case measure => simp [intOf]; omega
                      · skip
                        obtain ⟨rfl, ht31, rfl, rfl⟩ := hisx
                        have f1 : (s.t : Int) ≤ 31 := by omega
                        have f2 : ¬ (s.e : Int) ≤ q := by omega
                        have hnot : ¬ (s.t ≤ 31 ∧ s.e ≤ q) := by omega
                        have hwn := HWIN.out 31 q (by omega) (Nat.le_refl _)
                        have e63q : (32 : Int) - q = ((32 - q : Nat) : Int) := by omega
                        have w6 : ((32 - q : Nat) : Int) % 18446744073709551616 = ((32 - q : Nat) : Int) := by omega
                        have w6b : IntKind.u64.wrap ((32 - q : Nat) : Int) = ((32 - q : Nat) : Int) := by rw [u64w]; omega
                        have l1 : (q : Int) ≤ 33 := by omega
                        have l2 : (33 : Int) ≤ c8 := by omega
                        have B4 := Lib.hid (fun W => rbits_lit2 31 5 31 5 (by omega) (by decide) rfl rfl W)
                        have B5 := Lib.hid (fun W => rbits_lit (32 - q) 6 6 (by omega) (by decide) rfl W)
                        have l3 : ¬ c8 = q := by omega
                        have l0 : (0 : Int) ≤ q := by omega
                        have G1 := Lib.hid True.intro
                        have G2 := Lib.hid True.intro
                        have G3 := Lib.hid True.intro
                        go_wp2_with (first
                          | (at_builtin; refine wpList_append_ran _ _ rfl _ _ 56 rfl _ _ _ rfl rfl HRUN.out ?_; clear HRUN)
                          | (at_builtin; clear G1; obtain ⟨v9, w9, hrun, hrs⟩ := HRS.out.lit1 (by omega); refine wpList_append_ran _ _ rfl _ _ 56 rfl _ _ _ rfl rfl hrun ?_; clear HRS; have HRS := Lib.hid hrs; clear hrs hrun)
                          | (at_builtin; clear G2; obtain ⟨v9, w9, hrun, hrs⟩ := HRS.out.lit1 (by omega); refine wpList_append_ran _ _ rfl _ _ 56 rfl _ _ _ rfl rfl hrun ?_; clear HRS; have HRS := Lib.hid hrs; clear hrs hrun)
                          | (go_at_call 26; refine (B4.out _).mono ?_; clear B4; rintro e w5 ⟨xv, rfl, ho5, hb5⟩; obtain ⟨a5, c5, rfl, hr5, _⟩ := own_reads ho5; obtain ⟨v9, w9, hrun, hrs⟩ := HRS.out.app (cp := c5) (u := 31) (k := 5) (hr5.congr fun i hi => by simp [bitsV, rowV, hi]) hb5 (by omega) (by omega); have HRUN := Lib.hid hrun; clear HRS; have HRS := Lib.hid hrs; clear hrun hrs ho5 hr5 hb5)
                          | (go_at_call 26; refine (B5.out _).mono ?_; clear B5; rintro e w5 ⟨xv, rfl, ho5, hb5⟩; obtain ⟨a5, c5, rfl, hr5, _⟩ := own_reads ho5; obtain ⟨v9, w9, hrun, hrs⟩ := HRS.out.app (cp := c5) (u := 32 - q) (k := 6) (hr5.congr fun i hi => by simp [bitsV, rowV, hi]) hb5 (by omega) (by omega); have HRUN := Lib.hid hrun; clear HRS; have HRS := Lib.hid hrs; clear hrun hrs ho5 hr5 hb5)
                          | (at_builtin; clear G3; obtain ⟨v9, w9, hrun, hrs⟩ := HRS.out.app (cp := c8 - q) (HRS.out.tail q (64 - 31 - q) (by omega)) (Below.refl _ _) (by omega) hwn.2.1; refine wpList_append_ran _ _ rfl _ _ 56 rfl _ _ _ rfl rfl hrun ?_; clear HRS; have HRS := Lib.hid hrs; clear hrs hrun))
                        go_roundw
                        case rel => exact ⟨k + 1, by omega, by go_num, by rw [RSX.out, if_neg hnot]; exact HRS.out.1, by rw [RSX.out, if_neg hnot]; exact .inr ⟨rfl, by show 31 ≤ 31; omega, rfl, rfl⟩, HRS.out.2.2.2.2.2⟩
                        case measure => simp [intOf]; omega
                    · exact absurd hisx.2.1 g1
    · obtain rfl : k = n - 1 := by omega
      have k1 : ¬ ((n - 1 : Nat) : Int) + 1 < n := by omega
      obtain ⟨a5, c5, rfl, hr5, hc5, _⟩ := own_reads HO.out
      have RY := Lib.hid (rbytes_any a5 (xrun l (n - 1)).c c5 (xrun l (n - 1)).N hlt (by omega) wr (hr5.congr fun i hi => by simp [bitsV, rowV, hi]))
      clear hlt hok HIS hr5 HO
      obtain ⟨s, hsx⟩ : ∃ s, xrun l (n - 1) = s := ⟨_, rfl⟩
      have HX := Lib.hid hsx
      rw [hsx] at RY ⊢
      clear hsx
      go_wp2_with (go_at_call 27; refine RY.out.mono ?_; rintro e w8 ⟨v8, rfl, ho8, hb8⟩; have HO8 := Lib.hid ho8; have HB8 := Lib.hid hb8; clear ho8 hb8)
      go_ret
      refine ⟨v8, rfl, ?_⟩
      rw [HX.out]
      exact ⟨owns_base HO8.out (fun i e => by have := (HO8.out.lt i e).1; have := HB.out.size; omega), HB.out.trans (HB8.out.mono HB.out.size)⟩
end Go.Proofs.YtejiboinkapkcaaDoor
