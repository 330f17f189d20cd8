/-
  TEXTS OF THIS PROOF, one behind the other: XWidA XWidB.
-/
import Derived.Test.YthonjffojaljdaaHybM1
import Derived.Test.YthonjffojaljdaaWords
import Derived.WalkKit
import Derived.WalkLawsBesides
import Derived.WalkSpells
import Derived.ProofKit
import Derived.LoopTactic
import Derived.IntWalk
import Derived.Deep.DeepMust
import Derived.Deep.RegionHeld3
import Derived.Outline
import Derived.Lib.Hide
/-
  CONTRACTS OF width.Offsets, Back, Deltas, Sums, Least and the document's own, in any world, for any numbers: rows of their own; nothing that lay is turned. Conditions: at most 1000 numbers, which lie in memory as told.
-/
namespace Go.Proofs.Ythonjffojaljdaa
open Go.RowKit
theorem i64Info : (Try.prog.info? 2).map (fun i => (i.zero, i.size, i.bytes)) = some (some (.int .i64 0), 1, 8) := by kernel_rfl
set_option linter.unusedVariables false
theorem wrap64_eq (n : Int) : IntKind.i64.wrap n = wrap64 n := by
  simp [IntKind.wrap, IntKind.bits, IntKind.signed, wrap64]
  split <;> omega
/-- A number's offset from another one. -/
def offs (v f : Int) : Int := IntKind.u64.wrap (wrap64 (v - f))
/-- The number of an offset. -/
def bk (v f : Int) : Int := wrap64 (f + wrap64 v)
/-- A delta. -/
def dl (v p : Int) : Int := wrap64 (v - p)
theorem offs_ref (v f : Int) : IntKind.u64.wrap (IntKind.u64.wrap v - IntKind.u64.wrap f) = offs v f := by
  unfold offs; simp only [u64w, wrap64]; omega
theorem bk_ref (v f : Int) : wrap64 (IntKind.u64.wrap (v + IntKind.u64.wrap f)) = bk v f := by
  unfold bk; simp only [u64w, wrap64]; omega
theorem dl_ref (v p : Int) : wrap64 (IntKind.u64.wrap (IntKind.u64.wrap v - IntKind.u64.wrap p)) = dl v p := by
  unfold dl; simp only [u64w, wrap64]; omega
theorem offs1 (bx : Nat) (v f : Int) (w : World) (h : w.cell? ⟨bx, 0, none⟩ = some (.int .i64 f)) :
    Calls Try.prog 132 #[.int .i64 v, .pointer (some ⟨bx, 0, none⟩)] w fun e w' => e = .returned (.int .u64 (offs v f)) ∧ w = w' := by
  go_enter Try.func132, Try.ntmps132
  go_wp2
  go_ret
  exact ⟨rfl, rfl⟩
theorem back1 (bx : Nat) (v f : Int) (w : World) (h : w.cell? ⟨bx, 0, none⟩ = some (.int .i64 f)) :
    Calls Try.prog 171 #[.int .u64 v, .pointer (some ⟨bx, 0, none⟩)] w fun e w' => e = .returned (.int .i64 (bk v f)) ∧ w = w' := by
  go_enter Try.func171, Try.ntmps171
  go_wp2
  go_ret
  exact ⟨rfl, rfl⟩
theorem delta1 (bx : Nat) (v p : Int) (w : World) (h : Lies w bx 2 #[.int .i64 p]) :
    Calls Try.prog 102 #[.int .i64 v, .pointer (some ⟨bx, 0, none⟩)] w fun e w' => e = .returned (.int .i64 (dl v p)) ∧ Lies w' bx 2 #[.int .i64 v] ∧ Turned (· = bx) w w' := by
  have c0 := h.cell 0
  have c1 := h.frozen 0
  have H := Lib.hid h
  clear h
  go_enter Try.func102, Try.ntmps102
  go_wp2
  go_ret
  exact ⟨rfl, H.out.set_ 0 _, (Turned.refl (· = bx) _).setCell (p := ⟨bx, 0, none⟩) (.inl rfl) _⟩
set_option maxRecDepth 100000 in
set_option maxHeartbeats 1000000 in
theorem each_offs (a : Option Addr) (n cap bx : Nat) (x : Nat → Int) (f : Int) (hn : n ≤ 1100) (w : World) (h : RowOf w a n (fun i => .int .i64 (x i))) (hb : w.cell? ⟨bx, 0, none⟩ = some (.int .i64 f)) (hbx : bx < w.heap.size) :
    Calls Try.prog 131 #[.slice a n cap, .func (.func 132) #[] #[.pointer (some ⟨bx, 0, none⟩)]] w fun e w' => ∃ v, e = .returned v ∧ w'.ownsRow w.heap.size 40 1 v n (rowV (fun i => .int .u64 (offs (x i) f)) n) ∧ Below w.heap.size w w' := by
  obtain ⟨i0, hi, hz0, hz1, hz2⟩ := info_parts u64Info
  have H := Lib.hid h
  have HB := Lib.hid hb
  clear h hb
  go_enter Try.func131, Try.ntmps131
  go_wp2_with (at_make; go_must (refine wpList_make_own _ rfl _ _ 58 rfl w.heap.size 40 i0 (.int .u64 0) 1 Try.underlying58 hi hz0 hz1 _ _ _ n rfl rfl rfl (by rw [hz2]; omega) (by unfold maxLen; omega) (Nat.le_refl _) ?_); intro w1 hown hg; have HO := Lib.hid hown; have HG := Lib.hid hg; clear hown hg)
  go_loopw [5, 13] (fun v i wr => ∃ k : Nat, k ≤ n ∧ i = .int .i64 k ∧ wr.ownsRow w.heap.size 40 1 v k (rowV (fun i => .int .u64 (offs (x i) f)) k) ∧ Below w.heap.size w wr) (fun _ i _ => n - (intOf i).toNat)
  case atStart => exact ⟨0, by omega, rfl, HO.out, (Below.refl _ _).grown HG.out (Nat.le_refl _) (by simp)⟩
  case round =>
    obtain ⟨k, hk, rfl, ho, hb⟩ := hrel
    have hsz := hb.size
    by_cases hkn : k < n
    · have k1 : (k : Int) < n := by omega
      obtain ⟨b, off, rfl, hblt, hc⟩ := (H.out.below hb).at_ hkn
      have c0 := hc k hkn
      have O1 := Lib.hid (offs1 bx (x k) f wr ((hb.cell (p := ⟨bx, 0, none⟩) hbx).trans HB.out))
      have RS := Lib.hid (rowV_succ (fun i => Value.int .u64 (offs (x i) f)) k)
      have HOW := Lib.hid ho
      have HBW := Lib.hid hb
      clear ho hb hc
      generalize x k = y at *
      generalize offs y f = u at *
      go_wp2_with (first | (go_at_call 132; refine O1.out.mono ?_; rintro e w' ⟨rfl, rfl⟩) | (at_builtin; go_must (refine wpList_append_own_at _ rfl _ _ 58 rfl w.heap.size 40 i0 (.int .u64 0) 1 8 Try.underlying58 hi hz0 hz1 hz2 rfl (by decide) _ _ _ rfl (HOW.out.alloc _) ⟨wr.heap.size, 0, none⟩ 1 1 [.int .u64 u] rfl rfl (cell_one_new _ _ _) (by simp [Value.oneCell']) (by unfold maxLen; omega) (by omega) (by simp; omega) ?_); intro v2 w2 hown2 hgrow2 _ _; have HO2 := Lib.hid hown2; have HG2 := Lib.hid hgrow2; clear hown2 hgrow2))
      go_roundw
      case rel => exact ⟨k + 1, by omega, by go_num, by rw [RS.out]; exact HO2.out, (HBW.out.alloc hsz _).grown HG2.out (by simp; omega) (fun j hj => (HOW.out.lt j hj).1)⟩
      case measure => simp [intOf]; omega
    · obtain rfl : k = n := by omega
      have HOW := Lib.hid ho
      have HBW := Lib.hid hb
      clear ho hb
      go_wp2
      go_ret
      exact ⟨_, rfl, HOW.out, HBW.out⟩
set_option maxRecDepth 100000 in
set_option maxHeartbeats 1000000 in
theorem each_back (a : Option Addr) (n cap bx : Nat) (x : Nat → Int) (f : Int) (hn : n ≤ 1100) (w : World) (h : RowOf w a n (fun i => .int .u64 (x i))) (hb : w.cell? ⟨bx, 0, none⟩ = some (.int .i64 f)) (hbx : bx < w.heap.size) :
    Calls Try.prog 170 #[.slice a n cap, .func (.func 171) #[] #[.pointer (some ⟨bx, 0, none⟩)]] w fun e w' => ∃ v, e = .returned v ∧ w'.ownsRow w.heap.size 2 1 v n (rowV (fun i => .int .i64 (bk (x i) f)) n) ∧ Below w.heap.size w w' := by
  obtain ⟨i0, hi, hz0, hz1, hz2⟩ := info_parts i64Info
  have H := Lib.hid h
  have HB := Lib.hid hb
  clear h hb
  go_enter Try.func170, Try.ntmps170
  go_wp2_with (at_make; go_must (refine wpList_make_own _ rfl _ _ 22 rfl w.heap.size 2 i0 (.int .i64 0) 1 Try.underlying22 hi hz0 hz1 _ _ _ n rfl rfl rfl (by rw [hz2]; omega) (by unfold maxLen; omega) (Nat.le_refl _) ?_); intro w1 hown hg; have HO := Lib.hid hown; have HG := Lib.hid hg; clear hown hg)
  go_loopw [5, 13] (fun v i wr => ∃ k : Nat, k ≤ n ∧ i = .int .i64 k ∧ wr.ownsRow w.heap.size 2 1 v k (rowV (fun i => .int .i64 (bk (x i) f)) k) ∧ Below w.heap.size w wr) (fun _ i _ => n - (intOf i).toNat)
  case atStart => exact ⟨0, by omega, rfl, HO.out, (Below.refl _ _).grown HG.out (Nat.le_refl _) (by simp)⟩
  case round =>
    obtain ⟨k, hk, rfl, ho, hb⟩ := hrel
    have hsz := hb.size
    by_cases hkn : k < n
    · have k1 : (k : Int) < n := by omega
      obtain ⟨b, off, rfl, hblt, hc⟩ := (H.out.below hb).at_ hkn
      have c0 := hc k hkn
      have O1 := Lib.hid (back1 bx (x k) f wr ((hb.cell (p := ⟨bx, 0, none⟩) hbx).trans HB.out))
      have RS := Lib.hid (rowV_succ (fun i => Value.int .i64 (bk (x i) f)) k)
      have HOW := Lib.hid ho
      have HBW := Lib.hid hb
      clear ho hb hc
      generalize x k = y at *
      generalize bk y f = u at *
      go_wp2_with (first | (go_at_call 171; refine O1.out.mono ?_; rintro e w' ⟨rfl, rfl⟩) | (at_builtin; go_must (refine wpList_append_own_at _ rfl _ _ 22 rfl w.heap.size 2 i0 (.int .i64 0) 1 8 Try.underlying22 hi hz0 hz1 hz2 rfl (by decide) _ _ _ rfl (HOW.out.alloc _) ⟨wr.heap.size, 0, none⟩ 1 1 [.int .i64 u] rfl rfl (cell_one_new _ _ _) (by simp [Value.oneCell']) (by unfold maxLen; omega) (by omega) (by simp; omega) ?_); intro v2 w2 hown2 hgrow2 _ _; have HO2 := Lib.hid hown2; have HG2 := Lib.hid hgrow2; clear hown2 hgrow2))
      go_roundw
      case rel => exact ⟨k + 1, by omega, by go_num, by rw [RS.out]; exact HO2.out, (HBW.out.alloc hsz _).grown HG2.out (by simp; omega) (fun j hj => (HOW.out.lt j hj).1)⟩
      case measure => simp [intOf]; omega
    · obtain rfl : k = n := by omega
      have HOW := Lib.hid ho
      have HBW := Lib.hid hb
      clear ho hb
      go_wp2
      go_ret
      exact ⟨_, rfl, HOW.out, HBW.out⟩
theorem offsets_any (a : Option Addr) (n cap : Nat) (x : Nat → Int) (f : Int) (hn : n ≤ 1100) (w : World) (h : RowOf w a n (fun i => .int .i64 (x i))) :
    Calls Try.prog 104 #[.int .i64 f, .slice a n cap] w fun e w' => ∃ v, e = .returned v ∧ w'.ownsRow w.heap.size 40 1 v n (rowV (fun i => .int .u64 (offs (x i) f)) n) ∧ Below w.heap.size w w' := by
  have EO := Lib.hid (each_offs a n cap w.heap.size x f hn (w.alloc (.cells #[.int .i64 f] 2)) (h.below ((Below.refl _ _).alloc (Nat.le_refl _) _)) ((Lies.new w _ _).cell 0) (by simp))
  clear h
  go_enter Try.func104, Try.ntmps104
  go_wp2_with (go_at_call 131; refine EO.out.mono ?_; rintro e w1 ⟨v, rfl, ho, hb⟩; have HO := Lib.hid ho; have HB := Lib.hid hb; clear ho hb)
  go_ret
  exact ⟨v, rfl, owns_base HO.out (fun j hj => by have := (HO.out.lt j hj).1; simp at this; omega), ((Below.refl _ w).alloc (Nat.le_refl _) _).trans (HB.out.mono (by simp))⟩
theorem back_any (a : Option Addr) (n cap : Nat) (x : Nat → Int) (f : Int) (hn : n ≤ 1100) (w : World) (h : RowOf w a n (fun i => .int .u64 (x i))) :
    Calls Try.prog 167 #[.int .i64 f, .slice a n cap] w fun e w' => ∃ v, e = .returned v ∧ w'.ownsRow w.heap.size 2 1 v n (rowV (fun i => .int .i64 (bk (x i) f)) n) ∧ Below w.heap.size w w' := by
  have EO := Lib.hid (each_back a n cap w.heap.size x f hn (w.alloc (.cells #[.int .i64 f] 2)) (h.below ((Below.refl _ _).alloc (Nat.le_refl _) _)) ((Lies.new w _ _).cell 0) (by simp))
  clear h
  go_enter Try.func167, Try.ntmps167
  go_wp2_with (go_at_call 170; refine EO.out.mono ?_; rintro e w1 ⟨v, rfl, ho, hb⟩; have HO := Lib.hid ho; have HB := Lib.hid hb; clear ho hb)
  go_ret
  exact ⟨v, rfl, owns_base HO.out (fun j hj => by have := (HO.out.lt j hj).1; simp at this; omega), ((Below.refl _ w).alloc (Nat.le_refl _) _).trans (HB.out.mono (by simp))⟩
set_option maxRecDepth 100000 in
set_option maxHeartbeats 1000000 in
theorem each_deltas (a : Option Addr) (n cap bx : Nat) (x : Nat → Int) (p : Int) (hn : n ≤ 1100) (w : World) (h : RowOf w a n (fun i => .int .i64 (x i))) (hb : Lies w bx 2 #[.int .i64 p]) (hcl : ∀ q, a = some q → q.block ≠ bx) :
    Calls Try.prog 101 #[.slice a n cap, .func (.func 102) #[] #[.pointer (some ⟨bx, 0, none⟩)]] w fun e w' => ∃ v, e = .returned v ∧ w'.ownsRow w.heap.size 2 1 v n (rowV (fun i => .int .i64 (dl (x i) (if i = 0 then p else x (i - 1)))) n) ∧ Turned (· = bx) w w' := by
  obtain ⟨i0, hi, hz0, hz1, hz2⟩ := info_parts i64Info
  have H := Lib.hid h
  have HB := Lib.hid hb
  have HC := Lib.hid hcl
  have hbx := hb.lt
  clear h hb hcl
  go_enter Try.func101, Try.ntmps101
  go_wp2_with (at_make; go_must (refine wpList_make_own _ rfl _ _ 22 rfl w.heap.size 2 i0 (.int .i64 0) 1 Try.underlying22 hi hz0 hz1 _ _ _ n rfl rfl rfl (by rw [hz2]; omega) (by unfold maxLen; omega) (Nat.le_refl _) ?_); intro w1 hown hg; have HO := Lib.hid hown; have HG := Lib.hid hg; clear hown hg)
  have hT1 : Turned (· = bx) w w1 := (Turned.refl _ _).grown HG.out (fun i hi => by cases hi)
  have HL1 := Lib.hid ((HG.out.block bx hbx (by simp)).trans HB.out : Lies w1 bx 2 #[.int .i64 p])
  have HT1 := Lib.hid hT1
  clear hT1
  go_loopw [5, 13] (fun v i wr => ∃ k : Nat, k ≤ n ∧ i = .int .i64 k ∧ wr.ownsRow w.heap.size 2 1 v k (rowV (fun i => .int .i64 (dl (x i) (if i = 0 then p else x (i - 1)))) k) ∧ Lies wr bx 2 #[.int .i64 (if k = 0 then p else x (k - 1))] ∧ Turned (· = bx) w wr) (fun _ i _ => n - (intOf i).toNat)
  case atStart => exact ⟨0, by omega, rfl, HO.out, HL1.out, HT1.out⟩
  case round =>
    obtain ⟨k, hk, rfl, ho, hl, ht⟩ := hrel
    have hsz := ht.size
    by_cases hkn : k < n
    · have k1 : (k : Int) < n := by omega
      obtain ⟨b, off, rfl, hblt, hc⟩ := (H.out.turned ht (fun q hq e => HC.out q hq e)).at_ hkn
      have c0 := hc k hkn
      have D1 := Lib.hid (delta1 bx (x k) _ wr hl)
      have RS := Lib.hid (rowV_succ (fun i => Value.int .i64 (dl (x i) (if i = 0 then p else x (i - 1)))) k)
      have HOW := Lib.hid ho
      have HTW := Lib.hid ht
      clear ho ht hc hl
      have hgb : ∀ v' i, wr.ownsRow w.heap.size 2 1 v' k (rowV (fun i => .int .i64 (dl (x i) (if i = 0 then p else x (i - 1)))) k) → v'.ownBlock = some i → i ≠ bx := fun v' i ho hi e => by have := (ho.lt i hi).1; omega
      have HGB := Lib.hid hgb
      have HX := Lib.hid (show (if k + 1 = 0 then p else x (k + 1 - 1)) = x k by simp)
      clear hgb
      generalize hpv : (if k = 0 then p else x (k - 1)) = pv at *
      clear hpv
      obtain ⟨y, hy⟩ : ∃ y, x k = y := ⟨_, rfl⟩
      rw [hy] at c0 D1 RS HX
      clear hy
      generalize hu : dl y pv = u at *
      clear hu
      go_wp2_with (first | (go_at_call 102; refine D1.out.mono ?_; rintro e w2 ⟨rfl, hl2, ht2⟩; have HL2 := Lib.hid hl2; have HT2 := Lib.hid ht2; have HO2 := Lib.hid (owns_turned HOW.out ht2 (fun i hi => HGB.out _ i HOW.out hi)); have hsz2 := ht2.size; clear hl2 ht2) | (at_builtin; go_must (refine wpList_append_own_at _ rfl _ _ 22 rfl w.heap.size 2 i0 (.int .i64 0) 1 8 Try.underlying22 hi hz0 hz1 hz2 rfl (by decide) _ _ _ rfl (HO2.out.alloc _) ⟨w2.heap.size, 0, none⟩ 1 1 [.int .i64 u] rfl rfl (cell_one_new _ _ _) (by simp [Value.oneCell']) (by unfold maxLen; omega) (by omega) (by simp; omega) ?_); intro v3 w3 hown3 hgrow3 _ _; have HO3 := Lib.hid hown3; have HG3 := Lib.hid hgrow3; clear hown3 hgrow3))
      go_roundw
      case rel =>
        refine ⟨k + 1, by omega, by go_num, by rw [RS.out]; exact HO3.out, ?_, ?_⟩
        · rw [HX.out]
          exact (HG3.out.block bx (by simp; omega) (fun e => HGB.out _ bx HOW.out e.symm rfl)).trans (HL2.out.alloc _)
        · exact ((HTW.out.trans HT2.out).alloc _).grown HG3.out (fun j hj => .inr (HO2.out.lt j hj).1)
      case measure => simp [intOf]; omega
    · obtain rfl : k = n := by omega
      have HOW := Lib.hid ho
      have HTW := Lib.hid ht
      clear ho ht hl
      go_wp2
      go_ret
      exact ⟨_, rfl, HOW.out, HTW.out⟩
end Go.Proofs.Ythonjffojaljdaa


/-
  CONTRACTS OF width.Deltas, Sums, Least and of the document's own Offsets, Back, Deltas, Least, Same (of int64), in any world. Conditions: at most 1000 numbers, which lie in memory as told.
-/
namespace Go.Proofs.Ythonjffojaljdaa
open Go.RowKit
set_option linter.unusedVariables false
theorem nil_any {w w' : World} {e : TypeId} (h : w = w') : w'.ownsRow w.heap.size e 1 (.slice none 0 0) 0 [] ∧ Below w.heap.size w w' := by subst h; exact ⟨World.ownsRow_nil _ _ _ _, Below.refl _ _⟩
set_option maxRecDepth 100000 in
set_option maxHeartbeats 1000000 in
theorem deltas_any (a : Option Addr) (n cap : Nat) (x : Nat → Int) (hn : n ≤ 1100) (hnc : n ≤ cap) (hcap : cap ≤ maxLen) (w : World) (h : RowOf w a n (fun i => .int .i64 (x i))) :
    Calls Try.prog 62 #[.slice a n cap] w fun e w' => ∃ v, e = .returned v ∧ w'.ownsRow w.heap.size 2 1 v (n - 1) (rowV (fun i => .int .i64 (dl (x (i + 1)) (x i))) (n - 1)) ∧ Below w.heap.size w w' := by
  by_cases h2 : n < 2
  · have h2' : (n : Int) < 2 := by omega
    have e0 : n - 1 = 0 := by omega
    rw [e0]
    clear h h2
    go_enter Try.func62, Try.ntmps62
    go_wp2
    go_ret
    exact ⟨_, rfl, World.ownsRow_nil _ _ _ _, Below.refl _ _⟩
  · have h2' : ¬ (n : Int) < 2 := by omega
    obtain ⟨b, off, rfl, hblt, hc⟩ := h.at_ (i := 0) (by omega)
    have c0 := hc 0 (by omega)
    rw [Nat.add_zero] at c0
    obtain ⟨m, rfl⟩ : ∃ m, n = m + 1 := ⟨n - 1, by omega⟩
    have hc1 : ¬ cap = 1 := by omega
    have hB := (Below.refl w.heap.size w).alloc (Nat.le_refl _) (.cells #[.int .i64 (x 0)] 2)
    have hr : RowOf (w.alloc (.cells #[.int .i64 (x 0)] 2)) (some ⟨b, off + 1, none⟩) m (fun i => .int .i64 (x (i + 1))) :=
      .inr ⟨b, off + 1, rfl, fun i hi => by
        have h1 := hc (i + 1) (by omega)
        rw [hB.cell (p := ⟨b, off + 1 + i, none⟩) hblt, show off + 1 + i = off + (i + 1) from by omega]
        exact h1⟩
    have ED := Lib.hid (each_deltas (some ⟨b, off + 1, none⟩) m (cap - 1) w.heap.size (fun i => x (i + 1)) (x 0) (by omega) _ hr (Lies.new w _ _) (fun q hq e => by injection hq with hq; subst hq; simp only at e; omega))
    have HB := Lib.hid hB
    have e1 : rowV (fun i => Value.int .i64 (dl ((fun i => x (i + 1)) i) (if i = 0 then x 0 else (fun i => x (i + 1)) (i - 1)))) m = rowV (fun i => .int .i64 (dl (x (i + 1)) (x i))) m := rowV_congr fun i _ => by
      by_cases e : i = 0
      · subst e; rfl
      · simp only [if_neg e]; rw [show i - 1 + 1 = i from by omega]
    rw [e1] at ED
    rw [Nat.add_sub_cancel]
    have hmc : (m : Int) + 1 ≤ cap := by omega
    have hcm : (cap : Int) ≤ 9223372036854775807 := by unfold maxLen at hcap; omega
    clear hr hB hc h e1 h2
    generalize x 0 = y at *
    go_enter Try.func62, Try.ntmps62
    go_wp2_with (go_at_call 101; refine ED.out.mono ?_; rintro e w1 ⟨v, rfl, ho, ht⟩; have HO := Lib.hid ho; have HT := Lib.hid ht; clear ho ht)
    go_ret
    refine ⟨_, rfl, owns_base HO.out (fun j hj => by have := (HO.out.lt j hj).1; simp at this; omega), ?_⟩
    exact HB.out.trans (HT.out.below fun j hj => ⟨by simp; omega, fun e => by omega⟩)
/-- The numbers of deltas. -/
def sm (f : Int) (x : Nat → Int) : Nat → Int
  | 0 => f
  | i + 1 => wrap64 (sm f x i + x i)
set_option maxRecDepth 100000 in
set_option maxHeartbeats 1000000 in
theorem sums1 (B : Nat) (a : Option Addr) (k cap : Nat) (s : Nat → Int) (d : Int) (hk : k ≤ 1100) (w : World) (ho : w.ownsRow B 2 1 (.slice a (k + 1) cap) (k + 1) (rowV (fun i => .int .i64 (s i)) (k + 1))) (hB : B ≤ w.heap.size) :
    Calls Try.prog 169 #[.slice a (k + 1 : Nat) cap, .int .i64 d] w fun e w' => ∃ v, e = .returned v ∧ w'.ownsRow B 2 1 v (k + 2) (rowV (fun i => .int .i64 (s i)) (k + 1) ++ [.int .i64 (wrap64 (s k + d))]) ∧ Below B w w' := by
  obtain ⟨i0, hi, hz0, hz1, hz2⟩ := info_parts i64Info
  obtain ⟨g, c, hv, hg1, hg2⟩ := ho.form (by omega)
  injection hv with ha _ hc
  subst ha hc
  have c0 : w.cell? ⟨g, k, none⟩ = some (.int .i64 (s k)) := by rw [ho.cellAt k (by omega), rowV_get _ (by omega)]
  have HO := Lib.hid ho
  have k1 : (0 : Int) ≤ k := by omega
  have k2 : (k : Int) < (k : Int) + 1 := by omega
  have k3 : (k : Int) ≤ 1100 := by omega
  clear ho
  generalize hsk : s k = y at *
  clear hsk
  go_enter Try.func169, Try.ntmps169
  go_wp2_with (at_builtin; go_must (refine wpList_append_own_at _ rfl _ _ 22 rfl B 2 i0 (.int .i64 0) 1 8 Try.underlying22 hi hz0 hz1 hz2 rfl (by decide) _ _ _ rfl (HO.out.alloc _) ⟨w.heap.size, 0, none⟩ 1 1 [.int .i64 (wrap64 (y + d))] rfl rfl (cell_one_new _ _ _) (by simp [Value.oneCell']) (by unfold maxLen; omega) (by omega) (by simp; omega) ?_); intro v2 w2 hown2 hgrow2 _ _; have HO2 := Lib.hid hown2; have HG2 := Lib.hid hgrow2; clear hown2 hgrow2)
  go_ret
  exact ⟨v2, rfl, HO2.out, ((Below.refl B w).alloc hB _).grown HG2.out (by simp; omega) (fun j hj => (HO.out.lt j hj).1)⟩
set_option maxRecDepth 100000 in
set_option maxHeartbeats 1000000 in
theorem fold_sums (B : Nat) (v : Value) (f : Int) (a : Option Addr) (n cap : Nat) (x : Nat → Int) (hn : n ≤ 1100) (w : World) (ho : w.ownsRow B 2 1 v 1 [.int .i64 f]) (hB : B ≤ w.heap.size) (h : RowOf w a n (fun i => .int .i64 (x i))) (hlt : ∀ q, a = some q → 0 < n → q.block < B) :
    Calls Try.prog 168 #[v, .slice a n cap, .func (.func 169) #[] #[]] w fun e w' => ∃ v, e = .returned v ∧ w'.ownsRow B 2 1 v (n + 1) (rowV (fun i => .int .i64 (sm f x i)) (n + 1)) ∧ Below B w w' := by
  have H := Lib.hid h
  have HO := Lib.hid ho
  have HLT := Lib.hid hlt
  clear h ho hlt
  go_enter Try.func168, Try.ntmps168
  go_wp2
  go_loopw [0, 11] (fun v i wr => ∃ k : Nat, k ≤ n ∧ i = .int .i64 k ∧ wr.ownsRow B 2 1 v (k + 1) (rowV (fun i => .int .i64 (sm f x i)) (k + 1)) ∧ Below B w wr) (fun _ i _ => n - (intOf i).toNat)
  case atStart => exact ⟨0, by omega, rfl, HO.out, Below.refl _ _⟩
  case round =>
    obtain ⟨k, hk, rfl, ho, hb⟩ := hrel
    have hsz := hb.size
    by_cases hkn : k < n
    · have k1 : (k : Int) < n := by omega
      obtain ⟨b, off, rfl, hblt, hc⟩ := (H.out.turned (S := fun i => B ≤ i) (Turned.of_below hb (fun i _ hi => by omega)) (fun q hq e => by have := HLT.out q hq (by omega); omega)).at_ hkn
      have c0 := hc k hkn
      obtain ⟨a2, c2, rfl, _⟩ := own_reads ho
      have S1 := Lib.hid (sums1 B a2 k c2 (sm f x) (x k) (by omega) wr ho (by omega))
      have RS := Lib.hid (rowV_succ (fun i => Value.int .i64 (sm f x i)) (k + 1))
      have HBW := Lib.hid hb
      clear ho hb hc
      have HE := Lib.hid (show wrap64 (sm f x k + x k) = sm f x (k + 1) from rfl)
      rw [HE.out] at S1
      generalize x k = y at *
      go_wp2_with (go_at_call 169; refine S1.out.mono ?_; rintro e w2 ⟨v2, rfl, ho2, hb2⟩; have HO2 := Lib.hid ho2; have HB2 := Lib.hid hb2; clear ho2 hb2)
      go_roundw
      case rel => exact ⟨k + 1, by omega, by go_num, by rw [RS.out]; exact HO2.out, HBW.out.trans HB2.out⟩
      case measure => simp [intOf]; omega
    · obtain rfl : k = n := by omega
      have HOW := Lib.hid ho
      have HBW := Lib.hid hb
      clear ho hb
      go_wp2
      go_ret
      exact ⟨_, rfl, HOW.out, HBW.out⟩
set_option maxRecDepth 100000 in
set_option maxHeartbeats 1000000 in
theorem sums_any (a : Option Addr) (n cap : Nat) (x : Nat → Int) (f : Int) (hn : n ≤ 1100) (w : World) (h : RowOf w a n (fun i => .int .i64 (x i))) (hlt : ∀ q, a = some q → 0 < n → q.block < w.heap.size) :
    Calls Try.prog 166 #[.int .i64 f, .slice a n cap] w fun e w' => ∃ v, e = .returned v ∧ w'.ownsRow w.heap.size 2 1 v (n + 1) (rowV (fun i => .int .i64 (sm f x i)) (n + 1)) ∧ Below w.heap.size w w' := by
  obtain ⟨i0, hi, hz0, hz1, hz2⟩ := info_parts i64Info
  have H := Lib.hid h
  have HLT := Lib.hid hlt
  have hnn : (n : Int) + 1 = ((n + 1 : Nat) : Int) := by omega
  have HNN := Lib.hid hnn
  clear h hlt hnn
  go_enter Try.func166, Try.ntmps166
  go_wp2_with (first | (at_make; go_must (refine wpList_make_own _ rfl _ _ 22 rfl w.heap.size 2 i0 (.int .i64 0) 1 Try.underlying22 hi hz0 hz1 _ _ _ (n + 1) rfl rfl HNN.out (by rw [hz2]; omega) (by unfold maxLen; omega) (Nat.le_refl _) ?_); intro w1 hown hg; have HO := Lib.hid hown; have HG := Lib.hid hg; have hsz1 := hg.size; clear hown hg) | (at_builtin; go_must (refine wpList_append_own_at _ rfl _ _ 22 rfl w.heap.size 2 i0 (.int .i64 0) 1 8 Try.underlying22 hi hz0 hz1 hz2 rfl (by decide) _ _ _ rfl (HO.out.alloc _) ⟨w1.heap.size, 0, none⟩ 1 1 [.int .i64 f] rfl rfl (cell_one_new _ _ _) (by simp [Value.oneCell']) (by unfold maxLen; omega) (by omega) (by simp; omega) ?_); intro v2 w2 hown2 hgrow2 _ _; rw [Nat.zero_add, List.nil_append] at hown2; have HO2 := Lib.hid hown2; have HG2 := Lib.hid hgrow2; have hB2 : Below w.heap.size w w2 := (((Below.refl _ w).grown HG.out (Nat.le_refl _) (by simp)).alloc hsz1 _).grown hgrow2 (by simp; omega) (fun j hj => (HO.out.lt j hj).1); have FS := Lib.hid (fold_sums w.heap.size v2 f a n cap x hn w2 hown2 hB2.size (H.out.below hB2) HLT.out); have HB2 := Lib.hid hB2; clear hown2 hgrow2 hB2) | (go_at_call 168; refine FS.out.mono ?_; rintro e w3 ⟨v3, rfl, ho3, hb3⟩; have HO3 := Lib.hid ho3; have HB3 := Lib.hid hb3; clear ho3 hb3))
  go_ret
  exact ⟨v3, rfl, HO3.out, HB2.out.trans HB3.out⟩
/-- The least of the first k, of the first one and those. -/
def lmin (x : Nat → Int) : Nat → Int
  | 0 => x 0
  | k + 1 => if x k < lmin x k then x k else lmin x k
theorem least1 (p q : Int) (w : World) : Calls Try.prog 130 #[.int .i64 p, .int .i64 q] w fun e w' => e = .returned (.int .i64 (if q < p then q else p)) ∧ w = w' := by
  by_cases h : q < p
  · rw [if_pos h]
    go_enter Try.func130, Try.ntmps130
    go_wp2
    all_goals (go_ret; exact ⟨rfl, rfl⟩)
  · rw [if_neg h]
    go_enter Try.func130, Try.ntmps130
    go_wp2
    all_goals (go_ret; exact ⟨rfl, rfl⟩)
set_option maxRecDepth 100000 in
theorem fold_least (a : Option Addr) (n cap : Nat) (x : Nat → Int) (hn : n ≤ 1100) (w : World) (h : RowOf w a n (fun i => .int .i64 (x i))) :
    Calls Try.prog 129 #[.int .i64 (x 0), .slice a n cap, .func (.func 130) #[] #[]] w fun e w' => e = .returned (.int .i64 (lmin x n)) ∧ w = w' := by
  have H := Lib.hid h
  clear h
  obtain ⟨m0, hm0⟩ : ∃ m0, x 0 = m0 := ⟨_, rfl⟩
  rw [hm0]
  have HM := Lib.hid (show lmin x 0 = m0 from hm0)
  clear hm0
  go_enter Try.func129, Try.ntmps129
  go_wp2
  go_loop [0, 11] (fun v i => ∃ k : Nat, k ≤ n ∧ i = .int .i64 k ∧ v = .int .i64 (lmin x k)) (fun _ i => n - (intOf i).toNat)
  case atStart => exact ⟨0, by omega, rfl, by rw [HM.out]⟩
  case round =>
    obtain ⟨k, hk, rfl, rfl⟩ := hrel
    by_cases hkn : k < n
    · have k1 : (k : Int) < n := by omega
      obtain ⟨b, off, rfl, hblt, hc⟩ := H.out.at_ hkn
      have c0 := hc k hkn
      have L1 := Lib.hid (least1 (lmin x k) (x k) w)
      have HE := Lib.hid (show (if x k < lmin x k then x k else lmin x k) = lmin x (k + 1) from rfl)
      rw [HE.out] at L1
      clear hc
      generalize x k = y at *
      generalize lmin x k = z at *
      go_wp2_with (go_at_call 130; refine L1.out.mono ?_; rintro e w2 ⟨rfl, rfl⟩)
      go_round
      case rel => exact ⟨k + 1, by omega, by go_num, rfl⟩
      case measure => simp [intOf]; omega
    · obtain rfl : k = n := by omega
      go_wp2
      go_ret
      exact ⟨rfl, rfl⟩
theorem least_none (a : Option Addr) (cap : Nat) (w : World) : Calls Try.prog 103 #[.slice a 0 cap] w fun e w' => e = .returned (.tuple #[.int .i64 0, .bool false]) ∧ w = w' := by
  go_enter Try.func103, Try.ntmps103
  go_wp2
  go_ret2
  exact ⟨rfl, rfl⟩
theorem least_some (a : Option Addr) (n cap : Nat) (x : Nat → Int) (h0 : 0 < n) (hn : n ≤ 1100) (w : World) (h : RowOf w a n (fun i => .int .i64 (x i))) :
    Calls Try.prog 103 #[.slice a n cap] w fun e w' => e = .returned (.tuple #[.int .i64 (lmin x n), .bool true]) ∧ w = w' := by
  obtain ⟨b, off, rfl, hblt, hc⟩ := h.at_ h0
  have c0 := hc 0 h0
  rw [Nat.add_zero] at c0
  have F := Lib.hid (fold_least _ n cap x hn w h)
  have n0 : ((n : Int) == 0) = false := by simp; omega
  have n1 : (0 : Int) < n := by omega
  clear h hc
  generalize lmin x n = z at *
  generalize x 0 = y at *
  go_enter Try.func103, Try.ntmps103
  go_wp2_with (go_at_call 129; refine F.out.mono ?_; rintro e w2 ⟨rfl, rfl⟩)
  go_ret2
  exact ⟨rfl, rfl⟩
end Go.Proofs.Ythonjffojaljdaa

