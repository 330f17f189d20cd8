/-
  CONTRACTS OF width.Offsets, Back, Deltas, Sums, Least and the document's own, in any world, for any numbers: rows of their own; nothing that lay is turned. Conditions: at most 1000 numbers, which lie in memory as told.
-/
import Derived.Test.YthonjffojaljdaaNumW
import Derived.Test.YthonjffojaljdaaWords
import Derived.WalkKit
import Derived.WalkLawsBesides
import Derived.WalkSpells
import Derived.ProofKit
import Derived.LoopTactic
import Derived.IntWalk
import Derived.Deep.DeepMust
import Derived.Deep.RegionHeld3
import Derived.Outline
import Derived.Lib.Hide
namespace Go.Proofs.Ythonjffojaljdaa
open Go.RowKit
theorem i64Info : (Try.prog.info? 2).map (fun i => (i.zero, i.size, i.bytes)) = some (some (.int .i64 0), 1, 8) := by kernel_rfl
set_option linter.unusedVariables false
theorem wrap64_eq (n : Int) : IntKind.i64.wrap n = wrap64 n := by
  simp [IntKind.wrap, IntKind.bits, IntKind.signed, wrap64]
  split <;> omega
/-- A number's offset from another one. -/
def offs (v f : Int) : Int := IntKind.u64.wrap (wrap64 (v - f))
/-- The number of an offset. -/
def bk (v f : Int) : Int := wrap64 (f + wrap64 v)
/-- A delta. -/
def dl (v p : Int) : Int := wrap64 (v - p)
theorem offs_ref (v f : Int) : IntKind.u64.wrap (IntKind.u64.wrap v - IntKind.u64.wrap f) = offs v f := by
  unfold offs; simp only [u64w, wrap64]; omega
theorem bk_ref (v f : Int) : wrap64 (IntKind.u64.wrap (v + IntKind.u64.wrap f)) = bk v f := by
  unfold bk; simp only [u64w, wrap64]; omega
theorem dl_ref (v p : Int) : wrap64 (IntKind.u64.wrap (IntKind.u64.wrap v - IntKind.u64.wrap p)) = dl v p := by
  unfold dl; simp only [u64w, wrap64]; omega
theorem offs1 (bx : Nat) (v f : Int) (w : World) (h : w.cell? ⟨bx, 0, none⟩ = some (.int .i64 f)) :
    Calls Try.prog 132 #[.int .i64 v, .pointer (some ⟨bx, 0, none⟩)] w fun e w' => e = .returned (.int .u64 (offs v f)) ∧ w = w' := by
  go_enter Try.func132, Try.ntmps132
  go_wp2
  go_ret
  exact ⟨rfl, rfl⟩
theorem back1 (bx : Nat) (v f : Int) (w : World) (h : w.cell? ⟨bx, 0, none⟩ = some (.int .i64 f)) :
    Calls Try.prog 171 #[.int .u64 v, .pointer (some ⟨bx, 0, none⟩)] w fun e w' => e = .returned (.int .i64 (bk v f)) ∧ w = w' := by
  go_enter Try.func171, Try.ntmps171
  go_wp2
  go_ret
  exact ⟨rfl, rfl⟩
theorem delta1 (bx : Nat) (v p : Int) (w : World) (h : Lies w bx 2 #[.int .i64 p]) :
    Calls Try.prog 102 #[.int .i64 v, .pointer (some ⟨bx, 0, none⟩)] w fun e w' => e = .returned (.int .i64 (dl v p)) ∧ Lies w' bx 2 #[.int .i64 v] ∧ Turned (· = bx) w w' := by
  have c0 := h.cell 0
  have c1 := h.frozen 0
  have H := Lib.hid h
  clear h
  go_enter Try.func102, Try.ntmps102
  go_wp2
  go_ret
  exact ⟨rfl, H.out.set_ 0 _, (Turned.refl (· = bx) _).setCell (p := ⟨bx, 0, none⟩) (.inl rfl) _⟩
set_option maxRecDepth 100000 in
set_option maxHeartbeats 1000000 in
theorem each_offs (a : Option Addr) (n cap bx : Nat) (x : Nat → Int) (f : Int) (hn : n ≤ 1100) (w : World) (h : RowOf w a n (fun i => .int .i64 (x i))) (hb : w.cell? ⟨bx, 0, none⟩ = some (.int .i64 f)) (hbx : bx < w.heap.size) :
    Calls Try.prog 131 #[.slice a n cap, .func (.func 132) #[] #[.pointer (some ⟨bx, 0, none⟩)]] w fun e w' => ∃ v, e = .returned v ∧ w'.ownsRow w.heap.size 40 1 v n (rowV (fun i => .int .u64 (offs (x i) f)) n) ∧ Below w.heap.size w w' := by
  obtain ⟨i0, hi, hz0, hz1, hz2⟩ := info_parts u64Info
  have H := Lib.hid h
  have HB := Lib.hid hb
  clear h hb
  go_enter Try.func131, Try.ntmps131
  go_wp2_with (at_make; go_must (refine wpList_make_own _ rfl _ _ 58 rfl w.heap.size 40 i0 (.int .u64 0) 1 Try.underlying58 hi hz0 hz1 _ _ _ n rfl rfl rfl (by rw [hz2]; omega) (by unfold maxLen; omega) (Nat.le_refl _) ?_); intro w1 hown hg; have HO := Lib.hid hown; have HG := Lib.hid hg; clear hown hg)
  go_loopw [5, 13] (fun v i wr => ∃ k : Nat, k ≤ n ∧ i = .int .i64 k ∧ wr.ownsRow w.heap.size 40 1 v k (rowV (fun i => .int .u64 (offs (x i) f)) k) ∧ Below w.heap.size w wr) (fun _ i _ => n - (intOf i).toNat)
  case atStart => exact ⟨0, by omega, rfl, HO.out, (Below.refl _ _).grown HG.out (Nat.le_refl _) (by simp)⟩
  case round =>
    obtain ⟨k, hk, rfl, ho, hb⟩ := hrel
    have hsz := hb.size
    by_cases hkn : k < n
    · have k1 : (k : Int) < n := by omega
      obtain ⟨b, off, rfl, hblt, hc⟩ := (H.out.below hb).at_ hkn
      have c0 := hc k hkn
      have O1 := Lib.hid (offs1 bx (x k) f wr ((hb.cell (p := ⟨bx, 0, none⟩) hbx).trans HB.out))
      have RS := Lib.hid (rowV_succ (fun i => Value.int .u64 (offs (x i) f)) k)
      have HOW := Lib.hid ho
      have HBW := Lib.hid hb
      clear ho hb hc
      generalize x k = y at *
      generalize offs y f = u at *
      go_wp2_with (first | (go_at_call 132; refine O1.out.mono ?_; rintro e w' ⟨rfl, rfl⟩) | (at_builtin; go_must (refine wpList_append_own_at _ rfl _ _ 58 rfl w.heap.size 40 i0 (.int .u64 0) 1 8 Try.underlying58 hi hz0 hz1 hz2 rfl (by decide) _ _ _ rfl (HOW.out.alloc _) ⟨wr.heap.size, 0, none⟩ 1 1 [.int .u64 u] rfl rfl (cell_one_new _ _ _) (by simp [Value.oneCell']) (by unfold maxLen; omega) (by omega) (by simp; omega) ?_); intro v2 w2 hown2 hgrow2 _ _; have HO2 := Lib.hid hown2; have HG2 := Lib.hid hgrow2; clear hown2 hgrow2))
      go_roundw
      case rel => exact ⟨k + 1, by omega, by go_num, by rw [RS.out]; exact HO2.out, (HBW.out.alloc hsz _).grown HG2.out (by simp; omega) (fun j hj => (HOW.out.lt j hj).1)⟩
      case measure => simp [intOf]; omega
    · obtain rfl : k = n := by omega
      have HOW := Lib.hid ho
      have HBW := Lib.hid hb
      clear ho hb
      go_wp2
      go_ret
      exact ⟨_, rfl, HOW.out, HBW.out⟩
set_option maxRecDepth 100000 in
set_option maxHeartbeats 1000000 in
theorem each_back (a : Option Addr) (n cap bx : Nat) (x : Nat → Int) (f : Int) (hn : n ≤ 1100) (w : World) (h : RowOf w a n (fun i => .int .u64 (x i))) (hb : w.cell? ⟨bx, 0, none⟩ = some (.int .i64 f)) (hbx : bx < w.heap.size) :
    Calls Try.prog 170 #[.slice a n cap, .func (.func 171) #[] #[.pointer (some ⟨bx, 0, none⟩)]] w fun e w' => ∃ v, e = .returned v ∧ w'.ownsRow w.heap.size 2 1 v n (rowV (fun i => .int .i64 (bk (x i) f)) n) ∧ Below w.heap.size w w' := by
  obtain ⟨i0, hi, hz0, hz1, hz2⟩ := info_parts i64Info
  have H := Lib.hid h
  have HB := Lib.hid hb
  clear h hb
  go_enter Try.func170, Try.ntmps170
  go_wp2_with (at_make; go_must (refine wpList_make_own _ rfl _ _ 22 rfl w.heap.size 2 i0 (.int .i64 0) 1 Try.underlying22 hi hz0 hz1 _ _ _ n rfl rfl rfl (by rw [hz2]; omega) (by unfold maxLen; omega) (Nat.le_refl _) ?_); intro w1 hown hg; have HO := Lib.hid hown; have HG := Lib.hid hg; clear hown hg)
  go_loopw [5, 13] (fun v i wr => ∃ k : Nat, k ≤ n ∧ i = .int .i64 k ∧ wr.ownsRow w.heap.size 2 1 v k (rowV (fun i => .int .i64 (bk (x i) f)) k) ∧ Below w.heap.size w wr) (fun _ i _ => n - (intOf i).toNat)
  case atStart => exact ⟨0, by omega, rfl, HO.out, (Below.refl _ _).grown HG.out (Nat.le_refl _) (by simp)⟩
  case round =>
    obtain ⟨k, hk, rfl, ho, hb⟩ := hrel
    have hsz := hb.size
    by_cases hkn : k < n
    · have k1 : (k : Int) < n := by omega
      obtain ⟨b, off, rfl, hblt, hc⟩ := (H.out.below hb).at_ hkn
      have c0 := hc k hkn
      have O1 := Lib.hid (back1 bx (x k) f wr ((hb.cell (p := ⟨bx, 0, none⟩) hbx).trans HB.out))
      have RS := Lib.hid (rowV_succ (fun i => Value.int .i64 (bk (x i) f)) k)
      have HOW := Lib.hid ho
      have HBW := Lib.hid hb
      clear ho hb hc
      generalize x k = y at *
      generalize bk y f = u at *
      go_wp2_with (first | (go_at_call 171; refine O1.out.mono ?_; rintro e w' ⟨rfl, rfl⟩) | (at_builtin; go_must (refine wpList_append_own_at _ rfl _ _ 22 rfl w.heap.size 2 i0 (.int .i64 0) 1 8 Try.underlying22 hi hz0 hz1 hz2 rfl (by decide) _ _ _ rfl (HOW.out.alloc _) ⟨wr.heap.size, 0, none⟩ 1 1 [.int .i64 u] rfl rfl (cell_one_new _ _ _) (by simp [Value.oneCell']) (by unfold maxLen; omega) (by omega) (by simp; omega) ?_); intro v2 w2 hown2 hgrow2 _ _; have HO2 := Lib.hid hown2; have HG2 := Lib.hid hgrow2; clear hown2 hgrow2))
      go_roundw
      case rel => exact ⟨k + 1, by omega, by go_num, by rw [RS.out]; exact HO2.out, (HBW.out.alloc hsz _).grown HG2.out (by simp; omega) (fun j hj => (HOW.out.lt j hj).1)⟩
      case measure => simp [intOf]; omega
    · obtain rfl : k = n := by omega
      have HOW := Lib.hid ho
      have HBW := Lib.hid hb
      clear ho hb
      go_wp2
      go_ret
      exact ⟨_, rfl, HOW.out, HBW.out⟩
theorem offsets_any (a : Option Addr) (n cap : Nat) (x : Nat → Int) (f : Int) (hn : n ≤ 1100) (w : World) (h : RowOf w a n (fun i => .int .i64 (x i))) :
    Calls Try.prog 104 #[.int .i64 f, .slice a n cap] w fun e w' => ∃ v, e = .returned v ∧ w'.ownsRow w.heap.size 40 1 v n (rowV (fun i => .int .u64 (offs (x i) f)) n) ∧ Below w.heap.size w w' := by
  have EO := Lib.hid (each_offs a n cap w.heap.size x f hn (w.alloc (.cells #[.int .i64 f] 2)) (h.below ((Below.refl _ _).alloc (Nat.le_refl _) _)) ((Lies.new w _ _).cell 0) (by simp))
  clear h
  go_enter Try.func104, Try.ntmps104
  go_wp2_with (go_at_call 131; refine EO.out.mono ?_; rintro e w1 ⟨v, rfl, ho, hb⟩; have HO := Lib.hid ho; have HB := Lib.hid hb; clear ho hb)
  go_ret
  exact ⟨v, rfl, owns_base HO.out (fun j hj => by have := (HO.out.lt j hj).1; simp at this; omega), ((Below.refl _ w).alloc (Nat.le_refl _) _).trans (HB.out.mono (by simp))⟩
theorem back_any (a : Option Addr) (n cap : Nat) (x : Nat → Int) (f : Int) (hn : n ≤ 1100) (w : World) (h : RowOf w a n (fun i => .int .u64 (x i))) :
    Calls Try.prog 167 #[.int .i64 f, .slice a n cap] w fun e w' => ∃ v, e = .returned v ∧ w'.ownsRow w.heap.size 2 1 v n (rowV (fun i => .int .i64 (bk (x i) f)) n) ∧ Below w.heap.size w w' := by
  have EO := Lib.hid (each_back a n cap w.heap.size x f hn (w.alloc (.cells #[.int .i64 f] 2)) (h.below ((Below.refl _ _).alloc (Nat.le_refl _) _)) ((Lies.new w _ _).cell 0) (by simp))
  clear h
  go_enter Try.func167, Try.ntmps167
  go_wp2_with (go_at_call 170; refine EO.out.mono ?_; rintro e w1 ⟨v, rfl, ho, hb⟩; have HO := Lib.hid ho; have HB := Lib.hid hb; clear ho hb)
  go_ret
  exact ⟨v, rfl, owns_base HO.out (fun j hj => by have := (HO.out.lt j hj).1; simp at this; omega), ((Below.refl _ w).alloc (Nat.le_refl _) _).trans (HB.out.mono (by simp))⟩
set_option maxRecDepth 100000 in
set_option maxHeartbeats 1000000 in
theorem each_deltas (a : Option Addr) (n cap bx : Nat) (x : Nat → Int) (p : Int) (hn : n ≤ 1100) (w : World) (h : RowOf w a n (fun i => .int .i64 (x i))) (hb : Lies w bx 2 #[.int .i64 p]) (hcl : ∀ q, a = some q → q.block ≠ bx) :
    Calls Try.prog 101 #[.slice a n cap, .func (.func 102) #[] #[.pointer (some ⟨bx, 0, none⟩)]] w fun e w' => ∃ v, e = .returned v ∧ w'.ownsRow w.heap.size 2 1 v n (rowV (fun i => .int .i64 (dl (x i) (if i = 0 then p else x (i - 1)))) n) ∧ Turned (· = bx) w w' := by
  obtain ⟨i0, hi, hz0, hz1, hz2⟩ := info_parts i64Info
  have H := Lib.hid h
  have HB := Lib.hid hb
  have HC := Lib.hid hcl
  have hbx := hb.lt
  clear h hb hcl
  go_enter Try.func101, Try.ntmps101
  go_wp2_with (at_make; go_must (refine wpList_make_own _ rfl _ _ 22 rfl w.heap.size 2 i0 (.int .i64 0) 1 Try.underlying22 hi hz0 hz1 _ _ _ n rfl rfl rfl (by rw [hz2]; omega) (by unfold maxLen; omega) (Nat.le_refl _) ?_); intro w1 hown hg; have HO := Lib.hid hown; have HG := Lib.hid hg; clear hown hg)
  have hT1 : Turned (· = bx) w w1 := (Turned.refl _ _).grown HG.out (fun i hi => by cases hi)
  have HL1 := Lib.hid ((HG.out.block bx hbx (by simp)).trans HB.out : Lies w1 bx 2 #[.int .i64 p])
  have HT1 := Lib.hid hT1
  clear hT1
  go_loopw [5, 13] (fun v i wr => ∃ k : Nat, k ≤ n ∧ i = .int .i64 k ∧ wr.ownsRow w.heap.size 2 1 v k (rowV (fun i => .int .i64 (dl (x i) (if i = 0 then p else x (i - 1)))) k) ∧ Lies wr bx 2 #[.int .i64 (if k = 0 then p else x (k - 1))] ∧ Turned (· = bx) w wr) (fun _ i _ => n - (intOf i).toNat)
  case atStart => exact ⟨0, by omega, rfl, HO.out, HL1.out, HT1.out⟩
  case round =>
    obtain ⟨k, hk, rfl, ho, hl, ht⟩ := hrel
    have hsz := ht.size
    by_cases hkn : k < n
    · have k1 : (k : Int) < n := by omega
      obtain ⟨b, off, rfl, hblt, hc⟩ := (H.out.turned ht (fun q hq e => HC.out q hq e)).at_ hkn
      have c0 := hc k hkn
      have D1 := Lib.hid (delta1 bx (x k) _ wr hl)
      have RS := Lib.hid (rowV_succ (fun i => Value.int .i64 (dl (x i) (if i = 0 then p else x (i - 1)))) k)
      have HOW := Lib.hid ho
      have HTW := Lib.hid ht
      clear ho ht hc hl
      have hgb : ∀ v' i, wr.ownsRow w.heap.size 2 1 v' k (rowV (fun i => .int .i64 (dl (x i) (if i = 0 then p else x (i - 1)))) k) → v'.ownBlock = some i → i ≠ bx := fun v' i ho hi e => by have := (ho.lt i hi).1; omega
      have HGB := Lib.hid hgb
      have HX := Lib.hid (show (if k + 1 = 0 then p else x (k + 1 - 1)) = x k by simp)
      clear hgb
      generalize hpv : (if k = 0 then p else x (k - 1)) = pv at *
      clear hpv
      obtain ⟨y, hy⟩ : ∃ y, x k = y := ⟨_, rfl⟩
      rw [hy] at c0 D1 RS HX
      clear hy
      generalize hu : dl y pv = u at *
      clear hu
      go_wp2_with (first | (go_at_call 102; refine D1.out.mono ?_; rintro e w2 ⟨rfl, hl2, ht2⟩; have HL2 := Lib.hid hl2; have HT2 := Lib.hid ht2; have HO2 := Lib.hid (owns_turned HOW.out ht2 (fun i hi => HGB.out _ i HOW.out hi)); have hsz2 := ht2.size; clear hl2 ht2) | (at_builtin; go_must (refine wpList_append_own_at _ rfl _ _ 22 rfl w.heap.size 2 i0 (.int .i64 0) 1 8 Try.underlying22 hi hz0 hz1 hz2 rfl (by decide) _ _ _ rfl (HO2.out.alloc _) ⟨w2.heap.size, 0, none⟩ 1 1 [.int .i64 u] rfl rfl (cell_one_new _ _ _) (by simp [Value.oneCell']) (by unfold maxLen; omega) (by omega) (by simp; omega) ?_); intro v3 w3 hown3 hgrow3 _ _; have HO3 := Lib.hid hown3; have HG3 := Lib.hid hgrow3; clear hown3 hgrow3))
      go_roundw
      case rel =>
        refine ⟨k + 1, by omega, by go_num, by rw [RS.out]; exact HO3.out, ?_, ?_⟩
        · rw [HX.out]
          exact (HG3.out.block bx (by simp; omega) (fun e => HGB.out _ bx HOW.out e.symm rfl)).trans (HL2.out.alloc _)
        · exact ((HTW.out.trans HT2.out).alloc _).grown HG3.out (fun j hj => .inr (HO2.out.lt j hj).1)
      case measure => simp [intOf]; omega
    · obtain rfl : k = n := by omega
      have HOW := Lib.hid ho
      have HTW := Lib.hid ht
      clear ho ht hl
      go_wp2
      go_ret
      exact ⟨_, rfl, HOW.out, HTW.out⟩
end Go.Proofs.Ythonjffojaljdaa
