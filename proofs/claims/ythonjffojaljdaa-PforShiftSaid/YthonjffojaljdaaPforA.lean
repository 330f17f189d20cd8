/-
  PFOR: the exceptions of offsets by a width, as the iterator pfor.exceptions tells them. Conditions: at most 1100 offsets, which lie in memory as told; a width of at most 64.
-/
import Derived.Test.YthonjffojaljdaaRows
import Derived.Test.YthonjffojaljdaaWordsB
import Derived.RangeFuncBox
import Derived.RangeFuncLeaves
import Derived.Shelf.Abstract
import Derived.WalkKit
import Derived.WalkLawsBesides
import Derived.WalkSpells
import Derived.OwnWalkIn
import Derived.TacticsInMore
import Derived.LoopNIn
import Derived.LoopIn
import Derived.Lib.Hide
import Derived.Outline
import Derived.Deep.DeepMust
namespace Go.Proofs.Ythonjffojaljdaa
open Go.RowKit Go.Shelf
set_option linter.unusedVariables false
attribute [local go_sem] Oper.semAt_some
/-- The exceptions of the first so many, and how many stand behind the last one. -/
def exS (v : Nat → Nat) (q : Nat) : Nat → List (Nat × Nat) × Nat
  | 0 => ([], 0)
  | k + 1 => if v k / 2 ^ q = 0 then ((exS v q k).1, (exS v q k).2 + 1) else ((exS v q k).1 ++ [((exS v q k).2, v k / 2 ^ q)], 0)
theorem exS_gap (v : Nat → Nat) (q : Nat) : ∀ k, (exS v q k).2 ≤ k
  | 0 => Nat.le_refl _
  | k + 1 => by
    have := exS_gap v q k
    unfold exS
    split
    · show (exS v q k).2 + 1 ≤ k + 1; omega
    · exact Nat.zero_le _
theorem exS_len (v : Nat → Nat) (q : Nat) : ∀ k, (exS v q k).1.length ≤ k
  | 0 => Nat.le_refl _
  | k + 1 => by
    have := exS_len v q k
    unfold exS
    split
    · show (exS v q k).1.length ≤ k + 1; omega
    · simp; omega
theorem exS_pre (v : Nat → Nat) (q j : Nat) : ∀ d, (exS v q j).1 <+: (exS v q (j + d)).1
  | 0 => List.prefix_refl _
  | d + 1 => by
    refine (exS_pre v q j d).trans ?_
    show _ <+: (exS v q (j + d + 1)).1
    rw [exS]
    split
    · exact List.prefix_refl _
    · exact List.prefix_append _ _
theorem exS_to (v : Nat → Nat) (q : Nat) {j m : Nat} (h : j ≤ m) : (exS v q j).1 <+: (exS v q m).1 := by
  have := exS_pre v q j (m - j)
  rwa [show j + (m - j) = m by omega] at this
/-- What a round may do: what lay below stays, and so do two boxes. -/
def KX (n₀ b1 b2 : Nat) (A B : World) : Prop := Below n₀ A B ∧ B.heap[b1]? = A.heap[b1]? ∧ B.heap[b2]? = A.heap[b2]?
theorem KX.refl (n₀ b1 b2 : Nat) (A : World) : KX n₀ b1 b2 A A := ⟨Below.refl _ _, rfl, rfl⟩
theorem KX.trans {n₀ b1 b2 : Nat} {A B C : World} (h : KX n₀ b1 b2 A B) (k : KX n₀ b1 b2 B C) : KX n₀ b1 b2 A C := ⟨h.1.trans k.1, k.2.1.trans h.2.1, k.2.2.trans h.2.2⟩
theorem Boxed.kx {A B : World} {b : Nat} {t : TypeId} {v : Value} (h : Boxed A b t v) (hk : B.heap[b]? = A.heap[b]?) : Boxed B b t v := hk.trans h
set_option maxRecDepth 100000 in
set_option maxHeartbeats 1000000 in
theorem exc1_in (F : Fence) (n : Nat) (h6 : F.fn 133) (hro : F.round = none) (hn : 1 ≤ n) (l b1 b2 : Nat) (a : Option Addr) (m cap q : Nat) (v : Nat → Nat) (hm : m ≤ 1100) (hq : q ≤ 64) (hv : ∀ i, i < m → v i < 18446744073709551616) (W0 : World) (hrow : RowOf W0 a m (fun i => .int .u64 (v i : Nat)))
    (W1 : World) (hW1 : Below W0.heap.size W0 W1) (c1 : Boxed W1 b1 58 (.slice a m cap)) (c2 : Boxed W1 b2 3 (.int .i64 q)) (J Jx : List (Nat × Nat) → World → Prop)
    (hY : ∀ pre x W, J pre W → pre.length < (exS v q m).1.length → YieldAt F (n - 1) Try.prog l #[.int .u64 (x.1 % 18446744073709551616 : Nat), .int .u64 (x.2 % 18446744073709551616 : Nat)] W fun e W' =>
      (e = .returned (.bool true) ∧ J (pre ++ [x]) W' ∧ KX W0.heap.size b1 b2 W W') ∨ (e = .returned (.bool false) ∧ Jx (pre ++ [x]) W'))
    (W : World) (hW : KX W0.heap.size b1 b2 W1 W) (h0 : J [] W) :
    CallsIn F n Try.prog 133 #[.func (.yield l) #[] #[], .pointer (some ⟨b1, 0, none⟩), .pointer (some ⟨b2, 0, none⟩)] W fun e W' => (∃ r, e = .returned r) ∧
      ((∃ ys, ys = (exS v q m).1 ∧ J ys W') ∨ (∃ pre, pre <+: (exS v q m).1 ∧ Jx pre W')) := by
  have HC2 := Lib.hid (fun W (h : KX W0.heap.size b1 b2 W1 W) => (Boxed.kx c2 h.2.2).cell)
  have HR := Lib.hid (fun W (h : KX W0.heap.size b1 b2 W1 W) => hrow.below (hW1.trans h.1))
  have d1 := (Boxed.kx c1 hW.2.1).cell
  clear hrow c1 c2
  refine callsIn_of_wp Try.func133 rfl h6 ?_ hro
  simp only [Try.ntmps133, List.size_toArray, List.length_cons, List.length_nil, Nat.reduceAdd, Nat.reduceSub, Array.replicate_succ, Array.replicate_zero, List.push_toArray, List.append_toArray, List.nil_append, List.cons_append]
  gi_wp2
  gi_loopw [4, 10] (fun gp ip wr => ∃ k : Nat, k ≤ m ∧ gp = .int .u64 ((exS v q k).2 : Nat) ∧ ip = .int .i64 k ∧ J (exS v q k).1 wr ∧ KX W0.heap.size b1 b2 W1 wr) (fun _ ip _ => m - (intOf ip).toNat)
  case atStart => exact ⟨0, by omega, rfl, rfl, h0, hW⟩
  case round =>
    obtain ⟨k, hk, rfl, rfl, hJ, hb⟩ := hrel
    clear d1
    have hg := exS_gap v q k
    by_cases hkm : k < m
    · have k1 : (k : Int) < m := by omega
      obtain ⟨bb, off, rfl, hbl, hc⟩ := (HR.out wr hb).at_ hkm
      have c0 := hc k hkm
      have c2 := HC2.out wr hb
      have hvk := hv k hkm
      have HS := Lib.hid (show exS v q (k + 1) = if v k / 2 ^ q = 0 then ((exS v q k).1, (exS v q k).2 + 1) else ((exS v q k).1 ++ [((exS v q k).2, v k / 2 ^ q)], 0) from rfl)
      have HP := Lib.hid (exS_to v q (show k + 1 ≤ m by omega))
      clear hc
      obtain ⟨H, hH⟩ : ∃ H, v k / 2 ^ q = H := ⟨_, rfl⟩
      have hHi : ((v k : Nat) : Int) / 2 ^ q = (H : Int) := by rw [← hH]; simp
      have HH := Lib.hid hH
      clear hH
      generalize v k = y at *
      by_cases hz : H = 0
      · subst hz
        have HSk := Lib.hid (show exS v q (k + 1) = ((exS v q k).1, (exS v q k).2 + 1) by rw [HS.out, HH.out, if_pos rfl])
        clear HS
        generalize exS v q k = s at *
        gi_wp2
        go_roundw
        case rel => exact ⟨k + 1, by omega, by rw [HSk.out]; go_num, by go_num, by rw [HSk.out]; exact hJ, hb⟩
        case measure => simp [intOf]; omega
      · have hz' : ¬ (H : Int) = 0 := by omega
        have HSk := Lib.hid (show exS v q (k + 1) = ((exS v q k).1 ++ [((exS v q k).2, H)], 0) by rw [HS.out, HH.out, if_neg hz])
        clear HS
        have HPk := HP.out
        rw [HSk.out] at HPk
        have hH2 : H < 18446744073709551616 := by rw [← HH.out]; exact Nat.lt_of_le_of_lt (Nat.div_le_self _ _) hvk
        have hYk := hY (exS v q k).1 ((exS v q k).2, H) wr hJ (by have := HPk.length_le; simp at this; omega)
        have e1 : (exS v q k).2 % 18446744073709551616 = (exS v q k).2 := Nat.mod_eq_of_lt (by omega)
        have e2 : H % 18446744073709551616 = H := Nat.mod_eq_of_lt hH2
        dsimp only at hYk
        rw [e1, e2] at hYk
        clear e1 e2 hH2
        obtain ⟨fn, tmps, assign, body, hy, hR⟩ := hYk
        have HPk := Lib.hid HPk
        generalize exS v q k = s at *
        gi_wp2
        refine hR.mono ?_
        rintro e W3 (⟨rfl, hJ3, hk3⟩ | ⟨rfl, hJx3⟩)
        · gi_wp2
          go_roundw
          case rel => exact ⟨k + 1, by omega, by rw [HSk.out]; rfl, by go_num, by rw [HSk.out]; exact hJ3, hb.trans hk3⟩
          case measure => simp [intOf]; omega
        · gi_wp2
          refine bodyPost_ret (results_none rfl _ _ _) rfl ?_
          exact ⟨⟨_, rfl⟩, .inr ⟨_, HPk.out, hJx3⟩⟩
    · obtain rfl : k = m := by omega
      have k1 : ¬ (k : Int) < k := by omega
      gi_wp2
      go_end0
      exact ⟨⟨_, rfl⟩, .inl hJ⟩
set_option maxHeartbeats 1000000 in
theorem exc_in (F : Fence) (n : Nat) (h5 : F.fn 109) (hro : F.round = none) (a : Option Addr) (m cap : Nat) (q : Int) (w : World) :
    CallsIn F n Try.prog 109 #[.slice a m cap, .int .i64 q] w fun e w' => e = .returned (.func (.func 133) #[] #[.pointer (some ⟨w.heap.size, 0, none⟩), .pointer (some ⟨w.heap.size + 1, 0, none⟩)]) ∧ w' = (w.alloc (.cells #[.slice a m cap] 58)).alloc (.cells #[.int .i64 q] 3) := by
  refine callsIn_of_wp Try.func109 rfl h5 ?_ hro
  simp only [Try.ntmps109, List.size_toArray, List.length_cons, List.length_nil, Nat.reduceAdd, Nat.reduceSub, Array.replicate_succ, Array.replicate_zero, List.push_toArray, List.append_toArray, List.nil_append, List.cons_append]
  gi_wp2
  go_ret
  exact ⟨rfl, rfl⟩
theorem exc_stops (F : Fence) (n : Nat) (h6 : F.fn 133) (hro : F.round = none) (hn : 1 ≤ n) (b1 b2 : Nat) (a : Option Addr) (m cap q : Nat) (v : Nat → Nat) (hm : m ≤ 1100) (hq : q ≤ 64) (hv : ∀ i, i < m → v i < 18446744073709551616) (W0 : World) (hrow : RowOf W0 a m (fun i => .int .u64 (v i : Nat)))
    (W1 : World) (hW1 : Below W0.heap.size W0 W1) (c1 : Boxed W1 b1 58 (.slice a m cap)) (c2 : Boxed W1 b2 3 (.int .i64 q)) :
    SeqStopsK F n Try.prog 133 #[.pointer (some ⟨b1, 0, none⟩), .pointer (some ⟨b2, 0, none⟩)] (fun x : Nat × Nat => #[Value.int .u64 (x.1 % 18446744073709551616 : Nat), .int .u64 (x.2 % 18446744073709551616 : Nat)]) (KX W0.heap.size b1 b2) (fun ys => ys = (exS v q m).1) (fun pre => pre <+: (exS v q m).1) (exS v q m).1.length W1 := fun l J Jx W hW _ _ hY h0 =>
  exc1_in F n h6 hro hn l b1 b2 a m cap q v hm hq hv W0 hrow W1 hW1 c1 c2 J Jx hY W ⟨hW.mono hW1.size, hW.block b1 c1.lt, hW.block b2 c2.lt⟩ h0
end Go.Proofs.Ythonjffojaljdaa
