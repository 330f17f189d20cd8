/-
  HYBRID: hybrid.runs and what it tells, as an iterator. Conditions: at most 1024 numbers, which are a row of their own.
-/
import Derived.Test.YthonjffojaljdaaHybM4
import Derived.RangeFuncBox
import Derived.RangeFuncCalls
import Derived.RangeFuncLeaves
import Derived.Shelf.Abstract
import Derived.OwnWalkIn
import Derived.TacticsInMore
import Derived.LoopNIn
import Derived.LoopIn
import Derived.Deep.DeepMust
namespace Go.Proofs.Ythonjffojaljdaa
open Go.RowKit Go.Shelf
set_option linter.unusedVariables false
theorem wide_fn (f : FuncId) : Fence.wide.fn f = True := rfl
attribute [local go_sem] Oper.semAt_some wide_fn
/-- What a round may do: whatever cells of these types lay lie as they lay. -/
def KT (A B : World) : Prop := A.heap.size ≤ B.heap.size ∧ ∀ (i : Nat) cs t fr, A.heap[i]? = some (.cells cs t fr) → (t = 83 ∨ t = 58 ∨ t = 40) → B.heap[i]? = some (.cells cs t fr)
theorem KT.refl (A : World) : KT A A := ⟨Nat.le_refl _, fun _ _ _ _ h _ => h⟩
theorem KT.trans {A B C : World} (h : KT A B) (k : KT B C) : KT A C := ⟨Nat.le_trans h.1 k.1, fun i cs t fr h1 h2 => k.2 i cs t fr (h.2 i cs t fr h1 h2) h2⟩
theorem KT.below {A B : World} (h : Below A.heap.size A B) : KT A B := ⟨h.size, fun i cs t fr h1 _ => (h.block i (Array.getElem?_eq_some_iff.1 h1).1).trans h1⟩
theorem KT.boxed {A B : World} {b : Nat} {v : Value} (h : KT A B) (hb : Boxed A b 58 v) : Boxed B b 58 v := h.2 _ _ _ _ hb (.inr (.inl rfl))
theorem KT.lies {A B : World} {b : Nat} {cs : Array Value} (h : KT A B) (hb : Lies A b 83 cs) : Lies B b 83 cs := h.2 _ _ _ _ hb (.inl rfl)
theorem KT.put {A : World} {l : Nat} {o o' : Obj} (hl : A.heap[l]? = some o) (hc : o.isCells = false) : KT A (A.putObj l o') :=
  ⟨(grownBy_putObj' A l o').size, fun i cs t fr h1 _ => ((grownBy_putObj' A l o').block i (Array.getElem?_eq_some_iff.1 h1).1 (by
    intro e
    have : i = l := by simpa using e
    subst this
    rw [hl] at h1; cases h1; cases hc)).trans h1⟩
/-- A block's row, in whatever world the block lies as it lay. -/
theorem row_block {A B : World} {g n : Nat} {f : Nat → Value} (h : RowOf A (some ⟨g, 0, none⟩) n f) (hb : B.heap[g]? = A.heap[g]?) : RowOf B (some ⟨g, 0, none⟩) n f := by
  rcases h with h | ⟨b, off, he, hc⟩
  · exact .inl h
  · cases he
    exact .inr ⟨g, 0, rfl, fun i hi => (World.cell?_of_block hb).trans (hc i hi)⟩
theorem row_from {A : World} {g n : Nat} {z : Nat → Nat} (h : RowOf A (some ⟨g, 0, none⟩) n (fun i => .int .u64 (z i : Nat))) (p : Nat) (hp : p < n) : RowOf A (some ⟨g, p, none⟩) (n - p) (fun i => .int .u64 ((fun j => z (p + j)) i : Nat)) := by
  obtain ⟨b', o', he, _, hc⟩ := h.at_ hp
  cases he
  exact .inr ⟨g, p, rfl, fun i hi => by have := hc (p + i) (by omega); rwa [Nat.zero_add] at this⟩
/-- A slice's length. -/
def lenV : Value → Nat
  | .slice _ m _ => m
  | _ => 0
/-- A run's value. -/
def rv (g cap : Nat) (x : Bool × Nat × Nat) : Value := .agg #[.bool x.1, .slice (some ⟨g, x.2.1, none⟩) x.2.2 (cap - x.2.1)]
set_option maxRecDepth 100000 in
set_option maxHeartbeats 1000000 in
theorem runs1_in (n' : Nat) (hn : 1 ≤ n') (l b1 g n cap : Nat) (cur : Array Value) (fr : Nat × Nat) (z : Nat → Nat) (hm : n ≤ 1024) (hnc : n ≤ cap) (W1 : World) (c1 : Boxed W1 b1 58 (.slice (some ⟨g, 0, none⟩) n cap))
    (hz : W1.heap[g]? = some (.cells cur 40 fr)) (hrow : RowOf W1 (some ⟨g, 0, none⟩) n (fun i => .int .u64 (z i : Nat))) (J Jx : List (Bool × Nat × Nat) → World → Prop)
    (hJ : ∀ pre W W', J pre W → Below W.heap.size W W' → J pre W')
    (hY : ∀ pre x W, J pre W → pre.length < (runsN z n).length → YieldAt Fence.wide (n' - 1) Try.prog l #[rv g cap (clr z n x)] W fun e W' =>
      (e = .returned (.bool true) ∧ J (pre ++ [x]) W' ∧ KT W W') ∨ (e = .returned (.bool false) ∧ Jx (pre ++ [x]) W'))
    (W : World) (hW : KT W1 W) (h0 : J [] W) :
    CallsIn Fence.wide n' Try.prog 95 #[.func (.yield l) #[] #[], .pointer (some ⟨b1, 0, none⟩)] W fun e W' => (∃ r, e = .returned r) ∧
      ((∃ ys, ys = runsN z n ∧ J ys W') ∨ (∃ pre, pre <+: runsN z n ∧ Jx pre W')) := by
  have d1 := (hW.boxed c1).cell
  have HR := Lib.hid (fun V (h : KT W1 V) => row_block hrow ((h.2 _ _ _ _ hz (.inr (.inr rfl))).trans hz.symm))
  have HRN := Lib.hid (show runsN z n = runsF z n 0 n from rfl)
  clear hrow c1
  refine callsIn_of_wp Try.func95 rfl trivial ?_ rfl
  simp only [Try.ntmps95, List.size_toArray, List.length_cons, List.length_nil, Nat.reduceAdd, Nat.reduceSub, Array.replicate_succ, Array.replicate_zero, List.push_toArray, List.append_toArray, List.nil_append, List.cons_append]
  gi_wp2
  gi_loopw [3] (fun rp wr => ∃ p o' m' c' fu pre, p ≤ n ∧ (p < n → p = o') ∧ m' = n - p ∧ c' = cap - p ∧ n ≤ p + fu ∧ pre ++ runsF z n p fu = runsN z n ∧ rp = .slice (some ⟨g, o', none⟩) m' c' ∧ J pre wr ∧ KT W1 wr) (fun rp _ => lenV rp)
  case atStart => exact ⟨0, 0, n, cap, n, [], by omega, fun _ => rfl, by omega, by omega, by omega, HRN.out.symm, rfl, h0, hW⟩
  case round =>
    obtain ⟨p, o', m', c', fu, pre, hp, ho, hm', hc', hfu, hpre, rfl, hJp, hk⟩ := hrel
    clear d1
    by_cases hpn : p < n
    · obtain rfl := ho hpn
      have g1 : (0 : Int) < m' := by omega
      have FI := Lib.hid (first_any g p m' c' (fun j => z (p + j)) (by omega) (by omega) (by omega) wr (by rw [hm']; exact row_from (HR.out wr hk) p hpn))
      obtain ⟨fu', rfl⟩ : ∃ fu', fu = fu' + 1 := ⟨fu - 1, by omega⟩
      have hle := fst1_le (fun j => z (p + j)) (n - p) (by omega)
      have hru : runsF z n p (fu' + 1) = ((fst1 (fun i => z (p + i)) (n - p)).1, p, (fst1 (fun i => z (p + i)) (n - p)).2) :: runsF z n (p + (fst1 (fun i => z (p + i)) (n - p)).2) fu' := if_pos hpn
      rw [hru] at hpre
      rw [← hm'] at hpre hle
      have HPRE := Lib.hid hpre
      have HM := Lib.hid hm'
      have HC := Lib.hid hc'
      clear hru hpre hm' hc'
      generalize fst1 (fun j => z (p + j)) m' = s at *
      gi_wp2_with (gi_at_call 96; refine (callsIn_wide.2 FI.out).mono ?_; rintro e w2 ⟨rfl, hb⟩; have HB2 := Lib.hid hb; clear hb)
      have hl4 := Lies.new w2 83 #[.bool s.1, .slice (some ⟨g, p, none⟩) s.2 c']
      have hb4 : Below wr.heap.size wr (w2.alloc (.cells #[.bool s.1, .slice (some ⟨g, p, none⟩) s.2 c'] 83)) := HB2.out.alloc HB2.out.size _
      have hk4 := hk.trans (KT.below hb4)
      have hYk := hY pre (s.1, p, s.2) _ (hJ pre _ _ hJp hb4) (by rw [← HPRE.out]; simp)
      rw [show rv g cap (clr z n (s.1, p, s.2)) = .agg #[.bool s.1, .slice (some ⟨g, p, none⟩) s.2 c'] from by rw [clr_eq z n _ (by rw [← HPRE.out]; simp)]; unfold rv; rw [HC.out]] at hYk
      generalize w2.alloc (.cells #[.bool s.1, .slice (some ⟨g, p, none⟩) s.2 c'] 83) = w4 at *
      obtain ⟨hle1, hle2⟩ := hle
      have k1 : (0 : Int) ≤ (s.2 : Nat) := by omega
      have k2 : ((s.2 : Nat) : Int) ≤ m' := by omega
      have k3 : (m' : Int) ≤ c' := by have := HM.out; have := HC.out; omega
      obtain ⟨fn, tmps, assign, body, hy, hR⟩ := hYk
      rw [hy]
      gi_wp2
      refine hR.mono ?_
      rintro e W3 (⟨rfl, hJ3, hk3⟩ | ⟨rfl, hJx3⟩)
      · have hl3 := hk3.lies hl4
        have q0 := hl3.cell 0
        have q1 := hl3.cell 1
        clear hy hR
        gi_wp2
        go_roundw
        case rel =>
          refine ⟨p + s.2, if c' = s.2 then p else p + s.2, m' - s.2, c' - s.2, fu', pre ++ [(s.1, p, s.2)], by have := HM.out; omega, fun h => ?_, by have := HM.out; omega, by have := HC.out; omega, by omega, by rw [← HPRE.out]; simp, ?_, hJ3, hk4.trans hk3⟩
          · rw [if_neg (by have := HM.out; have := HC.out; omega)]
          · by_cases e : c' = s.2
            · rw [if_pos e, if_pos e]
            · rw [if_neg e, if_neg e]
        case measure => show m' - s.2 < m'; omega
      · gi_wp2
        refine bodyPost_ret (results_none rfl _ _ _) rfl ?_
        refine ⟨⟨_, rfl⟩, .inr ⟨_, ?_, hJx3⟩⟩
        exact ⟨runsF z n (p + s.2) fu', by rw [← HPRE.out]; simp⟩
    · have hpe : p = n := by omega
      have g1 : ¬ (0 : Int) < m' := by omega
      rw [hpe, runsF_end z n fu n (Nat.le_refl _), List.append_nil] at hpre
      have HPRE := Lib.hid hpre
      clear hm' hc' hpre hpe ho
      gi_wp2
      go_end0
      rw [HPRE.out] at hJp
      exact ⟨⟨_, rfl⟩, .inl hJp⟩
theorem runs_in (n : Nat) (a : Option Addr) (m cap : Nat) (w : World) :
    CallsIn Fence.wide n Try.prog 52 #[.slice a m cap] w fun e w' => e = .returned (.func (.func 95) #[] #[.pointer (some ⟨w.heap.size, 0, none⟩)]) ∧ w' = w.alloc (.cells #[.slice a m cap] 58) := by
  refine callsIn_of_wp Try.func52 rfl trivial ?_ rfl
  simp only [Try.ntmps52, List.size_toArray, List.length_cons, List.length_nil, Nat.reduceAdd, Nat.reduceSub, Array.replicate_succ, Array.replicate_zero, List.push_toArray, List.append_toArray, List.nil_append, List.cons_append]
  gi_wp2
  go_ret
  exact ⟨rfl, rfl⟩
theorem runs_stops (n' : Nat) (hn : 1 ≤ n') (b1 g n cap : Nat) (cur : Array Value) (fr : Nat × Nat) (z : Nat → Nat) (hm : n ≤ 1024) (hnc : n ≤ cap) (W1 : World) (c1 : Boxed W1 b1 58 (.slice (some ⟨g, 0, none⟩) n cap))
    (hz : W1.heap[g]? = some (.cells cur 40 fr)) (hrow : RowOf W1 (some ⟨g, 0, none⟩) n (fun i => .int .u64 (z i : Nat))) :
    SeqStopsK Fence.wide n' Try.prog 95 #[.pointer (some ⟨b1, 0, none⟩)] (fun x : Bool × Nat × Nat => #[rv g cap (clr z n x)]) KT (fun ys => ys = runsN z n) (fun pre => pre <+: runsN z n) (runsN z n).length W1 := fun l J Jx W hW hJ _ hY h0 =>
  runs1_in n' hn l b1 g n cap cur fr z hm hnc W1 c1 hz hrow J Jx (fun pre A B h hb => hJ pre A B none h ⟨hb.os, hb.tape, hb.output, hb.size, fun i hi _ => hb.block i hi⟩ (fun r e => by cases e)) hY W (KT.below hW) h0
end Go.Proofs.Ythonjffojaljdaa
