/-
  CONTRACTS OF Simple's Takes, and of simple.parts, as an iterator, in any world where the table of shapes lies. Conditions: at most 1024 numbers.
-/
import Derived.Test.YtelcaejiipibpaaDoorSimpleA
import Derived.Test.YtelcaejiipibpaaDoorZigs
import Derived.RangeFuncBox
import Derived.RangeFuncCalls
import Derived.RangeFuncLeaves
import Derived.Shelf.Abstract
import Derived.OwnWalkIn
import Derived.TacticsInMore
import Derived.LoopNIn
import Derived.LoopIn
namespace Go.Proofs.YtelcaejiipibpaaDoor
open Go.RowKit Go.Shelf
set_option linter.unusedVariables false
/-- Are all zigzags below 2^60? -/
def sOk (x : Nat → Int) (n : Nat) : Bool := (List.range n).all fun i => decide (hz x i < 2 ^ 60)
theorem sOk_iff (x : Nat → Int) (n : Nat) : sOk x n = true ↔ ∀ i, i < n → hz x i < 2 ^ 60 := by
  simp [sOk, List.all_eq_true]
theorem holds60 (v : Nat) : sHolds 60 v = decide (v < 2 ^ 60) := rfl
set_option maxRecDepth 100000 in
theorem stakes_any (a : Option Addr) (n cap : Nat) (x : Nat → Int) (hx : ∀ i, i < n → -9223372036854775808 ≤ x i ∧ x i ≤ 9223372036854775807) (w : World) (h : RowOf w a n (fun i => .int .i64 (x i))) :
    Calls Tryd.prog 18 #[.agg #[], .slice a n cap] w fun e w' => e = .returned (.bool (blk n && sOk x n)) ∧ Below w.heap.size w w' := by
  have HB := Lib.hid ((Below.refl w.heap.size w).alloc (Nat.le_refl _) (.cells #[] 25))
  have BK := block_any n
  cases hb : blk n
  · rw [hb] at BK
    have BK := Lib.hid BK
    rw [Bool.false_and]
    clear hb
    go_enter Tryd.func18, Tryd.ntmps18
    go_wp2_with (go_at_call 39; refine (BK.out _).mono ?_; rintro e w1 ⟨rfl, rfl⟩)
    go_ret
    exact ⟨rfl, HB.out⟩
  · rw [hb] at BK
    have BK := Lib.hid BK
    have hn : 1 ≤ n ∧ n ≤ 1024 := by have := of_decide_eq_true hb; omega
    rw [Bool.true_and]
    have ZI := Lib.hid (fun (W : World) (hW : Below w.heap.size w W) => zigs_any a n cap x hn.2 hx W (h.below hW))
    have HI := Lib.hid (sOk_iff x n)
    have HH := Lib.hid (fun v (hv : v < 18446744073709551616) W => sholds_any 60 v (by omega) hv W)
    have HZL := Lib.hid (show ∀ i, i < n → hz x i < 18446744073709551616 from fun i hi => hz_lt x i (hx i hi))
    clear hb h hx
    obtain ⟨B, hB⟩ : ∃ B, sOk x n = B := ⟨_, rfl⟩
    rw [hB] at HI ⊢
    clear hB
    generalize hz x = z at *
    go_enter Tryd.func18, Tryd.ntmps18
    go_wp2_with (first
      | (go_at_call 39; refine (BK.out _).mono ?_; rintro e w1 ⟨rfl, rfl⟩)
      | (go_at_call 36; refine (ZI.out _ HB.out).mono ?_; rintro e w2 ⟨rfl, ho, hb⟩; have HO2 := Lib.hid ho; have HB2 := Lib.hid (HB.out.trans (hb.mono HB.out.size)); clear ho hb))
    have HR := own_reads' HO2.out
    obtain ⟨a5, c5, he, hr5, _⟩ := HR
    injection he with e1 e2 e3
    subst e1
    rw [World.size_alloc] at hr5
    have HR := Lib.hid hr5
    clear hr5 e2 e3
    go_loop [14] (fun y => ∃ i : Nat, i ≤ n ∧ y = .int .i64 i ∧ ∀ j, j < i → z j < 2 ^ 60) (fun y => n - (intOf y).toNat)
    case atStart => exact ⟨0, Nat.zero_le _, rfl, fun j hj => absurd hj (Nat.not_lt_zero _)⟩
    case round =>
      obtain ⟨i, hin, rfl, hu⟩ := hrel
      have HU := Lib.hid hu
      clear hu
      by_cases hil : i < n
      · have j1 : (i : Int) < n := by omega
        have j0 : (0 : Int) ≤ i := by omega
        obtain ⟨b, off, he, hblt, hcl⟩ := HR.out.at_ hil
        cases he
        have d0 := hcl i hil
        rw [Nat.zero_add] at d0
        have HH2 := HH.out (z i) (HZL.out i hil)
        rw [holds60] at HH2
        rw [show ((60 : Nat) : Int) = 60 from rfl] at HH2
        obtain ⟨v, hv⟩ : ∃ v, z i = v := ⟨_, rfl⟩
        have HV := Lib.hid hv
        rw [hv] at d0 HH2
        clear hv hcl
        by_cases hv6 : v < 2 ^ 60
        · rw [decide_eq_true hv6] at HH2
          have HH2 := Lib.hid HH2
          have HV6 := Lib.hid hv6
          clear hv6
          go_wp2_with (go_at_call 40; refine (HH2.out _).mono ?_; rintro e w1 ⟨rfl, rfl⟩)
          go_round
          case rel => exact ⟨i + 1, by omega, by go_num, fun j hj => by
            rcases Nat.lt_or_ge j i with h1 | h1
            · exact HU.out j h1
            · obtain rfl : j = i := by omega
              rw [HV.out]; exact HV6.out⟩
          case measure => simp [intOf]; omega
        · rw [decide_eq_false hv6] at HH2
          have HH2 := Lib.hid HH2
          obtain rfl : B = false := by
            cases B
            · rfl
            · have := HI.out.1 rfl i hil
              rw [HV.out] at this; exact absurd this hv6
          clear hv6 HI
          go_wp2_with (go_at_call 40; refine (HH2.out _).mono ?_; rintro e w1 ⟨rfl, rfl⟩)
          go_ret
          exact ⟨rfl, HB2.out⟩
      · obtain rfl : i = n := by omega
        have j1 : ¬ (i : Int) < i := by omega
        obtain rfl : B = true := HI.out.2 HU.out
        clear HI
        go_wp2
        go_ret
        exact ⟨rfl, HB2.out⟩
theorem wide_fns (f : FuncId) : Fence.wide.fn f = True := rfl
attribute [local go_sem] Oper.semAt_some wide_fns
/-- What a round may do: whatever cells of these types lay lie as they lay; and the table of shapes. -/
def KS (A B : World) : Prop := A.heap.size ≤ B.heap.size ∧ (∀ (i : Nat) cs t fr, A.heap[i]? = some (.cells cs t fr) → (t = 57 ∨ t = 48) → B.heap[i]? = some (.cells cs t fr)) ∧ B.heap[0]? = A.heap[0]?
theorem KS.refl (A : World) : KS A A := ⟨Nat.le_refl _, fun _ _ _ _ h _ => h, rfl⟩
theorem KS.trans {A B C : World} (h : KS A B) (k : KS B C) : KS A C := ⟨Nat.le_trans h.1 k.1, fun i cs t fr h1 h2 => k.2.1 i cs t fr (h.2.1 i cs t fr h1 h2) h2, k.2.2.trans h.2.2⟩
theorem KS.below {A B : World} (h : Below A.heap.size A B) (hg : 0 < A.heap.size) : KS A B := ⟨h.size, fun i cs t fr h1 _ => (h.block i (Array.getElem?_eq_some_iff.1 h1).1).trans h1, h.block _ hg⟩
theorem KS.boxed {A B : World} {b : Nat} {v : Value} (h : KS A B) (hb : Boxed A b 57 v) : Boxed B b 57 v := h.2.1 _ _ _ _ hb (.inl rfl)
theorem KS.table {A B : World} (h : KS A B) (hs : SW A) : SW B := fun s hs' => ⟨(World.cell?_of_block h.2.2).trans (hs s hs').1, (World.cell?_of_block h.2.2).trans (hs s hs').2⟩
theorem KS.put {A : World} {l : Nat} {o o' : Obj} (hl : A.heap[l]? = some o) (hc : o.isCells = false) (hg : 0 ≠ l) : KS A (A.putObj l o') :=
  ⟨(grownBy_putObj' A l o').size, fun i cs t fr h1 _ => ((grownBy_putObj' A l o').block i (Array.getElem?_eq_some_iff.1 h1).1 (by
    intro e
    have : i = l := by simpa using e
    subst this
    rw [hl] at h1; cases h1; cases hc)).trans h1, World.putObj_heap_other hg⟩
theorem row_blocks {A B : World} {g n : Nat} {f : Nat → Value} (h : RowOf A (some ⟨g, 0, none⟩) n f) (hb : B.heap[g]? = A.heap[g]?) : RowOf B (some ⟨g, 0, none⟩) n f := by
  rcases h with h | ⟨b, off, he, hc⟩
  · exact .inl h
  · cases he
    exact .inr ⟨g, 0, rfl, fun i hi => (World.cell?_of_block hb).trans (hc i hi)⟩
theorem row_froms {A : World} {g n : Nat} {z : Nat → Nat} (h : RowOf A (some ⟨g, 0, none⟩) n (fun i => .int .u64 (z i : Nat))) (p : Nat) (hp : p < n) : RowOf A (some ⟨g, p, none⟩) (n - p) (fun i => .int .u64 ((fun j => z (p + j)) i : Nat)) := by
  obtain ⟨b', o', he, _, hc⟩ := h.at_ hp
  cases he
  exact .inr ⟨g, p, rfl, fun i hi => by have := hc (p + i) (by omega); rwa [Nat.zero_add] at this⟩
/-- A slice's length. -/
def lenVs : Value → Nat
  | .slice _ m _ => m
  | _ => 0
/-- A word's place among P: whatever is none is taken for the first one. -/
def ck (P k : Nat) : Nat := if k < P then k else 0
/-- What is told of a word: its selector, its numbers. -/
def wv (z : Nat → Nat) (n g cap k : Nat) : Array Value := #[.int .i64 (sOf z n k : Nat), .slice (some ⟨g, sAt z n k, none⟩) (sMany (sOf z n k)) (cap - sAt z n k)]
set_option maxRecDepth 100000 in
set_option maxHeartbeats 1000000 in
theorem parts1_in (n' : Nat) (hn : 1 ≤ n') (l b1 g n cap P : Nat) (cur : Array Value) (fr : Nat × Nat) (z : Nat → Nat) (hm : n ≤ 1024) (hnc : n ≤ cap) (hcm : cap ≤ maxLen) (hz : ∀ i, i < n → z i < 2 ^ 60) (hP : sAt z n P = n) (hPl : ∀ k, k < P → sAt z n k < n)
    (W1 : World) (hT : SW W1) (c1 : Boxed W1 b1 57 (.slice (some ⟨g, 0, none⟩) n cap))
    (hzc : W1.heap[g]? = some (.cells cur 48 fr)) (hrow : RowOf W1 (some ⟨g, 0, none⟩) n (fun i => .int .u64 (z i : Nat))) (J Jx : List Nat → World → Prop)
    (hJ : ∀ pre W W', J pre W → Below W.heap.size W W' → J pre W')
    (hY : ∀ pre x W, J pre W → pre.length < P → YieldAt Fence.wide (n' - 1) Tryd.prog l (wv z n g cap (ck P x)) W fun e W' =>
      (e = .returned (.bool true) ∧ J (pre ++ [x]) W' ∧ KS W W') ∨ (e = .returned (.bool false) ∧ Jx (pre ++ [x]) W'))
    (W : World) (hW : KS W1 W) (h0 : J [] W) :
    CallsIn Fence.wide n' Tryd.prog 50 #[.func (.yield l) #[] #[], .pointer (some ⟨b1, 0, none⟩)] W fun e W' => (∃ r, e = .returned r) ∧
      ((∃ ys, ys = List.range P ∧ J ys W') ∨ (∃ pre, pre <+: List.range P ∧ Jx pre W')) := by
  have d1 := (hW.boxed c1).cell
  have HR := Lib.hid (fun V (h : KS W1 V) => row_blocks hrow ((h.2.1 _ _ _ _ hzc (.inr rfl)).trans hzc.symm))
  have HT := Lib.hid (fun V (h : KS W1 V) => h.table hT)
  have HZ := Lib.hid hz
  have HPL := Lib.hid hPl
  have HPN := Lib.hid hP
  clear hrow c1 hz hPl hP
  refine callsIn_of_wp Tryd.func50 rfl trivial ?_ rfl
  simp only [Tryd.ntmps50, List.size_toArray, List.length_cons, List.length_nil, Nat.reduceAdd, Nat.reduceSub, Array.replicate_succ, Array.replicate_zero, List.push_toArray, List.append_toArray, List.nil_append, List.cons_append]
  gi_wp2
  gi_loopw [3] (fun rp wr => ∃ k o' m' c', k ≤ P ∧ (k < P → sAt z n k = o') ∧ m' = n - sAt z n k ∧ c' = cap - sAt z n k ∧ rp = .slice (some ⟨g, o', none⟩) m' c' ∧ J (List.range k) wr ∧ KS W1 wr) (fun rp _ => lenVs rp)
  case atStart => exact ⟨0, 0, n, cap, Nat.zero_le _, fun _ => rfl, rfl, rfl, rfl, h0, hW⟩
  case round =>
    obtain ⟨k, o', m', c', hkP, ho, hm', hc', rfl, hJp, hk⟩ := hrel
    clear d1
    by_cases hpn : k < P
    · have ho := ho hpn
      have hlt := HPL.out k hpn
      obtain ⟨s1, s2, s3, s4, s5⟩ := sOf_spec HZ.out hlt
      have hst := s_table (sOf z n k) (by omega)
      have g1 : (0 : Int) < m' := by omega
      have CH := schoose_any m' c' (some ⟨g, o', none⟩) (fun j => z (o' + j)) (by omega) (by omega) (by omega) (by omega) (fun i hi => HZ.out _ (by omega)) wr (by rw [hm', ← ho]; exact row_froms (HR.out wr hk) _ hlt) (HT.out wr hk)
      have hsel : sSel (fun j => z (o' + j)) m' = sOf z n k := by unfold sOf; rw [hm', ho]
      rw [hsel] at CH
      have CH := Lib.hid CH
      have hat := sAt_succ hlt
      have hYk := hY (List.range k) k wr hJp (by simpa using hpn)
      rw [show ck P k = k from if_pos hpn] at hYk
      unfold wv at hYk
      obtain ⟨q0, _⟩ := HT.out wr hk (sOf z n k) (by omega)
      rw [ho] at hYk hat hm' hc' s2 hlt
      rw [← hc'] at hYk
      have HAT := Lib.hid hat
      have HM := Lib.hid hm'
      have HC := Lib.hid hc'
      have HO := Lib.hid ho
      clear hm' hc' hat s4 s5 ho hsel
      generalize sMany (sOf z n k) = cnt at *
      generalize sOf z n k = sel at *
      have k1 : (0 : Int) ≤ cnt := by omega
      have k2 : (cnt : Int) ≤ m' := by have := HM.out; omega
      have k3 : (m' : Int) ≤ c' := by have := HM.out; have := HC.out; omega
      have k4 : (0 : Int) ≤ sel := by omega
      have k5 : (sel : Int) < 16 := by omega
      have k6 : (cnt : Int) ≤ c' := by omega
      obtain ⟨fn, tmps, assign, body, hy, hR⟩ := hYk
      gi_wp2_with (gi_at_call 51; refine (callsIn_wide.2 CH.out).mono ?_; rintro e w2 ⟨rfl, rfl⟩)
      refine hR.mono ?_
      rintro e W3 (⟨rfl, hJ3, hk3⟩ | ⟨rfl, hJx3⟩)
      · clear hy hR
        gi_wp2
        go_roundw
        case rel =>
          refine ⟨k + 1, if c' = cnt then o' else o' + cnt, m' - cnt, c' - cnt, hpn, fun h => ?_, ?_, ?_, ?_, by rw [List.range_succ]; exact hJ3, hk.trans hk3⟩
          · have hl := HPL.out (k + 1) h
            rw [HAT.out] at hl ⊢
            rw [if_neg (by have := HM.out; have := HC.out; omega)]
          · rw [HAT.out]; have := HM.out; omega
          · rw [HAT.out]; have := HC.out; omega
          · by_cases e : c' = cnt
            · rw [if_pos e, if_pos e]
            · rw [if_neg e, if_neg e]
        case measure => show m' - cnt < m'; omega
      · gi_wp2
        refine bodyPost_ret (results_none rfl _ _ _) rfl ?_
        refine ⟨⟨_, rfl⟩, .inr ⟨_, ?_, hJx3⟩⟩
        rw [← List.range_succ]
        exact ⟨(List.range (P - (k + 1))).map (fun i => k + 1 + i), by rw [show P = (k + 1) + (P - (k + 1)) by omega, Nat.add_sub_cancel_left, List.range_add]⟩
    · obtain rfl : k = P := by omega
      have hpe := HPN.out
      have g1 : ¬ (0 : Int) < m' := by omega
      clear hm' hc' hpe ho
      gi_wp2
      go_end0
      exact ⟨⟨_, rfl⟩, .inl hJp⟩
theorem parts_in (n : Nat) (a : Option Addr) (m cap : Nat) (w : World) :
    CallsIn Fence.wide n Tryd.prog 35 #[.slice a m cap] w fun e w' => e = .returned (.func (.func 50) #[] #[.pointer (some ⟨w.heap.size, 0, none⟩)]) ∧ w' = w.alloc (.cells #[.slice a m cap] 57) := by
  refine callsIn_of_wp Tryd.func35 rfl trivial ?_ rfl
  simp only [Tryd.ntmps35, List.size_toArray, List.length_cons, List.length_nil, Nat.reduceAdd, Nat.reduceSub, Array.replicate_succ, Array.replicate_zero, List.push_toArray, List.append_toArray, List.nil_append, List.cons_append]
  gi_wp2
  go_ret
  exact ⟨rfl, rfl⟩
theorem parts_stops (n' : Nat) (hn : 1 ≤ n') (b1 g n cap P : Nat) (cur : Array Value) (fr : Nat × Nat) (z : Nat → Nat) (hm : n ≤ 1024) (hnc : n ≤ cap) (hcm : cap ≤ maxLen) (hz : ∀ i, i < n → z i < 2 ^ 60) (hP : sAt z n P = n) (hPl : ∀ k, k < P → sAt z n k < n)
    (W1 : World) (hT : SW W1) (c1 : Boxed W1 b1 57 (.slice (some ⟨g, 0, none⟩) n cap)) (hzc : W1.heap[g]? = some (.cells cur 48 fr)) (hrow : RowOf W1 (some ⟨g, 0, none⟩) n (fun i => .int .u64 (z i : Nat))) :
    SeqStopsK Fence.wide n' Tryd.prog 50 #[.pointer (some ⟨b1, 0, none⟩)] (fun x : Nat => wv z n g cap (ck P x)) KS (fun ys => ys = List.range P) (fun pre => pre <+: List.range P) P W1 := fun l J Jx W hW hJ _ hY h0 =>
  parts1_in n' hn l b1 g n cap P cur fr z hm hnc hcm hz hP hPl W1 hT c1 hzc hrow J Jx (fun pre A B h hb => hJ pre A B none h ⟨hb.os, hb.tape, hb.output, hb.size, fun i hi _ => hb.block i hi⟩ (fun r e => by cases e)) hY W (KS.below hW hT.lt) h0
end Go.Proofs.YtelcaejiipibpaaDoor
