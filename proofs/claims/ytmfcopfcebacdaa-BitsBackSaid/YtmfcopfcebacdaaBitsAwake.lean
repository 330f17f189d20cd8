/-
  CONTRACT OF corduroylaw01.awake, in any world: it returns true and turns nothing that lay. No condition.
-/
import Derived.Test.YtmfcopfcebacdaaBitsRefC
namespace Go.Proofs.Ytmfcopfcebacdaa
open Go.RowKit
set_option linter.unusedVariables false
theorem RowOf.lit (w : World) (cs : Array Value) (t : TypeId) (f : Nat → Value) (n : Nat) (hn : cs.size = n) (hf : ∀ i, i < n → cs[i]? = some (f i)) : RowOf (w.alloc (.cells cs t)) (some ⟨w.heap.size, 0, none⟩) n f :=
  .inr ⟨_, 0, rfl, fun i hi => by rw [Nat.zero_add, (Lies.new w t cs).cell i]; exact hf i hi⟩
theorem pack_ok (k : Nat) (hk : k ≤ 64) (a : Option Addr) (len cap : Nat) (l : Nat → Nat) (hl : len ≤ 1024) (h1 : ∀ i, i < len → l i < 2 ^ k) (w : World) (h : U64s w a len l) :
    Calls Try.prog 28 #[.int .i64 k, .slice a len cap] w fun e w' => ∃ v, e = .returned (.tuple #[v, .int .i64 0]) ∧ w'.ownsRow w.heap.size 5 1 v (need len k) (cellsOf (bytesOf (need len k) (packN k l len))) ∧ Below w.heap.size w w' :=
  (pack_any k hk a len cap l len hl (Nat.le_refl _) h1 (fun h => absurd h (by omega)) w h).mono fun e w' he => by
    unfold PackEnd at he; rw [if_neg (by omega)] at he; exact he
theorem pack_no (k : Nat) (hk : k ≤ 64) (a : Option Addr) (len cap : Nat) (l : Nat → Nat) (f : Nat) (hl : len ≤ 1024) (hf : f < len) (h1 : ∀ i, i < f → l i < 2 ^ k) (h2 : ¬ l f < 2 ^ k) (w : World) (h : U64s w a len l) :
    Calls Try.prog 28 #[.int .i64 k, .slice a len cap] w fun e w' => e = .returned (.tuple #[.slice none 0 0, .int .i64 4]) ∧ Below w.heap.size w w' :=
  (pack_any k hk a len cap l f hl (by omega) h1 (fun _ => h2) w h).mono fun e w' he => by
    unfold PackEnd at he; rw [if_pos hf] at he; exact he
set_option maxRecDepth 100000 in
set_option maxHeartbeats 1000000 in
theorem awake_any (w : World) :
    Calls Try.prog 23 #[] w fun e w' => e = .returned (.bool true) ∧ Below w.heap.size w w' := by
  have P1 := fun W : World => pack_ok 3 (by decide) (some ⟨W.heap.size, 0, none⟩) 3 3 (fun i => [5, 2, 7].getD i 0) (by decide) (by intro i hi; match i, hi with | 0, _ => decide | 1, _ => decide | 2, _ => decide) (W.alloc (.cells #[.int .u64 5, .int .u64 2, .int .u64 7] 29))
    ⟨RowOf.lit W _ _ _ 3 rfl (by intro i hi; match i, hi with | 0, _ => rfl | 1, _ => rfl | 2, _ => rfl), by intro i hi; match i, hi with | 0, _ => decide | 1, _ => decide | 2, _ => decide⟩
  have P2 := fun W : World => pack_ok 0 (by decide) (some ⟨W.heap.size, 0, none⟩) 5 5 (fun _ => 0) (by decide) (by intro i hi; decide) (W.alloc (.cells #[.int .u64 0, .int .u64 0, .int .u64 0, .int .u64 0, .int .u64 0] 29))
    ⟨RowOf.lit W _ _ _ 5 rfl (by intro i hi; match i, hi with | 0, _ => rfl | 1, _ => rfl | 2, _ => rfl | 3, _ => rfl | 4, _ => rfl), fun i hi => by show 0 < _; decide⟩
  have e1 : bytesOf (need 3 3) (packN 3 (fun i => [5, 2, 7].getD i 0) 3) = [213, 1] := by decide
  have e2 : need 5 0 = 0 := by decide
  have e3 : need 3 3 = 2 := by decide
  rw [show ((3 : Nat) : Int) = 3 from rfl] at P1
  rw [show ((0 : Nat) : Int) = 0 from rfl] at P2
  rw [e1, e3] at P1
  rw [e2] at P2
  have P1 := Lib.hid P1
  have P2 := Lib.hid P2
  have kl : ∀ W : World, (convert 34 9 (.slice (some ⟨W.heap.size, 0, none⟩) 2 2)).run Try.prog (W.alloc (.cells #[.int .u8 213, .int .u8 1] 5)) = .ok (.string (strOfNums [213, 1])) (W.alloc (.cells #[.int .u8 213, .int .u8 1] 5)) := fun W =>
    conv_list _ 2 2 [213, 1] rfl _ (RowOf.lit W _ _ _ 2 rfl (by intro i hi; match i, hi with | 0, _ => rfl | 1, _ => rfl))
  clear e1 e2 e3
  go_enter Try.func23, Try.ntmps23
  go_wp2_with fail
  refine (P1.out _).mono ?_
  rintro e w1 ⟨v1, rfl, ho1, hb1⟩
  obtain ⟨a1, c1, rfl, hr1, hx1, _, _⟩ := own_reads ho1
  have HR1 := Lib.hid hr1
  have HB1 := Lib.hid hb1
  clear ho1 hr1 hb1 hx1
  go_wp2_with fail
  refine (P2.out _).mono ?_
  rintro e w2 ⟨v2, rfl, ho2, hb2⟩
  obtain ⟨a2, c2, rfl, _, _, _, _⟩ := own_reads ho2
  have HB2 := Lib.hid hb2
  clear ho2 hb2
  have k1 := conv_list a1 2 c1 [213, 1] rfl w2 ((HR1.out.below ((Below.refl w1.heap.size w1).alloc (Nat.le_refl _) _ |>.trans (HB2.out.mono (by simp)))).congr fun i hi => by
    match i, hi with | 0, _ => rfl | 1, _ => rfl)
  go_wp2
  go_ret
  refine ⟨rfl, ?_⟩
  have t1 : Below w.heap.size w w1 := ((Below.refl _ w).alloc (Nat.le_refl _) _).trans (HB1.out.mono (by simp))
  have t2 : Below w.heap.size w w2 := (t1.alloc t1.size _).trans (HB2.out.mono (by have := t1.size; simp; omega))
  exact t2.alloc t2.size _
end Go.Proofs.Ytmfcopfcebacdaa
