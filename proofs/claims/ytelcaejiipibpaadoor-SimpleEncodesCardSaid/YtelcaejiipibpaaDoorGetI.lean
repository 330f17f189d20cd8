/-
  CONTRACT OF trap.Get of a slice ([]int64), of whatever may be tried and answers a slice or throws, in any world. No condition.
-/
import Derived.Test.YtelcaejiipibpaaDoorTrap
import Derived.Test.YtelcaejiipibpaaDoorWords
namespace Go.Proofs.YtelcaejiipibpaaDoor
open Go.ChangeShapes Go.WideShapes Go.ChangeAt Go.RowKit
set_option linter.unusedVariables false
/-- The world in which what is tried begins: the function's box, the answer's, the error's. -/
def GetIW (fv : Value) (w : World) : World := ((w.alloc (.cells #[fv] 76)).alloc (.cells #[.slice none 0 0] 22)).alloc (.cells #[.int .i64 0] 31)
/-- How what is tried ends: with a slice, or it throws. -/
def GetsI (Q : Int → Value → World → Prop) (w : World) (e : Ending) (w1 : World) : Prop :=
  ((∃ a k c, e = .returned (.slice a k c) ∧ Q 0 (.slice a k c) w1) ∨ (∃ n, (n != 0) = true ∧ e = .panicked [{ v := .iface 94 (.agg #[.int .i64 n]), recovered := false }] ∧ Q n (.slice none 0 0) w1))
theorem GetIW_size (fv : Value) (w : World) : (GetIW fv w).heap.size = w.heap.size + 3 := by simp [GetIW]
theorem GetIW_below (fv : Value) (w : World) : Below w.heap.size w (GetIW fv w) := (((Below.refl _ w).alloc (Nat.le_refl _) _).alloc (by simp) _).alloc (by simp; omega) _
set_option maxHeartbeats 1000000 in
theorem getI_any (f : FuncId) (caps : Array Value) (Q : Int → Value → World → Prop) (S : Nat → Prop) (w : World) (he : ∀ w, (callFunc f caps).run Tryd.prog w = .ok (.enter f caps) w) (hS : ∀ i, S i → i < w.heap.size)
    (h : Calls Tryd.prog f caps (GetIW (.func (.func f) #[] caps) w) fun e w1 => GetsI Q w e w1 ∧ Turned S (GetIW (.func (.func f) #[] caps) w) w1) :
    Calls Tryd.prog 42 #[.func (.func f) #[] caps] w fun e w' => ∃ n a k c w1, e = .returned (.tuple #[.slice a k c, .int .i64 n]) ∧ Q n (.slice a k c) w1 ∧ Turned (fun i => w.heap.size ≤ i ∧ i < w.heap.size + 3) w1 w' ∧ w.heap.size + 3 ≤ w1.heap.size ∧ Turned S w w' := by
  have hmf : ∀ (fn : Fn) (first cap : Array Value) (w : World), (Instr.makeFunc fn first cap).run Tryd.prog w = .ok (.func fn first cap) w := fun _ _ _ _ => rfl
  obtain ⟨s, hs⟩ : ∃ s, w.heap.size = s := ⟨_, rfl⟩
  obtain ⟨W3, hW3⟩ : ∃ W3, GetIW (.func (.func f) #[] caps) w = W3 := ⟨_, rfl⟩
  have hsz : W3.heap.size = s + 3 := by rw [← hW3, GetIW_size, hs]
  have hb3 : Below s w W3 := by rw [← hW3, ← hs]; exact GetIW_below _ _
  obtain ⟨W2, hW2⟩ : ∃ W2, (w.alloc (.cells #[.func (.func f) #[] caps] 76)).alloc (.cells #[.slice none 0 0] 22) = W2 := ⟨_, rfl⟩
  have hs2 : W2.heap.size = s + 2 := by rw [← hW2]; simp [hs]
  have hW23 : W2.alloc (.cells #[.int .i64 0] 31) = W3 := by rw [← hW3, ← hW2]; rfl
  have l0 : Lies W3 s 76 #[.func (.func f) #[] caps] := by
    rw [← hW3, ← hs]; exact ((Lies.new w _ _).alloc _).alloc _
  have l1 : Lies W3 (s + 1) 22 #[.slice none 0 0] := by
    have := (Lies.new (w.alloc (.cells #[.func (.func f) #[] caps] 76)) 22 #[.slice none 0 0]).alloc (.cells #[.int .i64 0] 31)
    rw [← hW3, ← hs]
    simpa [GetIW] using this
  have l2 : Lies W3 (s + 2) 31 #[.int .i64 0] := by
    have := Lies.new W2 31 #[.int .i64 0]
    rwa [hW23, hs2] at this
  rw [hW3] at h
  have IN : Calls Tryd.prog 55 #[.pointer (some ⟨s, 0, none⟩), .pointer (some ⟨s + 1, 0, none⟩)] W3
      (Comes1 W2 (fun n w1' => ∃ a k c w1, Q n (.slice a k c) w1 ∧ Turned S W3 w1 ∧ Turned (· = s + 1) w1 w1' ∧ w1'.cell? ⟨s + 1, 0, none⟩ = some (.slice a k c) ∧ s + 2 < w1'.heap.size)) := by
    have L0 := l0.cell 0
    have L1 := Lib.hid l1
    have L2 := Lib.hid l2
    have H := Lib.hid h
    have HS2 := Lib.hid hs2
    have HSZ := Lib.hid hsz
    clear l0 l1 l2 h hW3 hW2 hW23 hb3 hs2 hsz
    go_enter Tryd.func55, Tryd.ntmps55
    go_wp2_with fail
    refine H.out.mono ?_
    rintro e w1 ⟨hq, ht⟩
    have k1 : Lies w1 (s + 1) 22 _ := L1.out.turned ht (fun e => by have := hS _ e; omega)
    have k2 : Lies w1 (s + 2) 31 _ := L2.out.turned ht (fun e => by have := hS _ e; omega)
    have z1 := k2.lt
    rcases hq with ⟨a, k, c, rfl, hq⟩ | ⟨n, hn, rfl, hq⟩
    · have c1 := k1.cell 0
      have f1 := k1.frozen 0
      have K1 := Lib.hid k1
      have K2 := Lib.hid k2
      have HT := Lib.hid ht
      have HQ := Lib.hid hq
      clear k1 k2 ht hq
      go_wp2
      go_end0
      refine ⟨?_, .inl ⟨rfl, a, k, c, w1, HQ.out, HT.out, (Turned.refl (· = s + 1) w1).setCell (p := ⟨s + 1, 0, none⟩) (.inl rfl) _, ?_, by simpa using z1⟩⟩
      · have k3 := K2.out.far (p := ⟨s + 1, 0, none⟩) (by show s + 2 ≠ s + 1; omega) (.slice a k c)
        refine ⟨by rw [HS2.out]; exact k3.cell 0, by rw [HS2.out]; exact k3.frozen 0, by rw [HS2.out]; exact k3.lt⟩
      · have k3 := K1.out.set_ 0 (.slice a k c)
        exact k3.cell 0
    · have HT := Lib.hid ht
      have K1 := Lib.hid k1
      have K2 := Lib.hid k2
      have HQ := Lib.hid hq
      clear k1 k2 ht hq
      go_wp2
      exact ⟨rfl, ⟨by rw [HS2.out]; exact K2.out.cell 0, by rw [HS2.out]; exact K2.out.frozen 0, by rw [HS2.out]; exact K2.out.lt⟩, .inr ⟨n, hn, rfl, _, _, _, w1, HQ.out, HT.out, Turned.refl _ _, K1.out.cell 0, z1⟩⟩
  have TR := Lib.hid (try_any 55 #[.pointer (some ⟨s, 0, none⟩), .pointer (some ⟨s + 1, 0, none⟩)] W2 _ (fun _ => by simp [go_sem]) (by rw [hW23]; exact IN))
  have HB3 := Lib.hid hb3
  have HSZ := Lib.hid hsz
  have HS2 := Lib.hid hs2
  have HSS := Lib.hid hs
  clear IN l0 l1 l2 h hW3 hW23 hb3 hsz hs2
  rw [hs] at hS
  go_enter Tryd.func42, Tryd.ntmps42
  go_wp2_with fail
  (try rw [hW2])
  refine TR.out.mono ?_
  rintro e w4 ⟨n, w1', rfl, ⟨a, k, c, w1, hq, ht, ht1, hc1, hlt⟩, ha⟩
  rw [HS2.out] at ha
  have c4 := (ha.cell (p := ⟨s + 1, 0, none⟩) (by show s + 1 < _; omega) (by show s + 1 ≠ s + 2; omega)).trans hc1
  have T1 : Turned (fun i => s ≤ i ∧ i < s + 3) w1 w4 := (ht1.mono (fun i _ e => by omega)).trans' ⟨ha.1, ha.2.1, ha.2.2.1, ha.size, fun k hk (hn : ¬ k = s + 2) => ha.block hk hn⟩ (fun i _ e => by omega)
  have T2 : Turned S w w4 := by
    refine ((Turned.of_below (S := S) HB3.out (fun i hi _ => by have := HSS.out; omega)).trans ht).trans' T1 (fun i hi e => by have := HSS.out; omega)
  have hsl : s + 3 ≤ w1.heap.size := by have := ht.size; rw [HSZ.out] at this; exact this
  have T1 := Lib.hid T1
  have T2 := Lib.hid T2
  have HQ := Lib.hid hq
  clear hq ht ht1 hc1 ha
  go_wp2
  go_ret2
  exact ⟨n, a, k, c, w1, rfl, HQ.out, by rw [HSS.out]; exact T1.out, by rw [HSS.out]; exact hsl, T2.out⟩
end Go.Proofs.YtelcaejiipibpaaDoor
