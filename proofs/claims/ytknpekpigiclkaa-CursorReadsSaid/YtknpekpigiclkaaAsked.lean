/-
  CONTRACT OF corduroylaw03.asked, in any world where the cursor lies: what is told and thrown, by askn. Conditions: at most 20000 bytes.
-/
import Derived.Test.YtknpekpigiclkaaAsk
import Derived.Test.YtknpekpigiclkaaCurAwake
namespace Go.Proofs.Ytknpekpigiclkaa
open Go.ChangeShapes Go.WideShapes Go.ChangeAt Go.RowKit
set_option linter.unusedVariables false
set_option maxHeartbeats 1000000 in
theorem asked_any (bc n : Nat) (z : Nat → Int) (at_ : Nat) (hz : ∀ i, i < n → 0 ≤ z i ∧ z i ≤ 255) (hn : n ≤ 100000) (d N : Int) (w : World) (h : CursorAt w bc n z at_) :
    Calls Try.prog 21 #[.pointer (some ⟨bc, 0, none⟩), .agg #[.int .u8 d, .int .i64 N]] w fun e w' => ∃ a c, e = .returned (.tuple #[.slice a (askn n at_ d N).1 c, .int .i64 (askn n at_ d N).2]) ∧
      RowOf w' a (askn n at_ d N).1 (fun i => .int .u8 (z (at_ + i))) ∧ (∀ p, a = some p → w.heap.size ≤ p.block ∧ p.block < w'.heap.size) ∧ CursorAt w' bc n z (at_ + (askn n at_ d N).1) ∧ Turned (· = bc) w w' := by
  have hmf : ∀ (fn : Fn) (first cap : Array Value) (w : World), (Instr.makeFunc fn first cap).run Try.prog w = .ok (.func fn first cap) w := fun _ _ _ _ => rfl
  obtain ⟨s, hs⟩ : ∃ s, w.heap.size = s := ⟨_, rfl⟩
  obtain ⟨W2, hW2⟩ : ∃ W2, (w.alloc (.cells #[.pointer (some ⟨bc, 0, none⟩)] 36)).alloc (.cells #[.int .u8 d, .int .i64 N] 44) = W2 := ⟨_, rfl⟩
  have hb2 : Below s w W2 := by rw [← hW2, ← hs]; exact ((Below.refl _ w).alloc (Nat.le_refl _) _).alloc (by simp) _
  have hsz : W2.heap.size = s + 2 := by rw [← hW2, ← hs]; simp
  have l0 : Lies W2 s 36 #[.pointer (some ⟨bc, 0, none⟩)] := by rw [← hW2, ← hs]; exact (Lies.new w _ _).alloc _
  have l1 : Lies W2 (s + 1) 44 #[.int .u8 d, .int .i64 N] := by
    have := Lies.new (w.alloc (.cells #[.pointer (some ⟨bc, 0, none⟩)] 36)) 44 #[.int .u8 d, .int .i64 N]
    rw [← hW2, ← hs]
    simpa using this
  have hbc : bc < s := by rw [← hs]; exact h.lt
  have h2 : CursorAt W2 bc n z at_ := h.below hb2 hbc
  obtain ⟨fv, hfv⟩ : ∃ fv : Value, Value.func (.func 62) #[] #[.pointer (some ⟨s + 1, 0, none⟩), .pointer (some ⟨s, 0, none⟩)] = fv := ⟨_, rfl⟩
  have hg := GetBW_below fv W2
  have hgs := GetBW_size fv W2
  have AK := askin_any (s + 1) s bc n z at_ hz hn N (GetBW fv W2) d ((hg.cell (p := ⟨s + 1, 0, none⟩) l1.lt).trans (l1.cell 0)) ((hg.cell (p := ⟨s + 1, 1, none⟩) l1.lt).trans (l1.cell 1)) ((hg.cell (p := ⟨s, 0, none⟩) l0.lt).trans (l0.cell 0)) (h2.below hg h2.lt)
  obtain ⟨k, hk⟩ : ∃ k, (askn n at_ d N).1 = k := ⟨_, rfl⟩
  obtain ⟨err, herr⟩ : ∃ err, (askn n at_ d N).2 = err := ⟨_, rfl⟩
  rw [hk, herr] at AK ⊢
  have GT := getB_any 62 #[.pointer (some ⟨s + 1, 0, none⟩), .pointer (some ⟨s, 0, none⟩)] (fun m v w1 => m = err ∧ ∃ a c, v = .slice a k c ∧ RowOf w1 a k (fun i => .int .u8 (z (at_ + i))) ∧ (∀ p, a = some p → s + 5 ≤ p.block ∧ p.block < w1.heap.size) ∧ CursorAt w1 bc n z (at_ + k)) (· = bc) W2 (fun _ => by simp [go_sem]) (fun i (e : i = bc) => by omega)
    (by
      rw [hfv]
      refine AK.mono ?_
      rintro e w1 ⟨hc, ht, hq⟩
      refine ⟨?_, ht⟩
      rcases hq with ⟨h0, a, c, rfl, hr, hp⟩ | ⟨rfl, hne, rfl⟩
      · exact .inl ⟨a, k, c, rfl, h0.symm, a, c, rfl, hr, fun p e => ⟨by have := (hp p e).1; omega, (hp p e).2⟩, hc⟩
      · exact .inr ⟨err, hne, rfl, rfl, none, 0, rfl, .inl rfl, fun p e => (by cases e), hc⟩)
  have GT := Lib.hid GT
  have HB2 := Lib.hid hb2
  have HS := Lib.hid hs
  have HSZ := Lib.hid hsz
  clear l0 l1 h2 h AK hb2 hs hsz hg hgs hfv hk herr hz
  go_enter Try.func21, Try.ntmps21
  go_wp2_with fail
  (try rw [hW2])
  rw [HS.out]
  refine GT.out.mono ?_
  rintro e w' ⟨m, a, k', c, w1, rfl, ⟨rfl, a', c', hv, hr, hp, hc⟩, ht, hl, hT⟩
  injection hv with e1 e2 e3
  subst e1 e2 e3
  have hr' := hr.turned ht (fun p e => by have := hp p e; have := HSZ.out; omega)
  have hc' := hc.turned ht (fun i hi => by have := HSZ.out; omega)
  have hT' : Turned (· = bc) w w' := (Turned.of_below (S := (· = bc)) HB2.out (fun i hi _ => by have := HS.out; omega)).trans hT
  have HP := Lib.hid (fun (p : Addr) (e : a = some p) => (show s ≤ p.block ∧ p.block < w'.heap.size from ⟨by have := (hp p e).1; omega, by have := (hp p e).2; have := ht.size; omega⟩))
  have HR := Lib.hid hr'
  have HC := Lib.hid hc'
  have HT := Lib.hid hT'
  clear hr hp hc ht hT hr' hc' hT'
  go_wp2
  go_ret2
  exact ⟨a, c, rfl, HR.out, fun p e => by rw [HS.out]; exact HP.out p e, HC.out, HT.out⟩
end Go.Proofs.Ytknpekpigiclkaa
