/-
  CONTRACT OF xor.Decode, in any world: the reals of bytes and the first thing that is wrong. Conditions: at most 10000 bytes, which lie in memory as told.
-/
import Derived.Test.YtejiboinkapkcaaDoorXorI
import Derived.Test.YtejiboinkapkcaaDoorGetF
namespace Go.Proofs.YtejiboinkapkcaaDoor
open Go.RowKit
set_option linter.unusedVariables false
/-- How many reals Decode tells. -/
def dmany (M B n : Nat) : Nat := if derr M B n = 0 then n else 0
/-- How Decode ends. -/
def DEnd (M B n : Nat) (w : World) (e : Ending) (w' : World) : Prop :=
  Below w.heap.size w w' ∧ ∃ a' c', e = .returned (.tuple #[.slice a' (dmany M B n) c', .int .i64 (derr M B n)]) ∧ RowOf w' a' (dmany M B n) (fun i => .float .f64 ((drun M B (n - 1)).xs.getD i 0))
theorem xdecode_out (a : Option Addr) (nb cap : Nat) (n : Int) (hn : ¬ (1 ≤ n ∧ n ≤ 1024)) (w : World) :
    Calls Tryd.prog 14 #[.slice a nb cap, .int .i64 n] w fun e w' => e = .returned (.tuple #[.slice none 0 0, .int .i64 7]) ∧ Below w.heap.size w w' := by
  have BK := xblock_any n
  rw [decide_eq_false hn] at BK
  have BK := Lib.hid BK
  have HB := Lib.hid (((Below.refl w.heap.size w).alloc (Nat.le_refl _) (.cells #[.slice a nb cap] 25)).alloc (by simp) (.cells #[.int .i64 n] 3))
  go_enter Tryd.func14, Tryd.ntmps14
  go_wp2_with (go_at_call 19; refine (BK.out _).mono ?_; rintro e w1 ⟨rfl, rfl⟩)
  go_ret2
  exact ⟨rfl, HB.out⟩
set_option maxRecDepth 100000 in
set_option maxHeartbeats 1000000 in
theorem xdecode_any (nb cap n : Nat) (a : Option Addr) (z : Nat → Int) (hz : ∀ i, i < nb → 0 ≤ z i ∧ z i ≤ 255) (hnb : nb ≤ 10000) (hn1 : 1 ≤ n) (hn : n ≤ 1024) (w : World) (hrow : RowOf w a nb (fun i => .int .u8 (z i))) :
    Calls Tryd.prog 14 #[.slice a nb cap, .int .i64 n] w (DEnd (num z nb) (8 * nb) n w) := by
  obtain ⟨W2, hW2⟩ : ∃ W2, (w.alloc (.cells #[.slice a nb cap] 25)).alloc (.cells #[.int .i64 (n : Int)] 3) = W2 := ⟨_, rfl⟩
  have hs2 : W2.heap.size = w.heap.size + 2 := by rw [← hW2]; simp
  have c0 : W2.cell? ⟨w.heap.size, 0, none⟩ = some (.slice a nb cap) := by rw [← hW2]; exact ((Lies.new w 25 #[.slice a nb cap]).alloc _).cell 0
  have c1 : W2.cell? ⟨w.heap.size + 1, 0, none⟩ = some (.int .i64 (n : Int)) := by
    rw [← hW2]
    have h9 := (Lies.new (w.alloc (.cells #[.slice a nb cap] 25)) 3 #[.int .i64 (n : Int)]).cell 0
    rw [World.size_alloc] at h9
    exact h9
  have hb2 : Below w.heap.size w W2 := by rw [← hW2]; exact ((Below.refl _ w).alloc (Nat.le_refl _) _).alloc (by simp) _
  have hr2 : RowOf W2 a nb (fun i => .int .u8 (z i)) := hrow.below hb2
  have hbG := GetFW_below (.func (.func 29) #[] #[.pointer (some ⟨w.heap.size, 0, none⟩), .pointer (some ⟨w.heap.size + 1, 0, none⟩)]) W2
  have BK := xblock_any n
  rw [decide_eq_true (by omega)] at BK
  have G := getF_any 29 #[.pointer (some ⟨w.heap.size, 0, none⟩), .pointer (some ⟨w.heap.size + 1, 0, none⟩)]
    (fun m v w1 => m = derr (num z nb) (8 * nb) n ∧ ((derr (num z nb) (8 * nb) n = 0 ∧ w1.ownsRow (w.heap.size + 5) 45 1 v n (rowV (fun i => .float .f64 ((drun (num z nb) (8 * nb) (n - 1)).xs.getD i 0)) n)) ∨ (derr (num z nb) (8 * nb) n ≠ 0 ∧ v = .slice none 0 0)))
    (fun _ => False) W2 (fun _ => by simp [go_sem]) (fun _ h => h.elim)
    ((decode1_any w.heap.size (w.heap.size + 1) nb cap n a z hz hnb hn1 hn _ ((hbG.cell (p := ⟨w.heap.size, 0, none⟩) (by show w.heap.size < _; omega)).trans c0) ((hbG.cell (p := ⟨w.heap.size + 1, 0, none⟩) (by show w.heap.size + 1 < _; omega)).trans c1) (hr2.below hbG)).mono fun e w1 ⟨hb, h⟩ => by
      refine ⟨?_, Turned.of_below hb (fun i hi _ => hi)⟩
      rw [GetFW_size, hs2] at h
      rcases h with ⟨h0, v, rfl, ho⟩ | ⟨h0, rfl⟩
      · obtain ⟨a', c', rfl, _⟩ := own_reads' ho
        exact .inl ⟨a', n, c', rfl, h0.symm, .inl ⟨h0, ho⟩⟩
      · exact .inr ⟨_, h0, rfl, rfl, .inr ⟨by simpa using h0, rfl⟩⟩)
  have GG := Lib.hid G
  have BK := Lib.hid BK
  have HB2 := Lib.hid hb2
  have HS2 := Lib.hid hs2
  clear G hbG hr2 hb2 hs2 c0 hrow hz
  unfold DEnd
  go_enter Tryd.func14, Tryd.ntmps14
  go_wp2_with (go_at_call 19; refine (BK.out _).mono ?_; rintro e w1 ⟨rfl, rfl⟩)
  (try rw [hW2])
  refine GG.out.mono ?_
  rintro e w4 ⟨m, a', k, c', w1, rfl, ⟨rfl, hq⟩, ht, hs, ht2⟩
  have HB4 := Lib.hid (HB2.out.trans (ht2.below (B := w.heap.size) (fun i hi => ⟨by have := HS2.out; omega, fun h => h⟩)))
  have HK : Hid (k = dmany (num z nb) (8 * nb) n ∧ RowOf w4 a' (dmany (num z nb) (8 * nb) n) (fun i => .float .f64 ((drun (num z nb) (8 * nb) (n - 1)).xs.getD i 0))) := by
    refine Lib.hid ?_
    unfold dmany
    rcases hq with ⟨h0, ho⟩ | ⟨h0, h1⟩
    · rw [if_pos h0]
      have ho4 := owns_turned ho ht (fun i e h => by have := (ho.lt i e).1; have := HS2.out; omega)
      obtain ⟨a5, c5, h5, hz5, _⟩ := own_reads' ho4
      injection h5 with h5 h6 h7
      subst h5 h6
      exact ⟨rfl, hz5⟩
    · rw [if_neg h0]
      injection h1 with h5 h6 h7
      subst h6
      exact ⟨rfl, .inl rfl⟩
  obtain ⟨hk, hzz⟩ := HK.out
  clear HK hq ht hs ht2
  subst hk
  have HZZ := Lib.hid hzz
  clear hzz
  go_wp2
  go_ret2
  exact ⟨HB4.out, a', c', rfl, HZZ.out⟩
end Go.Proofs.YtejiboinkapkcaaDoor
