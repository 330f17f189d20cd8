/-
  CONTRACT OF zone.Load, in any world: the zones of bytes and the first thing that is wrong. Conditions: at most 100000 bytes, which lie in memory as told.
-/
import Derived.Test.YtgclhblglohjpaaZoneL
import Derived.Test.YtgclhblglohjpaaGetZ
namespace Go.Proofs.Ytgclhblglohjpaa
open Go.RowKit
set_option linter.unusedVariables false
/-- How many zones Load tells. -/
def zmany (z : Nat → Int) (nb f : Nat) : Nat := if zerr z nb f = 0 then f else 0
set_option maxRecDepth 100000 in
set_option maxHeartbeats 1000000 in
theorem load_any (nb cap : Nat) (a : Option Addr) (z : Nat → Int) (hz : ∀ i, i < nb → 0 ≤ z i ∧ z i ≤ 255) (hnb : nb ≤ 100000) (f : Nat) (hf0 : 4 ≤ nb → f ≤ zN z ∧ (∀ i, i < f → zgood z nb i) ∧ (f < zN z → ¬ zgood z nb f)) (w : World)
    (hrow : RowOf w a nb (fun i => .int .u8 (z i))) :
    Calls Try.prog 18 #[.slice a nb cap] w fun e w' => Below w.heap.size w w' ∧
      ∃ a' c', e = .returned (.tuple #[.slice a' (zmany z nb f) c', .int .i64 (zerr z nb f)]) ∧ Zones w' a' (zmany z nb f) (zC z) (zL z) (zH z) (zS z) w'.heap.size := by
  obtain ⟨W1, hW1⟩ : ∃ W1, w.alloc (.cells #[.slice a nb cap] 23) = W1 := ⟨_, rfl⟩
  have hs1 : W1.heap.size = w.heap.size + 1 := by rw [← hW1]; simp
  have c0 : W1.cell? ⟨w.heap.size, 0, none⟩ = some (.slice a nb cap) := by rw [← hW1]; exact (Lies.new w 23 #[.slice a nb cap]).cell 0
  have hb1 : Below w.heap.size w W1 := by rw [← hW1]; exact (Below.refl _ w).alloc (Nat.le_refl _) _
  have hr1 : RowOf W1 a nb (fun i => .int .u8 (z i)) := hrow.below hb1
  have hbG := GetZW_below (.func (.func 60) #[] #[.pointer (some ⟨w.heap.size, 0, none⟩)]) W1
  have G := getZ_any 60 #[.pointer (some ⟨w.heap.size, 0, none⟩)]
    (fun n v w1 => n = zerr z nb f ∧ ((zerr z nb f = 0 ∧ w1.ownsRow (w.heap.size + 4) 40 4 v f (zcells (zC z) (zL z) (zH z) (zS z) f)) ∨ (zerr z nb f ≠ 0 ∧ v = .slice none 0 0)))
    (fun _ => False) W1 (fun _ => by simp [go_sem]) (fun _ h => h.elim)
    ((load1_any w.heap.size nb cap a z hz hnb f hf0 _ ((hbG.cell (p := ⟨w.heap.size, 0, none⟩) (by show w.heap.size < _; omega)).trans c0) (hr1.below hbG)).mono fun e w1 ⟨hb, h⟩ => by
      refine ⟨?_, Turned.of_below hb (fun i hi _ => hi)⟩
      rw [GetZW_size, hs1] at h
      rcases h with ⟨h0, v, rfl, ho⟩ | ⟨h0, rfl⟩
      · obtain ⟨a', c', rfl, hzz⟩ := zones_own ho
        exact .inl ⟨a', f, c', rfl, h0.symm, .inl ⟨h0, ho⟩⟩
      · exact .inr ⟨_, h0, rfl, rfl, .inr ⟨by simpa using h0, rfl⟩⟩)
  have GG := Lib.hid G
  have HB1 := Lib.hid hb1
  have HS1 := Lib.hid hs1
  clear G hbG hr1 hb1 hs1 c0 hrow
  go_enter Try.func18, Try.ntmps18
  go_wp2_with fail
  (try rw [hW1])
  refine GG.out.mono ?_
  rintro e w4 ⟨n, a', k, c', w1, rfl, ⟨rfl, hq⟩, ht, hs, ht2⟩
  have HB4 := Lib.hid (HB1.out.trans (ht2.below (B := w.heap.size) (fun i hi => ⟨by have := HS1.out; omega, fun h => h⟩)))
  have HK : Hid (k = zmany z nb f ∧ Zones w4 a' (zmany z nb f) (zC z) (zL z) (zH z) (zS z) w4.heap.size) := by
    refine Lib.hid ?_
    unfold zmany
    rcases hq with ⟨h0, ho⟩ | ⟨h0, h1⟩
    · rw [if_pos h0]
      have ho4 := owns_turned ho ht (fun i e h => by have := (ho.lt i e).1; have := HS1.out; omega)
      obtain ⟨a5, c5, h5, hz5⟩ := zones_own ho4
      injection h5 with h5 h6 h7
      subst h5 h6
      exact ⟨rfl, hz5⟩
    · rw [if_neg h0]
      injection h1 with h5 h6 h7
      subst h6
      exact ⟨rfl, .inl rfl⟩
  obtain ⟨hk, hzz⟩ := HK.out
  clear HK hq ht hs ht2
  subst hk
  have HZZ := Lib.hid hzz
  clear hzz
  go_wp2
  go_ret2
  exact ⟨HB4.out, a', c', rfl, HZZ.out⟩
end Go.Proofs.Ytgclhblglohjpaa
