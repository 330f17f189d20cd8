/-
  CONTRACTS OF xor.Size, of corduroylaw22.awake, of Reals and Encode as told, in any world, under the condition that the library's table for trailing noughts lies as its initialiser laid it. Conditions: at most 2000 reals, which lie in memory as told.
-/
import Derived.Test.YtejiboinkapkcaaDoorXorC
import Derived.Test.YtejiboinkapkcaaDoorWordsB
namespace Go.Proofs.YtejiboinkapkcaaDoor
open Go.RowKit
set_option linter.unusedVariables false
set_option linter.unusedSimpArgs false
theorem own_bytes {w : World} {base n : Nat} {v : Value} {xs : List Int} (h : w.ownsRow base 5 1 v n (cellsOf xs)) : ∃ a c, v = .slice a n c ∧ RowOf w a n (fun i => .int .u8 (xs.getD i 0)) ∧ n ≤ c ∧ c ≤ maxLen := by
  have hl : xs.length = n := by have := h.1; simpa [cellsOf] using this
  obtain ⟨a, c, rfl, hr, h1, h2, h3⟩ := own_reads h
  refine ⟨a, c, rfl, hr.congr fun i hi => by simp [cellsOf, (by omega : i < xs.length)], h2, ?_⟩
  rcases h.2 with ⟨hv, h0⟩ | ⟨g, cp, cur, hv, _, hg, h1, h2, _⟩
  · injection hv with ha hn hc
    omega
  · injection hv with ha hn hc
    omega
/-- How many bytes a form has; of none that is told 0. -/
def xlen (l : Nat → Nat) (n : Nat) : Nat := if 1 ≤ n ∧ n ≤ 1024 then ((xrun l (n - 1)).c + 7) / 8 else 0
/-- A row that came of Reals, as Encode wants it. -/
theorem reals_told (a : Option Addr) (n cap : Nat) (l : Nat → Nat) (hn : n ≤ 2000) (w : World) (h : RowOf w a n (fun i => .int .u64 (l i : Nat))) :
    Calls Tryd.prog 8 #[.slice a n cap] w fun e w' => ∃ a' c', e = .returned (.slice a' n c') ∧ RowOf w' a' n (fun i => .float .f64 (l i)) ∧ n ≤ c' ∧ c' ≤ maxLen ∧ Below w.heap.size w w' :=
  (reals_any a n cap l hn w h).mono fun e w' ⟨v, he, ho, hb⟩ => by
    obtain ⟨a', c', rfl, hr, h1, h2, h3⟩ := own_reads ho
    refine ⟨a', c', he, hr.congr fun i hi => by simp [rowV, hi], h2, ?_, hb⟩
    rcases ho.2 with ⟨hv, h0⟩ | ⟨g, cp, cur, hv, _, hg, h1, h2, _⟩
    · injection hv with ha hn hc
      omega
    · injection hv with ha hn hc
      omega
theorem xsize_any (a : Option Addr) (n cap : Nat) (l : Nat → Nat) (hl : ∀ i, i < n → l i < 18446744073709551616) (hcap : n ≤ cap) (hcm : cap ≤ maxLen) (w : World) (h : RowOf w a n (fun i => .float .f64 (l i))) (hT : Tab w) :
    Calls Tryd.prog 11 #[.slice a n cap] w fun e w' => e = .returned (.int .i64 (xlen l n : Nat)) ∧ Below w.heap.size w w' := by
  by_cases hn : 1 ≤ n ∧ n ≤ 1024
  · have EN := xencode_any a n cap l hl hn.1 hn.2 hcap hcm w h hT
    unfold XEnd at EN
    unfold xlen
    rw [if_pos hn]
    have EN := Lib.hid EN
    clear h
    generalize xrun l (n - 1) = s at *
    obtain ⟨m, hm⟩ : ∃ m, (s.c + 7) / 8 = m := ⟨_, rfl⟩
    rw [hm] at EN ⊢
    clear hm
    go_enter Tryd.func11, Tryd.ntmps11
    go_wp2_with (go_at_call 9; refine EN.out.mono ?_; rintro e w1 ⟨v1, rfl, ho, hb⟩; obtain ⟨a1, c1, rfl, hr1, _, _⟩ := own_bytes ho; have HB := Lib.hid hb; clear ho hr1 hb)
    go_ret
    exact ⟨rfl, HB.out⟩
  · have EN := Lib.hid (xencode_out a n cap hn w)
    unfold xlen
    rw [if_neg hn]
    clear h
    go_enter Tryd.func11, Tryd.ntmps11
    go_wp2_with (go_at_call 9; refine EN.out.mono ?_; rintro e w1 ⟨rfl, rfl⟩)
    go_ret
    exact ⟨rfl, Below.refl _ _⟩
set_option maxRecDepth 100000 in
theorem awake22_any (w : World) (hT : Tab w) : Calls Tryd.prog 12 #[] w fun e w' => e = .returned (.bool true) ∧ Below w.heap.size w w' := by
  obtain ⟨W1, hW1⟩ : ∃ W1, w.alloc (.cells #[.float .f64 4607182418800017408, .float .f64 4607182418800017408] 45) = W1 := ⟨_, rfl⟩
  have hb1 : Below w.heap.size w W1 := by rw [← hW1]; exact (Below.refl _ w).alloc (Nat.le_refl _) _
  have hs1 : w.heap.size ≤ W1.heap.size := hb1.size
  have EN := xencode_any (some ⟨w.heap.size, 0, none⟩) 2 2 (fun _ => 4607182418800017408) (fun _ _ => by decide) (by decide) (by decide) (by decide) (by decide) W1
    (by rw [← hW1]; exact RowOf.lit w _ _ _ 2 rfl (fun i hi => by
      match i, hi with
      | 0, _ => rfl
      | 1, _ => rfl)) (hT.below hb1)
  have hx : xrun (fun _ => 4607182418800017408) (2 - 1) = ⟨4607182418800017408 + 0 * 2 ^ 64, 65, 64, 0⟩ := by
    show xstep ⟨4607182418800017408, 64, 64, 0⟩ (4607182418800017408 ^^^ 4607182418800017408) = _
    rw [Nat.xor_self]
    unfold xstep
    rw [if_pos rfl]
  unfold XEnd at EN
  rw [hx] at EN
  have hby : bytesOf ((65 + 7) / 8) (4607182418800017408 + 0 * 2 ^ 64) = [0, 0, 0, 0, 0, 0, 240, 63, 0] := by decide
  simp only [hby] at EN
  have EN := Lib.hid EN
  have HB1 := Lib.hid hb1
  clear hb1 hx hby
  go_enter Tryd.func12, Tryd.ntmps12
  go_wp2_with (go_at_call 9; (try rw [hW1]); refine EN.out.mono ?_; rintro e w1 ⟨v1, rfl, ho, hb⟩; obtain ⟨a1, c1, rfl, hr1, _, _⟩ := own_bytes ho; have cv1 := conv_list a1 9 c1 [0, 0, 0, 0, 0, 0, 240, 63, 0] rfl w1 hr1; have cv2 := conv_list (some ⟨w1.heap.size, 0, none⟩) 9 9 [0, 0, 0, 0, 0, 0, 240, 63, 0] rfl (w1.alloc (.cells #[.int .u8 0, .int .u8 0, .int .u8 0, .int .u8 0, .int .u8 0, .int .u8 0, .int .u8 240, .int .u8 63, .int .u8 0] 5)) (RowOf.lit w1 _ _ _ 9 rfl (by intro i hi; match i, hi with | 0, _ => rfl | 1, _ => rfl | 2, _ => rfl | 3, _ => rfl | 4, _ => rfl | 5, _ => rfl | 6, _ => rfl | 7, _ => rfl | 8, _ => rfl)); have HB := Lib.hid hb; clear ho hr1 hb)
  go_ret
  have hb2 := HB1.out.trans (HB.out.mono HB1.out.size)
  exact ⟨rfl, hb2.alloc hb2.size _⟩
end Go.Proofs.YtejiboinkapkcaaDoor
