/-
  CONTRACTS OF the document's own cursor (corduroyref03.Cursor.Bytes) and of cursor.Peek, in any world where they lie. Conditions: at most 20000 bytes.
-/
import Derived.Test.YtknpekpigiclkaaCur
import Derived.Deep.RegionHeld3
import Derived.Deep.RegionHeldLaw
namespace Go.Proofs.Ytknpekpigiclkaa
open Go.RowKit
set_option linter.unusedVariables false
/-- The document's cursor of n bytes that is at a byte. -/
def RCurAt (w : World) (lo br n : Nat) (z : Nat → Int) (at_ : Nat) : Prop :=
  ∃ a cap, Lies w br 40 #[.slice a n cap, .int .i64 at_] ∧ RowOf w a n (fun i => .int .u8 (z i)) ∧ ((a = none ∧ cap = 0) ∨ ∃ g, a = some ⟨g, 0, none⟩ ∧ lo < g ∧ g < br) ∧ n ≤ cap ∧ cap ≤ maxLen ∧ at_ ≤ n
theorem RCurAt.lt {w : World} {lo br n : Nat} {z : Nat → Int} {at_ : Nat} (h : RCurAt w lo br n z at_) : br < w.heap.size := by
  obtain ⟨a, cap, hl, _⟩ := h
  exact hl.lt
theorem RCurAt.le {w : World} {lo br n : Nat} {z : Nat → Int} {at_ : Nat} (h : RCurAt w lo br n z at_) : at_ ≤ n := by
  obtain ⟨a, cap, _, _, _, _, _, h⟩ := h
  exact h
theorem RCurAt.turned {w w' : World} {S : Nat → Prop} {lo br n : Nat} {z : Nat → Int} {at_ : Nat} (h : RCurAt w lo br n z at_) (k : Turned S w w') (hb : ¬ S br) (hS : ∀ g, lo < g → g < br → ¬ S g) : RCurAt w' lo br n z at_ := by
  obtain ⟨a, cap, hl, hr, ha, hc⟩ := h
  refine ⟨a, cap, hl.turned k hb, hr.turned k (fun p hp hs => ?_), ha, hc⟩
  rcases ha with ⟨rfl, _⟩ | ⟨g, rfl, hlo, hg⟩
  · cases hp
  · injection hp with hp
    subst hp
    exact hS g hlo hg hs
theorem RCurAt.below {w w' : World} {B lo br n : Nat} {z : Nat → Int} {at_ : Nat} (h : RCurAt w lo br n z at_) (k : Below B w w') (hB : br < B) : RCurAt w' lo br n z at_ := by
  obtain ⟨a, cap, hl, hr, ha, hc⟩ := h
  refine ⟨a, cap, hl.below k hB, hr.turned (S := fun i => B ≤ i) (Turned.of_below k (fun i _ hi => by omega)) (fun p hp hs => ?_), ha, hc⟩
  rcases ha with ⟨rfl, _⟩ | ⟨g, rfl, hlo, hg⟩
  · cases hp
  · injection hp with hp
    subst hp
    simp only at hs
    omega
theorem own_empty (W : World) (B : Nat) (hB : B ≤ W.heap.size) : (W.alloc (.cells #[] 5)).ownsRow B 5 1 (.slice (some ⟨W.heap.size, 0, none⟩) 0 0) 0 [] :=
  ⟨rfl, .inr ⟨W.heap.size, 0, #[], rfl, hB, (by show (W.heap.push (Obj.cells #[] 5))[W.heap.size]? = _; rw [Array.getElem?_push_size]), Nat.le_refl _, Nat.zero_le _, rfl, rfl⟩⟩
set_option maxRecDepth 100000 in
set_option maxHeartbeats 1000000 in
theorem rbytes_neg (lo br n : Nat) (z : Nat → Int) (at_ : Nat) (m : Int) (hm : m < 0) (w : World) :
    Calls Try.prog 22 #[.pointer (some ⟨br, 0, none⟩), .int .i64 m] w fun e w' => e = .returned (.tuple #[.slice none 0 0, .int .i64 4]) ∧ w = w' := by
  go_enter Try.func22, Try.ntmps22
  go_wp2
  go_ret2
  exact ⟨rfl, rfl⟩
theorem rbytes_short (lo br n : Nat) (z : Nat → Int) (at_ : Nat) (m : Int) (hm0 : 0 ≤ m) (hn : n ≤ 100000) (hm : ((n - at_ : Nat) : Int) < m) (w : World) (h : RCurAt w lo br n z at_) :
    Calls Try.prog 22 #[.pointer (some ⟨br, 0, none⟩), .int .i64 m] w fun e w' => e = .returned (.tuple #[.slice none 0 0, .int .i64 1]) ∧ ∃ k, w' = w.drewN k := by
  obtain ⟨a, cap, hl, hr, ha, hnc, hcm, hat⟩ := h
  have c0 := hl.cell 0
  have c1 : w.cell? ⟨br, 1, none⟩ = some (.int .i64 at_) := hl.cell 1
  obtain ⟨L, hL⟩ : ∃ L, n - at_ = L := ⟨_, rfl⟩
  rw [hL] at hm
  have h0 : at_ + L = n := by omega
  clear hL
  have h1 : (n : Int) - at_ < m := by omega
  have h2 : (at_ : Int) ≤ n := by omega
  have h3 : ¬ m < 0 := by omega
  clear hl hr ha hm h0
  go_enter Try.func22, Try.ntmps22
  go_wp2
  go_quiet (fail)
  go_wp2
  go_ret2
  exact ⟨rfl, _, rfl⟩
set_option maxRecDepth 100000 in
set_option maxHeartbeats 2000000 in
theorem rbytes_ok (lo br n : Nat) (z : Nat → Int) (at_ k : Nat) (hn : n ≤ 100000) (hm : at_ + k ≤ n) (w : World) (h : RCurAt w lo br n z at_) :
    Calls Try.prog 22 #[.pointer (some ⟨br, 0, none⟩), .int .i64 k] w fun e w' => ∃ a c, e = .returned (.tuple #[.slice a k c, .int .i64 0]) ∧ RowOf w' a k (fun i => .int .u8 (z (at_ + i))) ∧ (∀ p, a = some p → w.heap.size ≤ p.block ∧ p.block < w'.heap.size) ∧ RCurAt w' lo br n z (at_ + k) ∧ Turned (· = br) w w' := by
  obtain ⟨i0, hi, hz0, hz1, hz2⟩ := info_parts byteInfo
  obtain ⟨a, cap, hl, hr, ha, hnc, hcm, hat⟩ := h
  have c0 := hl.cell 0
  have c1 : w.cell? ⟨br, 1, none⟩ = some (.int .i64 at_) := hl.cell 1
  have h1 : decide ((n : Int) - at_ < k) = false := decide_eq_false (by omega)
  have h2 : (at_ : Int) ≤ n := by omega
  have h3 : decide ((k : Int) < 0) = false := decide_eq_false (by omega)
  have f1 := hl.frozen 1
  have hmax : (cap : Int) ≤ 9223372036854775807 := by unfold maxLen at hcm; omega
  have m6 : IntKind.i64.wrap ((at_ : Int) + k) = (at_ : Int) + k := IntWalk.i64_in _ (by omega)
  have m2 : (at_ : Int) + k ≤ n := by omega
  have m9 : (at_ : Int) + k ≤ cap := by omega
  have mt : ((at_ : Int) + k).toNat = at_ + k := by omega
  have m12 : (at_ : Int) + k - k = at_ := by omega
  have m13 : IntKind.i64.wrap (at_ : Int) = at_ := IntWalk.i64_in _ (by omega)
  have m3 : (n : Int) ≤ cap := by omega
  have m7 : (0 : Int) ≤ (at_ : Int) + k := by omega
  have m8 : (at_ : Int) ≤ (at_ : Int) + k := by omega
  have HL := Lib.hid hl
  have HR := Lib.hid hr
  have HA := Lib.hid ha
  clear hl hr ha
  go_enter Try.func22, Try.ntmps22
  go_wp2
  go_quiet (fail)
  go_wp2
  obtain ⟨W1, hW1⟩ : ∃ W1, (w.drewN nq).setCell ⟨br, 1, none⟩ (.int .i64 ((at_ : Int) + k)) = W1 := ⟨_, rfl⟩
  have ht : Turned (· = br) w W1 := by rw [← hW1]; exact ((Turned.refl (· = br) w).drewN nq).setCell (p := ⟨br, 1, none⟩) (.inl rfl) _
  have hl1 : Lies W1 br 40 #[.slice a n cap, .int .i64 ((at_ : Int) + k)] := by rw [← hW1]; exact (HL.out.drewN nq).set_ 1 _
  have hcl : ∀ p, a = some p → p.block < br := fun p hp => by
    rcases HA.out with ⟨rfl, _⟩ | ⟨g, rfl, hlo, hg⟩
    · cases hp
    · injection hp with hp
      subst hp
      exact hg
  have hr1 : RowOf W1 a n (fun i => .int .u8 (z i)) := HR.out.turned ht (fun p hp e => by have := hcl p hp; omega)
  rw [hW1]
  clear hW1 c0 c1 f1
  -- the row that is appended
  have hrow : ∃ a' c', RowOf W1 a' k (fun i => .int .u8 (z (at_ + i))) ∧ ((cap = at_ ∧ a' = a ∧ c' = 0) ∨ (cap ≠ at_ ∧ a' = a.map (fun x => x.add at_) ∧ c' = cap - at_)) := by
    by_cases hca : cap = at_
    · exact ⟨a, 0, by obtain rfl : k = 0 := (by omega); exact .inl rfl, .inl ⟨hca, rfl, rfl⟩⟩
    · refine ⟨_, _, ?_, .inr ⟨hca, rfl, rfl⟩⟩
      rcases Nat.eq_zero_or_pos k with h0 | h0
      · exact .inl h0
      · obtain ⟨b, off, rfl, _, hc⟩ := hr1.at_ (i := 0) (by omega)
        refine .inr ⟨b, off + at_, ?_, fun i hi => ?_⟩
        · simp only [Option.map_some, Addr.add]
          split
          · rename_i h; subst h; rfl
          · rfl
        · rw [Nat.add_assoc]; exact hc (at_ + i) (by omega)
  obtain ⟨a', c', hrow, hac⟩ := hrow
  have hE : (W1.drew.alloc (.cells #[] 5)).ownsRow (br + 1) 5 1 (.slice (some ⟨W1.drew.heap.size, 0, none⟩) 0 0) 0 [] := own_empty W1.drew (br + 1) hl1.lt
  have hbA : Below W1.heap.size W1 (W1.drew.alloc (.cells #[] 5)) := ((Below.refl _ W1).drew).alloc (Nat.le_refl _) _
  obtain ⟨v2, w2, hrun, ho2, hg2, hat2⟩ := run_append_row (P := Try.prog) (W1.drew.alloc (.cells #[] 5)) (br + 1) 34 34 5 i0 (.int .u8 0) 1 Try.underlying34 hi hz0 hz1 hz2 rfl _ 0 _ hE a' k c' _ (hrow.below hbA) (fun i _ => rfl) (by unfold maxLen at *; omega) (by omega) (by have := hl1.lt; simp; omega)
  have hrun' := hrun
  rw [show Value.slice a' k c' = Value.slice a' (at_ + k - at_) c' by rw [Nat.add_sub_cancel_left]] at hrun'
  have HRUN := Lib.hid hrun'
  have HRUN1 := Lib.hid hrun
  clear hrun'
  have hb2 : Below W1.heap.size W1 w2 := hbA.grown hg2 (by simp) (fun j hj => by simp [Value.ownBlock] at hj; omega)
  have HB2 := Lib.hid hb2
  have HAT2 := Lib.hid hat2
  have HO2 := Lib.hid ho2
  have HL1 := Lib.hid hl1
  have HL2 := Lib.hid (hl1.below hb2 hl1.lt)
  have HT := Lib.hid ht
  have HR1 := Lib.hid hr1
  have d0 := hl1.cell 0
  have d1 : W1.cell? ⟨br, 1, none⟩ = some (.int .i64 ((at_ : Int) + k)) := hl1.cell 1
  have HD := Lib.hid (And.intro d0 d1)
  have HD3 : Hid ((W1.drew.alloc (.cells #[] 5)).cell? ⟨br, 0, none⟩ = some (.slice a n cap) ∧ (W1.drew.alloc (.cells #[] 5)).cell? ⟨br, 1, none⟩ = some (.int .i64 ((at_ : Int) + k))) := Lib.hid ⟨(hl1.drew.alloc _).cell 0, (hl1.drew.alloc _).cell 1⟩
  have HD2 : Hid (w2.cell? ⟨br, 0, none⟩ = some (.slice a n cap) ∧ w2.cell? ⟨br, 1, none⟩ = some (.int .i64 ((at_ : Int) + k))) := Lib.hid ⟨HL2.out.cell 0, HL2.out.cell 1⟩
  have hSZ : Turned (· = br) w w2 := ht.trans (Turned.of_below hb2 (fun i hi _ => hi))
  have HSZ := Lib.hid hSZ
  have HROW := Lib.hid hrow
  have HOWN := Lib.hid (fun b (hb : br + 1 ≤ b) (hb' : v2.ownBlock = some b) => (show w.heap.size ≤ b ∧ b < w2.heap.size from ⟨by rcases hat2 with e | e <;> rw [e] at hb' <;> (simp [Value.ownBlock] at hb'; have := ht.size; omega), (ho2.lt b hb').2⟩))
  clear hl1 hr1 hrun ho2 hg2 hat2 hb2 ht hE hbA hSZ hrow
  rcases hac with ⟨hca, ha', hc'⟩ | ⟨hca, ha', hc'⟩
  · obtain rfl : k = 0 := by omega
    obtain rfl : a = a' := ha'.symm
    obtain rfl : 0 = c' := hc'.symm
    refine wp_region_held_drew (S := (fun w' => w'.cell? ⟨br, 0, none⟩ = some (.slice a n cap) ∧ w'.cell? ⟨br, 1, none⟩ = some (.int .i64 ((at_ : Int) + (0 : Nat))))) (by kernel_rfl) HD.out (fun hHeld => ?_)
    refine wpAnyH_take (i := 1) (oi := ?oix1) (v := ?vx1) ?hix1 ?hsx1 ?hfx1 ?hrx1 ?hQx1 ?hyx1 ?hSx1 ?hx1
    case hix1 =>
      simp only [List.getElem?_toArray, List.getElem?_cons_succ, List.getElem?_cons_zero]
      rfl
    case hsx1 => kernel_rfl
    case hfx1 => kernel_rfl
    case hrx1 => kernel_rfl
    case hyx1 =>
      refine Or.inl ⟨by rfl, ?_⟩
      intro w hSw
      (try dsimp only at hSw)
      go_simp
      try with_reducible rfl
    case hQx1 => exact fun _ _ _ h => h
    case hSx1 => assumption
    try simp only [Act.put, List.setIfInBounds_toArray, List.set_cons_zero, List.set_cons_succ]
    refine wpAnyH_take (i := 2) (oi := ?oix2) (v := ?vx2) ?hix2 ?hsx2 ?hfx2 ?hrx2 ?hQx2 ?hyx2 ?hSx2 ?hx2
    case hix2 =>
      simp only [List.getElem?_toArray, List.getElem?_cons_succ, List.getElem?_cons_zero]
      rfl
    case hsx2 => kernel_rfl
    case hfx2 => kernel_rfl
    case hrx2 => kernel_rfl
    case hyx2 =>
      refine Or.inl ⟨by rfl, ?_⟩
      intro w hSw
      (try dsimp only at hSw)
      go_simp
      try with_reducible rfl
    case hQx2 => exact fun _ _ _ h => h
    case hSx2 => assumption
    try simp only [Act.put, List.setIfInBounds_toArray, List.set_cons_zero, List.set_cons_succ]
    refine wpAnyH_take (i := 3) (oi := ?oix3) (v := ?vx3) ?hix3 ?hsx3 ?hfx3 ?hrx3 ?hQx3 ?hyx3 ?hSx3 ?hx3
    case hix3 =>
      simp only [List.getElem?_toArray, List.getElem?_cons_succ, List.getElem?_cons_zero]
      rfl
    case hsx3 => kernel_rfl
    case hfx3 => kernel_rfl
    case hrx3 => kernel_rfl
    case hyx3 =>
      refine Or.inl ⟨by rfl, ?_⟩
      intro w hSw
      (try dsimp only at hSw)
      go_simp
      try with_reducible rfl
    case hQx3 => exact fun _ _ _ h => h
    case hSx3 => assumption
    try simp only [Act.put, List.setIfInBounds_toArray, List.set_cons_zero, List.set_cons_succ]
    refine wpAnyH_take (i := 4) (oi := ?oix4) (v := ?vx4) ?hix4 ?hsx4 ?hfx4 ?hrx4 ?hQx4 ?hyx4 ?hSx4 ?hx4
    case hix4 =>
      simp only [List.getElem?_toArray, List.getElem?_cons_succ, List.getElem?_cons_zero]
      rfl
    case hsx4 => kernel_rfl
    case hfx4 => kernel_rfl
    case hrx4 => kernel_rfl
    case hyx4 =>
      refine Or.inl ⟨by rfl, ?_⟩
      intro w hSw
      (try dsimp only at hSw)
      go_simp
      try with_reducible rfl
    case hQx4 => exact fun _ _ _ h => h
    case hSx4 => assumption
    try simp only [Act.put, List.setIfInBounds_toArray, List.set_cons_zero, List.set_cons_succ]
    refine wpAnyH_take (i := 5) (oi := ?oix5) (v := ?vx5) ?hix5 ?hsx5 ?hfx5 ?hrx5 ?hQx5 ?hyx5 ?hSx5 ?hx5
    case hix5 =>
      simp only [List.getElem?_toArray, List.getElem?_cons_succ, List.getElem?_cons_zero]
      rfl
    case hsx5 => kernel_rfl
    case hfx5 => kernel_rfl
    case hrx5 => kernel_rfl
    case hyx5 =>
      refine Or.inl ⟨by rfl, ?_⟩
      intro w hSw
      (try dsimp only at hSw)
      go_simp
      try with_reducible rfl
    case hQx5 => exact fun _ _ _ h => h
    case hSx5 => assumption
    try simp only [Act.put, List.setIfInBounds_toArray, List.set_cons_zero, List.set_cons_succ]
    refine wpAnyH_take (i := 6) (oi := ?oix6) (v := ?vx6) ?hix6 ?hsx6 ?hfx6 ?hrx6 ?hQx6 ?hyx6 ?hSx6 ?hx6
    case hix6 =>
      simp only [List.getElem?_toArray, List.getElem?_cons_succ, List.getElem?_cons_zero]
      rfl
    case hsx6 => kernel_rfl
    case hfx6 => kernel_rfl
    case hrx6 => kernel_rfl
    case hyx6 =>
      refine Or.inl ⟨by rfl, ?_⟩
      intro w hSw
      (try dsimp only at hSw)
      go_simp
      try with_reducible rfl
    case hQx6 => exact fun _ _ _ h => h
    case hSx6 => assumption
    try simp only [Act.put, List.setIfInBounds_toArray, List.set_cons_zero, List.set_cons_succ]
    refine wpAnyH_take (i := 7) (oi := ?oix7) (v := ?vx7) ?hix7 ?hsx7 ?hfx7 ?hrx7 ?hQx7 ?hyx7 ?hSx7 ?hx7
    case hix7 =>
      simp only [List.getElem?_toArray, List.getElem?_cons_succ, List.getElem?_cons_zero]
      rfl
    case hsx7 => kernel_rfl
    case hfx7 => kernel_rfl
    case hrx7 => kernel_rfl
    case hyx7 =>
      refine Or.inl ⟨by rfl, ?_⟩
      intro w hSw
      (try dsimp only at hSw)
      go_simp
      try with_reducible rfl
    case hQx7 => exact fun _ _ _ h => h
    case hSx7 => assumption
    try simp only [Act.put, List.setIfInBounds_toArray, List.set_cons_zero, List.set_cons_succ]
    refine wpAnyH_take (i := 8) (oi := ?oix8) (v := ?vx8) ?hix8 ?hsx8 ?hfx8 ?hrx8 ?hQx8 ?hyx8 ?hSx8 ?hx8
    case hix8 =>
      simp only [List.getElem?_toArray, List.getElem?_cons_succ, List.getElem?_cons_zero]
      rfl
    case hsx8 => kernel_rfl
    case hfx8 => kernel_rfl
    case hrx8 => kernel_rfl
    case hyx8 =>
      refine Or.inl ⟨by rfl, ?_⟩
      intro w hSw
      (try dsimp only at hSw)
      go_simp
      try with_reducible rfl
    case hQx8 => exact fun _ _ _ h => h
    case hSx8 => assumption
    try simp only [Act.put, List.setIfInBounds_toArray, List.set_cons_zero, List.set_cons_succ]
    refine wpAnyH_take (i := 9) (oi := ?oix9) (v := ?vx9) ?hix9 ?hsx9 ?hfx9 ?hrx9 ?hQx9 ?hyx9 ?hSx9 ?hx9
    case hix9 =>
      simp only [List.getElem?_toArray, List.getElem?_cons_succ, List.getElem?_cons_zero]
      rfl
    case hsx9 => kernel_rfl
    case hfx9 => kernel_rfl
    case hrx9 => kernel_rfl
    case hyx9 =>
      refine Or.inl ⟨by rfl, ?_⟩
      intro w hSw
      (try dsimp only at hSw)
      go_simp
      try with_reducible rfl
    case hQx9 => exact fun _ _ _ h => h
    case hSx9 => assumption
    try simp only [Act.put, List.setIfInBounds_toArray, List.set_cons_zero, List.set_cons_succ]
    refine wpAnyH_take (i := 10) (oi := ?oix10) (v := ?vx10) ?hix10 ?hsx10 ?hfx10 ?hrx10 ?hQx10 ?hyx10 ?hSx10 ?hx10
    case hix10 =>
      simp only [List.getElem?_toArray, List.getElem?_cons_succ, List.getElem?_cons_zero]
      rfl
    case hsx10 => kernel_rfl
    case hfx10 => kernel_rfl
    case hrx10 => kernel_rfl
    case hyx10 =>
      refine Or.inl ⟨by rfl, ?_⟩
      intro w hSw
      (try dsimp only at hSw)
      go_simp
      try with_reducible rfl
    case hQx10 => exact fun _ _ _ h => h
    case hSx10 => assumption
    try simp only [Act.put, List.setIfInBounds_toArray, List.set_cons_zero, List.set_cons_succ]
    refine wpAnyH_take (i := 11) (oi := ?oix11) (v := ?vx11) ?hix11 ?hsx11 ?hfx11 ?hrx11 ?hQx11 ?hyx11 ?hSx11 ?hx11
    case hix11 =>
      simp only [List.getElem?_toArray, List.getElem?_cons_succ, List.getElem?_cons_zero]
      rfl
    case hsx11 => kernel_rfl
    case hfx11 => kernel_rfl
    case hrx11 => kernel_rfl
    case hyx11 =>
      refine Or.inl ⟨by rfl, ?_⟩
      intro w hSw
      (try dsimp only at hSw)
      go_simp
      try with_reducible rfl
    case hQx11 => exact fun _ _ _ h => h
    case hSx11 => assumption
    try simp only [Act.put, List.setIfInBounds_toArray, List.set_cons_zero, List.set_cons_succ]
    refine wpAnyH_take (i := 12) (oi := ?oix12) (v := ?vx12) ?hix12 ?hsx12 ?hfx12 ?hrx12 ?hQx12 ?hyx12 ?hSx12 ?hx12
    case hix12 =>
      simp only [List.getElem?_toArray, List.getElem?_cons_succ, List.getElem?_cons_zero]
      rfl
    case hsx12 => kernel_rfl
    case hfx12 => kernel_rfl
    case hrx12 => kernel_rfl
    case hyx12 =>
      refine Or.inl ⟨by rfl, ?_⟩
      intro w hSw
      (try dsimp only at hSw)
      go_simp
      try with_reducible rfl
    case hQx12 => exact fun _ _ _ h => h
    case hSx12 => assumption
    try simp only [Act.put, List.setIfInBounds_toArray, List.set_cons_zero, List.set_cons_succ]
    refine wpAnyH_take (i := 13) (oi := ?oix13) (v := ?vx13) ?hix13 ?hsx13 ?hfx13 ?hrx13 ?hQx13 ?hyx13 ?hSx13 ?hx13
    case hix13 =>
      simp only [List.getElem?_toArray, List.getElem?_cons_succ, List.getElem?_cons_zero]
      rfl
    case hsx13 => kernel_rfl
    case hfx13 => kernel_rfl
    case hrx13 => kernel_rfl
    case hyx13 =>
      refine Or.inl ⟨by rfl, ?_⟩
      intro w hSw
      (try dsimp only at hSw)
      go_simp
      try with_reducible rfl
    case hQx13 => exact fun _ _ _ h => h
    case hSx13 => assumption
    try simp only [Act.put, List.setIfInBounds_toArray, List.set_cons_zero, List.set_cons_succ]
    refine wpAnyH_take (i := 14) (oi := ?oix14) (v := ?vx14) ?hix14 ?hsx14 ?hfx14 ?hrx14 ?hQx14 ?hyx14 ?hSx14 ?hx14
    case hix14 =>
      simp only [List.getElem?_toArray, List.getElem?_cons_succ, List.getElem?_cons_zero]
      rfl
    case hsx14 => kernel_rfl
    case hfx14 => kernel_rfl
    case hrx14 => kernel_rfl
    case hyx14 =>
      refine Or.inl ⟨by rfl, ?_⟩
      intro w hSw
      (try dsimp only at hSw)
      go_simp
      try with_reducible rfl
    case hQx14 => exact fun _ _ _ h => h
    case hSx14 => assumption
    try simp only [Act.put, List.setIfInBounds_toArray, List.set_cons_zero, List.set_cons_succ]
    refine wpAnyH_take (i := 15) (oi := ?oix15) (v := ?vx15) ?hix15 ?hsx15 ?hfx15 ?hrx15 ?hQx15 ?hyx15 ?hSx15 ?hx15
    case hix15 =>
      simp only [List.getElem?_toArray, List.getElem?_cons_succ, List.getElem?_cons_zero]
      rfl
    case hsx15 => kernel_rfl
    case hfx15 => kernel_rfl
    case hrx15 => kernel_rfl
    case hyx15 =>
      refine Or.inl ⟨by rfl, ?_⟩
      intro w hSw
      (try dsimp only at hSw)
      go_simp
      try with_reducible rfl
    case hQx15 => exact fun _ _ _ h => h
    case hSx15 => assumption
    try simp only [Act.put, List.setIfInBounds_toArray, List.set_cons_zero, List.set_cons_succ]
    refine wpAnyH_ready (rs := [0]) (by kernel_rfl) (by simp) ?_
    refine AllReadyH.cons (o := ?ox16) ?ix16 ?kx16 AllReadyH.nil
    case ix16 =>
      simp only [List.getElem?_toArray, List.getElem?_cons_zero]
      rfl
    intro K hK
    go_simp
    refine hK.out _ _ HD3.out (fun hHeld => ?_)
    clear hK K
    try simp only [Act.put, List.setIfInBounds_toArray, List.set_cons_zero, List.set_cons_succ]
    refine wpAnyH_ready (rs := [16]) (by kernel_rfl) (by simp) ?_
    refine AllReadyH.cons (o := ?ox17) ?ix17 ?kx17 AllReadyH.nil
    case ix17 =>
      simp only [List.getElem?_toArray, List.getElem?_cons_succ, List.getElem?_cons_zero]
      rfl
    intro K hK
    refine step_append_ran _ _ (by rfl) _ _ 34 (by rfl) _ _ _ (by rfl) (by rfl) HRUN1.out ?_
    refine hK.out _ _ HD2.out (fun hHeld => ?_)
    clear hK K
    try simp only [Act.put, List.setIfInBounds_toArray, List.set_cons_zero, List.set_cons_succ]
    refine wpAnyH_take (i := 17) (oi := ?oix18) (v := ?vx18) ?hix18 ?hsx18 ?hfx18 ?hrx18 ?hQx18 ?hyx18 ?hSx18 ?hx18
    case hix18 =>
      simp only [List.getElem?_toArray, List.getElem?_cons_succ, List.getElem?_cons_zero]
      rfl
    case hsx18 => kernel_rfl
    case hfx18 => kernel_rfl
    case hrx18 => kernel_rfl
    case hyx18 =>
      refine Or.inl ⟨by rfl, ?_⟩
      intro w hSw
      (try dsimp only at hSw)
      go_simp
      try with_reducible rfl
    case hQx18 => exact fun _ _ _ h => h
    case hSx18 => assumption
    try simp only [Act.put, List.setIfInBounds_toArray, List.set_cons_zero, List.set_cons_succ]
    refine wpAnyH_take (i := 18) (oi := ?oix19) (v := ?vx19) ?hix19 ?hsx19 ?hfx19 ?hrx19 ?hQx19 ?hyx19 ?hSx19 ?hx19
    case hix19 =>
      simp only [List.getElem?_toArray, List.getElem?_cons_succ, List.getElem?_cons_zero]
      rfl
    case hsx19 => kernel_rfl
    case hfx19 => kernel_rfl
    case hrx19 => kernel_rfl
    case hyx19 =>
      refine Or.inl ⟨by rfl, ?_⟩
      intro w hSw
      (try dsimp only at hSw)
      go_simp
      try with_reducible rfl
    case hQx19 => exact fun _ _ _ h => h
    case hSx19 => assumption
    try simp only [Act.put, List.setIfInBounds_toArray, List.set_cons_zero, List.set_cons_succ]
    refine wpAnyH_done (by kernel_rfl) ?_ _
    go_wp2
    go_ret2
    obtain ⟨a2, c2, rfl, hr2, hab2, _, hg2⟩ := own_reads HO2.out
    have hr2 : RowOf w2 a2 0 (fun i => .int .u8 (z (at_ + i))) := by
      have := hr2.congr (f' := fun i => .int .u8 (z (at_ + i))) (fun i hi => by first | (simp at hi; done) | (simp at hi; simp [rowV, hi]))
      simpa using this
    exact ⟨a2, ⟨c2, by simp⟩, hr2, fun p hp => by obtain ⟨g, rfl⟩ : ∃ g, p = ⟨g, 0, none⟩ := hg2 p hp; exact HOWN.out g (hab2 _ hp).1 (by rw [hp]; rfl), ⟨a, cap, HL2.out, HR1.out.below HB2.out, HA.out, hnc, hcm, hm⟩, HSZ.out⟩
  · have m11 : at_ + k - at_ = k := by omega
    subst ha' hc'
    refine wp_region_held_drew (S := (fun w' => w'.cell? ⟨br, 0, none⟩ = some (.slice a n cap) ∧ w'.cell? ⟨br, 1, none⟩ = some (.int .i64 ((at_ : Int) + k)))) (by kernel_rfl) HD.out (fun hHeld => ?_)
    refine wpAnyH_take (i := 1) (oi := ?oix20) (v := ?vx20) ?hix20 ?hsx20 ?hfx20 ?hrx20 ?hQx20 ?hyx20 ?hSx20 ?hx20
    case hix20 =>
      simp only [List.getElem?_toArray, List.getElem?_cons_succ, List.getElem?_cons_zero]
      rfl
    case hsx20 => kernel_rfl
    case hfx20 => kernel_rfl
    case hrx20 => kernel_rfl
    case hyx20 =>
      refine Or.inl ⟨by rfl, ?_⟩
      intro w hSw
      (try dsimp only at hSw)
      go_simp
      try with_reducible rfl
    case hQx20 => exact fun _ _ _ h => h
    case hSx20 => assumption
    try simp only [Act.put, List.setIfInBounds_toArray, List.set_cons_zero, List.set_cons_succ]
    refine wpAnyH_take (i := 2) (oi := ?oix21) (v := ?vx21) ?hix21 ?hsx21 ?hfx21 ?hrx21 ?hQx21 ?hyx21 ?hSx21 ?hx21
    case hix21 =>
      simp only [List.getElem?_toArray, List.getElem?_cons_succ, List.getElem?_cons_zero]
      rfl
    case hsx21 => kernel_rfl
    case hfx21 => kernel_rfl
    case hrx21 => kernel_rfl
    case hyx21 =>
      refine Or.inl ⟨by rfl, ?_⟩
      intro w hSw
      (try dsimp only at hSw)
      go_simp
      try with_reducible rfl
    case hQx21 => exact fun _ _ _ h => h
    case hSx21 => assumption
    try simp only [Act.put, List.setIfInBounds_toArray, List.set_cons_zero, List.set_cons_succ]
    refine wpAnyH_take (i := 3) (oi := ?oix22) (v := ?vx22) ?hix22 ?hsx22 ?hfx22 ?hrx22 ?hQx22 ?hyx22 ?hSx22 ?hx22
    case hix22 =>
      simp only [List.getElem?_toArray, List.getElem?_cons_succ, List.getElem?_cons_zero]
      rfl
    case hsx22 => kernel_rfl
    case hfx22 => kernel_rfl
    case hrx22 => kernel_rfl
    case hyx22 =>
      refine Or.inl ⟨by rfl, ?_⟩
      intro w hSw
      (try dsimp only at hSw)
      go_simp
      try with_reducible rfl
    case hQx22 => exact fun _ _ _ h => h
    case hSx22 => assumption
    try simp only [Act.put, List.setIfInBounds_toArray, List.set_cons_zero, List.set_cons_succ]
    refine wpAnyH_take (i := 4) (oi := ?oix23) (v := ?vx23) ?hix23 ?hsx23 ?hfx23 ?hrx23 ?hQx23 ?hyx23 ?hSx23 ?hx23
    case hix23 =>
      simp only [List.getElem?_toArray, List.getElem?_cons_succ, List.getElem?_cons_zero]
      rfl
    case hsx23 => kernel_rfl
    case hfx23 => kernel_rfl
    case hrx23 => kernel_rfl
    case hyx23 =>
      refine Or.inl ⟨by rfl, ?_⟩
      intro w hSw
      (try dsimp only at hSw)
      go_simp
      try with_reducible rfl
    case hQx23 => exact fun _ _ _ h => h
    case hSx23 => assumption
    try simp only [Act.put, List.setIfInBounds_toArray, List.set_cons_zero, List.set_cons_succ]
    refine wpAnyH_take (i := 5) (oi := ?oix24) (v := ?vx24) ?hix24 ?hsx24 ?hfx24 ?hrx24 ?hQx24 ?hyx24 ?hSx24 ?hx24
    case hix24 =>
      simp only [List.getElem?_toArray, List.getElem?_cons_succ, List.getElem?_cons_zero]
      rfl
    case hsx24 => kernel_rfl
    case hfx24 => kernel_rfl
    case hrx24 => kernel_rfl
    case hyx24 =>
      refine Or.inl ⟨by rfl, ?_⟩
      intro w hSw
      (try dsimp only at hSw)
      go_simp
      try with_reducible rfl
    case hQx24 => exact fun _ _ _ h => h
    case hSx24 => assumption
    try simp only [Act.put, List.setIfInBounds_toArray, List.set_cons_zero, List.set_cons_succ]
    refine wpAnyH_take (i := 6) (oi := ?oix25) (v := ?vx25) ?hix25 ?hsx25 ?hfx25 ?hrx25 ?hQx25 ?hyx25 ?hSx25 ?hx25
    case hix25 =>
      simp only [List.getElem?_toArray, List.getElem?_cons_succ, List.getElem?_cons_zero]
      rfl
    case hsx25 => kernel_rfl
    case hfx25 => kernel_rfl
    case hrx25 => kernel_rfl
    case hyx25 =>
      refine Or.inl ⟨by rfl, ?_⟩
      intro w hSw
      (try dsimp only at hSw)
      go_simp
      try with_reducible rfl
    case hQx25 => exact fun _ _ _ h => h
    case hSx25 => assumption
    try simp only [Act.put, List.setIfInBounds_toArray, List.set_cons_zero, List.set_cons_succ]
    refine wpAnyH_take (i := 7) (oi := ?oix26) (v := ?vx26) ?hix26 ?hsx26 ?hfx26 ?hrx26 ?hQx26 ?hyx26 ?hSx26 ?hx26
    case hix26 =>
      simp only [List.getElem?_toArray, List.getElem?_cons_succ, List.getElem?_cons_zero]
      rfl
    case hsx26 => kernel_rfl
    case hfx26 => kernel_rfl
    case hrx26 => kernel_rfl
    case hyx26 =>
      refine Or.inl ⟨by rfl, ?_⟩
      intro w hSw
      (try dsimp only at hSw)
      go_simp
      try with_reducible rfl
    case hQx26 => exact fun _ _ _ h => h
    case hSx26 => assumption
    try simp only [Act.put, List.setIfInBounds_toArray, List.set_cons_zero, List.set_cons_succ]
    refine wpAnyH_take (i := 8) (oi := ?oix27) (v := ?vx27) ?hix27 ?hsx27 ?hfx27 ?hrx27 ?hQx27 ?hyx27 ?hSx27 ?hx27
    case hix27 =>
      simp only [List.getElem?_toArray, List.getElem?_cons_succ, List.getElem?_cons_zero]
      rfl
    case hsx27 => kernel_rfl
    case hfx27 => kernel_rfl
    case hrx27 => kernel_rfl
    case hyx27 =>
      refine Or.inl ⟨by rfl, ?_⟩
      intro w hSw
      (try dsimp only at hSw)
      go_simp
      try with_reducible rfl
    case hQx27 => exact fun _ _ _ h => h
    case hSx27 => assumption
    try simp only [Act.put, List.setIfInBounds_toArray, List.set_cons_zero, List.set_cons_succ]
    refine wpAnyH_take (i := 9) (oi := ?oix28) (v := ?vx28) ?hix28 ?hsx28 ?hfx28 ?hrx28 ?hQx28 ?hyx28 ?hSx28 ?hx28
    case hix28 =>
      simp only [List.getElem?_toArray, List.getElem?_cons_succ, List.getElem?_cons_zero]
      rfl
    case hsx28 => kernel_rfl
    case hfx28 => kernel_rfl
    case hrx28 => kernel_rfl
    case hyx28 =>
      refine Or.inl ⟨by rfl, ?_⟩
      intro w hSw
      (try dsimp only at hSw)
      go_simp
      try with_reducible rfl
    case hQx28 => exact fun _ _ _ h => h
    case hSx28 => assumption
    try simp only [Act.put, List.setIfInBounds_toArray, List.set_cons_zero, List.set_cons_succ]
    refine wpAnyH_take (i := 10) (oi := ?oix29) (v := ?vx29) ?hix29 ?hsx29 ?hfx29 ?hrx29 ?hQx29 ?hyx29 ?hSx29 ?hx29
    case hix29 =>
      simp only [List.getElem?_toArray, List.getElem?_cons_succ, List.getElem?_cons_zero]
      rfl
    case hsx29 => kernel_rfl
    case hfx29 => kernel_rfl
    case hrx29 => kernel_rfl
    case hyx29 =>
      refine Or.inl ⟨by rfl, ?_⟩
      intro w hSw
      (try dsimp only at hSw)
      go_simp
      try with_reducible rfl
    case hQx29 => exact fun _ _ _ h => h
    case hSx29 => assumption
    try simp only [Act.put, List.setIfInBounds_toArray, List.set_cons_zero, List.set_cons_succ]
    refine wpAnyH_take (i := 11) (oi := ?oix30) (v := ?vx30) ?hix30 ?hsx30 ?hfx30 ?hrx30 ?hQx30 ?hyx30 ?hSx30 ?hx30
    case hix30 =>
      simp only [List.getElem?_toArray, List.getElem?_cons_succ, List.getElem?_cons_zero]
      rfl
    case hsx30 => kernel_rfl
    case hfx30 => kernel_rfl
    case hrx30 => kernel_rfl
    case hyx30 =>
      refine Or.inl ⟨by rfl, ?_⟩
      intro w hSw
      (try dsimp only at hSw)
      go_simp
      try with_reducible rfl
    case hQx30 => exact fun _ _ _ h => h
    case hSx30 => assumption
    try simp only [Act.put, List.setIfInBounds_toArray, List.set_cons_zero, List.set_cons_succ]
    refine wpAnyH_take (i := 12) (oi := ?oix31) (v := ?vx31) ?hix31 ?hsx31 ?hfx31 ?hrx31 ?hQx31 ?hyx31 ?hSx31 ?hx31
    case hix31 =>
      simp only [List.getElem?_toArray, List.getElem?_cons_succ, List.getElem?_cons_zero]
      rfl
    case hsx31 => kernel_rfl
    case hfx31 => kernel_rfl
    case hrx31 => kernel_rfl
    case hyx31 =>
      refine Or.inl ⟨by rfl, ?_⟩
      intro w hSw
      (try dsimp only at hSw)
      go_simp
      try with_reducible rfl
    case hQx31 => exact fun _ _ _ h => h
    case hSx31 => assumption
    try simp only [Act.put, List.setIfInBounds_toArray, List.set_cons_zero, List.set_cons_succ]
    refine wpAnyH_take (i := 13) (oi := ?oix32) (v := ?vx32) ?hix32 ?hsx32 ?hfx32 ?hrx32 ?hQx32 ?hyx32 ?hSx32 ?hx32
    case hix32 =>
      simp only [List.getElem?_toArray, List.getElem?_cons_succ, List.getElem?_cons_zero]
      rfl
    case hsx32 => kernel_rfl
    case hfx32 => kernel_rfl
    case hrx32 => kernel_rfl
    case hyx32 =>
      refine Or.inl ⟨by rfl, ?_⟩
      intro w hSw
      (try dsimp only at hSw)
      go_simp
      try with_reducible rfl
    case hQx32 => exact fun _ _ _ h => h
    case hSx32 => assumption
    try simp only [Act.put, List.setIfInBounds_toArray, List.set_cons_zero, List.set_cons_succ]
    refine wpAnyH_take (i := 14) (oi := ?oix33) (v := ?vx33) ?hix33 ?hsx33 ?hfx33 ?hrx33 ?hQx33 ?hyx33 ?hSx33 ?hx33
    case hix33 =>
      simp only [List.getElem?_toArray, List.getElem?_cons_succ, List.getElem?_cons_zero]
      rfl
    case hsx33 => kernel_rfl
    case hfx33 => kernel_rfl
    case hrx33 => kernel_rfl
    case hyx33 =>
      refine Or.inl ⟨by rfl, ?_⟩
      intro w hSw
      (try dsimp only at hSw)
      go_simp
      try with_reducible rfl
    case hQx33 => exact fun _ _ _ h => h
    case hSx33 => assumption
    try simp only [Act.put, List.setIfInBounds_toArray, List.set_cons_zero, List.set_cons_succ]
    refine wpAnyH_take (i := 15) (oi := ?oix34) (v := ?vx34) ?hix34 ?hsx34 ?hfx34 ?hrx34 ?hQx34 ?hyx34 ?hSx34 ?hx34
    case hix34 =>
      simp only [List.getElem?_toArray, List.getElem?_cons_succ, List.getElem?_cons_zero]
      rfl
    case hsx34 => kernel_rfl
    case hfx34 => kernel_rfl
    case hrx34 => kernel_rfl
    case hyx34 =>
      refine Or.inl ⟨by rfl, ?_⟩
      intro w hSw
      (try dsimp only at hSw)
      go_simp
      try with_reducible rfl
    case hQx34 => exact fun _ _ _ h => h
    case hSx34 => assumption
    try simp only [Act.put, List.setIfInBounds_toArray, List.set_cons_zero, List.set_cons_succ]
    refine wpAnyH_ready (rs := [0]) (by kernel_rfl) (by simp) ?_
    refine AllReadyH.cons (o := ?ox35) ?ix35 ?kx35 AllReadyH.nil
    case ix35 =>
      simp only [List.getElem?_toArray, List.getElem?_cons_zero]
      rfl
    intro K hK
    go_simp
    refine hK.out _ _ HD3.out (fun hHeld => ?_)
    clear hK K
    try simp only [Act.put, List.setIfInBounds_toArray, List.set_cons_zero, List.set_cons_succ]
    refine wpAnyH_ready (rs := [16]) (by kernel_rfl) (by simp) ?_
    refine AllReadyH.cons (o := ?ox36) ?ix36 ?kx36 AllReadyH.nil
    case ix36 =>
      simp only [List.getElem?_toArray, List.getElem?_cons_succ, List.getElem?_cons_zero]
      rfl
    intro K hK
    refine step_append_ran _ _ (by rfl) _ _ 34 (by rfl) _ _ _ (by rfl) (by rfl) HRUN1.out ?_
    refine hK.out _ _ HD2.out (fun hHeld => ?_)
    clear hK K
    try simp only [Act.put, List.setIfInBounds_toArray, List.set_cons_zero, List.set_cons_succ]
    refine wpAnyH_take (i := 17) (oi := ?oix37) (v := ?vx37) ?hix37 ?hsx37 ?hfx37 ?hrx37 ?hQx37 ?hyx37 ?hSx37 ?hx37
    case hix37 =>
      simp only [List.getElem?_toArray, List.getElem?_cons_succ, List.getElem?_cons_zero]
      rfl
    case hsx37 => kernel_rfl
    case hfx37 => kernel_rfl
    case hrx37 => kernel_rfl
    case hyx37 =>
      refine Or.inl ⟨by rfl, ?_⟩
      intro w hSw
      (try dsimp only at hSw)
      go_simp
      try with_reducible rfl
    case hQx37 => exact fun _ _ _ h => h
    case hSx37 => assumption
    try simp only [Act.put, List.setIfInBounds_toArray, List.set_cons_zero, List.set_cons_succ]
    refine wpAnyH_take (i := 18) (oi := ?oix38) (v := ?vx38) ?hix38 ?hsx38 ?hfx38 ?hrx38 ?hQx38 ?hyx38 ?hSx38 ?hx38
    case hix38 =>
      simp only [List.getElem?_toArray, List.getElem?_cons_succ, List.getElem?_cons_zero]
      rfl
    case hsx38 => kernel_rfl
    case hfx38 => kernel_rfl
    case hrx38 => kernel_rfl
    case hyx38 =>
      refine Or.inl ⟨by rfl, ?_⟩
      intro w hSw
      (try dsimp only at hSw)
      go_simp
      try with_reducible rfl
    case hQx38 => exact fun _ _ _ h => h
    case hSx38 => assumption
    try simp only [Act.put, List.setIfInBounds_toArray, List.set_cons_zero, List.set_cons_succ]
    refine wpAnyH_done (by kernel_rfl) ?_ _
    go_wp2
    go_ret2
    obtain ⟨a2, c2, rfl, hr2, hab2, _, hg2⟩ := own_reads HO2.out
    have hr2 : RowOf w2 a2 k (fun i => .int .u8 (z (at_ + i))) := by
      have := hr2.congr (f' := fun i => .int .u8 (z (at_ + i))) (fun i hi => by first | (simp at hi; done) | (simp at hi; simp [rowV, hi]))
      simpa using this
    exact ⟨a2, c2, by simp, hr2, fun p hp => by obtain ⟨g, rfl⟩ : ∃ g, p = ⟨g, 0, none⟩ := hg2 p hp; exact HOWN.out g (hab2 _ hp).1 (by rw [hp]; rfl), ⟨a, cap, HL2.out, HR1.out.below HB2.out, HA.out, hnc, hcm, hm⟩, HSZ.out⟩
set_option maxRecDepth 100000 in
set_option maxHeartbeats 1000000 in
theorem cpeek_any (bc n : Nat) (z : Nat → Int) (at_ : Nat) (hn : n ≤ 100000) (w : World) (h : CursorAt w bc n z at_) :
    Calls Try.prog 25 #[.pointer (some ⟨bc, 0, none⟩)] w fun e w' => ∃ v, e = .returned v ∧ w'.ownsRow w.heap.size 5 1 v (n - at_) (rowV (fun i => .int .u8 (z (at_ + i))) (n - at_)) ∧ Below w.heap.size w w' := by
  obtain ⟨a, cap, hl, hr, ha, hnc, hcm, hat⟩ := h
  have c0 := hl.cell 0
  have c1 : w.cell? ⟨bc, 1, none⟩ = some (.int .i64 at_) := hl.cell 1
  have h2 : (at_ : Int) ≤ n := by omega
  have m5 : (cap : Int) ≤ 9223372036854775807 := by unfold maxLen at hcm; omega
  have m3 : (n : Int) ≤ cap := by omega
  have m4 : (n : Int) ≤ 100000 := by omega
  have hrow : ∃ a' c', RowOf w a' (n - at_) (fun i => .int .u8 (z (at_ + i))) ∧ ((cap = at_ ∧ a' = a ∧ c' = 0) ∨ (cap ≠ at_ ∧ a' = a.map (fun x => x.add at_) ∧ c' = cap - at_)) := by
    by_cases hca : cap = at_
    · exact ⟨a, 0, .inl (by omega), .inl ⟨hca, rfl, rfl⟩⟩
    · refine ⟨_, _, ?_, .inr ⟨hca, rfl, rfl⟩⟩
      rcases Nat.eq_zero_or_pos (n - at_) with h0 | h0
      · exact .inl h0
      · obtain ⟨b, off, rfl, _, hc⟩ := hr.at_ (i := 0) (by omega)
        refine .inr ⟨b, off + at_, ?_, fun i hi => ?_⟩
        · simp only [Option.map_some, Addr.add]
          split
          · rename_i h; subst h; rfl
          · rfl
        · rw [Nat.add_assoc]; exact hc (at_ + i) (by omega)
  obtain ⟨a', c', hrow, hac⟩ := hrow
  have CL := Lib.hid (fun k => clone_any a' (n - at_) c' (fun i => z (at_ + i)) (by omega) (w.drewN k) (hrow.drawn k))
  clear hl hr ha hrow
  rcases hac with ⟨hca, ha', hc'⟩ | ⟨hca, ha', hc'⟩
  · obtain rfl : a = a' := ha'.symm
    obtain rfl : 0 = c' := hc'.symm
    obtain rfl : n = at_ := by omega
    obtain rfl : cap = n := hca
    rw [Nat.sub_self] at CL ⊢
    go_enter Try.func25, Try.ntmps25
    go_wp2
    refine wp_region_held_drew (S := (fun w' => w'.cell? ⟨bc, 0, none⟩ = some (.slice a cap cap) ∧ w'.cell? ⟨bc, 1, none⟩ = some (.int .i64 (cap : Int)))) (by kernel_rfl) ⟨c0, c1⟩ (fun hHeld => ?_)
    refine wpAnyH_take (i := 0) (oi := ?oix39) (v := ?vx39) ?hix39 ?hsx39 ?hfx39 ?hrx39 ?hQx39 ?hyx39 ?hSx39 ?hx39
    case hix39 =>
      simp only [List.getElem?_toArray, List.getElem?_cons_zero]
      rfl
    case hsx39 => kernel_rfl
    case hfx39 => kernel_rfl
    case hrx39 => kernel_rfl
    case hyx39 =>
      refine Or.inl ⟨by rfl, ?_⟩
      intro w hSw
      (try dsimp only at hSw)
      go_simp
      try with_reducible rfl
    case hQx39 => exact fun _ _ _ h => h
    case hSx39 => assumption
    try simp only [Act.put, List.setIfInBounds_toArray, List.set_cons_zero, List.set_cons_succ]
    refine wpAnyH_take (i := 1) (oi := ?oix40) (v := ?vx40) ?hix40 ?hsx40 ?hfx40 ?hrx40 ?hQx40 ?hyx40 ?hSx40 ?hx40
    case hix40 =>
      simp only [List.getElem?_toArray, List.getElem?_cons_succ, List.getElem?_cons_zero]
      rfl
    case hsx40 => kernel_rfl
    case hfx40 => kernel_rfl
    case hrx40 => kernel_rfl
    case hyx40 =>
      refine Or.inl ⟨by rfl, ?_⟩
      intro w hSw
      (try dsimp only at hSw)
      go_simp
      try with_reducible rfl
    case hQx40 => exact fun _ _ _ h => h
    case hSx40 => assumption
    try simp only [Act.put, List.setIfInBounds_toArray, List.set_cons_zero, List.set_cons_succ]
    refine wpAnyH_take (i := 2) (oi := ?oix41) (v := ?vx41) ?hix41 ?hsx41 ?hfx41 ?hrx41 ?hQx41 ?hyx41 ?hSx41 ?hx41
    case hix41 =>
      simp only [List.getElem?_toArray, List.getElem?_cons_succ, List.getElem?_cons_zero]
      rfl
    case hsx41 => kernel_rfl
    case hfx41 => kernel_rfl
    case hrx41 => kernel_rfl
    case hyx41 =>
      refine Or.inl ⟨by rfl, ?_⟩
      intro w hSw
      (try dsimp only at hSw)
      go_simp
      try with_reducible rfl
    case hQx41 => exact fun _ _ _ h => h
    case hSx41 => assumption
    try simp only [Act.put, List.setIfInBounds_toArray, List.set_cons_zero, List.set_cons_succ]
    refine wpAnyH_take (i := 3) (oi := ?oix42) (v := ?vx42) ?hix42 ?hsx42 ?hfx42 ?hrx42 ?hQx42 ?hyx42 ?hSx42 ?hx42
    case hix42 =>
      simp only [List.getElem?_toArray, List.getElem?_cons_succ, List.getElem?_cons_zero]
      rfl
    case hsx42 => kernel_rfl
    case hfx42 => kernel_rfl
    case hrx42 => kernel_rfl
    case hyx42 =>
      refine Or.inl ⟨by rfl, ?_⟩
      intro w hSw
      (try dsimp only at hSw)
      go_simp
      try with_reducible rfl
    case hQx42 => exact fun _ _ _ h => h
    case hSx42 => assumption
    try simp only [Act.put, List.setIfInBounds_toArray, List.set_cons_zero, List.set_cons_succ]
    refine wpAnyH_take (i := 4) (oi := ?oix43) (v := ?vx43) ?hix43 ?hsx43 ?hfx43 ?hrx43 ?hQx43 ?hyx43 ?hSx43 ?hx43
    case hix43 =>
      simp only [List.getElem?_toArray, List.getElem?_cons_succ, List.getElem?_cons_zero]
      rfl
    case hsx43 => kernel_rfl
    case hfx43 => kernel_rfl
    case hrx43 => kernel_rfl
    case hyx43 =>
      refine Or.inl ⟨by rfl, ?_⟩
      intro w hSw
      (try dsimp only at hSw)
      go_simp
      try with_reducible rfl
    case hQx43 => exact fun _ _ _ h => h
    case hSx43 => assumption
    try simp only [Act.put, List.setIfInBounds_toArray, List.set_cons_zero, List.set_cons_succ]
    refine wpAnyH_take (i := 5) (oi := ?oix44) (v := ?vx44) ?hix44 ?hsx44 ?hfx44 ?hrx44 ?hQx44 ?hyx44 ?hSx44 ?hx44
    case hix44 =>
      simp only [List.getElem?_toArray, List.getElem?_cons_succ, List.getElem?_cons_zero]
      rfl
    case hsx44 => kernel_rfl
    case hfx44 => kernel_rfl
    case hrx44 => kernel_rfl
    case hyx44 =>
      refine Or.inl ⟨by rfl, ?_⟩
      intro w hSw
      (try dsimp only at hSw)
      go_simp
      try with_reducible rfl
    case hQx44 => exact fun _ _ _ h => h
    case hSx44 => assumption
    try simp only [Act.put, List.setIfInBounds_toArray, List.set_cons_zero, List.set_cons_succ]
    refine wpAnyH_take (i := 6) (oi := ?oix45) (v := ?vx45) ?hix45 ?hsx45 ?hfx45 ?hrx45 ?hQx45 ?hyx45 ?hSx45 ?hx45
    case hix45 =>
      simp only [List.getElem?_toArray, List.getElem?_cons_succ, List.getElem?_cons_zero]
      rfl
    case hsx45 => kernel_rfl
    case hfx45 => kernel_rfl
    case hrx45 => kernel_rfl
    case hyx45 =>
      refine Or.inl ⟨by rfl, ?_⟩
      intro w hSw
      (try dsimp only at hSw)
      go_simp
      try with_reducible rfl
    case hQx45 => exact fun _ _ _ h => h
    case hSx45 => assumption
    try simp only [Act.put, List.setIfInBounds_toArray, List.set_cons_zero, List.set_cons_succ]
    refine wpAnyH_take (i := 7) (oi := ?oix46) (v := ?vx46) ?hix46 ?hsx46 ?hfx46 ?hrx46 ?hQx46 ?hyx46 ?hSx46 ?hx46
    case hix46 =>
      simp only [List.getElem?_toArray, List.getElem?_cons_succ, List.getElem?_cons_zero]
      rfl
    case hsx46 => kernel_rfl
    case hfx46 => kernel_rfl
    case hrx46 => kernel_rfl
    case hyx46 =>
      refine Or.inl ⟨by rfl, ?_⟩
      intro w hSw
      (try dsimp only at hSw)
      go_simp
      try with_reducible rfl
    case hQx46 => exact fun _ _ _ h => h
    case hSx46 => assumption
    try simp only [Act.put, List.setIfInBounds_toArray, List.set_cons_zero, List.set_cons_succ]
    refine wpAnyH_take (i := 8) (oi := ?oix47) (v := ?vx47) ?hix47 ?hsx47 ?hfx47 ?hrx47 ?hQx47 ?hyx47 ?hSx47 ?hx47
    case hix47 =>
      simp only [List.getElem?_toArray, List.getElem?_cons_succ, List.getElem?_cons_zero]
      rfl
    case hsx47 => kernel_rfl
    case hfx47 => kernel_rfl
    case hrx47 => kernel_rfl
    case hyx47 =>
      refine Or.inl ⟨by rfl, ?_⟩
      intro w hSw
      (try dsimp only at hSw)
      go_simp
      try with_reducible rfl
    case hQx47 => exact fun _ _ _ h => h
    case hSx47 => assumption
    try simp only [Act.put, List.setIfInBounds_toArray, List.set_cons_zero, List.set_cons_succ]
    refine wpAnyH_ready (rs := [9]) (by kernel_rfl) (by simp) ?_
    refine AllReadyH.cons (o := ?ox48) ?ix48 ?kx48 AllReadyH.nil
    case ix48 =>
      simp only [List.getElem?_toArray, List.getElem?_cons_succ, List.getElem?_cons_zero]
      rfl
    intro K hK
    go_simp
    go_at_call 60
    refine (CL.out 1).mono ?_
    rintro e w2 ⟨v, rfl, ho, hb⟩
    have hb : Below w.heap.size w w2 := ⟨hb.os, hb.tape, hb.output, hb.size, hb.block⟩
    have HO := Lib.hid ho
    have HB := Lib.hid hb
    have hbl := World.block_lt_of_cell? w _ c1
    have c2 := And.intro ((hb.cell (p := ⟨bc, 0, none⟩) hbl).trans c0) ((hb.cell (p := ⟨bc, 1, none⟩) hbl).trans c1)
    clear ho hb
    refine hK.out _ _ c2 (fun hHeld => ?_)
    clear hK K
    try simp only [Act.put, List.setIfInBounds_toArray, List.set_cons_zero, List.set_cons_succ]
    refine wpAnyH_take (i := 10) (oi := ?oix49) (v := ?vx49) ?hix49 ?hsx49 ?hfx49 ?hrx49 ?hQx49 ?hyx49 ?hSx49 ?hx49
    case hix49 =>
      simp only [List.getElem?_toArray, List.getElem?_cons_succ, List.getElem?_cons_zero]
      rfl
    case hsx49 => kernel_rfl
    case hfx49 => kernel_rfl
    case hrx49 => kernel_rfl
    case hyx49 =>
      refine Or.inl ⟨by rfl, ?_⟩
      intro w hSw
      (try dsimp only at hSw)
      go_simp
      try with_reducible rfl
    case hQx49 => exact fun _ _ _ h => h
    case hSx49 => assumption
    try simp only [Act.put, List.setIfInBounds_toArray, List.set_cons_zero, List.set_cons_succ]
    refine wpAnyH_done (by kernel_rfl) ?_ _
    go_wp2
    go_ret
    exact ⟨v, rfl, HO.out, HB.out⟩
  · subst ha' hc'
    go_enter Try.func25, Try.ntmps25
    go_wp2
    refine wp_region_held_drew (S := (fun w' => w'.cell? ⟨bc, 0, none⟩ = some (.slice a n cap) ∧ w'.cell? ⟨bc, 1, none⟩ = some (.int .i64 (at_ : Int)))) (by kernel_rfl) ⟨c0, c1⟩ (fun hHeld => ?_)
    refine wpAnyH_take (i := 0) (oi := ?oix50) (v := ?vx50) ?hix50 ?hsx50 ?hfx50 ?hrx50 ?hQx50 ?hyx50 ?hSx50 ?hx50
    case hix50 =>
      simp only [List.getElem?_toArray, List.getElem?_cons_zero]
      rfl
    case hsx50 => kernel_rfl
    case hfx50 => kernel_rfl
    case hrx50 => kernel_rfl
    case hyx50 =>
      refine Or.inl ⟨by rfl, ?_⟩
      intro w hSw
      (try dsimp only at hSw)
      go_simp
      try with_reducible rfl
    case hQx50 => exact fun _ _ _ h => h
    case hSx50 => assumption
    try simp only [Act.put, List.setIfInBounds_toArray, List.set_cons_zero, List.set_cons_succ]
    refine wpAnyH_take (i := 1) (oi := ?oix51) (v := ?vx51) ?hix51 ?hsx51 ?hfx51 ?hrx51 ?hQx51 ?hyx51 ?hSx51 ?hx51
    case hix51 =>
      simp only [List.getElem?_toArray, List.getElem?_cons_succ, List.getElem?_cons_zero]
      rfl
    case hsx51 => kernel_rfl
    case hfx51 => kernel_rfl
    case hrx51 => kernel_rfl
    case hyx51 =>
      refine Or.inl ⟨by rfl, ?_⟩
      intro w hSw
      (try dsimp only at hSw)
      go_simp
      try with_reducible rfl
    case hQx51 => exact fun _ _ _ h => h
    case hSx51 => assumption
    try simp only [Act.put, List.setIfInBounds_toArray, List.set_cons_zero, List.set_cons_succ]
    refine wpAnyH_take (i := 2) (oi := ?oix52) (v := ?vx52) ?hix52 ?hsx52 ?hfx52 ?hrx52 ?hQx52 ?hyx52 ?hSx52 ?hx52
    case hix52 =>
      simp only [List.getElem?_toArray, List.getElem?_cons_succ, List.getElem?_cons_zero]
      rfl
    case hsx52 => kernel_rfl
    case hfx52 => kernel_rfl
    case hrx52 => kernel_rfl
    case hyx52 =>
      refine Or.inl ⟨by rfl, ?_⟩
      intro w hSw
      (try dsimp only at hSw)
      go_simp
      try with_reducible rfl
    case hQx52 => exact fun _ _ _ h => h
    case hSx52 => assumption
    try simp only [Act.put, List.setIfInBounds_toArray, List.set_cons_zero, List.set_cons_succ]
    refine wpAnyH_take (i := 3) (oi := ?oix53) (v := ?vx53) ?hix53 ?hsx53 ?hfx53 ?hrx53 ?hQx53 ?hyx53 ?hSx53 ?hx53
    case hix53 =>
      simp only [List.getElem?_toArray, List.getElem?_cons_succ, List.getElem?_cons_zero]
      rfl
    case hsx53 => kernel_rfl
    case hfx53 => kernel_rfl
    case hrx53 => kernel_rfl
    case hyx53 =>
      refine Or.inl ⟨by rfl, ?_⟩
      intro w hSw
      (try dsimp only at hSw)
      go_simp
      try with_reducible rfl
    case hQx53 => exact fun _ _ _ h => h
    case hSx53 => assumption
    try simp only [Act.put, List.setIfInBounds_toArray, List.set_cons_zero, List.set_cons_succ]
    refine wpAnyH_take (i := 4) (oi := ?oix54) (v := ?vx54) ?hix54 ?hsx54 ?hfx54 ?hrx54 ?hQx54 ?hyx54 ?hSx54 ?hx54
    case hix54 =>
      simp only [List.getElem?_toArray, List.getElem?_cons_succ, List.getElem?_cons_zero]
      rfl
    case hsx54 => kernel_rfl
    case hfx54 => kernel_rfl
    case hrx54 => kernel_rfl
    case hyx54 =>
      refine Or.inl ⟨by rfl, ?_⟩
      intro w hSw
      (try dsimp only at hSw)
      go_simp
      try with_reducible rfl
    case hQx54 => exact fun _ _ _ h => h
    case hSx54 => assumption
    try simp only [Act.put, List.setIfInBounds_toArray, List.set_cons_zero, List.set_cons_succ]
    refine wpAnyH_take (i := 5) (oi := ?oix55) (v := ?vx55) ?hix55 ?hsx55 ?hfx55 ?hrx55 ?hQx55 ?hyx55 ?hSx55 ?hx55
    case hix55 =>
      simp only [List.getElem?_toArray, List.getElem?_cons_succ, List.getElem?_cons_zero]
      rfl
    case hsx55 => kernel_rfl
    case hfx55 => kernel_rfl
    case hrx55 => kernel_rfl
    case hyx55 =>
      refine Or.inl ⟨by rfl, ?_⟩
      intro w hSw
      (try dsimp only at hSw)
      go_simp
      try with_reducible rfl
    case hQx55 => exact fun _ _ _ h => h
    case hSx55 => assumption
    try simp only [Act.put, List.setIfInBounds_toArray, List.set_cons_zero, List.set_cons_succ]
    refine wpAnyH_take (i := 6) (oi := ?oix56) (v := ?vx56) ?hix56 ?hsx56 ?hfx56 ?hrx56 ?hQx56 ?hyx56 ?hSx56 ?hx56
    case hix56 =>
      simp only [List.getElem?_toArray, List.getElem?_cons_succ, List.getElem?_cons_zero]
      rfl
    case hsx56 => kernel_rfl
    case hfx56 => kernel_rfl
    case hrx56 => kernel_rfl
    case hyx56 =>
      refine Or.inl ⟨by rfl, ?_⟩
      intro w hSw
      (try dsimp only at hSw)
      go_simp
      try with_reducible rfl
    case hQx56 => exact fun _ _ _ h => h
    case hSx56 => assumption
    try simp only [Act.put, List.setIfInBounds_toArray, List.set_cons_zero, List.set_cons_succ]
    refine wpAnyH_take (i := 7) (oi := ?oix57) (v := ?vx57) ?hix57 ?hsx57 ?hfx57 ?hrx57 ?hQx57 ?hyx57 ?hSx57 ?hx57
    case hix57 =>
      simp only [List.getElem?_toArray, List.getElem?_cons_succ, List.getElem?_cons_zero]
      rfl
    case hsx57 => kernel_rfl
    case hfx57 => kernel_rfl
    case hrx57 => kernel_rfl
    case hyx57 =>
      refine Or.inl ⟨by rfl, ?_⟩
      intro w hSw
      (try dsimp only at hSw)
      go_simp
      try with_reducible rfl
    case hQx57 => exact fun _ _ _ h => h
    case hSx57 => assumption
    try simp only [Act.put, List.setIfInBounds_toArray, List.set_cons_zero, List.set_cons_succ]
    refine wpAnyH_take (i := 8) (oi := ?oix58) (v := ?vx58) ?hix58 ?hsx58 ?hfx58 ?hrx58 ?hQx58 ?hyx58 ?hSx58 ?hx58
    case hix58 =>
      simp only [List.getElem?_toArray, List.getElem?_cons_succ, List.getElem?_cons_zero]
      rfl
    case hsx58 => kernel_rfl
    case hfx58 => kernel_rfl
    case hrx58 => kernel_rfl
    case hyx58 =>
      refine Or.inl ⟨by rfl, ?_⟩
      intro w hSw
      (try dsimp only at hSw)
      go_simp
      try with_reducible rfl
    case hQx58 => exact fun _ _ _ h => h
    case hSx58 => assumption
    try simp only [Act.put, List.setIfInBounds_toArray, List.set_cons_zero, List.set_cons_succ]
    refine wpAnyH_ready (rs := [9]) (by kernel_rfl) (by simp) ?_
    refine AllReadyH.cons (o := ?ox59) ?ix59 ?kx59 AllReadyH.nil
    case ix59 =>
      simp only [List.getElem?_toArray, List.getElem?_cons_succ, List.getElem?_cons_zero]
      rfl
    intro K hK
    go_simp
    go_at_call 60
    refine (CL.out 1).mono ?_
    rintro e w2 ⟨v, rfl, ho, hb⟩
    have hb : Below w.heap.size w w2 := ⟨hb.os, hb.tape, hb.output, hb.size, hb.block⟩
    have HO := Lib.hid ho
    have HB := Lib.hid hb
    have hbl := World.block_lt_of_cell? w _ c1
    have c2 := And.intro ((hb.cell (p := ⟨bc, 0, none⟩) hbl).trans c0) ((hb.cell (p := ⟨bc, 1, none⟩) hbl).trans c1)
    clear ho hb
    refine hK.out _ _ c2 (fun hHeld => ?_)
    clear hK K
    try simp only [Act.put, List.setIfInBounds_toArray, List.set_cons_zero, List.set_cons_succ]
    refine wpAnyH_take (i := 10) (oi := ?oix60) (v := ?vx60) ?hix60 ?hsx60 ?hfx60 ?hrx60 ?hQx60 ?hyx60 ?hSx60 ?hx60
    case hix60 =>
      simp only [List.getElem?_toArray, List.getElem?_cons_succ, List.getElem?_cons_zero]
      rfl
    case hsx60 => kernel_rfl
    case hfx60 => kernel_rfl
    case hrx60 => kernel_rfl
    case hyx60 =>
      refine Or.inl ⟨by rfl, ?_⟩
      intro w hSw
      (try dsimp only at hSw)
      go_simp
      try with_reducible rfl
    case hQx60 => exact fun _ _ _ h => h
    case hSx60 => assumption
    try simp only [Act.put, List.setIfInBounds_toArray, List.set_cons_zero, List.set_cons_succ]
    refine wpAnyH_done (by kernel_rfl) ?_ _
    go_wp2
    go_ret
    exact ⟨v, rfl, HO.out, HB.out⟩
end Go.Proofs.Ytknpekpigiclkaa
