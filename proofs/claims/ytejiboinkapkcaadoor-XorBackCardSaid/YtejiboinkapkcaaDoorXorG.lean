/-
  CONTRACTS OF xor's source: number, read and next, in any world. Conditions: at most 10000 bytes, which lie in memory as told.
-/
import Derived.Test.YtejiboinkapkcaaDoorXorA
import Derived.Test.YtejiboinkapkcaaDoorBitsGet
import Derived.Test.YtejiboinkapkcaaDoorTrap
import Derived.Test.YtejiboinkapkcaaDoorNumW
namespace Go.Proofs.YtejiboinkapkcaaDoor
open Go.ChangeShapes Go.WideShapes Go.ChangeAt Go.RowKit
set_option linter.unusedVariables false
set_option linter.unusedSimpArgs false
theorem must_ok (x : Int) (w : World) : Calls Tryd.prog 47 #[.int .u64 x, .int .i64 0] w fun e w' => e = .returned (.int .u64 x) ∧ w = w' := by
  go_enter Tryd.func47, Tryd.ntmps47
  go_wp2_with fail
  refine (throw_ok _).mono ?_
  rintro e w' ⟨rfl, rfl⟩
  go_wp2
  go_ret
  exact ⟨rfl, rfl⟩
theorem must_some (x n : Int) (h : (n != 0) = true) (w : World) : Calls Tryd.prog 47 #[.int .u64 x, .int .i64 n] w fun e w' => e = .panicked [{ v := .iface 88 (.agg #[.int .i64 n]), recovered := false }] ∧ w = w' := by
  go_enter Tryd.func47, Tryd.ntmps47
  go_wp2_with fail
  refine (throw_some n h _).mono ?_
  rintro e w' ⟨rfl, rfl⟩
  go_wp2
  exact ⟨rfl, rfl, rfl⟩
/-- How far a source is, and its window. -/
structure DS where
  at_ : Nat
  t : Nat
  e : Nat
/-- What a window's bits make. -/
def dtail (M B : Nat) (s : DS) : Int × Nat × DS :=
  if s.t = 64 ∧ s.e = 0 then (3, 0, s)
  else if B < s.at_ + (64 - s.t - s.e) then (1, 0, s)
  else (0, M / 2 ^ s.at_ % 2 ^ (64 - s.t - s.e) * 2 ^ s.e, ⟨s.at_ + (64 - s.t - s.e), s.t, s.e⟩)
/-- The next number: what is wrong, the number, what stands behind. -/
def dnext (M B : Nat) (s : DS) : Int × Nat × DS :=
  if B < s.at_ + 1 then (1, 0, s)
  else if M / 2 ^ s.at_ % 2 = 0 then (0, 0, ⟨s.at_ + 1, s.t, s.e⟩)
  else if B < s.at_ + 1 + 1 then (1, 0, s)
  else if M / 2 ^ (s.at_ + 1) % 2 = 0 then dtail M B ⟨s.at_ + 1 + 1, s.t, s.e⟩
  else if B < s.at_ + 1 + 1 + 5 + 6 then (1, 0, s)
  else if 64 < M / 2 ^ (s.at_ + 1 + 1) % 2 ^ 5 + (M / 2 ^ (s.at_ + 1 + 1 + 5) % 2 ^ 6 + 1) then (4, 0, s)
  else dtail M B ⟨s.at_ + 1 + 1 + 5 + 6, M / 2 ^ (s.at_ + 1 + 1) % 2 ^ 5, 64 - M / 2 ^ (s.at_ + 1 + 1) % 2 ^ 5 - (M / 2 ^ (s.at_ + 1 + 1 + 5) % 2 ^ 6 + 1)⟩
/-- How a number ends that may be thrown. -/
abbrev thrown1 (m : Int) : Ending := .panicked [{ v := .iface 88 (.agg #[.int .i64 m]), recovered := false }]
/-- A source lies. -/
def SrcAt (w : World) (bs br n : Nat) (z : Nat → Int) (s : DS) : Prop :=
  Lies w bs 64 #[.pointer (some ⟨br, 0, none⟩), .int .i64 s.t, .int .i64 s.e] ∧ ReaderAt w br n z s.at_ ∧ br < bs
set_option maxHeartbeats 1000000 in
theorem number_ok (bs br n : Nat) (z : Nat → Int) (at_ k : Nat) (hz : ∀ i, i < n → 0 ≤ z i ∧ z i ≤ 255) (hn : n ≤ 10000) (hk : k ≤ 64) (hat : at_ + k ≤ 8 * n) (w : World) (hc : w.cell? ⟨bs, 0, none⟩ = some (.pointer (some ⟨br, 0, none⟩))) (h : ReaderAt w br n z at_) (K : Int) (hK : K = (k : Int)) :
    Calls Tryd.prog 31 #[.pointer (some ⟨bs, 0, none⟩), .int .i64 K] w fun e w' => e = .returned (.int .u64 ((num z n / 2 ^ at_ % 2 ^ k : Nat) : Int)) ∧ ReaderAt w' br n z (at_ + k) ∧ Turned (· = br) w w' := by
  subst hK
  have GE := Lib.hid (get_ok br n z at_ k hz hn hk hat w h)
  have MU := Lib.hid (fun x W => must_ok x W)
  clear h hz
  generalize num z n / 2 ^ at_ % 2 ^ k = N at *
  go_enter Tryd.func31, Tryd.ntmps31
  go_wp2_with (first
    | (go_at_call 48; refine GE.out.mono ?_; rintro e w1 ⟨rfl, hr, ht⟩; have HR := Lib.hid hr; have HT := Lib.hid ht; clear hr ht)
    | (go_at_call 47; refine (MU.out _ _).mono ?_; rintro e w2 ⟨rfl, rfl⟩))
  go_ret
  exact ⟨rfl, HR.out, HT.out⟩
set_option maxHeartbeats 1000000 in
theorem number_short (bs br n : Nat) (z : Nat → Int) (at_ k : Nat) (hn : n ≤ 10000) (hk : k ≤ 64) (hat : at_ ≤ 8 * n) (hs : 8 * n < at_ + k) (w : World) (hc : w.cell? ⟨bs, 0, none⟩ = some (.pointer (some ⟨br, 0, none⟩))) (h : ReaderAt w br n z at_) (K : Int) (hK : K = (k : Int)) :
    Calls Tryd.prog 31 #[.pointer (some ⟨bs, 0, none⟩), .int .i64 K] w fun e w' => e = thrown1 1 ∧ ∃ j, w' = w.drewN j := by
  subst hK
  have GE := Lib.hid (get_short br n z at_ k hn hat hk (by omega) w h)
  have MU := Lib.hid (fun W => must_some 0 1 (by decide) W)
  clear h
  go_enter Tryd.func31, Tryd.ntmps31
  go_wp2_with (first
    | (go_at_call 48; refine GE.out.mono ?_; rintro e w1 ⟨rfl, j, rfl⟩)
    | (go_at_call 47; refine (MU.out _).mono ?_; rintro e w2 ⟨rfl, rfl⟩))
  exact ⟨rfl, rfl, _, rfl⟩
/-- How read ends: what is wrong, or the window. -/
def ReadEnd (M B at_ br n : Nat) (z : Nat → Int) (w : World) (e : Ending) (w' : World) : Prop :=
  Turned (· = br) w w' ∧
  ((B < at_ + 5 + 6 ∧ e = thrown1 1) ∨
   (at_ + 5 + 6 ≤ B ∧ 64 < M / 2 ^ at_ % 2 ^ 5 + (M / 2 ^ (at_ + 5) % 2 ^ 6 + 1) ∧ e = thrown1 4) ∨
   (at_ + 5 + 6 ≤ B ∧ M / 2 ^ at_ % 2 ^ 5 + (M / 2 ^ (at_ + 5) % 2 ^ 6 + 1) ≤ 64 ∧ e = .returned (.agg #[.int .i64 ((M / 2 ^ at_ % 2 ^ 5 : Nat) : Int), .int .i64 ((64 - M / 2 ^ at_ % 2 ^ 5 - (M / 2 ^ (at_ + 5) % 2 ^ 6 + 1) : Nat) : Int)]) ∧ ReaderAt w' br n z (at_ + 5 + 6)))
set_option maxRecDepth 100000 in
set_option maxHeartbeats 2000000 in
theorem read_any (bs br n : Nat) (z : Nat → Int) (at_ : Nat) (hz : ∀ i, i < n → 0 ≤ z i ∧ z i ≤ 255) (hn : n ≤ 10000) (hat : at_ ≤ 8 * n) (hne : br ≠ bs) (w : World) (hc : w.cell? ⟨bs, 0, none⟩ = some (.pointer (some ⟨br, 0, none⟩))) (h : ReaderAt w br n z at_) :
    Calls Tryd.prog 49 #[.pointer (some ⟨bs, 0, none⟩)] w (ReadEnd (num z n) (8 * n) at_ br n z w) := by
  have hbs := World.block_lt_of_cell? w _ hc
  have hb1 : Below w.heap.size w (w.alloc (.cells (wV 0 0) 52)) := (Below.refl _ _).alloc (Nat.le_refl _) _
  have hc1 := (hb1.cell (p := ⟨bs, 0, none⟩) hbs).trans hc
  have h1 := h.below hb1 h.lt
  have L1 := Lies.new w 52 (wV 0 0)
  have hbr := h.lt
  have CT := Lib.hid (fun n W => check_ok n W)
  have CF := Lib.hid (fun W => check_some 4 (by decide) W)
  clear h hc
  by_cases s5 : 8 * n < at_ + 5
  · have N5 := Lib.hid (number_short bs br n z at_ 5 hn (by decide) hat s5 _ hc1 h1 5 rfl)
    have HB1 := Lib.hid hb1
    clear h1 hc1 L1 hb1
    go_enter Tryd.func49, Tryd.ntmps49
    go_wp2_with (go_at_call 31; refine N5.out.mono ?_; rintro e w1 ⟨rfl, j, rfl⟩)
    exact ⟨rfl, (Turned.of_below HB1.out (fun i hi _ => hi)).drewN j, .inl ⟨by omega, rfl⟩⟩
  have N5 := number_ok bs br n z at_ 5 hz hn (by decide) (by omega) _ hc1 h1 5 rfl
  have hv5 : num z n / 2 ^ at_ % 2 ^ 5 < 32 := Nat.mod_lt _ (by decide)
  have N5 := Lib.hid N5
  by_cases s6 : 8 * n < at_ + 5 + 6
  · have HC1 := Lib.hid hc1
    have HB1 := Lib.hid hb1
    have w64 : wrap64 ((num z n / 2 ^ at_ % 2 ^ 5 : Nat) : Int) = ((num z n / 2 ^ at_ % 2 ^ 5 : Nat) : Int) := by unfold wrap64; omega
    clear h1 hc1 L1 hb1
    generalize num z n / 2 ^ at_ % 2 ^ 5 = N at *
    go_enter Tryd.func49, Tryd.ntmps49
    go_wp2_with (first
      | (go_at_call 31; refine N5.out.mono ?_; clear N5; rintro e w1 ⟨rfl, hr1, ht1⟩; have hc2 := (ht1.cell (p := ⟨bs, 0, none⟩) (by simp; omega) (fun e => hne e.symm)).trans HC1.out; have N6 := Lib.hid (number_short bs br n z (at_ + 5) 6 hn (by decide) (by omega) s6 _ hc2 hr1 6 rfl); have HT := Lib.hid ((Turned.of_below (S := (· = br)) HB1.out (fun i hi _ => hi)).trans ht1); clear hr1 ht1 hc2)
      | (go_at_call 31; refine N6.out.mono ?_; rintro e w1 ⟨rfl, j, rfl⟩))
    exact ⟨rfl, HT.out.drewN j, .inl ⟨by omega, rfl⟩⟩
  have hv6 : num z n / 2 ^ (at_ + 5) % 2 ^ 6 < 64 := Nat.mod_lt _ (by decide)
  have N6 := Lib.hid (fun W hc hr => number_ok bs br n z (at_ + 5) 6 hz hn (by decide) (by omega) W hc hr 6 rfl)
  have HC1 := Lib.hid hc1
  have HB1 := Lib.hid hb1
  have HL1 := Lib.hid L1
  clear h1 hc1 L1 hb1
  unfold ReadEnd
  generalize num z n / 2 ^ at_ % 2 ^ 5 = N at *
  generalize num z n / 2 ^ (at_ + 5) % 2 ^ 6 = P at *
  have w64 : wrap64 (N : Int) = N := by unfold wrap64; omega
  have w64b : wrap64 (P : Int) = P := by unfold wrap64; omega
  by_cases g : 64 < N + (P + 1)
  · have g1 : decide ((N : Int) + ((P : Int) + 1) ≤ 64) = false := decide_eq_false (by omega)
    have g2 : ¬ (N : Int) + ((P : Int) + 1) ≤ 64 := by omega
    go_enter Tryd.func49, Tryd.ntmps49
    go_wp2_with (first
      | (go_at_call 31; refine N5.out.mono ?_; clear N5; rintro e w1 ⟨rfl, hr1, ht1⟩; have hc2 := (ht1.cell (p := ⟨bs, 0, none⟩) (by simp; omega) (fun e => hne e.symm)).trans HC1.out; have N7 := Lib.hid (N6.out _ hc2 hr1); have HT := Lib.hid ((Turned.of_below (S := (· = br)) HB1.out (fun i hi _ => hi)).trans ht1); clear hr1 ht1 hc2)
      | (go_at_call 31; refine N7.out.mono ?_; rintro e w2 ⟨rfl, hr2, ht2⟩; have HT2 := Lib.hid (HT.out.trans ht2); clear hr2 ht2)
      | (go_at_call 34; refine (CF.out _).mono ?_; rintro e w3 ⟨rfl, rfl⟩))
    exact ⟨rfl, HT2.out, .inr (.inl ⟨by omega, g, rfl⟩)⟩
  · have g1 : (N : Int) + ((P : Int) + 1) ≤ 64 := by omega
    have e1 : (64 : Int) - N = ((64 - N : Nat) : Int) := by omega
    have e2 : ((64 - N : Nat) : Int) - ((P : Int) + 1) = ((64 - N - (P + 1) : Nat) : Int) := by omega
    go_enter Tryd.func49, Tryd.ntmps49
    go_wp2_with (first
      | (go_at_call 31; refine N5.out.mono ?_; clear N5; rintro e w1 ⟨rfl, hr1, ht1⟩; have hc2 := (ht1.cell (p := ⟨bs, 0, none⟩) (by simp; omega) (fun e => hne e.symm)).trans HC1.out; have l1 := HL1.out.turned ht1 (fun e => by omega); have N7 := Lib.hid (N6.out _ hc2 hr1); have HT := Lib.hid ((Turned.of_below (S := (· = br)) HB1.out (fun i hi _ => hi)).trans ht1); have HL2 := Lib.hid l1; clear hr1 ht1 hc2 l1)
      | (go_at_call 31; refine N7.out.mono ?_; rintro e w2 ⟨rfl, hr2, ht2⟩; have l2 := HL2.out.turned ht2 (fun e => by omega); have c0 := l2.cell 0; have c1 := l2.cell 1; have f0 := l2.frozen 0; have f1 := l2.frozen 1; have HL3 := Lib.hid l2; have HT2 := Lib.hid (HT.out.trans ht2); have HR2 := Lib.hid hr2; clear hr2 ht2 l2)
      | (go_at_call 34; refine (CT.out _ _).mono ?_; rintro e w3 ⟨rfl, rfl⟩))
    exact bodyPost_ret (v := .agg (wV N ((64 - N - (P + 1) : Nat) : Int))) (results_cell_row (by rfl) _ _ w.heap.size 52 (wV N ((64 - N - (P + 1) : Nat) : Int)) (0, 0) _ (by rfl) ((HL3.out.set_ 0 (.int .i64 N)).set_ 1 (.int .i64 ((64 - N - (P + 1) : Nat) : Int))) Tryd.underlying52 rfl win_info) rfl
      ⟨(HT2.out.setCell (p := ⟨w.heap.size, 0, none⟩) (.inr (Nat.le_refl _)) _).setCell (p := ⟨w.heap.size, 1, none⟩) (.inr (Nat.le_refl _)) _, .inr (.inr ⟨by omega, Nat.le_of_not_lt g, rfl, HR2.out.below (B := w.heap.size) (((Below.refl w.heap.size _).setCell (p := ⟨w.heap.size, 0, none⟩) (Nat.le_refl _) _).setCell (p := ⟨w.heap.size, 1, none⟩) (Nat.le_refl _) _) hbr⟩)⟩

/-- The window's cells in a source. -/
theorem src_cells {w : World} {bs br n : Nat} {z : Nat → Int} {s : DS} (h : SrcAt w bs br n z s) : w.cell? ⟨bs, 0, none⟩ = some (.pointer (some ⟨br, 0, none⟩)) ∧ (w.cell? ⟨bs, 1, none⟩ = some (.int .i64 s.t) ∧ w.cell? ⟨bs, 2, none⟩ = some (.int .i64 s.e)) ∧ (Instr.loadAt 52 (.pointer (some ⟨bs, 1, none⟩))).run Tryd.prog w = .ok (.agg #[.int .i64 s.t, .int .i64 s.e]) w := by
  have c1 : w.cell? ⟨bs, 1, none⟩ = some (.int .i64 s.t) := h.1.cell 1
  have c2 : w.cell? ⟨bs, 2, none⟩ = some (.int .i64 s.e) := h.1.cell 2
  refine ⟨h.1.cell 0, ⟨c1, c2⟩, ?_⟩
  have := run_loadAt_mid w bs 1 52 [.int .i64 s.t, .int .i64 s.e] _ (fun j v hv => by
    match j, hv with
    | 0, hv => cases hv; exact c1
    | 1, hv => cases hv; exact c2) Tryd.underlying52 rfl win_info
  simpa using this
theorem SrcAt.read {w w' : World} {bs br n : Nat} {z : Nat → Int} {s : DS} {k : Nat} (h : SrcAt w bs br n z s) (hr : ReaderAt w' br n z (s.at_ + k)) (ht : Turned (· = br) w w') : SrcAt w' bs br n z ⟨s.at_ + k, s.t, s.e⟩ :=
  ⟨h.1.turned ht (fun e => by have := h.2.2; omega), hr, h.2.2⟩
theorem SrcAt.lt {w : World} {bs br n : Nat} {z : Nat → Int} {s : DS} (h : SrcAt w bs br n z s) : bs < w.heap.size ∧ br < w.heap.size := ⟨h.1.lt, h.2.1.lt⟩
/-- How next ends. -/
def NextEnd (M B bs br n : Nat) (z : Nat → Int) (s : DS) (w : World) (e : Ending) (w' : World) : Prop :=
  Turned (fun i => i = bs ∨ i = br) w w' ∧
  (((dnext M B s).1 = 0 ∧ e = .returned (.int .u64 ((dnext M B s).2.1 : Nat)) ∧ SrcAt w' bs br n z (dnext M B s).2.2) ∨ (((dnext M B s).1 != 0) = true ∧ e = thrown1 (dnext M B s).1))
end Go.Proofs.YtejiboinkapkcaaDoor
