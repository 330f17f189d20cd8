/-
  CONTRACTS OF PACKAGE stat: widened, Add, Of, May, in any world. Conditions: the ranges that each names.
-/
import Derived.Test.YtjdcafeljdnfeaaStat
import Derived.Test.YtjdcafeljdnfeaaWords
import Derived.Outline
import Derived.Laws.Rows
import Derived.Laws.Tables
import Derived.Deep.DeepMust
import Derived.LoopTactic
namespace Go.Proofs.Ytjdcafeljdnfeaa
open Go.RowKit
set_option linter.unusedVariables false
theorem run_store_float (P : Program) (w : World) (a : Addr) (m : Mode) (k : FloatKind) (b : Nat) : (store a (.float k b) m).run P w = stored P w a (.float k b) m := run_store P w a _ m rfl
attribute [local go_sem] run_store_float
theorem stat_info : (Try.prog.info? 81).map (·.size) = some 14 := by kernel_rfl
theorem stR_info : (Try.prog.info? 86).map (·.size) = some 14 := by kernel_rfl
theorem wid_first (s : St) (lo hi : Nat) (h : s.any = false) : wid s lo hi = { s with any := true, mn := lo, mx := hi } := by unfold wid; rw [h]; simp
theorem wid_more (s : St) (lo hi : Nat) (h : s.any = true) (L1 L2 : Bool) (h1 : decide (rk lo < rk s.mn) = L1) (h2 : decide (rk s.mx < rk hi) = L2) : wid s lo hi = { s with any := true, mn := if L1 = true then lo else s.mn, mx := if L2 = true then hi else s.mx } := by unfold wid; rw [h, h1, h2]; simp
/-- A new block of what is told, and one for the answer. -/
theorem two_blocks (s : St) (w W0 : World) (z : Array Value) (h : (w.alloc (.cells (stV s) 81)).alloc (.cells z 81) = W0) :
    Lies W0 w.heap.size 81 (stV s) ∧ Lies W0 (w.heap.size + 1) 81 z ∧ Below w.heap.size w W0 := by
  subst h
  refine ⟨(Lies.new _ _ _).alloc _, ?_, ((Below.refl _ _).alloc (Nat.le_refl _) _).alloc (by simp) _⟩
  have := Lies.new (w.alloc (.cells (stV s) 81)) 81 z
  simpa using this
set_option maxRecDepth 100000 in
theorem widened_first (s : St) (lo hi : Nat) (ha : s.any = false) (w : World) :
    Calls Try.prog 100 #[.agg (stV s), .float .f64 lo, .float .f64 hi] w fun e w' => e = .returned (.agg (stV { s with any := true, mn := lo, mx := hi })) ∧ Below w.heap.size w w' := by
  obtain ⟨W0, hW0⟩ : ∃ W0, (w.alloc (.cells (stV s) 81)).alloc (.cells #[.int .i64 0, .int .i64 0, .int .i64 0, .int .i64 0, .int .i64 0, .int .i64 0, .int .i64 0, .int .i64 0, .int .i64 0, .int .i64 0, .int .i64 0, .bool false, .float .f64 0, .float .f64 0] 81) = W0 := ⟨_, rfl⟩
  obtain ⟨hl, hz, hb⟩ := two_blocks s w W0 _ hW0
  have c11 : W0.cell? ⟨w.heap.size, 11, none⟩ = some (.bool s.any) := hl.cell 11
  rw [ha] at c11
  have fc11 := hl.frozen 11
  have c12 : W0.cell? ⟨w.heap.size, 12, none⟩ = some (.float .f64 s.mn) := hl.cell 12
  have fc12 := hl.frozen 12
  have c13 : W0.cell? ⟨w.heap.size, 13, none⟩ = some (.float .f64 s.mx) := hl.cell 13
  have fc13 := hl.frozen 13
  obtain ⟨W1, hW1⟩ : ∃ W1, W0.setCell ⟨w.heap.size, 12, none⟩ (.float .f64 lo) = W1 := ⟨_, rfl⟩
  have hl := lies_set hl hW1 (stV_mn s _)
  have hz := lies_far hz (by omega) hW1
  have hb := below_set hb (by omega) hW1
  have d11 : W1.cell? ⟨w.heap.size, 11, none⟩ = some (.bool s.any) := hl.cell 11
  rw [ha] at d11
  have fd11 := hl.frozen 11
  have d13 : W1.cell? ⟨w.heap.size, 13, none⟩ = some (.float .f64 s.mx) := hl.cell 13
  have fd13 := hl.frozen 13
  obtain ⟨W2, hW2⟩ : ∃ W2, W1.setCell ⟨w.heap.size, 13, none⟩ (.float .f64 hi) = W2 := ⟨_, rfl⟩
  have hl := lies_set hl hW2 (stV_mx { s with mn := lo } _)
  have hz := lies_far hz (by omega) hW2
  have hb := below_set hb (by omega) hW2
  have e11 : W2.cell? ⟨w.heap.size, 11, none⟩ = some (.bool s.any) := hl.cell 11
  rw [ha] at e11
  have fe11 := hl.frozen 11
  obtain ⟨W3, hW3⟩ : ∃ W3, W2.setCell ⟨w.heap.size, 11, none⟩ (.bool true) = W3 := ⟨_, rfl⟩
  have hl := lies_set hl hW3 (stV_any { { s with mn := lo } with mx := hi } _)
  have hz := lies_far hz (by omega) hW3
  have hb := below_set hb (by omega) hW3
  have HL := Lib.hid hl
  have HZ := Lib.hid hz
  have HB := Lib.hid hb
  clear hl hz hb
  have HS := Lib.hid (stV_size { { { s with mn := lo } with mx := hi } with any := true })
  have H1 := Lib.hid (stV_one { { { s with mn := lo } with mx := hi } with any := true })
  have HCS := Lib.hid (show stV { s with any := true, mn := lo, mx := hi } = stV { { { s with mn := lo } with mx := hi } with any := true } from rfl)
  rw [HCS.out]
  generalize stV { { { s with mn := lo } with mx := hi } with any := true } = cs at *
  go_enter Try.func100, Try.ntmps100
  go_wp2_with (first | (refine wpList_load_row rfl 81 (.tmp 3) rfl w.heap.size rfl 81 cs (0, 0) _ HL.out Try.underlying81 rfl (stat_info.trans (congrArg some HS.out.symm)) ?_) | (refine wpList_store_row rfl 81 (.tmp 6) (.tmp 30) rfl (w.heap.size + 1) cs rfl rfl 81 _ HZ.out (stat_info.trans (congrArg some HS.out.symm)) (by rw [HS.out]; rfl) H1.out ?_))
  exact bodyPost_ret (v := .agg cs) (results_cell_row (by rfl) _ _ (w.heap.size + 1) 81 cs (0, 0) _ (by rfl) (HZ.out.row cs) Try.underlying81 rfl (stat_info.trans (congrArg some HS.out.symm))) rfl ⟨rfl, below_row HB.out (by omega) rfl⟩
set_option maxRecDepth 100000 in
theorem widened_tt (s : St) (lo hi : Nat) (ha : s.any = true) (h1 : Hid (∀ w, Calls Try.prog 96 #[.float .f64 lo, .float .f64 s.mn] w fun e w' => e = .returned (.bool true) ∧ w = w')) (h2 : Hid (∀ w, Calls Try.prog 96 #[.float .f64 s.mx, .float .f64 hi] w fun e w' => e = .returned (.bool true) ∧ w = w')) (w : World) :
    Calls Try.prog 100 #[.agg (stV s), .float .f64 lo, .float .f64 hi] w fun e w' => e = .returned (.agg (stV { s with any := true, mn := lo, mx := hi })) ∧ Below w.heap.size w w' := by
  obtain ⟨W0, hW0⟩ : ∃ W0, (w.alloc (.cells (stV s) 81)).alloc (.cells #[.int .i64 0, .int .i64 0, .int .i64 0, .int .i64 0, .int .i64 0, .int .i64 0, .int .i64 0, .int .i64 0, .int .i64 0, .int .i64 0, .int .i64 0, .bool false, .float .f64 0, .float .f64 0] 81) = W0 := ⟨_, rfl⟩
  obtain ⟨hl, hz, hb⟩ := two_blocks s w W0 _ hW0
  have c11 : W0.cell? ⟨w.heap.size, 11, none⟩ = some (.bool s.any) := hl.cell 11
  rw [ha] at c11
  have fc11 := hl.frozen 11
  have c12 : W0.cell? ⟨w.heap.size, 12, none⟩ = some (.float .f64 s.mn) := hl.cell 12
  have fc12 := hl.frozen 12
  have c13 : W0.cell? ⟨w.heap.size, 13, none⟩ = some (.float .f64 s.mx) := hl.cell 13
  have fc13 := hl.frozen 13
  obtain ⟨W1, hW1⟩ : ∃ W1, W0.setCell ⟨w.heap.size, 12, none⟩ (.float .f64 lo) = W1 := ⟨_, rfl⟩
  have hl := lies_set hl hW1 (stV_mn s _)
  have hz := lies_far hz (by omega) hW1
  have hb := below_set hb (by omega) hW1
  have d11 : W1.cell? ⟨w.heap.size, 11, none⟩ = some (.bool s.any) := hl.cell 11
  rw [ha] at d11
  have fd11 := hl.frozen 11
  have d13 : W1.cell? ⟨w.heap.size, 13, none⟩ = some (.float .f64 s.mx) := hl.cell 13
  have fd13 := hl.frozen 13
  obtain ⟨W2, hW2⟩ : ∃ W2, W1.setCell ⟨w.heap.size, 13, none⟩ (.float .f64 hi) = W2 := ⟨_, rfl⟩
  have hl := lies_set hl hW2 (stV_mx { s with mn := lo } _)
  have hz := lies_far hz (by omega) hW2
  have hb := below_set hb (by omega) hW2
  have e11 : W2.cell? ⟨w.heap.size, 11, none⟩ = some (.bool s.any) := hl.cell 11
  rw [ha] at e11
  have fe11 := hl.frozen 11
  obtain ⟨W3, hW3⟩ : ∃ W3, W2.setCell ⟨w.heap.size, 11, none⟩ (.bool true) = W3 := ⟨_, rfl⟩
  have hl := lies_set hl hW3 (stV_any { { s with mn := lo } with mx := hi } _)
  have hz := lies_far hz (by omega) hW3
  have hb := below_set hb (by omega) hW3
  have HL := Lib.hid hl
  have HZ := Lib.hid hz
  have HB := Lib.hid hb
  clear hl hz hb
  have HS := Lib.hid (stV_size { { { s with mn := lo } with mx := hi } with any := true })
  have H1 := Lib.hid (stV_one { { { s with mn := lo } with mx := hi } with any := true })
  have HCS := Lib.hid (show stV { s with any := true, mn := lo, mx := hi } = stV { { { s with mn := lo } with mx := hi } with any := true } from rfl)
  rw [HCS.out]
  generalize stV { { { s with mn := lo } with mx := hi } with any := true } = cs at *
  generalize hmn : s.mn = mn at *
  generalize hmx : s.mx = mx at *
  clear hmn hmx
  go_enter Try.func100, Try.ntmps100
  go_wp2_with (first | (go_at_call 96; ((with_reducible refine (h1.out _).mono ?_); rintro e w' ⟨rfl, rfl⟩)) | (go_at_call 96; ((with_reducible refine (h2.out _).mono ?_); rintro e w' ⟨rfl, rfl⟩)) | (refine wpList_load_row rfl 81 (.tmp 3) rfl w.heap.size rfl 81 cs (0, 0) _ HL.out Try.underlying81 rfl (stat_info.trans (congrArg some HS.out.symm)) ?_) | (refine wpList_store_row rfl 81 (.tmp 6) (.tmp 30) rfl (w.heap.size + 1) cs rfl rfl 81 _ HZ.out (stat_info.trans (congrArg some HS.out.symm)) (by rw [HS.out]; rfl) H1.out ?_))
  exact bodyPost_ret (v := .agg cs) (results_cell_row (by rfl) _ _ (w.heap.size + 1) 81 cs (0, 0) _ (by rfl) (HZ.out.row cs) Try.underlying81 rfl (stat_info.trans (congrArg some HS.out.symm))) rfl ⟨rfl, below_row HB.out (by omega) rfl⟩
set_option maxRecDepth 100000 in
theorem widened_tf (s : St) (lo hi : Nat) (ha : s.any = true) (h1 : Hid (∀ w, Calls Try.prog 96 #[.float .f64 lo, .float .f64 s.mn] w fun e w' => e = .returned (.bool true) ∧ w = w')) (h2 : Hid (∀ w, Calls Try.prog 96 #[.float .f64 s.mx, .float .f64 hi] w fun e w' => e = .returned (.bool false) ∧ w = w')) (w : World) :
    Calls Try.prog 100 #[.agg (stV s), .float .f64 lo, .float .f64 hi] w fun e w' => e = .returned (.agg (stV { s with any := true, mn := lo, mx := s.mx })) ∧ Below w.heap.size w w' := by
  obtain ⟨W0, hW0⟩ : ∃ W0, (w.alloc (.cells (stV s) 81)).alloc (.cells #[.int .i64 0, .int .i64 0, .int .i64 0, .int .i64 0, .int .i64 0, .int .i64 0, .int .i64 0, .int .i64 0, .int .i64 0, .int .i64 0, .int .i64 0, .bool false, .float .f64 0, .float .f64 0] 81) = W0 := ⟨_, rfl⟩
  obtain ⟨hl, hz, hb⟩ := two_blocks s w W0 _ hW0
  have c11 : W0.cell? ⟨w.heap.size, 11, none⟩ = some (.bool s.any) := hl.cell 11
  rw [ha] at c11
  have fc11 := hl.frozen 11
  have c12 : W0.cell? ⟨w.heap.size, 12, none⟩ = some (.float .f64 s.mn) := hl.cell 12
  have fc12 := hl.frozen 12
  have c13 : W0.cell? ⟨w.heap.size, 13, none⟩ = some (.float .f64 s.mx) := hl.cell 13
  have fc13 := hl.frozen 13
  obtain ⟨W1, hW1⟩ : ∃ W1, W0.setCell ⟨w.heap.size, 12, none⟩ (.float .f64 lo) = W1 := ⟨_, rfl⟩
  have hl := lies_set hl hW1 (stV_mn s _)
  have hz := lies_far hz (by omega) hW1
  have hb := below_set hb (by omega) hW1
  have d11 : W1.cell? ⟨w.heap.size, 11, none⟩ = some (.bool s.any) := hl.cell 11
  rw [ha] at d11
  have fd11 := hl.frozen 11
  have d13 : W1.cell? ⟨w.heap.size, 13, none⟩ = some (.float .f64 s.mx) := hl.cell 13
  have fd13 := hl.frozen 13
  obtain ⟨W2, hW2⟩ : ∃ W2, W1.setCell ⟨w.heap.size, 11, none⟩ (.bool true) = W2 := ⟨_, rfl⟩
  have hl := lies_set hl hW2 (stV_any { s with mn := lo } _)
  have hz := lies_far hz (by omega) hW2
  have hb := below_set hb (by omega) hW2
  have HL := Lib.hid hl
  have HZ := Lib.hid hz
  have HB := Lib.hid hb
  clear hl hz hb
  have HS := Lib.hid (stV_size { { s with mn := lo } with any := true })
  have H1 := Lib.hid (stV_one { { s with mn := lo } with any := true })
  have HCS := Lib.hid (show stV { s with any := true, mn := lo, mx := s.mx } = stV { { s with mn := lo } with any := true } from rfl)
  rw [HCS.out]
  generalize stV { { s with mn := lo } with any := true } = cs at *
  generalize hmn : s.mn = mn at *
  generalize hmx : s.mx = mx at *
  clear hmn hmx
  go_enter Try.func100, Try.ntmps100
  go_wp2_with (first | (go_at_call 96; ((with_reducible refine (h1.out _).mono ?_); rintro e w' ⟨rfl, rfl⟩)) | (go_at_call 96; ((with_reducible refine (h2.out _).mono ?_); rintro e w' ⟨rfl, rfl⟩)) | (refine wpList_load_row rfl 81 (.tmp 3) rfl w.heap.size rfl 81 cs (0, 0) _ HL.out Try.underlying81 rfl (stat_info.trans (congrArg some HS.out.symm)) ?_) | (refine wpList_store_row rfl 81 (.tmp 6) (.tmp 30) rfl (w.heap.size + 1) cs rfl rfl 81 _ HZ.out (stat_info.trans (congrArg some HS.out.symm)) (by rw [HS.out]; rfl) H1.out ?_))
  exact bodyPost_ret (v := .agg cs) (results_cell_row (by rfl) _ _ (w.heap.size + 1) 81 cs (0, 0) _ (by rfl) (HZ.out.row cs) Try.underlying81 rfl (stat_info.trans (congrArg some HS.out.symm))) rfl ⟨rfl, below_row HB.out (by omega) rfl⟩
set_option maxRecDepth 100000 in
theorem widened_ft (s : St) (lo hi : Nat) (ha : s.any = true) (h1 : Hid (∀ w, Calls Try.prog 96 #[.float .f64 lo, .float .f64 s.mn] w fun e w' => e = .returned (.bool false) ∧ w = w')) (h2 : Hid (∀ w, Calls Try.prog 96 #[.float .f64 s.mx, .float .f64 hi] w fun e w' => e = .returned (.bool true) ∧ w = w')) (w : World) :
    Calls Try.prog 100 #[.agg (stV s), .float .f64 lo, .float .f64 hi] w fun e w' => e = .returned (.agg (stV { s with any := true, mn := s.mn, mx := hi })) ∧ Below w.heap.size w w' := by
  obtain ⟨W0, hW0⟩ : ∃ W0, (w.alloc (.cells (stV s) 81)).alloc (.cells #[.int .i64 0, .int .i64 0, .int .i64 0, .int .i64 0, .int .i64 0, .int .i64 0, .int .i64 0, .int .i64 0, .int .i64 0, .int .i64 0, .int .i64 0, .bool false, .float .f64 0, .float .f64 0] 81) = W0 := ⟨_, rfl⟩
  obtain ⟨hl, hz, hb⟩ := two_blocks s w W0 _ hW0
  have c11 : W0.cell? ⟨w.heap.size, 11, none⟩ = some (.bool s.any) := hl.cell 11
  rw [ha] at c11
  have fc11 := hl.frozen 11
  have c12 : W0.cell? ⟨w.heap.size, 12, none⟩ = some (.float .f64 s.mn) := hl.cell 12
  have fc12 := hl.frozen 12
  have c13 : W0.cell? ⟨w.heap.size, 13, none⟩ = some (.float .f64 s.mx) := hl.cell 13
  have fc13 := hl.frozen 13
  obtain ⟨W1, hW1⟩ : ∃ W1, W0.setCell ⟨w.heap.size, 13, none⟩ (.float .f64 hi) = W1 := ⟨_, rfl⟩
  have hl := lies_set hl hW1 (stV_mx s _)
  have hz := lies_far hz (by omega) hW1
  have hb := below_set hb (by omega) hW1
  have e11 : W1.cell? ⟨w.heap.size, 11, none⟩ = some (.bool s.any) := hl.cell 11
  rw [ha] at e11
  have fe11 := hl.frozen 11
  obtain ⟨W2, hW2⟩ : ∃ W2, W1.setCell ⟨w.heap.size, 11, none⟩ (.bool true) = W2 := ⟨_, rfl⟩
  have hl := lies_set hl hW2 (stV_any { s with mx := hi } _)
  have hz := lies_far hz (by omega) hW2
  have hb := below_set hb (by omega) hW2
  have HL := Lib.hid hl
  have HZ := Lib.hid hz
  have HB := Lib.hid hb
  clear hl hz hb
  have HS := Lib.hid (stV_size { { s with mx := hi } with any := true })
  have H1 := Lib.hid (stV_one { { s with mx := hi } with any := true })
  have HCS := Lib.hid (show stV { s with any := true, mn := s.mn, mx := hi } = stV { { s with mx := hi } with any := true } from rfl)
  rw [HCS.out]
  generalize stV { { s with mx := hi } with any := true } = cs at *
  generalize hmn : s.mn = mn at *
  generalize hmx : s.mx = mx at *
  clear hmn hmx
  go_enter Try.func100, Try.ntmps100
  go_wp2_with (first | (go_at_call 96; ((with_reducible refine (h1.out _).mono ?_); rintro e w' ⟨rfl, rfl⟩)) | (go_at_call 96; ((with_reducible refine (h2.out _).mono ?_); rintro e w' ⟨rfl, rfl⟩)) | (refine wpList_load_row rfl 81 (.tmp 3) rfl w.heap.size rfl 81 cs (0, 0) _ HL.out Try.underlying81 rfl (stat_info.trans (congrArg some HS.out.symm)) ?_) | (refine wpList_store_row rfl 81 (.tmp 6) (.tmp 30) rfl (w.heap.size + 1) cs rfl rfl 81 _ HZ.out (stat_info.trans (congrArg some HS.out.symm)) (by rw [HS.out]; rfl) H1.out ?_))
  exact bodyPost_ret (v := .agg cs) (results_cell_row (by rfl) _ _ (w.heap.size + 1) 81 cs (0, 0) _ (by rfl) (HZ.out.row cs) Try.underlying81 rfl (stat_info.trans (congrArg some HS.out.symm))) rfl ⟨rfl, below_row HB.out (by omega) rfl⟩
set_option maxRecDepth 100000 in
theorem widened_ff (s : St) (lo hi : Nat) (ha : s.any = true) (h1 : Hid (∀ w, Calls Try.prog 96 #[.float .f64 lo, .float .f64 s.mn] w fun e w' => e = .returned (.bool false) ∧ w = w')) (h2 : Hid (∀ w, Calls Try.prog 96 #[.float .f64 s.mx, .float .f64 hi] w fun e w' => e = .returned (.bool false) ∧ w = w')) (w : World) :
    Calls Try.prog 100 #[.agg (stV s), .float .f64 lo, .float .f64 hi] w fun e w' => e = .returned (.agg (stV { s with any := true, mn := s.mn, mx := s.mx })) ∧ Below w.heap.size w w' := by
  obtain ⟨W0, hW0⟩ : ∃ W0, (w.alloc (.cells (stV s) 81)).alloc (.cells #[.int .i64 0, .int .i64 0, .int .i64 0, .int .i64 0, .int .i64 0, .int .i64 0, .int .i64 0, .int .i64 0, .int .i64 0, .int .i64 0, .int .i64 0, .bool false, .float .f64 0, .float .f64 0] 81) = W0 := ⟨_, rfl⟩
  obtain ⟨hl, hz, hb⟩ := two_blocks s w W0 _ hW0
  have c11 : W0.cell? ⟨w.heap.size, 11, none⟩ = some (.bool s.any) := hl.cell 11
  rw [ha] at c11
  have fc11 := hl.frozen 11
  have c12 : W0.cell? ⟨w.heap.size, 12, none⟩ = some (.float .f64 s.mn) := hl.cell 12
  have fc12 := hl.frozen 12
  have c13 : W0.cell? ⟨w.heap.size, 13, none⟩ = some (.float .f64 s.mx) := hl.cell 13
  have fc13 := hl.frozen 13
  obtain ⟨W1, hW1⟩ : ∃ W1, W0.setCell ⟨w.heap.size, 11, none⟩ (.bool true) = W1 := ⟨_, rfl⟩
  have hl := lies_set hl hW1 (stV_any s _)
  have hz := lies_far hz (by omega) hW1
  have hb := below_set hb (by omega) hW1
  have HL := Lib.hid hl
  have HZ := Lib.hid hz
  have HB := Lib.hid hb
  clear hl hz hb
  have HS := Lib.hid (stV_size { s with any := true })
  have H1 := Lib.hid (stV_one { s with any := true })
  have HCS := Lib.hid (show stV { s with any := true, mn := s.mn, mx := s.mx } = stV { s with any := true } from rfl)
  rw [HCS.out]
  generalize stV { s with any := true } = cs at *
  generalize hmn : s.mn = mn at *
  generalize hmx : s.mx = mx at *
  clear hmn hmx
  go_enter Try.func100, Try.ntmps100
  go_wp2_with (first | (go_at_call 96; ((with_reducible refine (h1.out _).mono ?_); rintro e w' ⟨rfl, rfl⟩)) | (go_at_call 96; ((with_reducible refine (h2.out _).mono ?_); rintro e w' ⟨rfl, rfl⟩)) | (refine wpList_load_row rfl 81 (.tmp 3) rfl w.heap.size rfl 81 cs (0, 0) _ HL.out Try.underlying81 rfl (stat_info.trans (congrArg some HS.out.symm)) ?_) | (refine wpList_store_row rfl 81 (.tmp 6) (.tmp 30) rfl (w.heap.size + 1) cs rfl rfl 81 _ HZ.out (stat_info.trans (congrArg some HS.out.symm)) (by rw [HS.out]; rfl) H1.out ?_))
  exact bodyPost_ret (v := .agg cs) (results_cell_row (by rfl) _ _ (w.heap.size + 1) 81 cs (0, 0) _ (by rfl) (HZ.out.row cs) Try.underlying81 rfl (stat_info.trans (congrArg some HS.out.symm))) rfl ⟨rfl, below_row HB.out (by omega) rfl⟩
theorem widened_any (s : St) (lo hi : Nat) (h1 : lo < 18446744073709551616) (h2 : hi < 18446744073709551616) (h3 : s.mn < 18446744073709551616) (h4 : s.mx < 18446744073709551616) (w : World) :
    Calls Try.prog 100 #[.agg (stV s), .float .f64 lo, .float .f64 hi] w fun e w' => e = .returned (.agg (stV (wid s lo hi))) ∧ Below w.heap.size w w' := by
  cases ha : s.any with
  | false =>
    rw [wid_first s lo hi ha]
    exact widened_first s lo hi ha w
  | true =>
    have L1 := less_any lo s.mn h1 h3
    have L2 := less_any s.mx hi h4 h2
    unfold lss at L1 L2
    cases e1 : decide (rk lo < rk s.mn) <;> cases e2 : decide (rk s.mx < rk hi)
    all_goals
      rw [wid_more s lo hi ha _ _ e1 e2]
      unfold rk at e1 e2
      rw [e1] at L1
      rw [e2] at L2
    · exact widened_ff s lo hi ha (Lib.hid L1) (Lib.hid L2) w
    · exact widened_ft s lo hi ha (Lib.hid L1) (Lib.hid L2) w
    · exact widened_tf s lo hi ha (Lib.hid L1) (Lib.hid L2) w
    · exact widened_tt s lo hi ha (Lib.hid L1) (Lib.hid L2) w
set_option maxRecDepth 100000 in
theorem add_w8 (s : St) (b kk : Nat) (hk : kk = 8) (N : Int) (hs : Small 1000 s) (KX : Hid (∀ w, Calls Try.prog 95 #[.float .f64 b] w fun e w' => e = .returned (.int .i64 (kk : Nat)) ∧ w = w')) (WX : Hid (∀ w, Calls Try.prog 101 #[.float .f64 b] w fun e w' => e = .returned (.tuple #[.int .i64 N, .bool true]) ∧ w = w')) (hb : b < 18446744073709551616) (w : World) :
    Calls Try.prog 55 #[.agg (stV s), .float .f64 b] w fun e w' => e = .returned (.agg (stV ({ setK { s with cnt := s.cnt + 1 } kk (s.k kk + 1) with whole := s.whole + 1 }))) ∧ Below w.heap.size w w' := by
  obtain ⟨⟨q1, q2⟩, q3, ⟨q4, q5⟩, q6, q7⟩ := hs
  obtain ⟨q8, q9⟩ := q3 kk
  obtain ⟨W0, hW0⟩ : ∃ W0, (w.alloc (.cells (stV s) 81)).alloc (.cells #[.int .i64 0, .int .i64 0, .int .i64 0, .int .i64 0, .int .i64 0, .int .i64 0, .int .i64 0, .int .i64 0, .int .i64 0, .int .i64 0, .int .i64 0, .bool false, .float .f64 0, .float .f64 0] 81) = W0 := ⟨_, rfl⟩
  obtain ⟨hl, hz, hbb⟩ := two_blocks s w W0 _ hW0
  have c0 : W0.cell? ⟨w.heap.size, 0, none⟩ = some (.int .i64 s.cnt) := hl.cell 0
  have f0 := hl.frozen 0
  obtain ⟨W1, hW1⟩ : ∃ W1, W0.setCell ⟨w.heap.size, 0, none⟩ (.int .i64 (s.cnt + 1)) = W1 := ⟨_, rfl⟩
  have hl := lies_set hl hW1 (stV_cnt s _)
  have hz := lies_far hz (by omega) hW1
  have hbb := below_set hbb (by omega) hW1
  subst hk
  have ck : W1.cell? ⟨w.heap.size, 9, none⟩ = some (.int .i64 (s.k 8)) := by have := hl.cell (1 + 8); rw [stV_at _ 8 (by omega)] at this; exact this
  have fk := hl.frozen (9)
  obtain ⟨W2, hW2⟩ : ∃ W2, W1.setCell ⟨w.heap.size, 9, none⟩ (.int .i64 (s.k 8 + 1)) = W2 := ⟨_, rfl⟩
  have hl := lies_set hl hW2 (stV_k _ 8 (by omega) _)
  have hz := lies_far hz (by omega) hW2
  have hbb := below_set hbb (by omega) hW2
  have cw : W2.cell? ⟨w.heap.size, 10, none⟩ = some (.int .i64 s.whole) := hl.cell 10
  have fw := hl.frozen 10
  obtain ⟨W3, hW3⟩ : ∃ W3, W2.setCell ⟨w.heap.size, 10, none⟩ (.int .i64 (s.whole + 1)) = W3 := ⟨_, rfl⟩
  have hl := lies_set hl hW3 (stV_whole _ _)
  have hz := lies_far hz (by omega) hW3
  have hbb := below_set hbb (by omega) hW3
  have HL := Lib.hid hl
  have HZ := Lib.hid hz
  have HB := Lib.hid hbb
  clear hl hz hbb
  have HS := Lib.hid (stV_size ({ setK { s with cnt := s.cnt + 1 } 8 (s.k 8 + 1) with whole := s.whole + 1 }))
  have H1 := Lib.hid (stV_one ({ setK { s with cnt := s.cnt + 1 } 8 (s.k 8 + 1) with whole := s.whole + 1 }))
  generalize stV ({ setK { s with cnt := s.cnt + 1 } 8 (s.k 8 + 1) with whole := s.whole + 1 }) = cs at *
  generalize s.cnt = cnt at *
  generalize s.k 8 = kv at *
  generalize s.whole = wh at *
  go_enter Try.func55, Try.ntmps55
  go_wp2_with (first | (go_at_call 95; refine (KX.out _).mono ?_; rintro e w' ⟨rfl, rfl⟩) | (go_at_call 101; refine (WX.out _).mono ?_; rintro e w' ⟨rfl, rfl⟩) | (refine wpList_load_row rfl 81 (.tmp 2) rfl w.heap.size rfl 81 cs (0, 0) _ HL.out Try.underlying81 rfl (stat_info.trans (congrArg some HS.out.symm)) ?_) | (refine wpList_store_row rfl 81 (.tmp 4) (.tmp 37) rfl (w.heap.size + 1) cs rfl rfl 81 _ HZ.out (stat_info.trans (congrArg some HS.out.symm)) (by rw [HS.out]; rfl) H1.out ?_))
  exact bodyPost_ret (v := .agg cs) (results_cell_row (by rfl) _ _ (w.heap.size + 1) 81 cs (0, 0) _ (by rfl) (HZ.out.row cs) Try.underlying81 rfl (stat_info.trans (congrArg some HS.out.symm))) rfl ⟨rfl, below_row HB.out (by omega) rfl⟩
set_option maxRecDepth 100000 in
theorem add_w (s : St) (b kk : Nat) (hk : kk < 8) (N : Int) (hs : Small 1000 s) (KX : Hid (∀ w, Calls Try.prog 95 #[.float .f64 b] w fun e w' => e = .returned (.int .i64 (kk : Nat)) ∧ w = w')) (WX : Hid (∀ w, Calls Try.prog 101 #[.float .f64 b] w fun e w' => e = .returned (.tuple #[.int .i64 N, .bool true]) ∧ w = w')) (hb : b < 18446744073709551616) (w : World) :
    Calls Try.prog 55 #[.agg (stV s), .float .f64 b] w fun e w' => e = .returned (.agg (stV (wid ({ setK { s with cnt := s.cnt + 1 } kk (s.k kk + 1) with whole := s.whole + 1 }) b b))) ∧ Below w.heap.size w w' := by
  obtain ⟨⟨q1, q2⟩, q3, ⟨q4, q5⟩, q6, q7⟩ := hs
  obtain ⟨q8, q9⟩ := q3 kk
  have WD := Lib.hid (fun W => widened_any ({ setK { s with cnt := s.cnt + 1 } kk (s.k kk + 1) with whole := s.whole + 1 }) b b hb hb q6 q7 W)
  obtain ⟨W0, hW0⟩ : ∃ W0, (w.alloc (.cells (stV s) 81)).alloc (.cells #[.int .i64 0, .int .i64 0, .int .i64 0, .int .i64 0, .int .i64 0, .int .i64 0, .int .i64 0, .int .i64 0, .int .i64 0, .int .i64 0, .int .i64 0, .bool false, .float .f64 0, .float .f64 0] 81) = W0 := ⟨_, rfl⟩
  obtain ⟨hl, hz, hbb⟩ := two_blocks s w W0 _ hW0
  have c0 : W0.cell? ⟨w.heap.size, 0, none⟩ = some (.int .i64 s.cnt) := hl.cell 0
  have f0 := hl.frozen 0
  obtain ⟨W1, hW1⟩ : ∃ W1, W0.setCell ⟨w.heap.size, 0, none⟩ (.int .i64 (s.cnt + 1)) = W1 := ⟨_, rfl⟩
  have hl := lies_set hl hW1 (stV_cnt s _)
  have hz := lies_far hz (by omega) hW1
  have hbb := below_set hbb (by omega) hW1
  have ck : W1.cell? ⟨w.heap.size, 1 + kk, none⟩ = some (.int .i64 (s.k kk)) := by have := hl.cell (1 + kk); rw [stV_at _ kk (by omega)] at this; exact this
  have fk := hl.frozen (1 + kk)
  obtain ⟨W2, hW2⟩ : ∃ W2, W1.setCell ⟨w.heap.size, 1 + kk, none⟩ (.int .i64 (s.k kk + 1)) = W2 := ⟨_, rfl⟩
  have hl := lies_set hl hW2 (stV_k _ kk (by omega) _)
  have hz := lies_far hz (by omega) hW2
  have hbb := below_set hbb (by omega) hW2
  have cw : W2.cell? ⟨w.heap.size, 10, none⟩ = some (.int .i64 s.whole) := hl.cell 10
  have fw := hl.frozen 10
  obtain ⟨W3, hW3⟩ : ∃ W3, W2.setCell ⟨w.heap.size, 10, none⟩ (.int .i64 (s.whole + 1)) = W3 := ⟨_, rfl⟩
  have hl := lies_set hl hW3 (stV_whole _ _)
  have hz := lies_far hz (by omega) hW3
  have hbb := below_set hbb (by omega) hW3
  have HL := Lib.hid hl
  have HZ := Lib.hid hz
  have HB := Lib.hid hbb
  clear hl hz hbb
  have HS := Lib.hid (stV_size ({ setK { s with cnt := s.cnt + 1 } kk (s.k kk + 1) with whole := s.whole + 1 }))
  have H1 := Lib.hid (stV_one ({ setK { s with cnt := s.cnt + 1 } kk (s.k kk + 1) with whole := s.whole + 1 }))
  have HS2 := Lib.hid (stV_size (wid ({ setK { s with cnt := s.cnt + 1 } kk (s.k kk + 1) with whole := s.whole + 1 }) b b))
  have H2 := Lib.hid (stV_one (wid ({ setK { s with cnt := s.cnt + 1 } kk (s.k kk + 1) with whole := s.whole + 1 }) b b))
  generalize stV (wid ({ setK { s with cnt := s.cnt + 1 } kk (s.k kk + 1) with whole := s.whole + 1 }) b b) = ds at *
  generalize stV ({ setK { s with cnt := s.cnt + 1 } kk (s.k kk + 1) with whole := s.whole + 1 }) = cs at *
  generalize s.cnt = cnt at *
  generalize s.k kk = kv at *
  generalize s.whole = wh at *
  have k0 : (0 : Int) ≤ (kk : Nat) := by omega
  have k9 : ((kk : Nat) : Int) < 9 := by omega
  have k8 : (((kk : Nat) : Int) != 8) = true := by simp; omega
  have kn : ((kk : Nat) : Int).toNat = kk := by omega
  go_enter Try.func55, Try.ntmps55
  go_wp2_with (first | (go_at_call 95; refine (KX.out _).mono ?_; rintro e w' ⟨rfl, rfl⟩) | (go_at_call 101; refine (WX.out _).mono ?_; rintro e w' ⟨rfl, rfl⟩) | (refine wpList_load_row rfl 81 (.tmp 2) rfl w.heap.size rfl 81 cs (0, 0) _ HL.out Try.underlying81 rfl (stat_info.trans (congrArg some HS.out.symm)) ?_))
  refine (WD.out _).mono ?_
  rintro e W5 ⟨rfl, hb5⟩
  have l5 := HL.out.lt
  have l6 := HZ.out.lt
  have HL5 := Lib.hid (HL.out.below hb5 l5)
  have HZ5 := Lib.hid (HZ.out.below hb5 l6)
  have HB5 := Lib.hid (HB.out.trans (hb5.mono HB.out.size))
  clear hb5
  obtain ⟨W6, hW6⟩ : ∃ W6, W5.setRow w.heap.size ds = W6 := ⟨_, rfl⟩
  have HL6 := Lib.hid (lies_row HL5.out hW6)
  have HZ6 := Lib.hid (lies_rowFar HZ5.out (by omega) hW6)
  have HB6 := Lib.hid (below_row HB5.out (Nat.le_refl _) hW6)
  go_wp2_with (first | (refine wpList_store_row rfl 81 (.tmp 2) (.tmp 36) rfl w.heap.size ds rfl rfl 81 _ HL5.out (stat_info.trans (congrArg some HS2.out.symm)) (by rw [HS.out, HS2.out]) H2.out ?_; rw [hW6]) | (refine wpList_load_row rfl 81 (.tmp 2) rfl w.heap.size rfl 81 ds (0, 0) _ HL6.out Try.underlying81 rfl (stat_info.trans (congrArg some HS2.out.symm)) ?_) | (refine wpList_store_row rfl 81 (.tmp 4) (.tmp 37) rfl (w.heap.size + 1) ds rfl rfl 81 _ HZ6.out (stat_info.trans (congrArg some HS2.out.symm)) (by rw [HS2.out]; rfl) H2.out ?_))
  exact bodyPost_ret (v := .agg ds) (results_cell_row (by rfl) _ _ (w.heap.size + 1) 81 ds (0, 0) _ (by rfl) (HZ6.out.row ds) Try.underlying81 rfl (stat_info.trans (congrArg some HS2.out.symm))) rfl ⟨rfl, below_row HB6.out (by omega) rfl⟩
set_option maxRecDepth 100000 in
theorem add_n8 (s : St) (b kk : Nat) (hk : kk = 8) (N : Int) (hs : Small 1000 s) (KX : Hid (∀ w, Calls Try.prog 95 #[.float .f64 b] w fun e w' => e = .returned (.int .i64 (kk : Nat)) ∧ w = w')) (WX : Hid (∀ w, Calls Try.prog 101 #[.float .f64 b] w fun e w' => e = .returned (.tuple #[.int .i64 N, .bool false]) ∧ w = w')) (hb : b < 18446744073709551616) (w : World) :
    Calls Try.prog 55 #[.agg (stV s), .float .f64 b] w fun e w' => e = .returned (.agg (stV (setK { s with cnt := s.cnt + 1 } kk (s.k kk + 1)))) ∧ Below w.heap.size w w' := by
  obtain ⟨⟨q1, q2⟩, q3, ⟨q4, q5⟩, q6, q7⟩ := hs
  obtain ⟨q8, q9⟩ := q3 kk
  obtain ⟨W0, hW0⟩ : ∃ W0, (w.alloc (.cells (stV s) 81)).alloc (.cells #[.int .i64 0, .int .i64 0, .int .i64 0, .int .i64 0, .int .i64 0, .int .i64 0, .int .i64 0, .int .i64 0, .int .i64 0, .int .i64 0, .int .i64 0, .bool false, .float .f64 0, .float .f64 0] 81) = W0 := ⟨_, rfl⟩
  obtain ⟨hl, hz, hbb⟩ := two_blocks s w W0 _ hW0
  have c0 : W0.cell? ⟨w.heap.size, 0, none⟩ = some (.int .i64 s.cnt) := hl.cell 0
  have f0 := hl.frozen 0
  obtain ⟨W1, hW1⟩ : ∃ W1, W0.setCell ⟨w.heap.size, 0, none⟩ (.int .i64 (s.cnt + 1)) = W1 := ⟨_, rfl⟩
  have hl := lies_set hl hW1 (stV_cnt s _)
  have hz := lies_far hz (by omega) hW1
  have hbb := below_set hbb (by omega) hW1
  subst hk
  have ck : W1.cell? ⟨w.heap.size, 9, none⟩ = some (.int .i64 (s.k 8)) := by have := hl.cell (1 + 8); rw [stV_at _ 8 (by omega)] at this; exact this
  have fk := hl.frozen (9)
  obtain ⟨W2, hW2⟩ : ∃ W2, W1.setCell ⟨w.heap.size, 9, none⟩ (.int .i64 (s.k 8 + 1)) = W2 := ⟨_, rfl⟩
  have hl := lies_set hl hW2 (stV_k _ 8 (by omega) _)
  have hz := lies_far hz (by omega) hW2
  have hbb := below_set hbb (by omega) hW2
  have HL := Lib.hid hl
  have HZ := Lib.hid hz
  have HB := Lib.hid hbb
  clear hl hz hbb
  have HS := Lib.hid (stV_size (setK { s with cnt := s.cnt + 1 } 8 (s.k 8 + 1)))
  have H1 := Lib.hid (stV_one (setK { s with cnt := s.cnt + 1 } 8 (s.k 8 + 1)))
  generalize stV (setK { s with cnt := s.cnt + 1 } 8 (s.k 8 + 1)) = cs at *
  generalize s.cnt = cnt at *
  generalize s.k 8 = kv at *
  generalize s.whole = wh at *
  go_enter Try.func55, Try.ntmps55
  go_wp2_with (first | (go_at_call 95; refine (KX.out _).mono ?_; rintro e w' ⟨rfl, rfl⟩) | (go_at_call 101; refine (WX.out _).mono ?_; rintro e w' ⟨rfl, rfl⟩) | (refine wpList_load_row rfl 81 (.tmp 2) rfl w.heap.size rfl 81 cs (0, 0) _ HL.out Try.underlying81 rfl (stat_info.trans (congrArg some HS.out.symm)) ?_) | (refine wpList_store_row rfl 81 (.tmp 4) (.tmp 37) rfl (w.heap.size + 1) cs rfl rfl 81 _ HZ.out (stat_info.trans (congrArg some HS.out.symm)) (by rw [HS.out]; rfl) H1.out ?_))
  exact bodyPost_ret (v := .agg cs) (results_cell_row (by rfl) _ _ (w.heap.size + 1) 81 cs (0, 0) _ (by rfl) (HZ.out.row cs) Try.underlying81 rfl (stat_info.trans (congrArg some HS.out.symm))) rfl ⟨rfl, below_row HB.out (by omega) rfl⟩
set_option maxRecDepth 100000 in
theorem add_n (s : St) (b kk : Nat) (hk : kk < 8) (N : Int) (hs : Small 1000 s) (KX : Hid (∀ w, Calls Try.prog 95 #[.float .f64 b] w fun e w' => e = .returned (.int .i64 (kk : Nat)) ∧ w = w')) (WX : Hid (∀ w, Calls Try.prog 101 #[.float .f64 b] w fun e w' => e = .returned (.tuple #[.int .i64 N, .bool false]) ∧ w = w')) (hb : b < 18446744073709551616) (w : World) :
    Calls Try.prog 55 #[.agg (stV s), .float .f64 b] w fun e w' => e = .returned (.agg (stV (wid (setK { s with cnt := s.cnt + 1 } kk (s.k kk + 1)) b b))) ∧ Below w.heap.size w w' := by
  obtain ⟨⟨q1, q2⟩, q3, ⟨q4, q5⟩, q6, q7⟩ := hs
  obtain ⟨q8, q9⟩ := q3 kk
  have WD := Lib.hid (fun W => widened_any (setK { s with cnt := s.cnt + 1 } kk (s.k kk + 1)) b b hb hb q6 q7 W)
  obtain ⟨W0, hW0⟩ : ∃ W0, (w.alloc (.cells (stV s) 81)).alloc (.cells #[.int .i64 0, .int .i64 0, .int .i64 0, .int .i64 0, .int .i64 0, .int .i64 0, .int .i64 0, .int .i64 0, .int .i64 0, .int .i64 0, .int .i64 0, .bool false, .float .f64 0, .float .f64 0] 81) = W0 := ⟨_, rfl⟩
  obtain ⟨hl, hz, hbb⟩ := two_blocks s w W0 _ hW0
  have c0 : W0.cell? ⟨w.heap.size, 0, none⟩ = some (.int .i64 s.cnt) := hl.cell 0
  have f0 := hl.frozen 0
  obtain ⟨W1, hW1⟩ : ∃ W1, W0.setCell ⟨w.heap.size, 0, none⟩ (.int .i64 (s.cnt + 1)) = W1 := ⟨_, rfl⟩
  have hl := lies_set hl hW1 (stV_cnt s _)
  have hz := lies_far hz (by omega) hW1
  have hbb := below_set hbb (by omega) hW1
  have ck : W1.cell? ⟨w.heap.size, 1 + kk, none⟩ = some (.int .i64 (s.k kk)) := by have := hl.cell (1 + kk); rw [stV_at _ kk (by omega)] at this; exact this
  have fk := hl.frozen (1 + kk)
  obtain ⟨W2, hW2⟩ : ∃ W2, W1.setCell ⟨w.heap.size, 1 + kk, none⟩ (.int .i64 (s.k kk + 1)) = W2 := ⟨_, rfl⟩
  have hl := lies_set hl hW2 (stV_k _ kk (by omega) _)
  have hz := lies_far hz (by omega) hW2
  have hbb := below_set hbb (by omega) hW2
  have HL := Lib.hid hl
  have HZ := Lib.hid hz
  have HB := Lib.hid hbb
  clear hl hz hbb
  have HS := Lib.hid (stV_size (setK { s with cnt := s.cnt + 1 } kk (s.k kk + 1)))
  have H1 := Lib.hid (stV_one (setK { s with cnt := s.cnt + 1 } kk (s.k kk + 1)))
  have HS2 := Lib.hid (stV_size (wid (setK { s with cnt := s.cnt + 1 } kk (s.k kk + 1)) b b))
  have H2 := Lib.hid (stV_one (wid (setK { s with cnt := s.cnt + 1 } kk (s.k kk + 1)) b b))
  generalize stV (wid (setK { s with cnt := s.cnt + 1 } kk (s.k kk + 1)) b b) = ds at *
  generalize stV (setK { s with cnt := s.cnt + 1 } kk (s.k kk + 1)) = cs at *
  generalize s.cnt = cnt at *
  generalize s.k kk = kv at *
  generalize s.whole = wh at *
  have k0 : (0 : Int) ≤ (kk : Nat) := by omega
  have k9 : ((kk : Nat) : Int) < 9 := by omega
  have k8 : (((kk : Nat) : Int) != 8) = true := by simp; omega
  have kn : ((kk : Nat) : Int).toNat = kk := by omega
  go_enter Try.func55, Try.ntmps55
  go_wp2_with (first | (go_at_call 95; refine (KX.out _).mono ?_; rintro e w' ⟨rfl, rfl⟩) | (go_at_call 101; refine (WX.out _).mono ?_; rintro e w' ⟨rfl, rfl⟩) | (refine wpList_load_row rfl 81 (.tmp 2) rfl w.heap.size rfl 81 cs (0, 0) _ HL.out Try.underlying81 rfl (stat_info.trans (congrArg some HS.out.symm)) ?_))
  refine (WD.out _).mono ?_
  rintro e W5 ⟨rfl, hb5⟩
  have l5 := HL.out.lt
  have l6 := HZ.out.lt
  have HL5 := Lib.hid (HL.out.below hb5 l5)
  have HZ5 := Lib.hid (HZ.out.below hb5 l6)
  have HB5 := Lib.hid (HB.out.trans (hb5.mono HB.out.size))
  clear hb5
  obtain ⟨W6, hW6⟩ : ∃ W6, W5.setRow w.heap.size ds = W6 := ⟨_, rfl⟩
  have HL6 := Lib.hid (lies_row HL5.out hW6)
  have HZ6 := Lib.hid (lies_rowFar HZ5.out (by omega) hW6)
  have HB6 := Lib.hid (below_row HB5.out (Nat.le_refl _) hW6)
  go_wp2_with (first | (refine wpList_store_row rfl 81 (.tmp 2) (.tmp 36) rfl w.heap.size ds rfl rfl 81 _ HL5.out (stat_info.trans (congrArg some HS2.out.symm)) (by rw [HS.out, HS2.out]) H2.out ?_; rw [hW6]) | (refine wpList_load_row rfl 81 (.tmp 2) rfl w.heap.size rfl 81 ds (0, 0) _ HL6.out Try.underlying81 rfl (stat_info.trans (congrArg some HS2.out.symm)) ?_) | (refine wpList_store_row rfl 81 (.tmp 4) (.tmp 37) rfl (w.heap.size + 1) ds rfl rfl 81 _ HZ6.out (stat_info.trans (congrArg some HS2.out.symm)) (by rw [HS2.out]; rfl) H2.out ?_))
  exact bodyPost_ret (v := .agg ds) (results_cell_row (by rfl) _ _ (w.heap.size + 1) 81 ds (0, 0) _ (by rfl) (HZ6.out.row ds) Try.underlying81 rfl (stat_info.trans (congrArg some HS2.out.symm))) rfl ⟨rfl, below_row HB6.out (by omega) rfl⟩
theorem bump_eq (s : St) (b : Nat) (W : Bool) (h : wb b = W) : bump s b = if W = true then { setK { s with cnt := s.cnt + 1 } (kd b) (s.k (kd b) + 1) with whole := s.whole + 1 } else setK { s with cnt := s.cnt + 1 } (kd b) (s.k (kd b) + 1) := by
  have hk : (fun i => if i = kd b then s.k i + 1 else s.k i) = (fun i => if i = kd b then s.k (kd b) + 1 else s.k i) := by
    funext i
    by_cases h : i = kd b
    · subst h; rfl
    · rw [if_neg h, if_neg h]
  unfold bump setK
  rw [h, hk]
  cases W <;> rfl
theorem add_any (s : St) (b : Nat) (hs : Small 1000 s) (hb : b < 18446744073709551616) (w : World) :
    Calls Try.prog 55 #[.agg (stV s), .float .f64 b] w fun e w' => e = .returned (.agg (stV (stp s b))) ∧ Below w.heap.size w w' := by
  have K := kind_any b hb
  rw [← kd_int b] at K
  have WX := whole_any b hb
  have hle := kd_le b
  unfold stp
  by_cases h8 : kd b = 8
  · rw [if_pos h8]
    cases hw : wb b with
    | true =>
      rw [hw] at WX
      rw [bump_eq s b true hw, if_pos rfl]
      exact add_w8 s b (kd b) h8 _ hs (Lib.hid K) (Lib.hid WX) hb w
    | false =>
      rw [hw] at WX
      rw [bump_eq s b false hw, if_neg (by decide)]
      exact add_n8 s b (kd b) h8 _ hs (Lib.hid K) (Lib.hid WX) hb w
  · rw [if_neg h8]
    cases hw : wb b with
    | true =>
      rw [hw] at WX
      rw [bump_eq s b true hw, if_pos rfl]
      exact add_w s b (kd b) (by omega) _ hs (Lib.hid K) (Lib.hid WX) hb w
    | false =>
      rw [hw] at WX
      rw [bump_eq s b false hw, if_neg (by decide)]
      exact add_n s b (kd b) (by omega) _ hs (Lib.hid K) (Lib.hid WX) hb w
set_option maxRecDepth 100000 in
theorem of_any (a : Option Addr) (n cap : Nat) (l : Nat → Nat) (hl : ∀ i, i < n → l i < 18446744073709551616) (hn : n ≤ 500) (w : World) (h : RowOf w a n (fun i => .float .f64 (l i))) :
    Calls Try.prog 46 #[.slice a n cap] w fun e w' => e = .returned (.agg (stV (fold l n))) ∧ Below w.heap.size w w' := by
  have H := Lib.hid h
  have HL := Lib.hid hl
  clear h hl
  obtain ⟨W0, hW0⟩ : ∃ W0, (w.alloc (.cells #[.int .i64 0, .int .i64 0, .int .i64 0, .int .i64 0, .int .i64 0, .int .i64 0, .int .i64 0, .int .i64 0, .int .i64 0, .int .i64 0, .int .i64 0, .bool false, .float .f64 0, .float .f64 0] 81)).alloc (.cells #[.int .i64 0, .int .i64 0, .int .i64 0, .int .i64 0, .int .i64 0, .int .i64 0, .int .i64 0, .int .i64 0, .int .i64 0, .int .i64 0, .int .i64 0, .bool false, .float .f64 0, .float .f64 0] 81) = W0 := ⟨_, rfl⟩
  obtain ⟨b1, b2, b3⟩ := two_blocks st0 w W0 _ hW0
  have B1 := Lib.hid b1
  have B2 := Lib.hid b2
  have B3 := Lib.hid b3
  clear b1 b2 b3
  go_enter Try.func46, Try.ntmps46
  go_wp2
  go_loopw [8] (fun i wr => ∃ k : Nat, k ≤ n ∧ i = .int .i64 k ∧ Lies wr w.heap.size 81 (stV st0) ∧ Lies wr (w.heap.size + 1) 81 (stV (fold l k)) ∧ Below w.heap.size w wr) (fun i _ => n - (intOf i).toNat)
  case atStart => exact ⟨0, by omega, rfl, B1.out, B2.out, B3.out⟩
  case round =>
    obtain ⟨k, hk, rfl, hz, hs, hb⟩ := hrel
    have HZ := Lib.hid hz
    have HS := Lib.hid hs
    have HB := Lib.hid hb
    have l1 := hz.lt
    have l2 := hs.lt
    by_cases hkn : k < n
    · have k1 : (k : Int) < n := by omega
      obtain ⟨b, off, rfl, hblt, hc⟩ := (H.out.below hb).at_ hkn
      have c0 := hc k hkn
      have AD := Lib.hid (fun W => add_any (fold l k) (l k) (by
        obtain ⟨⟨p1, p2⟩, p3, ⟨p4, p5⟩, p6, p7⟩ := small_fold l k (fun i hi => HL.out i (by omega))
        exact ⟨⟨p1, by omega⟩, fun i => ⟨(p3 i).1, by have := (p3 i).2; omega⟩, ⟨p4, by omega⟩, p6, p7⟩) (HL.out k hkn) W)
      have HE := Lib.hid (show stV (stp (fold l k) (l k)) = stV (fold l (k + 1)) from rfl)
      have Z1 := Lib.hid (stV_size (fold l k))
      have Z2 := Lib.hid (stV_size (fold l (k + 1)))
      have O2 := Lib.hid (stV_one (fold l (k + 1)))
      rw [HE.out] at AD
      clear hz hs hb hc
      generalize hds : stV (fold l (k + 1)) = ds at *
      have HD := Lib.hid hds
      clear hds
      generalize stV (fold l k) = cs at *
      generalize l k = y at *
      go_wp2_with (first | (refine wpList_load_row rfl 81 (.tmp 3) rfl (w.heap.size + 1) rfl 81 cs (0, 0) _ HS.out Try.underlying81 rfl (stat_info.trans (congrArg some Z1.out.symm)) ?_))
      refine (AD.out _).mono ?_
      rintro e w2 ⟨rfl, hb2⟩
      have HS2 := Lib.hid (HS.out.below hb2 l2)
      have HZ2 := Lib.hid (HZ.out.below hb2 l1)
      have HB2 := Lib.hid (HB.out.trans (hb2.mono HB.out.size))
      clear hb2
      obtain ⟨w3, hw3⟩ : ∃ w3, w2.setRow (w.heap.size + 1) ds = w3 := ⟨_, rfl⟩
      have HS3 := Lib.hid (lies_row HS2.out hw3)
      have HZ3 := Lib.hid (lies_rowFar HZ2.out (by omega) hw3)
      have HB3 := Lib.hid (below_row HB2.out (by omega) hw3)
      go_wp2_with (first | (refine wpList_store_row rfl 81 (.tmp 3) (.tmp 14) rfl (w.heap.size + 1) ds rfl rfl 81 _ HS2.out (stat_info.trans (congrArg some Z2.out.symm)) (by rw [Z1.out, Z2.out]) O2.out ?_; rw [hw3]))
      go_roundw
      case rel => exact ⟨k + 1, by omega, by go_num, HZ3.out, by rw [HD.out]; exact HS3.out, HB3.out⟩
      case measure => simp [intOf]; omega
    · obtain rfl : k = n := by omega
      have Z1 := Lib.hid (stV_size (fold l k))
      have O1 := Lib.hid (stV_one (fold l k))
      clear hz hs hb
      generalize hcs : stV (fold l k) = cs at *
      have HC := Lib.hid hcs
      clear hcs
      go_wp2_with (first | (refine wpList_load_row rfl 81 (.tmp 3) rfl (w.heap.size + 1) rfl 81 cs (0, 0) _ HS.out Try.underlying81 rfl (stat_info.trans (congrArg some Z1.out.symm)) ?_) | (refine wpList_store_row rfl 81 (.tmp 2) (.tmp 16) rfl w.heap.size cs rfl rfl 81 _ HZ.out (stat_info.trans (congrArg some Z1.out.symm)) (by rw [Z1.out]; rfl) O1.out ?_))
      exact bodyPost_ret (v := .agg cs) (results_cell_row (by rfl) _ _ w.heap.size 81 cs (0, 0) _ (by rfl) (HZ.out.row cs) Try.underlying81 rfl (stat_info.trans (congrArg some Z1.out.symm))) rfl ⟨by rw [HC.out], below_row HB.out (Nat.le_refl _) rfl⟩
end Go.Proofs.Ytjdcafeljdnfeaa
