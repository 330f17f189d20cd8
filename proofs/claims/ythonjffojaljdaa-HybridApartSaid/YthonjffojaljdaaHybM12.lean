/-
  TEXTS OF THIS PROOF, one behind the other: XVarPutRow XVarBackArith.
-/
import Derived.Test.YthonjffojaljdaaVarPut
import Derived.Test.YthonjffojaljdaaVarGet
import Derived.LoopTactic
import Derived.WalkKit
import Derived.Maps.AppendAt
/-
  CONTRACTS OF varint.Put behind any bytes, and of the document's own Put (corduroyref04.Put): slices of their own. Conditions: the bytes lie in memory as told, at most 1000.
-/
namespace Go.Proofs.Ythonjffojaljdaa
open Go.RowKit Go.Shelf
set_option linter.unusedVariables false
attribute [local go_sem] Oper.semAt_some
set_option maxRecDepth 100000 in
set_option maxHeartbeats 2000000 in
theorem put_pos (v : Nat) (hv : v < 18446744073709551616) (b off len cap : Nat) (zs : List Int) (hl0 : 0 < len) (hl : len ≤ 1000) (hzl : zs.length = len) (w : World) (hz : ∀ (j : Nat) (u : Value), (cellsOf zs)[j]? = some u → w.cell? (Addr.add ⟨b, off, none⟩ j) = some u) (hb : ∀ j, (Addr.add ⟨b, off, none⟩ j).block < w.heap.size) :
    Calls Try.prog 56 #[.slice (some ⟨b, off, none⟩) len cap, .int .u64 v] w fun e W' => ∃ x, e = .returned x ∧ W'.ownsRow w.heap.size 5 1 x (len + (digs 9 v).length) (cellsOf zs ++ cellsOf (digs 9 v)) ∧ Below w.heap.size w W' := by
  obtain ⟨i0, hi, hz0, hz1, hz2⟩ := info_parts byteInfo
  have HZ := Lib.hid hz
  clear hz
  have hone : ∀ u ∈ cellsOf zs, u.oneCell' = true := by intro u hu; obtain ⟨x, _, rfl⟩ := List.mem_map.mp hu; rfl
  have hcl : (cellsOf zs).length = len * 1 := by rw [cellsOf, List.length_map]; omega
  have ONE := Lib.hid hone
  have HCL := Lib.hid hcl
  have HZL := Lib.hid hzl
  clear hone hcl hzl
  have hte : (26 : Nat) ≠ 5 := by decide
  refine (callsIn_wide (n := 3)).1 ?_
  refine callsIn_of_wp_marks Try.func56 rfl trivial ?_ rfl
  simp only [Try.ntmps56, List.size_toArray, List.length_cons, List.length_nil, Nat.reduceAdd, Nat.reduceSub, Array.replicate_succ, Array.replicate_zero, List.push_toArray, List.append_toArray, List.nil_append, List.cons_append]
  have m1 : i0.bytes * (len + 10) ≤ 281474976710656 := by rw [hz2]; omega
  have m2 : len + 10 ≤ maxLen := by unfold maxLen; omega
  have M1 := Lib.hid m1
  have M2 := Lib.hid m2
  clear m1 m2
  gi_wp2_with (first | (gi_at_make; refine wpListIn_make_own _ rfl (.const (.int .i64 0)) (.tmp 9) 26 rfl w.heap.size 5 i0 (.int .u8 0) 1 Try.underlying26 hi hz0 hz1 .i64 .i64 (len + 10) (len + 10) rfl rfl (by omega) M1.out M2.out (Nat.le_refl _) ?_; intro w1 hown1 hg1; have bO := Boxed.new w1 26 (.slice (some ⟨w.heap.size, 0, none⟩) 0 (len + 10)); have hB1 : Below w.heap.size w w1 := (Below.refl _ w).grown hg1 (Nat.le_refl _) (by simp); have hs1 := hB1.size; have HB1 := Lib.hid hB1; clear hB1) | (gi_at_builtin; go_loud (refine wpListIn_append_fits _ rfl _ _ 26 rfl w.heap.size 5 i0 1 Try.underlying26 hi hz1 w.heap.size 0 (len + 10) [] rfl (hown1.alloc _) ⟨b, off, none⟩ len cap (cellsOf zs) rfl HCL.out (fun j u hj => (((HB1.out.alloc hs1 _).cell (hb j)).trans (HZ.out j u hj))) ONE.out (by omega) ?_); intro w2 hown2 hg2; simp only [Nat.zero_add, List.nil_append] at hown2 ⊢; have hv1 := bO.kept hg2 (bO.not_row hte (hown1.alloc _)); have hc1 := hv1.cell; have hf1 := hv1.frozen) | (refine ⟨trivial, ?_⟩; refine (digits_in Fence.wide _ trivial rfl _ _).mono ?_; rintro e w' ⟨rfl, rfl⟩))
  have hB2 : Below w.heap.size w w2 := (HB1.out.alloc hs1 _).grown hg2 (by simp; omega) (fun k hk => by cases hk; exact Nat.le_refl _)
  have hs2 := hB2.size
  have hu2 := hv1.set (.slice (some ⟨w.heap.size, 0, none⟩) len (len + 10))
  have hrow2 := hown2.kept (grownBy_setCell' w2 w1.heap.size (.slice (some ⟨w.heap.size, 0, none⟩) len (len + 10))) (.inr (hv1.not_row hte hown2).symm)
  have hB3 := hB2.setCell (p := ⟨w1.heap.size, 0, none⟩) hs1 (.slice (some ⟨w.heap.size, 0, none⟩) len (len + 10))
  have hs3 : (w2.setCell ⟨w1.heap.size, 0, none⟩ (.slice (some ⟨w.heap.size, 0, none⟩) len (len + 10))).heap.size = w2.heap.size := by simp
  clear hc1 hf1
  generalize w2.setCell ⟨w1.heap.size, 0, none⟩ (.slice (some ⟨w.heap.size, 0, none⟩) len (len + 10)) = w3 at *
  have bN := Boxed.new w3 40 (.int .u64 v)
  rw [hs3] at bN
  have hB0 : Below w.heap.size w (w3.alloc (.cells #[.int .u64 v] 40)) := hB3.alloc (by omega) _
  have hlen := digs_len 9 v
  refine wpIn_rangeFunc_ownG rfl (by decide) (gf := 126) (lb := #[.pointer (some ⟨w2.heap.size, 0, none⟩)]) rfl trivial (enters_of Try.func126 (by kernel_rfl) rfl)
    (digits_stops Fence.wide 2 trivial rfl (by decide) (w2.heap.size) w.heap.size v hv _ (by simp [hs3]) bN.cell) belowK_t (belowK_b (by simp [hs3]; omega)) (Below.refl _ _) (fun _ => rfl)
    (fun pre W => (∃ x, Boxed W w1.heap.size 26 x ∧ W.ownsRow w.heap.size 5 1 x (len + pre.length) (cellsOf zs ++ cellsOf pre) ∧ True) ∧ Below w.heap.size w W)
    (fun _ _ _ => False)
    (OwnFrom.and (Own.from (holdsRow_own w.heap.size w1.heap.size 26 5 1 (fun pre => len + pre.length) (fun pre => cellsOf zs ++ cellsOf pre) (fun pre v => True)) _) (ownFrom_below (Nat.le_refl _) (by simp [hs3]; omega)))
    (fun _ _ _ _ _ hs _ _ => hs)
    ⟨⟨_, hu2.alloc _, by simpa [cellsOf] using hrow2.alloc (.cells #[.int .u64 v] 40), trivial⟩, hB0⟩
    (fun x => { tmps := #[.slice (some ⟨b, off, none⟩) len cap, .int .u64 v, undef, undef, .slice none 0 0, .pointer (some ⟨w1.heap.size, 0, none⟩), .int .u8 x, .slice (some ⟨b, off, none⟩) len cap, .int .i64 len, .int .i64 (len + 10), .slice (some ⟨w.heap.size, 0, none⟩) 0 (len + 10), .slice (some ⟨w.heap.size, 0, none⟩) 0 (len + 10), .slice (some ⟨b, off, none⟩) len cap, .slice (some ⟨w.heap.size, 0, none⟩) len (len + 10), .int .u64 v, .func (.func 126) #[] #[.pointer (some ⟨w2.heap.size, 0, none⟩)], .int .u8 x, undef, undef, undef, undef, undef], defers := [] }) ?assign ?body ?done ?stop
  case assign =>
    intro l x W K hK
    gi_wp2
    exact hK
  case body =>
    rintro l pre x W ⟨⟨u, hu, hrow, _⟩, hB⟩ hlt
    have hc := hu.cell
    have hpl : pre.length + 1 ≤ 10 := by omega
    have m1 : len + pre.length + 1 ≤ maxLen := by unfold maxLen; omega
    have m2 : (len + pre.length + 1) * 1 ≤ 140737488355328 := by omega
    have M3 := Lib.hid m1
    have M4 := Lib.hid m2
    clear m1 m2
    gi_wp2_with (gi_at_builtin; go_must (refine wpListIn_append_own _ rfl _ _ 26 rfl w.heap.size 5 i0 (.int .u8 0) 1 1 Try.underlying26 hi hz0 hz1 hz2 rfl (by decide) _ _ _ rfl (hrow.alloc _) ⟨W.heap.size, 0, none⟩ 1 1 [.int .u8 x] rfl rfl (cell_one_new _ _ _) (by simp [Value.oneCell']) M3.out M4.out (by have := hB.size; simp; omega) ?_); intro v' w2 hown' hgrow _; obtain ⟨g', cap', rfl⟩ := ownsRow_succ hown'; obtain ⟨hv1, hv2, hr2, hk2, hb2⟩ := hu.appended hte hrow hB.size hs1 hown' hgrow; have hc1 := hv1.cell; have hf1 := hv1.frozen)
    exact ⟨hk2.from _, hb2, ⟨_, hv2, by simpa [cellsOf, Nat.add_assoc] using hr2, trivial⟩, hB.trans hb2⟩
  case done =>
    rintro D ys W hD rfl ⟨⟨u, hu, hrow, _⟩, hB⟩ hK
    have hc := hu.cell
    gi_wp2
    refine ⟨by simp, .inl ⟨_, _, rfl, run_takeDeferred hK, ?_⟩⟩
    exact ⟨_, results_tmp rfl _ _ _, u, rfl, ownsRow_putObj hrow _ hK rfl, hB.trans (belowK_b (w := w) (Nat.le_refl _) W D _ _ (by simp at hD; omega) hK rfl rfl)⟩
  case stop =>
    rintro D c pre W _ _ h _
    exact h.elim
theorem append_zero (p0 : Option Addr) (g cap c ty : Nat) (w : World) : (Builtin.append_ #[26, 26] ty #[.slice (some ⟨g, 0, none⟩) 0 cap, .slice p0 0 c]).run Try.prog w = .ok (.slice (some ⟨g, 0, none⟩) 0 cap) w := by
  obtain ⟨i0, hi, hz0, hz1, hz2⟩ := info_parts byteInfo
  cases p0 <;> simp [loadCells, loadCellsFrom, Builtin.append_, run_underlying Try.underlying26, sizeOf, typeInfo, hi, Builtin.lenOf, Builtin.firstCells, storeCells]
set_option maxRecDepth 100000 in
set_option maxHeartbeats 2000000 in
theorem put_zero0 (cap : Nat) (v : Nat) (hv : v < 18446744073709551616) (w : World) :
    Calls Try.prog 56 #[.slice none 0 cap, .int .u64 v] w fun e W' => ∃ x, e = .returned x ∧ W'.ownsRow w.heap.size 5 1 x (digs 9 v).length (cellsOf (digs 9 v)) ∧ Below w.heap.size w W' := by
  obtain ⟨i0, hi, hz0, hz1, hz2⟩ := info_parts byteInfo
  have hap := append_zero none
  refine (callsIn_wide (n := 3)).1 ?_
  refine callsIn_of_wp_marks Try.func56 rfl trivial ?_ rfl
  simp only [Try.ntmps56, List.size_toArray, List.length_cons, List.length_nil, Nat.reduceAdd, Nat.reduceSub, Array.replicate_succ, Array.replicate_zero, List.push_toArray, List.append_toArray, List.nil_append, List.cons_append]
  have m1 : i0.bytes * 10 ≤ 281474976710656 := by rw [hz2]; decide
  have m2 : 10 ≤ maxLen := by decide
  have M1 := Lib.hid m1
  have M2 := Lib.hid m2
  clear m1 m2
  gi_wp2_with (first | (gi_at_make; refine wpListIn_make_own _ rfl (.const (.int .i64 0)) (.tmp 9) 26 rfl w.heap.size 5 i0 (.int .u8 0) 1 Try.underlying26 hi hz0 hz1 .i64 .i64 10 10 rfl rfl rfl M1.out M2.out (Nat.le_refl _) ?_; intro w1 hown1 hg1) | (refine ⟨trivial, ?_⟩; refine (digits_in Fence.wide _ trivial rfl _ _).mono ?_; rintro e w' ⟨rfl, rfl⟩))
  have hB1 : Below w.heap.size w w1 := (Below.refl _ w).grown hg1 (Nat.le_refl _) (by simp)
  have hs1 := hB1.size
  have bO := Boxed.new w1 26 (.slice (some ⟨w.heap.size, 0, none⟩) 0 10)
  have bN := Boxed.new (w1.alloc (.cells #[.slice (some ⟨w.heap.size, 0, none⟩) 0 10] 26)) 40 (.int .u64 v)
  rw [World.size_alloc] at bN
  have hB0 : Below w.heap.size w ((w1.alloc (.cells #[.slice (some ⟨w.heap.size, 0, none⟩) 0 10] 26)).alloc (.cells #[.int .u64 v] 40)) := (hB1.alloc hs1 _).alloc (by simp; omega) _
  have hlen := digs_len 9 v
  refine wpIn_rangeFunc_ownG rfl (by decide) (gf := 126) (lb := #[.pointer (some ⟨w1.heap.size + 1, 0, none⟩)]) rfl trivial (enters_of Try.func126 (by kernel_rfl) rfl)
    (digits_stops Fence.wide 2 trivial rfl (by decide) (w1.heap.size + 1) w.heap.size v hv _ (by simp) bN.cell) belowK_t (belowK_b (by simp; omega)) (Below.refl _ _) (fun _ => rfl)
    (fun pre W => (∃ x, Boxed W w1.heap.size 26 x ∧ W.ownsRow w.heap.size 5 1 x pre.length (cellsOf pre) ∧ True) ∧ Below w.heap.size w W)
    (fun _ _ _ => False)
    (OwnFrom.and (Own.from (holdsRow_own w.heap.size w1.heap.size 26 5 1 (fun pre => pre.length) (fun pre => cellsOf pre) (fun pre v => True)) _) (ownFrom_below (Nat.le_refl _) (by simp; omega)))
    (fun _ _ _ _ _ hs _ _ => hs)
    ⟨⟨_, bO.alloc _, (hown1.alloc _).alloc _, trivial⟩, hB0⟩
    (fun x => { tmps := #[.slice none 0 cap, .int .u64 v, undef, undef, .slice none 0 0, .pointer (some ⟨w1.heap.size, 0, none⟩), .int .u8 x, .slice none 0 cap, .int .i64 0, .int .i64 10, .slice (some ⟨w.heap.size, 0, none⟩) 0 10, .slice (some ⟨w.heap.size, 0, none⟩) 0 10, .slice none 0 cap, .slice (some ⟨w.heap.size, 0, none⟩) 0 10, .int .u64 v, .func (.func 126) #[] #[.pointer (some ⟨w1.heap.size + 1, 0, none⟩)], .int .u8 x, undef, undef, undef, undef, undef], defers := [] }) ?assign ?body ?done ?stop
  case assign =>
    intro l x W K hK
    gi_wp2
    exact hK
  case body =>
    rintro l pre x W ⟨⟨u, hu, hrow, _⟩, hB⟩ hlt
    have hc := hu.cell
    have hpl : pre.length + 1 ≤ 10 := by omega
    have m1 : pre.length + 1 ≤ maxLen := by unfold maxLen; omega
    have m2 : (pre.length + 1) * 1 ≤ 140737488355328 := by omega
    have M3 := Lib.hid m1
    have M4 := Lib.hid m2
    clear m1 m2
    have hte : (26 : Nat) ≠ 5 := by decide
    gi_wp2_with (gi_at_builtin; go_must (refine wpListIn_append_own _ rfl _ _ 26 rfl w.heap.size 5 i0 (.int .u8 0) 1 1 Try.underlying26 hi hz0 hz1 hz2 rfl (by decide) _ _ _ rfl (hrow.alloc _) ⟨W.heap.size, 0, none⟩ 1 1 [.int .u8 x] rfl rfl (cell_one_new _ _ _) (by simp [Value.oneCell']) M3.out M4.out (by have := hB.size; simp; omega) ?_); intro v' w2 hown' hgrow _; obtain ⟨g', cap', rfl⟩ := ownsRow_succ hown'; obtain ⟨hv1, hv2, hr2, hk2, hb2⟩ := hu.appended hte hrow hB.size hs1 hown' hgrow; have hc1 := hv1.cell; have hf1 := hv1.frozen)
    exact ⟨hk2.from _, hb2, ⟨_, hv2, by simpa [cellsOf] using hr2, trivial⟩, hB.trans hb2⟩
  case done =>
    rintro D ys W hD rfl ⟨⟨u, hu, hrow, _⟩, hB⟩ hK
    have hc := hu.cell
    gi_wp2
    refine ⟨by simp, .inl ⟨_, _, rfl, run_takeDeferred hK, ?_⟩⟩
    exact ⟨_, results_tmp rfl _ _ _, u, rfl, ownsRow_putObj hrow _ hK rfl, hB.trans (belowK_b (w := w) (Nat.le_refl _) W D _ _ (by simp at hD; omega) hK rfl rfl)⟩
  case stop =>
    rintro D c pre W _ _ h _
    exact h.elim
set_option maxRecDepth 100000 in
set_option maxHeartbeats 2000000 in
theorem put_zero1 (p0 : Addr) (cap : Nat) (v : Nat) (hv : v < 18446744073709551616) (w : World) :
    Calls Try.prog 56 #[.slice (some p0) 0 cap, .int .u64 v] w fun e W' => ∃ x, e = .returned x ∧ W'.ownsRow w.heap.size 5 1 x (digs 9 v).length (cellsOf (digs 9 v)) ∧ Below w.heap.size w W' := by
  obtain ⟨i0, hi, hz0, hz1, hz2⟩ := info_parts byteInfo
  have hap := append_zero (some p0)
  refine (callsIn_wide (n := 3)).1 ?_
  refine callsIn_of_wp_marks Try.func56 rfl trivial ?_ rfl
  simp only [Try.ntmps56, List.size_toArray, List.length_cons, List.length_nil, Nat.reduceAdd, Nat.reduceSub, Array.replicate_succ, Array.replicate_zero, List.push_toArray, List.append_toArray, List.nil_append, List.cons_append]
  have m1 : i0.bytes * 10 ≤ 281474976710656 := by rw [hz2]; decide
  have m2 : 10 ≤ maxLen := by decide
  have M1 := Lib.hid m1
  have M2 := Lib.hid m2
  clear m1 m2
  gi_wp2_with (first | (gi_at_make; refine wpListIn_make_own _ rfl (.const (.int .i64 0)) (.tmp 9) 26 rfl w.heap.size 5 i0 (.int .u8 0) 1 Try.underlying26 hi hz0 hz1 .i64 .i64 10 10 rfl rfl rfl M1.out M2.out (Nat.le_refl _) ?_; intro w1 hown1 hg1) | (refine ⟨trivial, ?_⟩; refine (digits_in Fence.wide _ trivial rfl _ _).mono ?_; rintro e w' ⟨rfl, rfl⟩))
  have hB1 : Below w.heap.size w w1 := (Below.refl _ w).grown hg1 (Nat.le_refl _) (by simp)
  have hs1 := hB1.size
  have bO := Boxed.new w1 26 (.slice (some ⟨w.heap.size, 0, none⟩) 0 10)
  have bN := Boxed.new (w1.alloc (.cells #[.slice (some ⟨w.heap.size, 0, none⟩) 0 10] 26)) 40 (.int .u64 v)
  rw [World.size_alloc] at bN
  have hB0 : Below w.heap.size w ((w1.alloc (.cells #[.slice (some ⟨w.heap.size, 0, none⟩) 0 10] 26)).alloc (.cells #[.int .u64 v] 40)) := (hB1.alloc hs1 _).alloc (by simp; omega) _
  have hlen := digs_len 9 v
  refine wpIn_rangeFunc_ownG rfl (by decide) (gf := 126) (lb := #[.pointer (some ⟨w1.heap.size + 1, 0, none⟩)]) rfl trivial (enters_of Try.func126 (by kernel_rfl) rfl)
    (digits_stops Fence.wide 2 trivial rfl (by decide) (w1.heap.size + 1) w.heap.size v hv _ (by simp) bN.cell) belowK_t (belowK_b (by simp; omega)) (Below.refl _ _) (fun _ => rfl)
    (fun pre W => (∃ x, Boxed W w1.heap.size 26 x ∧ W.ownsRow w.heap.size 5 1 x pre.length (cellsOf pre) ∧ True) ∧ Below w.heap.size w W)
    (fun _ _ _ => False)
    (OwnFrom.and (Own.from (holdsRow_own w.heap.size w1.heap.size 26 5 1 (fun pre => pre.length) (fun pre => cellsOf pre) (fun pre v => True)) _) (ownFrom_below (Nat.le_refl _) (by simp; omega)))
    (fun _ _ _ _ _ hs _ _ => hs)
    ⟨⟨_, bO.alloc _, (hown1.alloc _).alloc _, trivial⟩, hB0⟩
    (fun x => { tmps := #[.slice (some p0) 0 cap, .int .u64 v, undef, undef, .slice none 0 0, .pointer (some ⟨w1.heap.size, 0, none⟩), .int .u8 x, .slice (some p0) 0 cap, .int .i64 0, .int .i64 10, .slice (some ⟨w.heap.size, 0, none⟩) 0 10, .slice (some ⟨w.heap.size, 0, none⟩) 0 10, .slice (some p0) 0 cap, .slice (some ⟨w.heap.size, 0, none⟩) 0 10, .int .u64 v, .func (.func 126) #[] #[.pointer (some ⟨w1.heap.size + 1, 0, none⟩)], .int .u8 x, undef, undef, undef, undef, undef], defers := [] }) ?assign ?body ?done ?stop
  case assign =>
    intro l x W K hK
    gi_wp2
    exact hK
  case body =>
    rintro l pre x W ⟨⟨u, hu, hrow, _⟩, hB⟩ hlt
    have hc := hu.cell
    have hpl : pre.length + 1 ≤ 10 := by omega
    have m1 : pre.length + 1 ≤ maxLen := by unfold maxLen; omega
    have m2 : (pre.length + 1) * 1 ≤ 140737488355328 := by omega
    have M3 := Lib.hid m1
    have M4 := Lib.hid m2
    clear m1 m2
    have hte : (26 : Nat) ≠ 5 := by decide
    gi_wp2_with (gi_at_builtin; go_must (refine wpListIn_append_own _ rfl _ _ 26 rfl w.heap.size 5 i0 (.int .u8 0) 1 1 Try.underlying26 hi hz0 hz1 hz2 rfl (by decide) _ _ _ rfl (hrow.alloc _) ⟨W.heap.size, 0, none⟩ 1 1 [.int .u8 x] rfl rfl (cell_one_new _ _ _) (by simp [Value.oneCell']) M3.out M4.out (by have := hB.size; simp; omega) ?_); intro v' w2 hown' hgrow _; obtain ⟨g', cap', rfl⟩ := ownsRow_succ hown'; obtain ⟨hv1, hv2, hr2, hk2, hb2⟩ := hu.appended hte hrow hB.size hs1 hown' hgrow; have hc1 := hv1.cell; have hf1 := hv1.frozen)
    exact ⟨hk2.from _, hb2, ⟨_, hv2, by simpa [cellsOf] using hr2, trivial⟩, hB.trans hb2⟩
  case done =>
    rintro D ys W hD rfl ⟨⟨u, hu, hrow, _⟩, hB⟩ hK
    have hc := hu.cell
    gi_wp2
    refine ⟨by simp, .inl ⟨_, _, rfl, run_takeDeferred hK, ?_⟩⟩
    exact ⟨_, results_tmp rfl _ _ _, u, rfl, ownsRow_putObj hrow _ hK rfl, hB.trans (belowK_b (w := w) (Nat.le_refl _) W D _ _ (by simp at hD; omega) hK rfl rfl)⟩
  case stop =>
    rintro D c pre W _ _ h _
    exact h.elim
/-- The first bytes of a row. -/
def rowOf (z : Nat → Int) (len : Nat) : List Int := (List.range len).map z
theorem put_row (a : Option Addr) (b off len cap : Nat) (z : Nat → Int) (v : Nat) (hv : v < 18446744073709551616) (hl : len ≤ 1000) (w : World) (ha : len = 0 ∨ a = some ⟨b, off, none⟩) (hz : BytesAt w b off len z) :
    Calls Try.prog 56 #[.slice a len cap, .int .u64 v] w fun e W' => ∃ x, e = .returned x ∧ W'.ownsRow w.heap.size 5 1 x (len + (digs 9 v).length) (cellsOf (rowOf z len) ++ cellsOf (digs 9 v)) ∧ Below w.heap.size w W' := by
  by_cases h0 : len = 0
  · subst h0
    cases a with
    | none => simpa [rowOf, cellsOf] using put_zero0 cap v hv w
    | some ad => simpa [rowOf, cellsOf] using put_zero1 ad cap v hv w
  · obtain rfl : a = some ⟨b, off, none⟩ := by rcases ha with h | h; · exact absurd h h0
                                               · exact h
    refine put_pos v hv b off len cap (rowOf z len) (by omega) hl (by simp [rowOf]) w (fun j u hj => ?_) (fun j => ?_)
    · have hjl : j < len := by
        rcases Nat.lt_or_ge j len with h | h
        · exact h
        · rw [List.getElem?_eq_none (by simpa [cellsOf, rowOf] using h)] at hj; cases hj
      have := hz j hjl
      simp [cellsOf, rowOf, hjl] at hj
      subst hj
      by_cases h1 : j = 0
      · subst h1; simpa [Addr.add] using this
      · simpa [Addr.add, h1] using this
    · have h1 := hz 0 (by omega)
      have h2 : b < w.heap.size := World.block_lt_of_cell? w _ h1
      by_cases h3 : j = 0
      · subst h3; simpa [Addr.add] using h2
      · simpa [Addr.add, h3] using h2
theorem rput_any (v : Nat) (hv : v < 18446744073709551616) (w : World) :
    Calls Try.prog 21 #[.int .u64 v] w fun e W' => ∃ x, e = .returned x ∧ W'.ownsRow w.heap.size 5 1 x (digs 9 v).length (cellsOf (digs 9 v)) ∧ Below w.heap.size w W' := by
  obtain ⟨i0, hi, hz0, hz1, hz2⟩ := info_parts byteInfo
  go_enter Try.func21, Try.ntmps21
  go_wp2_with fail
  go_loopw [0, 3] (fun p o wr => ∃ (pre : List Int) (k r : Nat), p = .int .u64 r ∧ digs 9 v = pre ++ digs k r ∧ r < 18446744073709551616 ∧ r < 128 ^ (k + 1) ∧ pre.length + k = 9 ∧ wr.ownsRow w.heap.size 5 1 o pre.length (cellsOf pre) ∧ Below w.heap.size w wr)
    (fun p o wr => (intOf p).toNat)
  case atStart => exact ⟨[], 9, v, rfl, rfl, hv, by omega, rfl, World.ownsRow_nil _ _ _ _, Below.refl _ _⟩
  case round =>
    obtain ⟨pre, k, r, rfl, hx, hr, hk, hpl, hown, hb⟩ := hrel
    have hsz := hb.size
    have HX := Lib.hid hx
    have HK := Lib.hid hk
    clear hx hk
    by_cases c : r ≤ 127
    · have hd : digs k r = [(r : Int)] := by cases k <;> simp [digs, c]
      have HD := Lib.hid hd
      clear hd
      have hcv : (r : Int) % 256 = r := by omega
      have hc : ¬ (127 : Int) < r := by omega
      go_wp2_with (at_builtin; go_loud (refine wpList_append_own _ rfl _ _ 26 rfl w.heap.size 5 i0 (.int .u8 0) 1 1 Try.underlying26 hi hz0 hz1 hz2 rfl (by decide) _ _ _ rfl (hown.alloc _) ⟨wr.heap.size, 0, none⟩ 1 1 [.int .u8 r] rfl rfl (cell_one_new _ _ _) (by intro u hu; simp at hu; subst hu; rfl) (by unfold maxLen; omega) (by omega) (by simp; omega) ?_); intro v1 w1 hown1 hgrow1 hnil1)
      go_ret
      refine ⟨_, rfl, ?_, (hb.alloc hsz _).grown hgrow1 (by simp; omega) (fun j hj => (hown.lt j hj).1)⟩
      rw [HX.out, HD.out]
      simpa [cellsOf] using hown1
    · obtain ⟨k, rfl⟩ : ∃ k', k = k' + 1 := ⟨k - 1, by
        rcases Nat.eq_zero_or_pos k with h | h
        · subst h; have := HK.out; omega
        · omega⟩
      have hd : digs (k + 1) r = ((r % 128 + 128 : Nat) : Int) :: digs k (r / 128) := by simp [digs, c]
      have HD := Lib.hid hd
      clear hd
      obtain ⟨x, hxe⟩ : ∃ x : Int, (r : Int) % 128 + 128 = x := ⟨_, rfl⟩
      have hxb : 128 ≤ x ∧ x ≤ 255 := by omega
      have hc : (127 : Int) < r := by omega
      have HXE := Lib.hid hxe
      have e1 : ((r : Int) % 128 + 128) % 256 = x := by omega
      have e2 : ((r : Int) % 128 + 128) % 18446744073709551616 = x := by omega
      go_wp2_with (at_builtin; go_loud (refine wpList_append_own _ rfl _ _ 26 rfl w.heap.size 5 i0 (.int .u8 0) 1 1 Try.underlying26 hi hz0 hz1 hz2 rfl (by decide) _ _ _ rfl (hown.alloc _) ⟨wr.heap.size, 0, none⟩ 1 1 [.int .u8 x] rfl rfl (cell_one_new _ _ _) (by intro u hu; simp at hu; subst hu; rfl) (by unfold maxLen; omega) (by omega) (by simp; omega) ?_); intro v1 w1 hown1 hgrow1 hnil1)
      go_roundw
      case rel => exact ⟨pre ++ [x], k, r / 128, by go_num, by rw [HX.out, HD.out]; simp [← HXE.out], by omega, by have hk := HK.out; rw [Nat.pow_succ] at hk; omega, by simp; omega, by simpa [cellsOf] using hown1, (hb.alloc hsz _).grown hgrow1 (by simp; omega) (fun j hj => (hown.lt j hj).1)⟩
      case measure => simp [intOf]; omega
end Go.Proofs.Ythonjffojaljdaa


/-
  ARITHMETIC of short bytes: what is told of a row is put again as it stood; what the short bytes of a number tell.
-/
namespace Go.Proofs.Ythonjffojaljdaa
open Go.RowKit Go.Shelf
set_option linter.unusedVariables false
theorem vals_congr (z y : Nat → Int) : ∀ n, (∀ i, i < n → z i = y i) → vals z n = vals y n
  | 0, _ => rfl
  | n + 1, h => by
    simp only [vals]
    rw [vals_congr z y n (fun i hi => h i (by omega)), h n (by omega)]
theorem vals_shift (z : Nat → Int) : ∀ n, vals z (n + 1) = z 0 % 128 + 128 * vals (fun i => z (i + 1)) n
  | 0 => by simp [vals]
  | n + 1 => by
    rw [vals, vals_shift z n]
    simp only [vals, Int.pow_succ]
    grind
theorem vals_pos (z : Nat → Int) (f : Nat) (h1 : 0 ≤ z f) (h2 : z f < 128) (h0 : z f ≠ 0) : 1 ≤ vals z (f + 1) := by
  obtain ⟨n, hn, hlt⟩ := vals_bd z f
  simp only [vals]
  have hp : (1 : Int) ≤ 128 ^ f := by
    have : (0 : Int) < 128 ^ f := Int.pow_pos (by decide)
    omega
  have e : z f % 128 = z f := by omega
  rw [e]
  have hm := Int.mul_le_mul (show (1 : Int) ≤ z f by omega) hp (by omega) (by omega)
  omega
/-- Short bytes that are told are put again as they stood. -/
theorem digs_vals : ∀ (f k : Nat) (z : Nat → Int), f ≤ k → (∀ i, i < f → 128 ≤ z i ∧ z i ≤ 255) → 0 ≤ z f → z f < 128 → (0 < f → z f ≠ 0) →
    digs k (vals z (f + 1)).toNat = rowOf z (f + 1)
  | 0, k, z, hk, hi, h0, h1, hn => by
    have e : vals z 1 = z 0 := by simp [vals]; omega
    have hd : (z 0).toNat ≤ 127 := by omega
    rw [e]
    have er : rowOf z 1 = [z 0] := by simp [rowOf]
    rw [er]
    cases k with
    | zero => simp [digs]; omega
    | succ k => simp [digs, hd]; omega
  | f + 1, 0, z, hk, hi, h0, h1, hn => absurd hk (by omega)
  | f + 1, k + 1, z, hk, hi, h0, h1, hn => by
    have ih := digs_vals f k (fun i => z (i + 1)) (by omega) (fun i hi' => hi (i + 1) (by omega)) h0 h1 (fun _ => hn (by omega))
    have hv := vals_pos (fun i => z (i + 1)) f h0 h1 (hn (by omega))
    have hs := vals_shift z (f + 1)
    have hz0 := hi 0 (by omega)
    generalize vals (fun i => z (i + 1)) (f + 1) = V at *
    rw [hs]
    have hc : ¬ (z 0 % 128 + 128 * V).toNat ≤ 127 := by omega
    have hq : (z 0 % 128 + 128 * V).toNat / 128 = V.toNat := by omega
    have hr : (((z 0 % 128 + 128 * V).toNat % 128 + 128 : Nat) : Int) = z 0 := by omega
    unfold digs
    rw [if_neg hc, hq, ih, hr]
    unfold rowOf
    rw [List.range_succ_eq_map (n := f + 1), List.map_cons, List.map_map]
    rfl
/-- What the short bytes of a number are. -/
theorem digs_told : ∀ (k v : Nat), v < 128 ^ (k + 1) → ∃ m, (digs k v).length = m + 1 ∧ m ≤ k ∧ (∀ i, i < m → 128 ≤ (digs k v).getD i 0 ∧ (digs k v).getD i 0 ≤ 255) ∧ 0 ≤ (digs k v).getD m 0 ∧ (digs k v).getD m 0 < 128 ∧
      (0 < m → (digs k v).getD m 0 ≠ 0) ∧ vals (fun i => (digs k v).getD i 0) (m + 1) = v
  | 0, v, h => ⟨0, by simp [digs], Nat.le_refl _, fun i hi => by omega, by simp [digs], by simp [digs]; omega, fun h => by omega, by simp [digs, vals]; omega⟩
  | k + 1, v, h => by
    by_cases c : v ≤ 127
    · have hd : digs (k + 1) v = [(v : Int)] := by simp [digs, c]
      rw [hd]
      exact ⟨0, rfl, by omega, fun i hi => by omega, by simp, by simp; omega, fun h => by omega, by simp [vals]; omega⟩
    · have hd : digs (k + 1) v = ((v % 128 + 128 : Nat) : Int) :: digs k (v / 128) := by simp [digs, c]
      obtain ⟨m, h1, h2, h3, h4, h5, h6, h7⟩ := digs_told k (v / 128) (by rw [Nat.pow_succ] at h; omega)
      rw [hd]
      refine ⟨m + 1, by simp [h1], by omega, fun i hi => ?_, by simpa using h4, by simpa using h5, fun _ => ?_, ?_⟩
      · cases i with
        | zero => simp; omega
        | succ i => simpa using h3 i (by omega)
      · rw [List.getD_cons_succ]
        by_cases hm : 0 < m
        · exact h6 hm
        · obtain rfl : m = 0 := by omega
          have h8 : vals (fun i => (digs k (v / 128)).getD i 0) (0 + 1) = ((digs k (v / 128)).getD 0 0) % 128 := by simp [vals]
          rw [h8] at h7
          intro h0
          rw [h0] at h7
          omega
      · rw [vals_shift]
        simp only [List.getD_cons_zero, List.getD_cons_succ]
        rw [h7]; omega
end Go.Proofs.Ythonjffojaljdaa

