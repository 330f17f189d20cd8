/-
  TEXTS of rows of bytes: what string(b) is of an argument and of a slice of one's own; varint.awake (law 4).
-/
import Derived.Test.YthfepljblofgfaaVarPutRow
import Derived.Test.YthfepljblofgfaaVarRefGet
import Derived.Test.YthfepljblofgfaaVarZig
import Derived.Deep.RegionWith
import Derived.Laws.BytesArg
import Derived.Outline
namespace Go.Proofs.Ythfepljblofgfaa
open Go.RowKit Go.Shelf
set_option linter.unusedVariables false
theorem ownsRow_cells {w : World} {B e n : Nat} {v : Value} {xs : List Value} (h : w.ownsRow B e 1 v (n + 1) xs) :
    ∃ g cap, v = .slice (some ⟨g, 0, none⟩) (n + 1) cap ∧ B ≤ g ∧ g < w.heap.size ∧ ∀ i u, xs[i]? = some u → w.cell? ⟨g, i, none⟩ = some u := by
  obtain ⟨g, cap, rfl⟩ := ownsRow_succ h
  refine ⟨g, cap, rfl, (h.lt g rfl).1, (h.lt g rfl).2, fun i u hu => ?_⟩
  have := h.cells (g := g) rfl i u hu
  by_cases h1 : i = 0
  · subst h1; simpa [Addr.add] using this
  · simpa [Addr.add, h1] using this
theorem conv_row (a : Option Addr) (b off len cap : Nat) (z : Nat → Int) (w : World) (ha : len = 0 ∨ a = some ⟨b, off, none⟩) (hz : BytesAt w b off len z) :
    (convert 22 9 (.slice a len cap)).run Try.prog w = .ok (.string (strOfNums (rowOf z len))) w := by
  cases a with
  | none =>
    obtain rfl : len = 0 := by rcases ha with h | h; · exact h
                               · cases h
    exact run_convert_bytes_nil w 22 5 Try.underlying22 Try.underlying5 0 cap 9 Try.underlying9
  | some ad =>
    rcases ha with h | h
    · subst h
      obtain ⟨b', o', p'⟩ := ad
      rw [run_convert_bytes_string w 22 9 5 _ 0 cap Try.underlying22 Try.underlying5 Try.underlying9]
      simp [Conv.bytesToString, loadCells, loadCellsFrom, rowOf, strOfNums]
      rfl
    · cases h
      exact run_convert_bytes_arg w 22 5 Try.underlying22 Try.underlying5 b off len cap (rowOf z len) (by simp [rowOf]) (fun i hi => by
        rw [hz i hi]; simp [rowOf, List.getD, hi]) 9 Try.underlying9
theorem conv_own (g n cap : Nat) (xs : List Int) (hn : xs.length = n) (w : World) (hc : ∀ i u, (cellsOf xs)[i]? = some u → w.cell? ⟨g, i, none⟩ = some u) :
    (convert 22 9 (.slice (some ⟨g, 0, none⟩) n cap)).run Try.prog w = .ok (.string (strOfNums xs)) w :=
  run_convert_bytes_arg w 22 5 Try.underlying22 Try.underlying5 g 0 n cap xs hn (fun i hi => by
    rw [Nat.zero_add]
    exact hc i _ (by simp [cellsOf, List.getD, List.getElem?_eq_getElem (by omega : i < xs.length)])) 9 Try.underlying9
theorem str_append (xs ys : List Int) : strOfNums (xs ++ ys) = strOfNums xs ++ strOfNums ys := by
  apply ByteArray.ext
  simp [strOfNums]
/-- What comes of 300. -/
def Put300 (w : World) (e : Ending) (w' : World) : Prop :=
  ∃ g cap, e = .returned (.slice (some ⟨g, 0, none⟩) 2 cap) ∧ w.heap.size ≤ g ∧ g < w'.heap.size ∧ w'.cell? ⟨g, 0, none⟩ = some (.int .u8 172) ∧ w'.cell? ⟨g, 1, none⟩ = some (.int .u8 2) ∧ Below w.heap.size w w'
theorem put300 (w : World) : Calls Try.prog 32 #[.slice none 0 0, .int .u64 300] w (Put300 w) := by
  have hd : digs 9 300 = [172, 2] := by decide
  refine (put_none 300 (by decide) w).mono ?_
  rintro e w' ⟨x, rfl, hrow, hb⟩
  rw [hd] at hrow
  obtain ⟨g, cap, rfl, h1, h2, h3⟩ := ownsRow_cells hrow
  exact ⟨g, cap, rfl, h1, h2, h3 0 _ rfl, h3 1 _ rfl, hb⟩
/-- 128, 0. -/
def zTwo (i : Nat) : Int := if i = 0 then 128 else 0
theorem get_two (b : Nat) (w : World) (h0 : w.cell? ⟨b, 0, none⟩ = some (.int .u8 128)) (h1 : w.cell? ⟨b, 1, none⟩ = some (.int .u8 0)) :
    Calls Try.prog 35 #[.slice (some ⟨b, 0, none⟩) 2 2] w fun e w' => e = .returned (.tuple #[.int .u64 0, .int .i64 0, .int .i64 9]) ∧ w = w' := by
  have hg : got zTwo 2 1 = (0, 0, 9) := by decide
  have := get_any (some ⟨b, 0, none⟩) b 0 2 2 1 zTwo (fun i => by unfold zTwo; split <;> decide) (by decide) (by decide)
    ⟨by decide, fun i hi => by obtain rfl : i = 0 := by omega
                               decide, fun _ => by decide⟩ w (.inr rfl) (fun i hi => by
      obtain rfl | rfl : i = 0 ∨ i = 1 := by omega
      · exact h0
      · exact h1)
  rwa [hg] at this
theorem zig_m1 (w : World) : Calls Try.prog 37 #[.int .i64 (-1)] w fun e w' => e = .returned (.int .u64 1) ∧ w = w' := zig_any (-1) (by decide) (by decide) w
theorem zig_1 (w : World) : Calls Try.prog 37 #[.int .i64 1] w fun e w' => e = .returned (.int .u64 2) ∧ w = w' := zig_any 1 (by decide) (by decide) w
theorem zig_min (w : World) : Calls Try.prog 37 #[.int .i64 (-9223372036854775808)] w fun e w' => e = .returned (.int .u64 18446744073709551615) ∧ w = w' := zig_any (-9223372036854775808) (by decide) (by decide) w
theorem conv_two (b cap : Nat) (w : World) (h0 : w.cell? ⟨b, 0, none⟩ = some (.int .u8 172)) (h1 : w.cell? ⟨b, 1, none⟩ = some (.int .u8 2)) :
    (convert 22 9 (.slice (some ⟨b, 0, none⟩) 2 cap)).run Try.prog w = .ok (.string ⟨#[172, 2]⟩) w :=
  run_convert_bytes_arg w 22 5 Try.underlying22 Try.underlying5 b 0 2 cap [172, 2] rfl (fun i hi => by
    obtain rfl | rfl : i = 0 ∨ i = 1 := by omega
    · exact h0
    · exact h1) 9 Try.underlying9
set_option maxHeartbeats 8000000 in
theorem awake_any (w : World) : Calls Try.prog 34 #[] w fun e w' => e = .returned (.bool true) ∧ Below w.heap.size w w' := by
  have e0 : (w.alloc (.cells #[.int .u8 128, .int .u8 0] 5)).cell? ⟨w.heap.size, 0, none⟩ = some (.int .u8 128) := by simp [go_sem]
  have e1 : (w.alloc (.cells #[.int .u8 128, .int .u8 0] 5)).cell? ⟨w.heap.size, 1, none⟩ = some (.int .u8 0) := by simp [go_sem]
  have hb : Below w.heap.size w (w.alloc (.cells #[.int .u8 128, .int .u8 0] 5)) := (Below.refl _ w).alloc (Nat.le_refl _) _
  have E0 := Lib.hid e0
  have E1 := Lib.hid e1
  have HB := Lib.hid hb
  clear e0 e1 hb
  go_enter Try.func34, Try.ntmps34
  go_wp2_with fail
  generalize (w.alloc (.cells #[.int .u8 128, .int .u8 0] 5)) = W at *
  refine (get_two _ _ E0.out E1.out).mono ?_
  rintro e w' ⟨rfl, rfl⟩
  have hcv := conv_two
  go_wp2
  have z1 : zg (-1) = 1 := by decide
  have z2 : zg 1 = 2 := by decide
  have z3 : zg (-9223372036854775808) = 18446744073709551615 := by decide
  go_region_with (first | (go_at_call 32; refine (put300 _).mono ?_; rintro e w1 ⟨g, cap, rfl, g1, g2, g3, g4, g5⟩; have k0 := fun h => g5.cell (p := ⟨W.heap.size, 0, none⟩) h; have k1 := fun h => g5.cell (p := ⟨W.heap.size, 1, none⟩) h; have G5 := Lib.hid g5; clear g5) | (go_at_call 37; refine (zig_any _ (by decide) (by decide) _).mono ?_; rintro e w2 ⟨rfl, rfl⟩))
  all_goals
    go_wp2
    go_ret
    refine ⟨rfl, ?_⟩
    have h1 := HB.out.size
    have h2 := G5.out.size
    first
      | exact (HB.out.drew.trans (G5.out.mono (by simp; omega))).alloc (by simp at h2; omega) _
      | exact ((HB.out.drew.alloc (by simp; omega) _).trans (G5.out.mono (by simp; omega)))
      | exact (((HB.out.alloc h1 _).drew).trans (G5.out.mono (by simp; omega)))
      | (trace_state; fail)
end Go.Proofs.Ythfepljblofgfaa
