/-
  TEXTS OF THIS PROOF, one behind the other: XHybU XHybV XHybW XHybX.
-/
import Derived.Test.YthonjffojaljdaaHybM11
import Derived.Test.YthonjffojaljdaaHybM9
import Derived.Test.YthonjffojaljdaaHybD
import Derived.Test.YthonjffojaljdaaShelf
import Derived.Laws.CopyOwn
import Derived.Deep.RegionHeldLaw
import Derived.Test.YthonjffojaljdaaRead
import Derived.Test.YthonjffojaljdaaHybM7
import Derived.Test.YthonjffojaljdaaZvarD
import Derived.Test.YthonjffojaljdaaWidD
import Derived.Test.YthonjffojaljdaaHybE
import Derived.Test.YthonjffojaljdaaPlainD
import Derived.Deep.LoopGhost
import Derived.Test.YthonjffojaljdaaVarRefGet
import Derived.Test.YthonjffojaljdaaRefNum
import Derived.Deep.CutRange
/-
  HYBRID, decoding: what a run is read to (arithmetic); trap.Must at a row; a copy whose run is known, at a step of a region that draws; slices.Repeat of one number. Conditions: at most 1024 numbers.
-/
namespace Go.Proofs.Ythonjffojaljdaa
open Go.ChangeShapes Go.WideShapes Go.ChangeAt Go.RowKit
set_option linter.unusedVariables false
/-- What the rest of a run is read to, behind its head h: the error, the place behind it, its numbers. -/
def rd2 (z : Nat → Int) (nb q p lack h : Nat) : Int × Nat × List Nat :=
  if h / 2 = 0 then (7, p, [])
  else if h % 2 = 0 then
    if lack < h / 2 then (7, p, [])
    else if nb < p + need 1 q then (1, p, [])
    else if num (fun i => z (p + i)) (need 1 q) < 2 ^ q then (0, p + need 1 q, List.replicate (h / 2) (num (fun i => z (p + i)) (need 1 q)))
    else (4, p, [])
  else if grp lack < h / 2 then (7, p, [])
  else if nb < p + h / 2 * q then (1, p, [])
  else if (List.range (8 * (h / 2))).all (fun i => decide (i < lack) || decide (unN q (num (fun i => z (p + i)) (h / 2 * q)) i = 0)) = true
    then (0, p + h / 2 * q, (List.range (min (8 * (h / 2)) lack)).map (unN q (num (fun i => z (p + i)) (h / 2 * q))))
  else (3, p, [])
/-- What a run is read to. -/
def rd1 (z : Nat → Int) (nb q p lack : Nat) : Int × Nat × List Nat :=
  if (nx z p nb).2.2 = 0 then rd2 z nb q (p + (seen z p nb + 1)) lack (nx z p nb).1.toNat else ((nx z p nb).2.2, p, [])
theorem rd2_len (z : Nat → Int) (nb q p lack h : Nat) (h0 : (rd2 z nb q p lack h).1 = 0) (hl : 1 ≤ lack) (hp : p ≤ nb) :
    1 ≤ (rd2 z nb q p lack h).2.2.length ∧ (rd2 z nb q p lack h).2.2.length ≤ lack ∧ (rd2 z nb q p lack h).2.1 ≤ nb := by
  unfold rd2 at h0 ⊢
  by_cases h1 : h / 2 = 0
  · rw [if_pos h1] at h0; simp at h0
  rw [if_neg h1] at h0 ⊢
  by_cases h2 : h % 2 = 0
  · rw [if_pos h2] at h0 ⊢
    by_cases h3 : lack < h / 2
    · rw [if_pos h3] at h0; simp at h0
    rw [if_neg h3] at h0 ⊢
    by_cases h4 : nb < p + need 1 q
    · rw [if_pos h4] at h0; simp at h0
    rw [if_neg h4] at h0 ⊢
    by_cases h5 : num (fun i => z (p + i)) (need 1 q) < 2 ^ q
    · rw [if_pos h5]
      simp only [List.length_replicate]
      omega
    · rw [if_neg h5] at h0; simp at h0
  · rw [if_neg h2] at h0 ⊢
    by_cases h3 : grp lack < h / 2
    · rw [if_pos h3] at h0; simp at h0
    rw [if_neg h3] at h0 ⊢
    by_cases h4 : nb < p + h / 2 * q
    · rw [if_pos h4] at h0; simp at h0
    rw [if_neg h4] at h0 ⊢
    split
    · simp only [List.length_map, List.length_range]
      omega
    · rename_i h5; rw [if_neg h5] at h0; simp at h0
theorem rd1_len (z : Nat → Int) (nb q p lack : Nat) (h0 : (rd1 z nb q p lack).1 = 0) (hl : 1 ≤ lack) :
    1 ≤ (rd1 z nb q p lack).2.2.length ∧ (rd1 z nb q p lack).2.2.length ≤ lack ∧ (rd1 z nb q p lack).2.1 ≤ nb := by
  unfold rd1 at h0 ⊢
  by_cases h : (nx z p nb).2.2 = 0
  · rw [if_pos h] at h0 ⊢
    exact rd2_len z nb q _ lack _ h0 hl (by have := (nx_ok h).1; omega)
  · rw [if_neg h] at h0; exact absurd h0 h
theorem unN_lt (q M i : Nat) : unN q M i < 2 ^ q := Nat.mod_lt _ (Nat.pow_pos (by decide))
theorem rd2_lt (z : Nat → Int) (nb q p lack h : Nat) : ∀ v, v ∈ (rd2 z nb q p lack h).2.2 → v < 2 ^ q := by
  intro v hv
  unfold rd2 at hv
  split at hv
  · cases hv
  split at hv
  · split at hv
    · cases hv
    split at hv
    · cases hv
    split at hv
    · rename_i h5
      rw [List.eq_of_mem_replicate hv]; exact h5
    · cases hv
  · split at hv
    · cases hv
    split at hv
    · cases hv
    split at hv
    · obtain ⟨i, _, rfl⟩ := List.mem_map.1 hv
      exact unN_lt q _ i
    · cases hv
theorem rd1_lt (z : Nat → Int) (nb q p lack : Nat) : ∀ v, v ∈ (rd1 z nb q p lack).2.2 → v < 2 ^ q := by
  intro v hv
  unfold rd1 at hv
  split at hv
  · exact rd2_lt z nb q _ lack _ v hv
  · cases hv
/-- What so many runs are read to: the error, the place, the numbers. -/
def hrun (z : Nat → Int) (nb n q p0 : Nat) : Nat → Int × Nat × List Nat
  | 0 => (0, p0, [])
  | k + 1 => if (hrun z nb n q p0 k).1 = 0 ∧ (hrun z nb n q p0 k).2.2.length < n then
      (if (rd1 z nb q (hrun z nb n q p0 k).2.1 (n - (hrun z nb n q p0 k).2.2.length)).1 = 0
        then (0, (rd1 z nb q (hrun z nb n q p0 k).2.1 (n - (hrun z nb n q p0 k).2.2.length)).2.1, (hrun z nb n q p0 k).2.2 ++ (rd1 z nb q (hrun z nb n q p0 k).2.1 (n - (hrun z nb n q p0 k).2.2.length)).2.2)
        else ((rd1 z nb q (hrun z nb n q p0 k).2.1 (n - (hrun z nb n q p0 k).2.2.length)).1, (hrun z nb n q p0 k).2.1, (hrun z nb n q p0 k).2.2)) else hrun z nb n q p0 k
theorem hrun_stop {z : Nat → Int} {nb n q p0 k : Nat} (h : ¬ ((hrun z nb n q p0 k).1 = 0 ∧ (hrun z nb n q p0 k).2.2.length < n)) : ∀ j, hrun z nb n q p0 (k + j) = hrun z nb n q p0 k
  | 0 => rfl
  | j + 1 => by
    have ih := hrun_stop h j
    show hrun z nb n q p0 (k + j + 1) = _
    rw [hrun, ih, if_neg h]
theorem hrun_step {z : Nat → Int} {nb n q p0 k : Nat} (h : (hrun z nb n q p0 k).1 = 0) (hl : (hrun z nb n q p0 k).2.2.length < n) (g : (rd1 z nb q (hrun z nb n q p0 k).2.1 (n - (hrun z nb n q p0 k).2.2.length)).1 = 0) :
    hrun z nb n q p0 (k + 1) = (0, (rd1 z nb q (hrun z nb n q p0 k).2.1 (n - (hrun z nb n q p0 k).2.2.length)).2.1, (hrun z nb n q p0 k).2.2 ++ (rd1 z nb q (hrun z nb n q p0 k).2.1 (n - (hrun z nb n q p0 k).2.2.length)).2.2) := by rw [hrun, if_pos ⟨h, hl⟩, if_pos g]
theorem hrun_fail {z : Nat → Int} {nb n q p0 k : Nat} (h : (hrun z nb n q p0 k).1 = 0) (hl : (hrun z nb n q p0 k).2.2.length < n) (g : ¬ (rd1 z nb q (hrun z nb n q p0 k).2.1 (n - (hrun z nb n q p0 k).2.2.length)).1 = 0) (j : Nat) :
    (hrun z nb n q p0 (k + 1 + j)).1 = (rd1 z nb q (hrun z nb n q p0 k).2.1 (n - (hrun z nb n q p0 k).2.2.length)).1 := by
  have e : hrun z nb n q p0 (k + 1) = ((rd1 z nb q (hrun z nb n q p0 k).2.1 (n - (hrun z nb n q p0 k).2.2.length)).1, (hrun z nb n q p0 k).2.1, (hrun z nb n q p0 k).2.2) := by rw [hrun, if_pos ⟨h, hl⟩, if_neg g]
  rw [hrun_stop (k := k + 1) (by rw [e]; exact fun x => g x.1) j, e]
/-- As long as nothing is wrong, each run brings a number at least, and never too many. -/
theorem hrun_len {z : Nat → Int} {nb n q p0 : Nat} (hp : p0 ≤ nb) : ∀ k, (hrun z nb n q p0 k).2.2.length ≤ n ∧ (hrun z nb n q p0 k).2.1 ≤ nb ∧ ((hrun z nb n q p0 k).1 = 0 → min k n ≤ (hrun z nb n q p0 k).2.2.length)
  | 0 => ⟨Nat.zero_le _, hp, fun _ => by simp⟩
  | k + 1 => by
    obtain ⟨h1, h2, h3⟩ := hrun_len (z := z) (nb := nb) (n := n) (q := q) hp k
    by_cases h : (hrun z nb n q p0 k).1 = 0 ∧ (hrun z nb n q p0 k).2.2.length < n
    · by_cases g : (rd1 z nb q (hrun z nb n q p0 k).2.1 (n - (hrun z nb n q p0 k).2.2.length)).1 = 0
      · rw [hrun_step h.1 h.2 g]
        have := rd1_len z nb q _ _ g (by omega)
        have h4 := h3 h.1
        simp only [List.length_append]
        exact ⟨by omega, by omega, fun _ => by omega⟩
      · rw [hrun, if_pos h, if_neg g]
        exact ⟨h1, h2, fun h0 => absurd h0 g⟩
    · rw [hrun, if_neg h]
      refine ⟨h1, h2, fun h0 => ?_⟩
      have := h3 h0
      have : ¬ (hrun z nb n q p0 k).2.2.length < n := fun x => h ⟨h0, x⟩
      omega
theorem hrun_end {z : Nat → Int} {nb n q p0 k : Nat} (hp : p0 ≤ nb) (h : (hrun z nb n q p0 k).1 = 0) (hl : ¬ (hrun z nb n q p0 k).2.2.length < n) (hk : k ≤ n) : hrun z nb n q p0 n = hrun z nb n q p0 k ∧ (hrun z nb n q p0 k).2.2.length = n := by
  have := hrun_stop (z := z) (nb := nb) (n := n) (q := q) (p0 := p0) (k := k) (fun x => hl x.2) (n - k)
  rw [show k + (n - k) = n by omega] at this
  exact ⟨this, by have := (hrun_len (z := z) (nb := nb) (n := n) (q := q) hp k).1; omega⟩
theorem hrun_lt {z : Nat → Int} {nb n q p0 : Nat} : ∀ k v, v ∈ (hrun z nb n q p0 k).2.2 → v < 2 ^ q
  | 0, v, h => by cases h
  | k + 1, v, h => by
    have ih := hrun_lt (z := z) (nb := nb) (n := n) (q := q) (p0 := p0) k
    rw [hrun] at h
    split at h
    · split at h
      · rcases List.mem_append.1 h with h | h
        · exact ih v h
        · exact rd1_lt z nb q _ _ v h
      · exact ih v h
    · exact ih v h
/-- Must, at a row. -/
theorem mustr_ok (x : Value) (w : World) : Calls Try.prog 122 #[x, .int .i64 0] w fun e w' => e = .returned x ∧ w = w' := by
  go_enter Try.func122, Try.ntmps122
  go_wp2_with fail
  refine (throw_ok _).mono ?_
  rintro e w' ⟨rfl, rfl⟩
  go_wp2
  go_ret
  exact ⟨rfl, rfl⟩
theorem mustr_some (x : Value) (n : Int) (h : (n != 0) = true) (w : World) : Calls Try.prog 122 #[x, .int .i64 n] w fun e w' => e = .panicked [{ v := .iface 137 (.agg #[.int .i64 n]), recovered := false }] ∧ w = w' := by
  go_enter Try.func122, Try.ntmps122
  go_wp2_with fail
  refine (throw_some n h _).mono ?_
  rintro e w' ⟨rfl, rfl⟩
  go_wp2
  exact ⟨rfl, rfl, rfl⟩
theorem wp_copy_ran {P : Program} (w w2 : World) {o : Oper} {a : Act} {K : Act → World → Prop} {Q : Exit → Act → World → Prop} (d s : Operand) (dT sT : TypeId)
    (ho : o.op = .call { callee := .builtin .copy, args := #[d, s], argTypes := #[dT, sT] }) (v vd vs : Value) (hd : a.eval d = vd) (hs : a.eval s = vs)
    (hr : (Builtin.copy_ #[dT, sT] o.type #[vd, vs]).run P w = .ok v w2) (h : K (a.put o.dst v) w2) : o.wp P a w K Q := by
  unfold Oper.wp execOp
  simp only [ho, resolve, invoke, builtin, Sem.run_bind, Sem.run_pure, Result.andThen_ok, List.map_toArray, List.map_cons, List.map_nil, hd, hs, hr]
  exact h
/-- A COPY whose run is known, at a step of a region that draws its order. -/
theorem step_copy_ran {P : Program} (w w2 : World) {ops : Array Oper} {o : Oper} {a : Act} {K : Act → World → Prop} {Q : Exit → Act → World → Prop} {E : Prop} (hgd : o.guard = none) (d s : Operand) (dT sT : TypeId)
    (ho : o.op = .call { callee := .builtin .copy, args := #[d, s], argTypes := #[dT, sT] }) (v vd vs : Value) (hd : a.eval d = vd) (hs : a.eval s = vs)
    (hr : (Builtin.copy_ #[dT, sT] o.type #[vd, vs]).run P w = .ok v w2) (h : K (a.put o.dst v) w2) : if Region.wanted o (yielded ops a.tmps) = true then Oper.wp P o a w K Q else E := by
  have hw : Region.wanted o (yielded ops a.tmps) = true := by simp [Region.wanted, hgd]
  rw [if_pos hw]
  exact wp_copy_ran w w2 d s dT sT ho v vd vs hd hs hr h
theorem row_copy (W : World) (g m k s : Nat) (v : Nat) (hk : 1 ≤ k) (hm : k < m) (hs : s = min k (m - k)) (h : W.heap[g]? = some (.cells (rowV (fun j => .int .u64 (if j < k then (v : Nat) else 0 : Int)) m).toArray 40 (0, 0))) :
    (Builtin.copy_ #[58, 58] 3 #[.slice (some ⟨g, k, none⟩) (m - k) (m - k), .slice (some ⟨g, 0, none⟩) k m]).run Try.prog W = .ok (.int .i64 s) (W.setRow g (rowV (fun j => .int .u64 (if j < k + s then (v : Nat) else 0 : Int)) m).toArray) := by
  obtain ⟨i0, hi, hz0, hz1, hz2⟩ := info_parts u64Info
  have hr := run_copy_row (P := Try.prog) W 58 58 3 40 g k (m - k) (m - k) ⟨g, 0, none⟩ k m _ 40 (rowV (fun _ => .int .u64 (v : Nat)) s) Try.underlying58 (by rw [hi]; exact congrArg some hz1) h (by rw [rowV_length, hs]) (fun j u hu => by
    have hj : j < s := by
      rcases Nat.lt_or_ge j s with h1 | h1
      · exact h1
      · rw [rowV_ge _ h1] at hu; cases hu
    rw [rowV_get _ hj] at hu
    have e : (⟨g, 0, none⟩ : Addr).add j = ⟨g, j, none⟩ := by simp [Addr.add]; intro h; exact h.symm
    rw [e, cell_of_row W g j _ 40 (0, 0) h, List.getElem?_toArray, rowV_get _ (by omega), if_pos (by omega)]
    exact hu) (by simp [rowV_length]; omega) (by
    intro u hu
    obtain ⟨j, _, rfl⟩ := List.mem_map.1 hu
    rfl)
  have e1 : (rowV (fun _ => Value.int .u64 (v : Nat)) s).length = s := rowV_length _ _
  have e2 : (rowV (fun j => Value.int .u64 (if j < k then (v : Nat) else 0 : Int)) m).toArray.toList.take k ++ rowV (fun _ => Value.int .u64 (v : Nat)) s ++ (rowV (fun j => Value.int .u64 (if j < k then (v : Nat) else 0 : Int)) m).toArray.toList.drop (k + s) = rowV (fun j => Value.int .u64 (if j < k + s then (v : Nat) else 0 : Int)) m := by
    rw [List.toList_toArray]
    apply List.ext_getElem?
    intro j
    have hl : ((rowV (fun j => Value.int .u64 (if j < k then (v : Nat) else 0 : Int)) m).take k).length = k := by rw [List.length_take, rowV_length]; omega
    by_cases h1 : j < k
    · rw [List.append_assoc, List.getElem?_append_left (by omega), List.getElem?_take_of_lt h1, rowV_get _ (by omega), rowV_get _ (by omega), if_pos h1, if_pos (by omega)]
    · by_cases h2 : j < k + s
      · rw [List.append_assoc, List.getElem?_append_right (by omega), hl, List.getElem?_append_left (by rw [e1]; omega), rowV_get _ (by omega), rowV_get _ (by omega), if_pos h2]
      · rw [List.append_assoc, List.getElem?_append_right (by omega), hl, List.getElem?_append_right (by rw [e1]; omega), e1, List.getElem?_drop, show k + s + (j - k - s) = j by omega]
        by_cases h3 : j < m
        · rw [rowV_get _ h3, rowV_get _ h3, if_neg h1, if_neg h2]
        · rw [rowV_ge _ (by omega), rowV_ge _ (by omega)]
  rw [hr, e1, e2]
  rfl
theorem splice_one (m v : Nat) (hm : 1 ≤ m) : splice (rowV (fun _ => Value.int .u64 0) m) 0 (rowV (fun _ => .int .u64 (v : Nat)) 1) = rowV (fun j => Value.int .u64 (if j < 1 then (v : Nat) else 0 : Int)) m := by
  unfold splice
  rw [List.take_zero, List.nil_append, rowV_length]
  apply List.ext_getElem?
  intro j
  by_cases h1 : j < 1
  · rw [List.getElem?_append_left (by rw [rowV_length]; exact h1), rowV_get _ h1, rowV_get _ (by omega), if_pos h1]
  · rw [List.getElem?_append_right (by rw [rowV_length]; omega), rowV_length, List.getElem?_drop, show 0 + 1 + (j - 1) = j by omega]
    by_cases h2 : j < m
    · rw [rowV_get _ h2, rowV_get _ h2, if_neg h1]
    · rw [rowV_ge _ (by omega), rowV_ge _ (by omega)]
set_option maxRecDepth 100000 in
set_option maxHeartbeats 2000000 in
theorem repeat_any (a : Option Addr) (c1 m v : Nat) (hm1 : 1 ≤ m) (hm : m ≤ 1024) (w : World) (h : RowOf w a 1 (fun _ => .int .u64 (v : Nat))) :
    Calls Try.prog 86 #[.slice a 1 c1, .int .i64 m] w fun e w' => e = .returned (.slice (some ⟨w.heap.size, 0, none⟩) m m) ∧ RowOf w' (some ⟨w.heap.size, 0, none⟩) m (fun _ => .int .u64 (v : Nat)) ∧ w.heap.size < w'.heap.size ∧ Below w.heap.size w w' := by
  obtain ⟨i0, hi, hz0, hz1, hz2⟩ := info_parts u64Info
  have HI := Lib.hid (show (Try.prog.info? 40).map (·.size) = some 1 from by rw [hi]; simp [hz1])
  have MU := Lib.hid (show ∀ W, Calls Try.prog 121 #[.int .u64 1, .int .u64 m] W fun e w' => e = .returned (.tuple #[.int .u64 0, .int .u64 m]) ∧ W = w' from fun W => by
    have := Try.bits_Mul 1 m (by omega) (by omega) W
    rw [show 1 * m / 18446744073709551616 = 0 by omega, show 1 * m % 18446744073709551616 = m by omega] at this
    exact this.mono fun e w' ⟨h1, h2⟩ => ⟨h1, h2.symm⟩)
  have H := Lib.hid h
  have k0 : ¬ (m : Int) < 0 := by omega
  have k1 : (0 : Int) ≤ m := by omega
  have k2 : (m : Int) ≤ 1024 := by omega
  clear h
  obtain ⟨N, hN⟩ : ∃ N, w.heap.size = N := ⟨_, rfl⟩
  rw [hN]
  have HN := Lib.hid hN
  clear hN
  go_enter Try.func86, Try.ntmps86
  go_wp2_with (first
    | (go_at_call 121; refine (MU.out _).mono ?_; rintro e w1 ⟨rfl, rfl⟩)
    | (at_make; go_must (refine wpList_make_full _ rfl _ _ 58 rfl N 40 i0 (.int .u64 0) 1 Try.underlying58 hi hz0 hz1 _ _ _ _ m rfl rfl rfl rfl (by rw [hz2]; omega) (by unfold maxLen; omega) (by have := HN.out; omega) ?_); intro w2 hown hg; rw [show (Value.int .u64 0).cells = #[Value.int .u64 0] from rfl, rowV_zero] at hown
       have hb2 : Below N w w2 := (Below.refl N w).grown hg (Nat.le_of_eq HN.out.symm) (fun k hk => by cases hk)
       have hgm := made_block hown rfl
       rw [HN.out] at hgm
       have HGM := Lib.hid hgm
       have HB2 := Lib.hid hb2
       have HR2 := Lib.hid (H.out.below (show Below w.heap.size w w2 from by rw [HN.out]; exact hb2))
       rw [HN.out]
       clear hown hg hb2 hgm)
    | (refine wpList_copy_splice rfl _ _ 58 58 rfl 40 Try.underlying58 HI.out _ _ _ _ _ _ rfl rfl N 0 (rowV (fun _ => .int .u64 0) m) 40 HGM.out (rowV (fun _ => .int .u64 (v : Nat)) 1) (by rw [rowV_length]; exact (Nat.min_eq_left hm1).symm) (fun _ => ⟨rfl, by
         obtain ⟨b, off, rfl, _, hc⟩ := HR2.out.at_ (i := 0) (by omega)
         refine ⟨_, rfl, fun j u hu => ?_⟩
         have hj : j = 0 := by
           rcases Nat.lt_or_ge j 1 with h1 | h1
           · omega
           · rw [rowV_ge _ h1] at hu; cases hu
         subst hj
         rw [rowV_get _ (by omega)] at hu
         have := hc 0 (by omega)
         simp [Addr.add]
         rw [← hu]; exact this⟩) (by rw [rowV_length, rowV_length]; omega) (fun u hu => by
         obtain ⟨j, _, rfl⟩ := List.mem_map.1 hu
         rfl) N w HB2.out (Nat.le_refl _) ?_; intro w3 hg3 hb3; rw [splice_one m v hm1] at hg3
       have HG3 := Lib.hid hg3.out; have HB3 := Lib.hid hb3; clear hg3 hb3))
  clear HGM HB2 HR2 MU H
  go_loopw [8] (fun x wr => ∃ k : Nat, 1 ≤ k ∧ k ≤ m ∧ x = .int .i64 k ∧ wr.heap[N]? = some (.cells (rowV (fun j => .int .u64 (if j < k then (v : Nat) else 0 : Int)) m).toArray 40 (0, 0)) ∧ Below N w wr) (fun x _ => m - (intOf x).toNat)
  case atStart => exact ⟨1, Nat.le_refl _, hm1, by rw [rowV_length], HG3.out, HB3.out⟩
  case round =>
    obtain ⟨k, hk1, hkm, rfl, hg, hb⟩ := hrel
    have HBW := Lib.hid hb
    by_cases hlt : k < m
    · have k3 : (k : Int) < m := by omega
      have k4 : (0 : Int) ≤ k := by omega
      obtain ⟨s, hs⟩ : ∃ s, s = min k (m - k) := ⟨_, rfl⟩
      have hcp := row_copy wr.drew N m k s v hk1 hlt hs hg
      rw [show (some ⟨N, k, none⟩ : Option Addr) = if m = k then some ⟨N, 0, none⟩ else some ⟨N, k, none⟩ from by rw [if_neg (by omega)]] at hcp
      have HCP := Lib.hid hcp
      clear hcp
      have HS := Lib.hid hs
      have hs1 : 1 ≤ s ∧ k + s ≤ m := by omega
      have HWR := Lib.hid (show IntKind.i64.wrap ((k : Int) + (s : Int)) = ((k + s : Nat) : Int) from by simp [IntKind.wrap, IntKind.bits, IntKind.signed]; omega)
      have HGW := Lib.hid hg
      clear hg hb hs
      go_upto_region 9 with fail
      go_region_held_law (fun _ => True) (trivial)
        (first
          | (refine step_copy_ran _ _ (by rfl) _ _ 58 58 (by rfl) _ _ _ (by rfl) (by rfl) HCP.out ?_))
      all_goals
        go_wp2
        go_roundw
        case rel => exact ⟨k + s, by omega, by omega, by rw [HWR.out], setRow_heap _ N _ _ _ (0, 0) HGW.out, below_setRow (show Below N w wr.drew from HBW.out.drew) (Nat.le_refl _) _⟩
        case measure => simp [intOf]; have := HWR.out; omega
    · obtain rfl : k = m := by omega
      have k3 : ¬ (k : Int) < k := by omega
      have HGW := Lib.hid hg
      clear hg hb
      go_wp2
      go_ret
      refine ⟨rfl, .inr ⟨N, 0, rfl, fun i hi => ?_⟩, (Array.getElem?_eq_some_iff.1 HGW.out).1, HBW.out⟩
      rw [Nat.zero_add, cell_of_row _ N i _ _ (0, 0) HGW.out]
      show (rowV _ k).toArray[i]? = _
      rw [List.getElem?_toArray, rowV_get _ hi, if_pos hi]
end Go.Proofs.Ythonjffojaljdaa


/-
  CONTRACTS OF hybrid.readOne, readPacked, read and short.Zags, in any world where the cursor lies. Conditions: at most 100000 bytes, at most 1024 numbers.
-/
namespace Go.Proofs.Ythonjffojaljdaa
open Go.ChangeShapes Go.WideShapes Go.ChangeAt Go.RowKit
set_option linter.unusedVariables false
theorem bl_le_iff (v q : Nat) (hv : v < 18446744073709551616) : bl v ≤ q ↔ v < 2 ^ q := by
  constructor
  · intro h
    exact Nat.lt_of_lt_of_le (hbl_pow v hv) (Nat.pow_le_pow_right (by decide) h)
  · intro h
    by_cases h0 : v = 0
    · subst h0; exact Nat.zero_le _
    · have hb := Lib.bitLenAux_bounds 64 v (by simpa using hv) h0
      rcases Nat.lt_or_ge q (bl v) with h1 | h1
      · have h2 : 2 ^ q ≤ 2 ^ (bl v - 1) := Nat.pow_le_pow_right (by decide) (by omega)
        have h3 : 2 ^ (bl v - 1) ≤ v := hb.2.1
        omega
      · exact h1
theorem need18 (s : Nat) : need 1 (8 * s) = s := by unfold need; omega
theorem need8c (c q : Nat) : need (8 * c) q = c * q := by
  unfold need
  rw [Nat.mul_assoc]
  omega
theorem unp_one (a : Option Addr) (c s M : Nat) (y : Nat → Int) (hs : s ≤ 8) (hy : ∀ i, i < s → 0 ≤ y i ∧ y i ≤ 255) (hM : num y s = M) (W : World) (hr : RowOf W a s (fun i => .int .u8 (y i))) :
    Calls Try.prog 123 #[.slice a s c, .int .i64 (8 * (s : Int)), .int .i64 1] W fun e w' => ∃ g c', e = .returned (.tuple #[.slice (some ⟨g, 0, none⟩) 1 c', .int .i64 0]) ∧ w'.cell? ⟨g, 0, none⟩ = some (.int .u64 M) ∧ Below W.heap.size W w' := by
  have h := unpack_any a c (8 * s) 1 y (by rw [need18]; exact hy) (by omega) (by omega) W (by rw [need18]; exact hr)
  rw [need18, show ((8 * s : Nat) : Int) = 8 * (s : Int) by omega, show ((1 : Nat) : Int) = 1 from rfl, hM] at h
  have hlt : M < 256 ^ s := by rw [← hM]; exact num_lt y s hy
  have e8 : (2 : Nat) ^ (8 * s) = 256 ^ s := by rw [Nat.pow_mul]
  refine h.mono fun e w' he => ?_
  unfold UnpackEnd at he
  rw [Nat.one_mul, e8, if_pos hlt] at he
  obtain ⟨v, rfl, ho, hb⟩ := he
  obtain ⟨a1, c1, rfl, hr1, _⟩ := own_reads' ho
  obtain ⟨g, off, rfl, _, hc⟩ := hr1.at_ (i := 0) (by omega)
  have h0 := hc 0 (by omega)
  obtain ⟨g', hg'⟩ : ∃ g', (⟨g, off, none⟩ : Addr) = ⟨g', 0, none⟩ := by
    obtain ⟨_, _, he, _, _, _, hq⟩ := own_reads ho
    injection he with e1
    subst e1
    exact hq _ rfl
  injection hg' with e1 e2
  subst e1 e2
  refine ⟨g, c1, rfl, ?_, hb⟩
  rw [show unN (8 * s) M 0 = M from by unfold unN; rw [Nat.zero_mul, Nat.pow_zero, Nat.div_one, Nat.mod_eq_of_lt (by rw [e8]; exact hlt)]] at h0
  exact h0
set_option maxRecDepth 100000 in
set_option maxHeartbeats 1000000 in
theorem hone_any (bc nb q p : Nat) (z : Nat → Int) (hz : ∀ i, i < nb → 0 ≤ z i ∧ z i ≤ 255) (hnb : nb ≤ 100000) (hq : q ≤ 64) (w : World) (h : CursorAt w bc nb z p) (hs : p + need 1 q ≤ nb) :
    Calls Try.prog 87 #[.pointer (some ⟨bc, 0, none⟩), .int .i64 q] w fun e w' => Turned (· = bc) w w' ∧
      ((num (fun i => z (p + i)) (need 1 q) < 2 ^ q ∧ e = .returned (.int .u64 (num (fun i => z (p + i)) (need 1 q) : Nat)) ∧ CursorAt w' bc nb z (p + need 1 q)) ∨
       (¬ num (fun i => z (p + i)) (need 1 q) < 2 ^ q ∧ e = .panicked [{ v := .iface 137 (.agg #[.int .i64 4]), recovered := false }])) := by
  have hs8 : need 1 q ≤ 8 := by unfold need; omega
  have NY := Lib.hid (fun W => need_yes 1 q (by omega) hq W)
  rw [show ((1 : Nat) : Int) = 1 from rfl] at NY
  have CB := Lib.hid (cbytes_ok bc nb z p (need 1 q) hnb hs w h)
  have hzz : ∀ i, i < need 1 q → 0 ≤ z (p + i) ∧ z (p + i) ≤ 255 := fun i hi => hz _ (by omega)
  obtain ⟨M, hM⟩ : ∃ M, num (fun i => z (p + i)) (need 1 q) = M := ⟨_, rfl⟩
  have UP := Lib.hid (fun (a : Option Addr) (c : Nat) W hr => unp_one a c (need 1 q) M (fun i => z (p + i)) hs8 hzz hM W hr)
  have hlt : M < 256 ^ need 1 q := by rw [← hM]; exact num_lt _ _ hzz
  have hM64 : M < 18446744073709551616 := by
    have : (256 : Nat) ^ need 1 q ≤ 256 ^ 8 := Nat.pow_le_pow_right (by decide) hs8
    have e : (256 : Nat) ^ 8 = 18446744073709551616 := by decide
    omega
  have OF := Lib.hid (fun W => of_any6 M hM64 W)
  have BL := Lib.hid (bl_le_iff M q hM64)
  have MU := Lib.hid (fun v W => mustr_ok v W)
  rw [hM]
  clear h hM hlt hzz hz
  have hbc : ∀ W, CursorAt W bc nb z (p + need 1 q) → bc < W.heap.size := fun W hc => hc.lt
  have HBC := Lib.hid hbc
  clear hbc
  generalize need 1 q = s at *
  obtain ⟨L, hL⟩ : ∃ L, bl M = L := ⟨_, rfl⟩
  rw [hL] at OF BL
  clear hL
  by_cases hv : M < 2 ^ q
  · have hle : decide (L ≤ q) = true := decide_eq_true (BL.out.2 hv)
    have CK := Lib.hid (check_ok 4)
    have HV := Lib.hid hv
    clear hv BL
    go_enter Try.func87, Try.ntmps87
    go_wp2_with (first
      | (go_at_call 65; refine (NY.out _).mono ?_; rintro e w1 ⟨rfl, rfl⟩)
      | (go_at_call 124; refine CB.out.mono ?_; rintro e w2 ⟨v2, rfl, ho2, hc2, ht2⟩; obtain ⟨a2, c2, rfl, hr2, _⟩ := own_reads' ho2; have HC2 := Lib.hid hc2; have HT2 := Lib.hid ht2; have HR2 := Lib.hid hr2; clear ho2 hc2 ht2 hr2)
      | (go_at_call 123; refine (UP.out _ _ _ HR2.out).mono ?_; rintro e w3 ⟨g3, c3, rfl, q0, hb3⟩; have HC3 := Lib.hid (HC2.out.below hb3 HC2.out.lt); have HT3 := Lib.hid (HT2.out.trans (Turned.of_below hb3 (fun i hi _ => hi))); clear hb3)
      | (go_at_call 122; refine (MU.out _ _).mono ?_; rintro e w4 ⟨rfl, rfl⟩)
      | (go_at_call 94; refine (OF.out _).mono ?_; rintro e w5 ⟨rfl, rfl⟩)
      | (go_at_call 42; refine (CK.out _).mono ?_; rintro e w6 ⟨rfl, rfl⟩))
    go_ret
    exact ⟨HT3.out, .inl ⟨HV.out, rfl, HC3.out⟩⟩
  · have hle : decide (L ≤ q) = false := decide_eq_false (fun x => hv (BL.out.1 x))
    have CK := Lib.hid (check_some 4 (by decide))
    have HV := Lib.hid hv
    clear hv BL
    go_enter Try.func87, Try.ntmps87
    go_wp2_with (first
      | (go_at_call 65; refine (NY.out _).mono ?_; rintro e w1 ⟨rfl, rfl⟩)
      | (go_at_call 124; refine CB.out.mono ?_; rintro e w2 ⟨v2, rfl, ho2, hc2, ht2⟩; obtain ⟨a2, c2, rfl, hr2, _⟩ := own_reads' ho2; have HC2 := Lib.hid hc2; have HT2 := Lib.hid ht2; have HR2 := Lib.hid hr2; clear ho2 hc2 ht2 hr2)
      | (go_at_call 123; refine (UP.out _ _ _ HR2.out).mono ?_; rintro e w3 ⟨g3, c3, rfl, q0, hb3⟩; have HC3 := Lib.hid (HC2.out.below hb3 HC2.out.lt); have HT3 := Lib.hid (HT2.out.trans (Turned.of_below hb3 (fun i hi _ => hi))); clear hb3)
      | (go_at_call 122; refine (MU.out _ _).mono ?_; rintro e w4 ⟨rfl, rfl⟩)
      | (go_at_call 94; refine (OF.out _).mono ?_; rintro e w5 ⟨rfl, rfl⟩)
      | (go_at_call 42; refine (CK.out _).mono ?_; rintro e w6 ⟨rfl, rfl⟩))
    exact ⟨rfl, HT3.out, .inr ⟨HV.out, rfl⟩⟩
theorem hone_short (bc nb q p : Nat) (z : Nat → Int) (hnb : nb ≤ 100000) (hq : q ≤ 64) (w : World) (h : CursorAt w bc nb z p) (hs : nb < p + need 1 q) :
    Calls Try.prog 87 #[.pointer (some ⟨bc, 0, none⟩), .int .i64 q] w fun e w' => Turned (· = bc) w w' ∧ e = .panicked [{ v := .iface 137 (.agg #[.int .i64 1]), recovered := false }] := by
  have NY := Lib.hid (fun W => need_yes 1 q (by omega) hq W)
  rw [show ((1 : Nat) : Int) = 1 from rfl] at NY
  have CB := Lib.hid (cbytes_short bc nb z p (need 1 q : Nat) (by omega) hnb (by have := h.le; omega) w h)
  clear h hs
  generalize need 1 q = s at *
  go_enter Try.func87, Try.ntmps87
  go_wp2_with (first
    | (go_at_call 65; refine (NY.out _).mono ?_; rintro e w1 ⟨rfl, rfl⟩)
    | (go_at_call 124; refine CB.out.mono ?_; rintro e w2 ⟨rfl, k, rfl⟩))
  exact ⟨rfl, (Turned.refl _ w).drewN _, rfl⟩
theorem all_iff (u : Nat → Nat) (N lack : Nat) : (List.range N).all (fun i => decide (i < lack) || decide (u i = 0)) = true ↔ ∀ i, i < N → lack ≤ i → u i = 0 := by
  rw [List.all_eq_true]
  constructor
  · intro h i hi hl
    have := h i (List.mem_range.2 hi)
    rw [Bool.or_eq_true, decide_eq_true_eq, decide_eq_true_eq] at this
    rcases this with h1 | h1
    · omega
    · exact h1
  · intro h i hi
    have hi := List.mem_range.1 hi
    rw [Bool.or_eq_true, decide_eq_true_eq, decide_eq_true_eq]
    rcases Nat.lt_or_ge i lack with h1 | h1
    · exact .inl h1
    · exact .inr (h i hi h1)
theorem unp_many (a : Option Addr) (cp c q M : Nat) (y : Nat → Int) (hq : q ≤ 64) (hc1 : 1 ≤ c) (hc : 8 * c ≤ 1024) (hy : ∀ i, i < c * q → 0 ≤ y i ∧ y i ≤ 255) (hM : num y (c * q) = M) (W : World) (hr : RowOf W a (c * q) (fun i => .int .u8 (y i))) :
    Calls Try.prog 123 #[.slice a (c * q) cp, .int .i64 q, .int .i64 ((8 * c : Nat) : Int)] W fun e w' => ∃ g c', e = .returned (.tuple #[.slice (some ⟨g, 0, none⟩) (8 * c) c', .int .i64 0]) ∧ 8 * c ≤ c' ∧ c' ≤ maxLen ∧ W.heap.size ≤ g ∧ (∀ i, i < 8 * c → w'.cell? ⟨g, i, none⟩ = some (.int .u64 (unN q M i : Nat))) ∧ Below W.heap.size W w' := by
  have h := unpack_any a cp q (8 * c) y (by rw [need8c]; exact hy) hq hc W (by rw [need8c]; exact hr)
  rw [need8c, hM] at h
  have hlt : M < 2 ^ (8 * c * q) := by
    have h1 := num_lt y (c * q) hy
    have e8 : (2 : Nat) ^ (8 * c * q) = 256 ^ (c * q) := by rw [Nat.mul_assoc, Nat.pow_mul]
    rw [e8, ← hM]; exact h1
  refine h.mono fun e w' he => ?_
  unfold UnpackEnd at he
  rw [if_pos hlt] at he
  obtain ⟨v, rfl, ho, hb⟩ := he
  rcases ho.2 with ⟨_, h0⟩ | ⟨g, cap, cur, rfl, hbg, hg, hn, hcm, hcs, hx⟩
  · omega
  · refine ⟨g, cap, rfl, hn, hcm, hbg, fun i hi => ?_, hb⟩
    obtain ⟨_, _, he, hr1, _⟩ := own_reads' ho
    injection he with e1 e2 e3
    subst e1
    obtain ⟨b, off, e4, _, hc2⟩ := hr1.at_ hi
    cases e4
    have := hc2 i hi
    rwa [Nat.zero_add] at this
set_option maxRecDepth 100000 in
set_option maxHeartbeats 2000000 in
theorem hpack_any (bc nb q p c lack N : Nat) (z : Nat → Int) (hz : ∀ i, i < nb → 0 ≤ z i ∧ z i ≤ 255) (hnb : nb ≤ 100000) (hq : q ≤ 64) (hc1 : 1 ≤ c) (hc : c ≤ grp lack) (hl1 : 1 ≤ lack) (hl : lack ≤ 1024) (hN : 8 * c = N) (w : World) (h : CursorAt w bc nb z p) (hs : p + c * q ≤ nb) :
    Calls Try.prog 89 #[.pointer (some ⟨bc, 0, none⟩), .int .i64 q, .int .i64 N, .int .i64 lack] w fun e w' => Turned (· = bc) w w' ∧
      (((∀ i, i < N → lack ≤ i → unN q (num (fun i => z (p + i)) (c * q)) i = 0) ∧ (∃ g c', e = .returned (.slice (some ⟨g, 0, none⟩) (min N lack) c') ∧ w.heap.size ≤ g ∧ RowOf w' (some ⟨g, 0, none⟩) (min N lack) (fun i => .int .u64 (unN q (num (fun i => z (p + i)) (c * q)) i : Nat))) ∧ CursorAt w' bc nb z (p + c * q)) ∨
       (¬ (∀ i, i < N → lack ≤ i → unN q (num (fun i => z (p + i)) (c * q)) i = 0) ∧ e = .panicked [{ v := .iface 137 (.agg #[.int .i64 3]), recovered := false }])) := by
  have hN2 : N ≤ 1024 := by unfold grp at hc; omega
  have NY := Lib.hid (fun W => need_yes N q hN2 hq W)
  rw [← hN, need8c, hN] at NY
  have CB := Lib.hid (cbytes_ok bc nb z p (c * q) hnb hs w h)
  obtain ⟨M, hM⟩ : ∃ M, num (fun i => z (p + i)) (c * q) = M := ⟨_, rfl⟩
  have UP := Lib.hid (fun (a : Option Addr) (cp : Nat) W hr => unp_many a cp c q M (fun i => z (p + i)) hq hc1 (by omega) (fun i hi => hz _ (by omega)) hM W hr)
  rw [hN] at UP
  have MU := Lib.hid (fun v W => mustr_ok v W)
  rw [hM]
  have hN8 : 8 ≤ N := by omega
  obtain ⟨R, hR⟩ : ∃ R, min N lack = R := ⟨_, rfl⟩
  rw [hR]
  clear h hM hz hs hc hN
  generalize c * q = s at *
  generalize unN q M = u at *
  have CK := Lib.hid (check_ok 3)
  have CF := Lib.hid (check_some 3 (by decide))
  go_enter Try.func89, Try.ntmps89
  go_upto_region 2 with (first
      | (go_at_call 65; refine (NY.out _).mono ?_; rintro e w1 ⟨rfl, rfl⟩)
      | (go_at_call 124; refine CB.out.mono ?_; rintro e w2 ⟨v2, rfl, ho2, hc2, ht2⟩; obtain ⟨a2, c2, rfl, hr2, _⟩ := own_reads' ho2; have HC2 := Lib.hid hc2; have HT2 := Lib.hid ht2; have HR2 := Lib.hid hr2; clear ho2 hc2 ht2 hr2)
      | (go_at_call 123; refine (UP.out _ _ _ HR2.out).mono ?_; rintro e w3 ⟨g3, c3, rfl, hc31, hc32, hg3, hcell, hb3⟩; have hc33 : (c3 : Int) ≤ 9223372036854775807 := (by unfold maxLen at hc32; omega); have HC3 := Lib.hid (HC2.out.below hb3 HC2.out.lt); have HT3 := Lib.hid (HT2.out.trans (Turned.of_below hb3 (fun i hi _ => hi))); have HCL := Lib.hid hcell; have HG3 := Lib.hid (show w.heap.size ≤ g3 from Nat.le_trans HT2.out.size hg3); clear hb3 hcell hg3 hc32)
      | (go_at_call 122; refine (MU.out _ _).mono ?_; rintro e w4 ⟨rfl, rfl⟩))
  have k1 : (N : Int) ≤ c3 := by omega
  have HEND := Lib.hid (show RowOf w3 (some ⟨g3, 0, none⟩) R (fun i => .int .u64 (u i : Nat)) from .inr ⟨g3, 0, rfl, fun i hi => by rw [Nat.zero_add]; exact HCL.out i (by omega)⟩)
  have hmI : min (N : Int) (lack : Int) = (R : Int) := by omega
  have r0 : (0 : Int) ≤ R := by omega
  have r1 : (R : Int) ≤ N := by omega
  by_cases hRN : R = N
  · have HRN := Lib.hid hRN
    have n0 : N - R = 0 := by omega
    by_cases hcr : c3 = R
    · go_upto_region 4 with fail
      go_loop [30] (fun x => x = .int .i64 0) (fun _ => 0)
      case atStart => rfl
      case round =>
        obtain rfl := hrel
        go_wp2
        go_ret
        exact ⟨HT3.out, .inl ⟨fun i hi hl => by have := HRN.out; omega, ⟨g3, ⟨_, rfl⟩, HG3.out, HRN.out ▸ HEND.out⟩, HC3.out⟩⟩
    · go_upto_region 4 with fail
      go_loop [30] (fun x => x = .int .i64 0) (fun _ => 0)
      case atStart => rfl
      case round =>
        obtain rfl := hrel
        go_wp2
        go_ret
        exact ⟨HT3.out, .inl ⟨fun i hi hl => by have := HRN.out; omega, ⟨g3, ⟨_, rfl⟩, HG3.out, HRN.out ▸ HEND.out⟩, HC3.out⟩⟩
  · have HRL := Lib.hid (show R = lack from by omega)
    have k3 : ¬ c3 = R := by omega
    have HRN := Lib.hid (show R < N from by omega)
    clear hR hRN
    go_upto_region 4 with fail
    go_loop [30] (fun x => ∃ j : Nat, j ≤ N - R ∧ x = .int .i64 j ∧ ∀ i, R ≤ i → i < R + j → u i = 0) (fun x => N - R - (intOf x).toNat)
    case atStart => exact ⟨0, by omega, rfl, fun i h1 h2 => by omega⟩
    case round =>
      obtain ⟨j, hj, rfl, hu⟩ := hrel
      have HU := Lib.hid hu
      clear hu
      by_cases hjl : j < N - R
      · have j1 : (j : Int) < ((N - R : Nat) : Int) := by omega
        have j0 : (0 : Int) ≤ j := by omega
        have c0 := HCL.out (R + j) (by have := HRN.out; omega)
        by_cases hv : u (R + j) = 0
        · rw [hv] at c0
          have HV := Lib.hid hv
          clear hv
          go_wp2_with (go_at_call 42; refine (CK.out _).mono ?_; rintro e w6 ⟨rfl, rfl⟩)
          go_round
          case rel => exact ⟨j + 1, by omega, by go_num, fun i h1 h2 => by
            rcases Nat.lt_or_ge i (R + j) with h3 | h3
            · exact HU.out i h1 h3
            · obtain rfl : i = R + j := by omega
              exact HV.out⟩
          case measure => simp [intOf]; omega
        · obtain ⟨v, hvv⟩ : ∃ v, u (R + j) = v := ⟨_, rfl⟩
          have HV := Lib.hid hv
          rw [hvv] at c0 hv
          have hv1 : ¬ (v : Int) = 0 := by omega
          have hv2 : ((v : Int) == 0) = false := beq_eq_false_iff_ne.mpr hv1
          clear hvv
          go_wp2_with (go_at_call 42; refine (CF.out _).mono ?_; rintro e w6 ⟨rfl, rfl⟩)
          exact ⟨rfl, HT3.out, .inr ⟨fun h => HV.out (h (R + j) (by omega) (by have := HRL.out; omega)), rfl⟩⟩
      · obtain rfl : j = N - R := by omega
        go_wp2
        go_ret
        exact ⟨HT3.out, .inl ⟨fun i hi hl => HU.out i (by have := HRL.out; omega) (by have := HRN.out; omega), ⟨g3, ⟨_, rfl⟩, HG3.out, HEND.out⟩, HC3.out⟩⟩
theorem hpack_short (bc nb q p c lack N : Nat) (z : Nat → Int) (hnb : nb ≤ 100000) (hq : q ≤ 64) (hN2 : N ≤ 1024) (hN : 8 * c = N) (w : World) (h : CursorAt w bc nb z p) (hs : nb < p + c * q) :
    Calls Try.prog 89 #[.pointer (some ⟨bc, 0, none⟩), .int .i64 q, .int .i64 N, .int .i64 lack] w fun e w' => Turned (· = bc) w w' ∧ e = .panicked [{ v := .iface 137 (.agg #[.int .i64 1]), recovered := false }] := by
  have NY := Lib.hid (fun W => need_yes N q hN2 hq W)
  rw [← hN, need8c, hN] at NY
  have CB := Lib.hid (cbytes_short bc nb z p (c * q : Nat) (by omega) hnb (by have := h.le; omega) w h)
  clear h hs hN
  generalize c * q = s at *
  go_enter Try.func89, Try.ntmps89
  go_wp2_with (first
    | (go_at_call 65; refine (NY.out _).mono ?_; rintro e w1 ⟨rfl, rfl⟩)
    | (go_at_call 124; refine CB.out.mono ?_; rintro e w2 ⟨rfl, k, rfl⟩))
  exact ⟨rfl, (Turned.refl _ w).drewN _, rfl⟩
theorem check_b (b : Bool) (n : Int) (hn : (n != 0) = true) (w : World) : Calls Try.prog 42 #[.bool b, .int .i64 n] w fun e w' => w = w' ∧ ((b = true ∧ e = .returned (.tuple #[])) ∨ (b = false ∧ e = .panicked [{ v := .iface 137 (.agg #[.int .i64 n]), recovered := false }])) := by
  cases b
  · exact (check_some n hn w).mono fun e w' ⟨h1, h2⟩ => ⟨h2, .inr ⟨rfl, h1⟩⟩
  · exact (check_ok n w).mono fun e w' ⟨h1, h2⟩ => ⟨h2, .inl ⟨rfl, h1⟩⟩
/-- How the reading of a run ends. -/
def ReadEnd (r : Int × Nat × List Nat) (bc nb : Nat) (z : Nat → Int) (w : World) (e : Ending) (w' : World) : Prop :=
  Turned (· = bc) w w' ∧ ((r.1 = 0 ∧ (∃ g c', e = .returned (.slice (some ⟨g, 0, none⟩) r.2.2.length c') ∧ w.heap.size ≤ g ∧ RowOf w' (some ⟨g, 0, none⟩) r.2.2.length (fun i => .int .u64 (r.2.2.getD i 0 : Nat))) ∧ CursorAt w' bc nb z r.2.1) ∨
    ((r.1 != 0) = true ∧ e = .panicked [{ v := .iface 137 (.agg #[.int .i64 r.1]), recovered := false }]))
set_option maxRecDepth 100000 in
set_option maxHeartbeats 2000000 in
theorem hread_any (bc nb q p lack : Nat) (z : Nat → Int) (hz : ∀ i, i < nb → 0 ≤ z i ∧ z i ≤ 255) (hnb : nb ≤ 100000) (hq : q ≤ 64) (hl1 : 1 ≤ lack) (hl : lack ≤ 1024) (w : World) (h : CursorAt w bc nb z p) :
    Calls Try.prog 43 #[.pointer (some ⟨bc, 0, none⟩), .int .i64 q, .int .i64 lack] w (ReadEnd (rd1 z nb q p lack) bc nb z w) := by
  have NX := snext_any bc nb z p hz hnb w h
  have hbd := nx_bd hz p
  have hok : (nx z p nb).2.2 = 0 → _ := fun hs => nx_ok hs
  unfold rd1
  by_cases hs : (nx z p nb).2.2 = 0
  · rw [if_pos hs]
    have NX : Calls Try.prog 85 #[.pointer (some ⟨bc, 0, none⟩)] w fun e w' => Turned (· = bc) w w' ∧ e = .returned (.int .u64 (nx z p nb).1) ∧ CursorAt w' bc nb z (p + (seen z p nb + 1)) := NX.mono fun e w' ⟨h1, h2⟩ => by
      rcases h2 with ⟨_, h3, h4⟩ | ⟨h3, _⟩
      · exact ⟨h1, h3, h4⟩
      · rw [hs] at h3; cases h3
    clear hok hs
    generalize p + (seen z p nb + 1) = p1 at *
    obtain ⟨x, hx⟩ : ∃ x : Nat, (nx z p nb).1 = x := ⟨(nx z p nb).1.toNat, by omega⟩
    rw [hx, Int.toNat_natCast]
    rw [hx] at NX hbd
    have hx64 : x < 18446744073709551616 := by omega
    clear hx hbd h
    have NX := Lib.hid NX
    obtain ⟨c, hc⟩ : ∃ c, x / 2 = c := ⟨_, rfl⟩
    have q2 : (x : Int) / 2 = (c : Int) := by omega
    have CK := Lib.hid (fun b m hm W => check_b b m hm W)
    have hc64 : (c : Int) ≤ 9223372036854775807 := by omega
    have hlw : IntKind.u64.wrap (lack : Int) = (lack : Int) := by simp [IntKind.wrap, IntKind.bits, IntKind.signed]; omega
    unfold rd2
    rw [hc]
    by_cases h1 : c = 0
    · rw [if_pos h1]
      have hc0 : ¬ (0 : Int) < c := by omega
      have dc1 : decide ((0 : Int) < c) = false := decide_eq_false hc0
      have dc2 : decide (0 < c) = false := decide_eq_false (by omega)
      clear hc
      go_enter Try.func43, Try.ntmps43
      go_wp2_with (first
      | (go_at_call 85; refine NX.out.mono ?_; rintro e w1 ⟨ht1, rfl, hc1⟩; have HT1 := Lib.hid ht1; have HC1 := Lib.hid hc1; clear ht1 hc1)
      | (go_at_call 42; refine (CK.out _ _ (by decide) _).mono ?_; rintro e w6 ⟨rfl, ⟨⟨⟩, rfl⟩ | ⟨⟨⟩, rfl⟩⟩)
)
      exact ⟨rfl, HT1.out, .inr ⟨rfl, rfl⟩⟩
    rw [if_neg h1]
    have hc0 : (0 : Int) < c := by omega
    have hc1 : 1 ≤ c := by omega
    have dc1 : decide ((0 : Int) < c) = true := decide_eq_true hc0
    have dc2 : decide (0 < c) = true := decide_eq_true (by omega)
    by_cases h2 : x % 2 = 0
    · rw [if_pos h2]
      have q3 : (x : Int) % 2 = 0 := by omega
      clear hc h2
      by_cases h3 : lack < c
      · rw [if_pos h3]
        have dl1 : decide ((c : Int) ≤ lack) = false := decide_eq_false (by omega)
        have dl2 : decide (c ≤ lack) = false := decide_eq_false (by omega)
        go_enter Try.func43, Try.ntmps43
        go_wp2_with (first
      | (go_at_call 85; refine NX.out.mono ?_; rintro e w1 ⟨ht1, rfl, hc1⟩; have HT1 := Lib.hid ht1; have HC1 := Lib.hid hc1; clear ht1 hc1)
      | (go_at_call 42; refine (CK.out _ _ (by decide) _).mono ?_; rintro e w6 ⟨rfl, ⟨⟨⟩, rfl⟩ | ⟨⟨⟩, rfl⟩⟩)
)
        exact ⟨rfl, HT1.out, .inr ⟨rfl, rfl⟩⟩
      rw [if_neg h3]
      have hcl : c ≤ lack := by omega
      have dl1 : decide ((c : Int) ≤ lack) = true := decide_eq_true (by omega)
      have dl2 : decide (c ≤ lack) = true := decide_eq_true (by omega)
      by_cases h4 : nb < p1 + need 1 q
      · rw [if_pos h4]
        have RO := Lib.hid (fun W hW => hone_short bc nb q p1 z hnb hq W hW h4)
        go_enter Try.func43, Try.ntmps43
        go_wp2_with (first
      | (go_at_call 85; refine NX.out.mono ?_; rintro e w1 ⟨ht1, rfl, hc1⟩; have HT1 := Lib.hid ht1; have HC1 := Lib.hid hc1; clear ht1 hc1)
      | (go_at_call 42; refine (CK.out _ _ (by decide) _).mono ?_; rintro e w6 ⟨rfl, ⟨⟨⟩, rfl⟩ | ⟨⟨⟩, rfl⟩⟩)
      | (go_at_call 87; refine (RO.out _ HC1.out).mono ?_; rintro e w2 ⟨ht2, rfl⟩; have HT2 := Lib.hid ht2; clear ht2))
        exact ⟨rfl, HT1.out.trans HT2.out, .inr ⟨rfl, rfl⟩⟩
      rw [if_neg h4]
      have RO := fun W hW => hone_any bc nb q p1 z hz hnb hq W hW (by omega)
      generalize need 1 q = s at *
      obtain ⟨M, hM⟩ : ∃ M, num (fun i => z (p1 + i)) s = M := ⟨_, rfl⟩
      rw [hM] at RO ⊢
      by_cases h5 : M < 2 ^ q
      · rw [if_pos h5]
        have RO := Lib.hid (fun W hW => (RO W hW).mono (R' := fun e w' => Turned (· = bc) W w' ∧ e = .returned (.int .u64 (M : Nat)) ∧ CursorAt w' bc nb z (p1 + s)) fun e w' ⟨h6, h7⟩ => by
          rcases h7 with ⟨_, h8, h9⟩ | ⟨h8, _⟩
          · exact ⟨h6, h8, h9⟩
          · exact absurd h5 h8)
        have HLEN := Lib.hid (show (List.replicate c M).length = c from List.length_replicate)
        have HGD := Lib.hid (show ∀ i, i < c → (List.replicate c M).getD i 0 = M from fun i hi => by rw [List.getD_eq_getElem?_getD, List.getElem?_replicate, if_pos hi]; rfl)
        generalize List.replicate c M = L at *
        have RP := Lib.hid (show ∀ W : World, CursorAt W bc nb z (p1 + s) → Turned (· = bc) w W → Calls Try.prog 86 #[.slice (some ⟨W.heap.size, 0, none⟩) 1 1, .int .i64 c] (W.alloc (.cells #[.int .u64 (M : Nat)] 40)) (ReadEnd (0, p1 + s, L) bc nb z w) from fun W hc ht => by
          refine (repeat_any (some ⟨W.heap.size, 0, none⟩) 1 c M hc1 (by omega) _ (RowOf.lit W #[.int .u64 (M : Nat)] 40 (fun _ => .int .u64 (M : Nat)) 1 rfl (fun i hi => by
            obtain rfl : i = 0 := by omega
            rfl))).mono ?_
          rintro e w4 ⟨rfl, hr4, hs4, hb4⟩
          refine ⟨(ht.alloc _).trans (Turned.of_below hb4 (fun i hi _ => hi)), .inl ⟨rfl, ⟨W.heap.size + 1, c, ?_, ?_, ?_⟩, (hc.below ((Below.refl _ _).alloc (Nat.le_refl _) _) hc.lt).below hb4 (by have := hc.lt; simp; omega)⟩⟩
          · show Ending.returned (.slice (some ⟨(W.alloc _).heap.size, 0, none⟩) c c) = .returned (.slice (some ⟨W.heap.size + 1, 0, none⟩) L.length c)
            rw [HLEN.out, World.size_alloc]
          · have := ht.size; omega
          · show RowOf w4 _ L.length _
            rw [HLEN.out]
            rw [World.size_alloc] at hr4
            exact hr4.congr fun i hi => by rw [HGD.out i hi])
        clear hM h5 h4 hz
        go_enter Try.func43, Try.ntmps43
        go_wp2_with (first
      | (go_at_call 85; refine NX.out.mono ?_; rintro e w1 ⟨ht1, rfl, hc1⟩; have HT1 := Lib.hid ht1; have HC1 := Lib.hid hc1; clear ht1 hc1)
      | (go_at_call 42; refine (CK.out _ _ (by decide) _).mono ?_; rintro e w6 ⟨rfl, ⟨⟨⟩, rfl⟩ | ⟨⟨⟩, rfl⟩⟩)
      | (go_at_call 87; refine (RO.out _ HC1.out).mono ?_; rintro e w2 ⟨ht2, rfl, hc2⟩; have HT2 := Lib.hid (HT1.out.trans ht2); have HC2 := Lib.hid hc2; clear ht2 hc2)
      | (go_at_call 86; refine (RP.out _ HC2.out HT2.out).mono ?_; unfold ReadEnd; rintro e w4 ⟨ht4, ⟨_, ⟨g4, c4, rfl, hg4, hr4⟩, hc4⟩ | ⟨⟨⟩, _⟩⟩; have HG4 := Lib.hid hg4; have HT4 := Lib.hid ht4; have HC4 := Lib.hid hc4; have HR4 := Lib.hid hr4; clear ht4 hg4 hr4 hc4))
        go_ret
        exact ⟨HT4.out, .inl ⟨rfl, ⟨g4, _, rfl, HG4.out, HR4.out⟩, HC4.out⟩⟩
      · rw [if_neg h5]
        have RO := Lib.hid (fun W hW => (RO W hW).mono (R' := fun e w' => Turned (· = bc) W w' ∧ e = .panicked [{ v := .iface 137 (.agg #[.int .i64 4]), recovered := false }]) fun e w' ⟨h6, h7⟩ => by
          rcases h7 with ⟨h8, _⟩ | ⟨_, h8⟩
          · exact absurd h8 h5
          · exact ⟨h6, h8⟩)
        clear hM h5 h4 hz
        go_enter Try.func43, Try.ntmps43
        go_wp2_with (first
      | (go_at_call 85; refine NX.out.mono ?_; rintro e w1 ⟨ht1, rfl, hc1⟩; have HT1 := Lib.hid ht1; have HC1 := Lib.hid hc1; clear ht1 hc1)
      | (go_at_call 42; refine (CK.out _ _ (by decide) _).mono ?_; rintro e w6 ⟨rfl, ⟨⟨⟩, rfl⟩ | ⟨⟨⟩, rfl⟩⟩)
      | (go_at_call 87; refine (RO.out _ HC1.out).mono ?_; rintro e w2 ⟨ht2, rfl⟩; have HT2 := Lib.hid ht2; clear ht2))
        exact ⟨rfl, HT1.out.trans HT2.out, .inr ⟨rfl, rfl⟩⟩
    · rw [if_neg h2]
      have q3 : (x : Int) % 2 = 1 := by omega
      have GR := Lib.hid (fun W => groups_any lack hl W)
      obtain ⟨G, hG⟩ : ∃ G, grp lack = G := ⟨_, rfl⟩
      have hGb : G ≤ 128 := by rw [← hG]; unfold grp; omega
      rw [hG] at GR ⊢
      have hgw : IntKind.u64.wrap (G : Int) = (G : Int) := by simp [IntKind.wrap, IntKind.bits, IntKind.signed]; omega
      clear hc h2
      by_cases h3 : G < c
      · rw [if_pos h3]
        have dl1 : decide ((c : Int) ≤ G) = false := decide_eq_false (by omega)
        have dl2 : decide (c ≤ G) = false := decide_eq_false (by omega)
        go_enter Try.func43, Try.ntmps43
        go_wp2_with (first
      | (go_at_call 85; refine NX.out.mono ?_; rintro e w1 ⟨ht1, rfl, hc1⟩; have HT1 := Lib.hid ht1; have HC1 := Lib.hid hc1; clear ht1 hc1)
      | (go_at_call 42; refine (CK.out _ _ (by decide) _).mono ?_; rintro e w6 ⟨rfl, ⟨⟨⟩, rfl⟩ | ⟨⟨⟩, rfl⟩⟩)
      | (go_at_call 88; refine (GR.out _).mono ?_; rintro e w2 ⟨rfl, rfl⟩))
        exact ⟨rfl, HT1.out, .inr ⟨rfl, rfl⟩⟩
      rw [if_neg h3]
      have dl1 : decide ((c : Int) ≤ G) = true := decide_eq_true (by omega)
      have dl2 : decide (c ≤ G) = true := decide_eq_true (by omega)
      obtain ⟨N, hN⟩ : ∃ N, 8 * c = N := ⟨_, rfl⟩
      have q4 : (c : Int) * 8 = (N : Int) := by omega
      have hN2 : N ≤ 1024 := by omega
      rw [hN]
      by_cases h4 : nb < p1 + c * q
      · rw [if_pos h4]
        have RP := Lib.hid (fun W hW => hpack_short bc nb q p1 c lack N z hnb hq hN2 hN W hW h4)
        clear hN
        go_enter Try.func43, Try.ntmps43
        go_wp2_with (first
      | (go_at_call 85; refine NX.out.mono ?_; rintro e w1 ⟨ht1, rfl, hc1⟩; have HT1 := Lib.hid ht1; have HC1 := Lib.hid hc1; clear ht1 hc1)
      | (go_at_call 42; refine (CK.out _ _ (by decide) _).mono ?_; rintro e w6 ⟨rfl, ⟨⟨⟩, rfl⟩ | ⟨⟨⟩, rfl⟩⟩)
      | (go_at_call 88; refine (GR.out _).mono ?_; rintro e w2 ⟨rfl, rfl⟩)
      | (go_at_call 89; refine (RP.out _ HC1.out).mono ?_; rintro e w2 ⟨ht2, rfl⟩; have HT2 := Lib.hid ht2; clear ht2))
        exact ⟨rfl, HT1.out.trans HT2.out, .inr ⟨rfl, rfl⟩⟩
      rw [if_neg h4]
      have RP := fun W hW => hpack_any bc nb q p1 c lack N z hz hnb hq hc1 (by rw [hG]; omega) hl1 hl hN W hW (by omega)
      obtain ⟨u, hu⟩ : ∃ u, unN q (num (fun i => z (p1 + i)) (c * q)) = u := ⟨_, rfl⟩
      rw [hu] at RP ⊢
      generalize c * q = s at *
      have hall := all_iff u N lack
      by_cases h5 : ∀ i, i < N → lack ≤ i → u i = 0
      · rw [if_pos (hall.2 h5)]
        obtain ⟨R, hR⟩ : ∃ R, min N lack = R := ⟨_, rfl⟩
        rw [hR] at RP ⊢
        have RP := Lib.hid (fun W hW => (RP W hW).mono (R' := fun e w' => Turned (· = bc) W w' ∧ (∃ g c', e = .returned (.slice (some ⟨g, 0, none⟩) R c') ∧ W.heap.size ≤ g ∧ RowOf w' (some ⟨g, 0, none⟩) R (fun i => .int .u64 (u i : Nat))) ∧ CursorAt w' bc nb z (p1 + s)) fun e w' ⟨h6, h7⟩ => by
          rcases h7 with ⟨_, h8, h9⟩ | ⟨h8, _⟩
          · exact ⟨h6, h8, h9⟩
          · exact absurd h5 h8)
        have HLEN := Lib.hid (show ((List.range R).map u).length = R from by simp)
        have HGD := Lib.hid (show ∀ i, i < R → ((List.range R).map u).getD i 0 = u i from fun i hi => by rw [List.getD_eq_getElem?_getD, List.getElem?_map, List.getElem?_range hi]; rfl)
        clear hN h5 h4 hz hall hG hu hR
        generalize (List.range R).map u = L at *
        go_enter Try.func43, Try.ntmps43
        go_wp2_with (first
      | (go_at_call 85; refine NX.out.mono ?_; rintro e w1 ⟨ht1, rfl, hc1⟩; have HT1 := Lib.hid ht1; have HC1 := Lib.hid hc1; clear ht1 hc1)
      | (go_at_call 42; refine (CK.out _ _ (by decide) _).mono ?_; rintro e w6 ⟨rfl, ⟨⟨⟩, rfl⟩ | ⟨⟨⟩, rfl⟩⟩)
      | (go_at_call 88; refine (GR.out _).mono ?_; rintro e w2 ⟨rfl, rfl⟩)
      | (go_at_call 89; refine (RP.out _ HC1.out).mono ?_; rintro e w4 ⟨ht2, ⟨g4, c4, rfl, hg4, hr4⟩, hc4⟩; have HG4 := Lib.hid (Nat.le_trans HT1.out.size hg4); have HT4 := Lib.hid (HT1.out.trans ht2); have HC4 := Lib.hid hc4; have HR4 := Lib.hid hr4; clear ht2 hg4 hr4 hc4))
        go_ret
        refine ⟨HT4.out, .inl ⟨rfl, ?_, HC4.out⟩⟩
        rw [HLEN.out]
        exact ⟨g4, _, rfl, HG4.out, HR4.out.congr fun i hi => by rw [HGD.out i hi]⟩
      · rw [if_neg (fun h => h5 (hall.1 h))]
        have RP := Lib.hid (fun W hW => (RP W hW).mono (R' := fun e w' => Turned (· = bc) W w' ∧ e = .panicked [{ v := .iface 137 (.agg #[.int .i64 3]), recovered := false }]) fun e w' ⟨h6, h7⟩ => by
          rcases h7 with ⟨h8, _⟩ | ⟨_, h8⟩
          · exact absurd h8 h5
          · exact ⟨h6, h8⟩)
        clear hN h5 h4 hz hall hG hu
        go_enter Try.func43, Try.ntmps43
        go_wp2_with (first
      | (go_at_call 85; refine NX.out.mono ?_; rintro e w1 ⟨ht1, rfl, hc1⟩; have HT1 := Lib.hid ht1; have HC1 := Lib.hid hc1; clear ht1 hc1)
      | (go_at_call 42; refine (CK.out _ _ (by decide) _).mono ?_; rintro e w6 ⟨rfl, ⟨⟨⟩, rfl⟩ | ⟨⟨⟩, rfl⟩⟩)
      | (go_at_call 88; refine (GR.out _).mono ?_; rintro e w2 ⟨rfl, rfl⟩)
      | (go_at_call 89; refine (RP.out _ HC1.out).mono ?_; rintro e w2 ⟨ht2, rfl⟩; have HT2 := Lib.hid ht2; clear ht2))
        exact ⟨rfl, HT1.out.trans HT2.out, .inr ⟨rfl, rfl⟩⟩
  · rw [if_neg hs]
    have hne : ((nx z p nb).2.2 != 0) = true := by simpa using hs
    have NX : Calls Try.prog 85 #[.pointer (some ⟨bc, 0, none⟩)] w fun e w' => Turned (· = bc) w w' ∧ e = .panicked [{ v := .iface 137 (.agg #[.int .i64 (nx z p nb).2.2]), recovered := false }] := NX.mono fun e w' ⟨h1, h2⟩ => by
      rcases h2 with ⟨h3, _⟩ | ⟨h3, h4⟩
      · exact absurd h3 hs
      · exact ⟨h1, h4⟩
    have NX := Lib.hid NX
    clear hok hbd h hs
    generalize (nx z p nb).2.2 = m at *
    go_enter Try.func43, Try.ntmps43
    go_wp2_with (go_at_call 85; refine NX.out.mono ?_; rintro e w3 ⟨ht3, rfl⟩; have HT3 := Lib.hid ht3; clear ht3)
    exact ⟨rfl, HT3.out, .inr ⟨hne, rfl⟩⟩

end Go.Proofs.Ythonjffojaljdaa


/-
  CONTRACTS OF short.Zags and of Hybrid's Decode, in any world. Conditions: at most 100000 bytes, which lie in memory as told.
-/
namespace Go.Proofs.Ythonjffojaljdaa
open Go.ChangeShapes Go.WideShapes Go.ChangeAt Go.RowKit
set_option linter.unusedVariables false
set_option maxRecDepth 100000 in
set_option maxHeartbeats 1000000 in
theorem zags_any (a : Option Addr) (m cap : Nat) (y : Nat → Nat) (hm : m ≤ 1100) (hy : ∀ i, i < m → y i < 18446744073709551616) (w : World) (hrow : RowOf w a m (fun i => .int .u64 (y i : Nat))) :
    Calls Try.prog 44 #[.slice a m cap] w fun e w' => e = .returned (.slice (some ⟨w.heap.size, 0, none⟩) m m) ∧ w'.ownsRow w.heap.size 2 1 (.slice (some ⟨w.heap.size, 0, none⟩) m m) m (rowV (fun i => .int .i64 (zag (y i : Nat))) m) ∧ Below w.heap.size w w' := by
  obtain ⟨i0, hi, hz0, hz1, hz2⟩ := info_parts longInfo
  have H := Lib.hid hrow
  have HX := Lib.hid hy
  clear hrow hy
  go_enter Try.func44, Try.ntmps44
  go_wp2_with (at_make; go_must (refine wpList_make_full _ rfl _ _ 22 rfl w.heap.size 2 i0 (.int .i64 0) 1 Try.underlying22 hi hz0 hz1 _ _ _ _ m rfl rfl rfl rfl (by rw [hz2]; omega) (by unfold maxLen; omega) (Nat.le_refl _) ?_); intro w2 hown hg; rw [show (Value.int .i64 0).cells = #[Value.int .i64 0] from rfl, rowV_zeroI] at hown; have HO := Lib.hid hown; have HG := Lib.hid hg; clear hown hg)
  have HB2 := Lib.hid ((Below.refl w.heap.size w).grown HG.out (Nat.le_refl _) (fun k hk => by cases hk))
  obtain ⟨g, hg⟩ : ∃ g, w.heap.size = g := ⟨_, rfl⟩
  rw [hg] at HO HB2
  rw [hg]
  clear HG
  go_loopw [11] (fun q wr => ∃ i : Nat, i ≤ m ∧ q = .int .i64 i ∧ wr.ownsRow g 2 1 (.slice (some ⟨g, 0, none⟩) m m) m (rowV (fun j => .int .i64 (if j < i then zag (y j : Nat) else 0 : Int)) m) ∧ Below g w wr) (fun q wr => m - (intOf q).toNat)
  case atStart => exact ⟨0, by omega, rfl, by simpa using HO.out, HB2.out⟩
  case round =>
    obtain ⟨i, hin, rfl, ho, hb⟩ := hrel
    by_cases hlt : i < m
    · obtain ⟨b, off, rfl, hblt, hc⟩ := (H.out.below (hg ▸ hb)).at_ hlt
      have c0 := hc i hlt
      have hxi := HX.out i hlt
      have ZG := Lib.hid (zag_any (y i : Nat) (by omega) (by omega))
      have q0 := ho.cellAt i (by omega)
      rw [rowV_get _ hlt] at q0
      have q1 := ho.frozenAt i
      have HO3 := Lib.hid ho
      have HB3 := Lib.hid hb
      have HZG := Lib.hid (show ∀ u, zag (y i : Nat) = u → zag (y i : Nat) = u from fun u h => h)
      clear ho hb hc hxi
      have i1 : (i : Int) < m := by omega
      go_wp2_with (go_at_call 90; refine (ZG.out _).mono ?_; rintro e w3 ⟨rfl, rfl⟩)
      go_roundw
      case rel =>
        refine ⟨i + 1, by omega, by go_num, ?_, ?_⟩
        · have h1 := (HO3.out.stored i (.int .i64 (zag (y i : Nat)))).1
          rw [rowV_set] at h1
          rw [rowV_congr (g := fun j => if j = i then .int .i64 (zag (y i : Nat)) else .int .i64 (if j < i then zag (y j : Nat) else 0 : Int)) (fun j hj => by
            by_cases e : j = i
            · subst e; simp
            · rw [if_neg e]
              by_cases e2 : j < i
              · rw [if_pos e2, if_pos (by omega)]
              · rw [if_neg e2, if_neg (by omega)])]
          exact h1
        · exact HB3.out.setCell (p := ⟨g, i, none⟩) (Nat.le_refl _) _
      case measure => simp [intOf]; omega
    · obtain rfl : i = m := by omega
      have HO3 := Lib.hid ho
      have HB3 := Lib.hid hb
      clear ho hb
      go_wp2
      go_ret
      subst hg
      refine ⟨rfl, ?_, HB3.out⟩
      rw [rowV_congr (g := fun j => .int .i64 (if j < i then zag (y j : Nat) else 0 : Int)) (fun j hj => by rw [if_pos hj])]
      exact HO3.out
/-- Appending a row of numbers to one's own. -/
theorem row_app64 (W : World) (n₀ : Nat) (v : Value) (a : Option Addr) (c : Nat) (xs ys : List Nat) (hrow : W.ownsRow n₀ 40 1 v xs.length (rowV (fun i => .int .u64 (xs.getD i 0 : Nat)) xs.length)) (hn₀ : n₀ ≤ W.heap.size)
    (hr : RowOf W a ys.length (fun i => .int .u64 (ys.getD i 0 : Nat))) (hlen : xs.length + ys.length ≤ 1000000) :
    ∃ v5 w5, (Builtin.append_ #[58, 58] 58 #[v, .slice a ys.length c]).run Try.prog W = .ok v5 w5 ∧ w5.ownsRow n₀ 40 1 v5 (xs ++ ys).length (rowV (fun i => .int .u64 ((xs ++ ys).getD i 0 : Nat)) (xs ++ ys).length) ∧ W.grownBy w5 v.ownBlock := by
  obtain ⟨i0, hi, hz0, hz1, hz2⟩ := info_parts u64Info
  obtain ⟨v5, w5, hrun, ho5, hg5, _⟩ := run_append_row (P := Try.prog) W n₀ 58 58 40 i0 (.int .u64 0) 8 Try.underlying58 hi hz0 hz1 hz2 rfl v xs.length _ hrow a ys.length c _ hr (fun i hi => rfl) (by unfold maxLen; omega) (by omega) hn₀
  refine ⟨v5, w5, hrun, ?_, hg5⟩
  rw [List.length_append]
  have e : rowV (fun i => Value.int .u64 (xs.getD i 0 : Nat)) xs.length ++ rowV (fun i => .int .u64 (ys.getD i 0 : Nat)) ys.length = rowV (fun i => .int .u64 ((xs ++ ys).getD i 0 : Nat)) (xs.length + ys.length) := by
    apply List.ext_getElem?
    intro j
    by_cases h1 : j < xs.length
    · rw [List.getElem?_append_left (by rw [rowV_length]; exact h1), rowV_get _ h1, rowV_get _ (by omega)]
      simp only [List.getD_eq_getElem?_getD, List.getElem?_append_left h1]
    · rw [List.getElem?_append_right (by rw [rowV_length]; omega), rowV_length]
      by_cases h2 : j < xs.length + ys.length
      · rw [rowV_get _ (by omega), rowV_get _ h2]
        simp only [List.getD_eq_getElem?_getD, List.getElem?_append_right (show xs.length ≤ j by omega)]
      · rw [rowV_ge _ (by omega), rowV_ge _ (by omega)]
  rw [← e]
  exact ho5
/-- What comes of the bytes of a form: the error, the place, the numbers. -/
def hres (z : Nat → Int) (nb n : Nat) : Int × Nat × List Int :=
  if nb = 0 then (1, 0, []) else if 64 < (z 0).toNat then (6, 1, [])
  else ((hrun z nb n (z 0).toNat 1 n).1, (hrun z nb n (z 0).toNat 1 n).2.1, (hrun z nb n (z 0).toNat 1 n).2.2.map fun v => zag (v : Nat))
set_option maxRecDepth 100000 in
set_option maxHeartbeats 2000000 in
theorem hdec1_any (pn bc nb n : Nat) (z : Nat → Int) (hz : ∀ i, i < nb → 0 ≤ z i ∧ z i ≤ 255) (hnb : nb ≤ 100000) (hn : n ≤ 1024) (w : World) (hpb : pn < bc) (hp : w.cell? ⟨pn, 0, none⟩ = some (.int .i64 n)) (h : CursorAt w bc nb z 0) :
    Calls Try.prog 40 (#[.pointer (some ⟨bc, 0, none⟩)] ++ #[.pointer (some ⟨pn, 0, none⟩)]) w (DoEnd bc nb z (hres z nb n).1 (hres z nb n).2.2 (hres z nb n).2.1 w) := by
  have CK := Lib.hid (fun b m hm W => check_b b m hm W)
  show Calls Try.prog 40 #[.pointer (some ⟨bc, 0, none⟩), .pointer (some ⟨pn, 0, none⟩)] w _
  unfold hres
  have hbcl := h.lt
  by_cases h0 : nb = 0
  · rw [if_pos h0]
    have U8 := Lib.hid (u8_short bc nb z 0 hnb (by omega) (by omega) w h)
    clear h hp
    go_enter Try.func40, Try.ntmps40
    go_wp2_with (go_at_call 41; refine U8.out.mono ?_; rintro e w1 ⟨rfl, k, rfl⟩)
    exact ⟨rfl, (Turned.refl _ w).drewN _, .inr ⟨rfl, rfl⟩⟩
  rw [if_neg h0]
  have U8 := u8_ok bc nb z 0 hz hnb (by omega) w h
  obtain ⟨q, hq⟩ : ∃ q, (z 0).toNat = q := ⟨_, rfl⟩
  have hq8 : q < 256 := by have := hz 0 (by omega); omega
  rw [show num (fun i => z (0 + i)) 1 = q by simp [num, hq], Nat.zero_add] at U8
  have U8 := Lib.hid U8
  rw [hq]
  by_cases h6 : 64 < q
  · rw [if_pos h6]
    have dl : decide ((q : Int) ≤ 64) = false := decide_eq_false (by omega)
    clear h hp
    go_enter Try.func40, Try.ntmps40
    go_wp2_with (first
      | (go_at_call 41; refine U8.out.mono ?_; rintro e w1 ⟨rfl, hc1, ht1⟩; have HT1 := Lib.hid ht1; have HC1 := Lib.hid hc1; clear hc1 ht1)
      | (go_at_call 42; refine (CK.out _ _ (by decide) _).mono ?_; rintro e w6 ⟨rfl, ⟨⟨⟩, rfl⟩ | ⟨⟨⟩, rfl⟩⟩))
    exact ⟨rfl, HT1.out, .inr ⟨rfl, rfl⟩⟩
  rw [if_neg h6]
  have dl : decide ((q : Int) ≤ 64) = true := decide_eq_true (by omega)
  have hq64 : q ≤ 64 := by omega
  have hpl : pn < w.heap.size := World.block_lt_of_cell? w _ hp
  have HP := Lib.hid (show ∀ W : World, Turned (· = bc) w W → W.cell? ⟨pn, 0, none⟩ = some (.int .i64 n) from fun W ht => (ht.cell (p := ⟨pn, 0, none⟩) hpl (fun (e : pn = bc) => by omega)).trans hp)
  have hp1 : 1 ≤ nb := by omega
  clear h hp h0 h6 hq hpl
  obtain ⟨E, XS, AT, hE, hXS, hAT⟩ : ∃ E XS AT, (hrun z nb n q 1 n).1 = E ∧ (hrun z nb n q 1 n).2.2 = XS ∧ (hrun z nb n q 1 n).2.1 = AT := ⟨_, _, _, rfl, rfl, rfl⟩
  rw [hE, hXS, hAT]
  have HE := Lib.hid (And.intro hE (And.intro hXS hAT))
  have HXL := Lib.hid (show ∀ v, v ∈ XS → v < 2 ^ q from hXS ▸ hrun_lt n)
  have hxl : XS.length ≤ n := hXS ▸ (hrun_len hp1 n).1
  have HZ := Lib.hid hz
  clear hE hXS hAT hz
  obtain ⟨B, hB⟩ : ∃ B, w.heap.size = B := ⟨_, rfl⟩
  have HB := Lib.hid hB
  have hbB : bc < B := by omega
  clear hB
  go_enter Try.func40, Try.ntmps40
  go_wp2_with (first
    | (go_at_call 41; refine U8.out.mono ?_; rintro e w1 ⟨rfl, hc1, ht1⟩; have HT1 := Lib.hid ht1; have HC1 := Lib.hid hc1; clear hc1 ht1)
    | (go_at_call 42; refine (CK.out _ _ (by decide) _).mono ?_; rintro e w6 ⟨rfl, ⟨⟨⟩, rfl⟩ | ⟨⟨⟩, rfl⟩⟩))
  go_loopg [5] n (fun gk s wr => ∃ k l p, hrun z nb n q 1 k = (0, p, l) ∧ k ≤ l.length ∧ gk = n - l.length ∧ l.length ≤ n ∧ wr.ownsRow B 40 1 s l.length (rowV (fun i => .int .u64 (l.getD i 0 : Nat)) l.length) ∧ CursorAt wr bc nb z p ∧ Turned (· = bc) w wr)
  case atStart => exact ⟨0, [], 1, rfl, Nat.le_refl _, rfl, Nat.zero_le _, World.ownsRow_nil _ _ _ _, HC1.out, HT1.out⟩
  case round =>
    obtain ⟨k, l, p, hk, hkl, rfl, hln, ho, hc, ht⟩ := hrel
    have q0 := HP.out _ ht
    have hlen := hrun_len (z := z) (nb := nb) (n := n) (q := q) hp1 k
    rw [hk] at hlen
    obtain ⟨a1, c1, rfl, hr1, hab⟩ := own_reads' ho
    have HO := Lib.hid ho
    have HC := Lib.hid hc
    have HT := Lib.hid ht
    clear hab
    by_cases hlt : l.length < n
    · have i1 : (l.length : Int) < n := by omega
      obtain ⟨lack, hlack⟩ : ∃ lack, n - l.length = lack := ⟨_, rfl⟩
      have i2 : (n : Int) - l.length = lack := by omega
      have RD := hread_any bc nb q p lack z HZ.out hnb hq64 (by omega) (by omega) wr hc
      have HST := fun g => hrun_step (z := z) (nb := nb) (n := n) (q := q) (p0 := 1) (k := k) (by rw [hk]) (by rw [hk]; exact hlt) g
      have HFL := fun g => hrun_fail (z := z) (nb := nb) (n := n) (q := q) (p0 := 1) (k := k) (by rw [hk]) (by rw [hk]; exact hlt) g (n - (k + 1))
      rw [hk] at HST HFL
      dsimp only at HST HFL hlen
      rw [hlack] at HST HFL
      have hkn : k + 1 ≤ n := by omega
      rw [show k + 1 + (n - (k + 1)) = n by omega, HE.out.1] at HFL
      have hrl := rd1_len z nb q p lack
      generalize rd1 z nb q p lack = r at *
      obtain ⟨m, p2, ys⟩ := r
      unfold ReadEnd at RD
      dsimp only at RD HST HFL hrl
      by_cases hm : m = 0
      · subst hm
        have HSTH := Lib.hid (HST rfl)
        have hrl := hrl rfl (by omega)
        have RD := Lib.hid (RD.mono (R' := fun e w' => Turned (· = bc) wr w' ∧ (∃ g c', e = .returned (.slice (some ⟨g, 0, none⟩) ys.length c') ∧ RowOf w' (some ⟨g, 0, none⟩) ys.length (fun i => .int .u64 (ys.getD i 0 : Nat))) ∧ CursorAt w' bc nb z p2) fun e w' ⟨h1, h2⟩ => by
          rcases h2 with ⟨_, ⟨g, c', h3, h4, h5⟩, h6⟩ | ⟨h3, _⟩
          · exact ⟨h1, ⟨g, c', h3, h5⟩, h6⟩
          · cases h3)
        have HRL := Lib.hid hrl
        have HLK := Lib.hid hlack
        have hyl := HRL.out.2.1
        have hyl0 := HRL.out.1
        have hlk := HLK.out
        clear ho hc ht HFL hk hlen hlt hrl hlack hr1 HST
        go_wp2_with (first
          | (go_at_call 43; refine RD.out.mono ?_; rintro e w4 ⟨ht4, ⟨g4, c4, rfl, hr4⟩, hc4⟩
             have ho4 := owns_turned HO.out ht4 (fun j hj (e : j = bc) => by have := (HO.out.lt j hj).1; omega)
             have hB4 : B ≤ w4.heap.size := by have := (HT.out.trans ht4).size; have := HB.out; omega
             obtain ⟨v5, w5, hrun, ho5, hg5⟩ := row_app64 w4 B _ (some ⟨g4, 0, none⟩) c4 l ys ho4 hB4 hr4 (by omega)
             have hjB : ∀ j, Value.ownBlock (.slice a1 l.length c1) = some j → B ≤ j := fun j hj => (ho4.lt j hj).1
             have HC5 := Lib.hid (hc4.below ((Below.refl B w4).grown hg5 hB4 hjB) hbB)
             have HT5 := Lib.hid ((HT.out.trans ht4).grown hg5 (fun i hi => .inr (by have := hjB i hi; have := HB.out; omega)))
             have HRUN := Lib.hid hrun; have HO5 := Lib.hid ho5; clear ht4 hr4 hc4 ho4 hrun ho5 hg5 hjB)
          | (at_builtin; refine wpList_append_ran _ _ rfl _ _ 58 rfl _ _ _ rfl rfl HRUN.out ?_; clear HRUN))
        go_roundg (n - (l ++ ys).length)
        case rel => exact ⟨k + 1, l ++ ys, p2, HSTH.out, by rw [List.length_append]; omega, rfl, by rw [List.length_append]; omega, HO5.out, HC5.out, HT5.out⟩
        case measure => rw [List.length_append]; omega
      · have RD := Lib.hid (RD.mono (R' := fun e w' => Turned (· = bc) wr w' ∧ (m != 0) = true ∧ e = .panicked [{ v := .iface 137 (.agg #[.int .i64 m]), recovered := false }]) fun e w' ⟨h1, h2⟩ => by
          rcases h2 with ⟨h3, _⟩ | ⟨h3, h4⟩
          · exact absurd h3 hm
          · exact ⟨h1, h3, h4⟩)
        obtain rfl : E = m := HFL hm
        clear ho hc ht HFL hk hlen hlt hrl hlack hr1 HST hm
        go_wp2_with (go_at_call 43; refine RD.out.mono ?_; rintro e w4 ⟨ht4, hm4, rfl⟩; have HT4 := Lib.hid ht4; have HM4 := Lib.hid hm4; clear ht4 hm4)
        exact ⟨rfl, HT.out.trans HT4.out, .inr ⟨HM4.out, rfl⟩⟩
    · have hend := hrun_end (z := z) (nb := nb) (n := n) (q := q) (p0 := 1) (k := k) hp1 (by rw [hk]) (by rw [hk]; exact hlt) (by omega)
      rw [hk] at hend
      obtain ⟨he1, he2⟩ := hend
      obtain ⟨hE, hXS, hAT⟩ := HE.out
      rw [he1] at hE hXS hAT
      dsimp only at hE hXS hAT he2
      subst hE hXS hAT
      have ZG := Lib.hid (fun W hr => zags_any a1 l.length c1 (fun i => l.getD i 0) (by omega) (fun i hi => by
        have h1 : l.getD i 0 ∈ l := by rw [List.getD_eq_getElem?_getD, List.getElem?_eq_getElem hi]; exact List.getElem_mem hi
        exact Nat.lt_of_lt_of_le (HXL.out _ h1) (by have := pow_le64 hq64; omega)) W hr)
      have HR1 := Lib.hid hr1
      have i1 : ¬ (l.length : Int) < n := by omega
      clear ho hc ht hk hlen hlt hr1 he1 HE he2 hkl
      go_wp2_with (go_at_call 44; refine (ZG.out _ HR1.out).mono ?_; rintro e w4 ⟨rfl, ho4, hb4⟩; have HO4 := Lib.hid ho4; have HB4 := Lib.hid hb4; clear ho4 hb4)
      go_ret
      obtain ⟨a5, c5, he, hr5, _⟩ := own_reads' HO4.out
      injection he with e1 e2 e3
      subst e1 e3
      refine ⟨HT.out.trans (Turned.of_below HB4.out (fun i hi _ => hi)), .inl ⟨rfl, some ⟨wr.heap.size, 0, none⟩, l.length, ?_, ?_, HC.out.below HB4.out HC.out.lt⟩⟩
      · rw [List.length_map]; rfl
      · rw [List.length_map]
        exact hr5.congr fun i hi => by simp only [List.getD_eq_getElem?_getD, List.getElem?_map, List.getElem?_eq_getElem hi]; rfl
theorem hres_len (z : Nat → Int) (nb n : Nat) : (hres z nb n).2.2.length ≤ n := by
  unfold hres
  by_cases h0 : nb = 0
  · rw [if_pos h0]; exact Nat.zero_le _
  · rw [if_neg h0]
    split
    · exact Nat.zero_le _
    · show (List.map _ _).length ≤ n
      rw [List.length_map]
      exact (hrun_len (by omega) n).1
/-- What is wrong with a form of so many bytes, and the numbers. -/
def herr (z : Nat → Int) (n nb : Nat) : Int := rerr (hres z nb n).1 (hres z nb n).2.1 nb
def hnums (z : Nat → Int) (n nb : Nat) : List Int := rnums (hres z nb n).1 (hres z nb n).2.1 nb (hres z nb n).2.2
set_option maxHeartbeats 1000000 in
theorem hdecode_in (a : Option Addr) (nb cap n : Nat) (z : Nat → Int) (hz : ∀ i, i < nb → 0 ≤ z i ∧ z i ≤ 255) (hnb : nb ≤ 100000) (hb : blk n = true) (w : World) (hrow : RowOf w a nb (fun i => .int .u8 (z i))) :
    Calls Try.prog 15 #[.agg #[], .slice a nb cap, .int .i64 n] w fun e w' => ∃ a c, e = .returned (.tuple #[.slice a (hnums z n nb).length c, .int .i64 (herr z n nb)]) ∧
      RowOf w' a (hnums z n nb).length (fun i => .int .i64 ((hnums z n nb).getD i 0)) ∧ Below w.heap.size w w' := by
  have hmf : ∀ (fn : Fn) (first cap : Array Value) (w : World), (Instr.makeFunc fn first cap).run Try.prog w = .ok (.func fn first cap) w := fun _ _ _ _ => rfl
  obtain ⟨s, hs⟩ : ∃ s, w.heap.size = s := ⟨_, rfl⟩
  obtain ⟨W2, hW2⟩ : ∃ W2, (w.alloc (.cells #[] 25)).alloc (.cells #[.int .i64 (n : Int)] 3) = W2 := ⟨_, rfl⟩
  have hb2 : Below s w W2 := by rw [← hW2, ← hs]; exact ((Below.refl _ w).alloc (Nat.le_refl _) _).alloc (by simp) _
  have l1 : Lies W2 (s + 1) 3 #[.int .i64 (n : Int)] := by
    have := Lies.new (w.alloc (.cells #[] 25)) 3 #[.int .i64 (n : Int)]
    rw [← hW2, ← hs]
    simpa using this
  have hn : n ≤ 1024 := by have := of_decide_eq_true hb; omega
  have RD := read_any 40 #[.pointer (some ⟨s + 1, 0, none⟩)] n nb cap a z (hres z nb n).1 (hres z nb n).2.2 (hres z nb n).2.1 hb hnb (by have := hres_len z nb n; omega) W2 (hrow.below (by rw [hs]; exact hb2)) (fun _ _ => by simp [go_sem])
    (fun W1 bc hb1 hbc hc => hdec1_any (s + 1) bc nb n z hz hnb hn W1 (by have := hbc; have e2 : W2.heap.size = s + 2 := (by rw [← hW2, ← hs]; simp); omega) ((hb1.cell (p := ⟨s + 1, 0, none⟩) l1.lt).trans (l1.cell 0)) hc)
  change Calls _ _ _ _ (fun e w' => ∃ a c, e = .returned (.tuple #[.slice a (hnums z n nb).length c, .int .i64 (herr z n nb)]) ∧ RowOf w' a (hnums z n nb).length (fun i => .int .i64 ((hnums z n nb).getD i 0)) ∧ Below W2.heap.size W2 w') at RD
  have RD := Lib.hid RD
  have HB2 := Lib.hid hb2
  have HS := Lib.hid hs
  have c1 := l1.cell 0
  have C1 := Lib.hid c1
  clear hb2 l1 hb hrow hz
  generalize hnums z n nb = ys at *
  generalize herr z n nb = r at *
  go_enter Try.func15, Try.ntmps15
  go_wp2_with fail
  (try rw [hW2])
  (try rw [hs])
  refine RD.out.mono ?_
  rintro e w' ⟨a1, c, rfl, hr, hb'⟩
  have HR := Lib.hid hr
  have HB' := Lib.hid hb'
  clear hr hb' c1 hW2
  go_wp2
  go_ret2
  exact ⟨a1, c, rfl, HR.out, by rw [HS.out]; exact HB2.out.trans (HB'.out.mono (by have := HB2.out.size; have := HS.out; omega))⟩
theorem hdecode_out (a : Option Addr) (nb cap : Nat) (n : Int) (hb : blk n = false) (w : World) :
    Calls Try.prog 15 #[.agg #[], .slice a nb cap, .int .i64 n] w fun e w' => e = .returned (.tuple #[.slice none 0 0, .int .i64 7]) ∧ Below w.heap.size w w' := by
  have hmf : ∀ (fn : Fn) (first cap : Array Value) (w : World), (Instr.makeFunc fn first cap).run Try.prog w = .ok (.func fn first cap) w := fun _ _ _ _ => rfl
  have RD := Lib.hid (fun (f : FuncId) (caps : Array Value) W => read_out f caps n nb cap a hb W)
  have HB := Lib.hid (((Below.refl w.heap.size w).alloc (Nat.le_refl _) (.cells #[] 25)).alloc (by simp) (.cells #[.int .i64 n] 3))
  clear hb
  go_enter Try.func15, Try.ntmps15
  go_wp2_with (go_at_call 39; refine (RD.out _ _ _).mono ?_; rintro e w1 ⟨rfl, hb⟩; have HB1 := Lib.hid hb; clear hb)
  go_ret2
  exact ⟨rfl, HB.out.trans (HB1.out.mono HB.out.size)⟩
end Go.Proofs.Ythonjffojaljdaa


/-
  CONTRACT OF the document's own Decode of layer 10 (corduroyref10), in any world. Conditions: at most 10000 bytes, which lie in memory as told.
-/
namespace Go.Proofs.Ythonjffojaljdaa
open Go.ChangeShapes Go.WideShapes Go.ChangeAt Go.RowKit
set_option linter.unusedVariables false
/-- The numbers of zigzags, as a row. -/
def rowZ (l : List Nat) : List Value := rowV (fun j => .int .i64 (zag (l.getD j 0 : Nat))) l.length
theorem rowZ_more (l : List Nat) (v : Nat) : rowZ (l ++ [v]) = rowZ l ++ [.int .i64 (zag (v : Nat))] := by
  unfold rowZ
  rw [List.length_append, show ([v] : List Nat).length = 1 from rfl, rowV_succ]
  have e1 : (l ++ [v]).getD l.length 0 = v := by rw [List.getD_eq_getElem?_getD, List.getElem?_append_right (Nat.le_refl _), Nat.sub_self]; rfl
  rw [e1, rowV_congr (g := fun j => .int .i64 (zag (l.getD j 0 : Nat))) (fun j hj => by rw [List.getD_eq_getElem?_getD, List.getElem?_append_left hj, List.getD_eq_getElem?_getD])]
theorem num_cut (z : Nat → Int) (m : Nat) : ∀ n, m ≤ n → ∃ B, num z n = num z m + 256 ^ m * B
  | 0, h => ⟨0, by rw [Nat.le_zero.1 h]; omega⟩
  | n + 1, h => by
    rcases Nat.lt_or_ge m (n + 1) with h1 | h1
    · obtain ⟨B, hB⟩ := num_cut z m n (by omega)
      refine ⟨B + 256 ^ (n - m) * (z n).toNat, ?_⟩
      have e : num z (n + 1) = num z n + (z n).toNat * 256 ^ n := by simp only [num]
      have e2 : 256 ^ n = 256 ^ m * 256 ^ (n - m) := by rw [← Nat.pow_add]; congr 1; omega
      rw [e, hB, e2, Nat.mul_add, Nat.add_assoc]
      congr 2
      rw [Nat.mul_comm, Nat.mul_assoc]
    · obtain rfl : m = n + 1 := by omega
      exact ⟨0, by omega⟩
theorem cut_low (A B f k q : Nat) (h : f + k ≤ q) : (A + 2 ^ q * B) / 2 ^ f % 2 ^ k = A / 2 ^ f % 2 ^ k := by
  obtain ⟨r, rfl⟩ : ∃ r, q = f + (k + r) := ⟨q - f - k, by omega⟩
  rw [Nat.pow_add, Nat.mul_assoc, Nat.add_mul_div_left _ _ (Nat.pow_pos (by decide)), Nat.pow_add, Nat.mul_assoc, Nat.add_mul_mod_self_left]
theorem rnum_part (z : Nat → Int) (m c q i : Nat) (hm : c * q ≤ m) (hi : i < 8 * c) : num z m / 2 ^ (i * q) % 2 ^ q = unN q (num z (c * q)) i := by
  obtain ⟨B, hB⟩ := num_cut z (c * q) m hm
  unfold unN
  have e : (256 : Nat) ^ (c * q) = 2 ^ (8 * (c * q)) := (Nat.pow_mul 2 8 (c * q)).symm
  rw [hB, e]
  refine cut_low _ _ _ _ _ ?_
  have : (i + 1) * q ≤ 8 * c * q := Nat.mul_le_mul_right q (by omega)
  rw [Nat.add_mul, Nat.one_mul, Nat.mul_assoc] at this
  exact this
/-- A slice of bytes behind some of them. -/
theorem row_behind {w : World} {a1 : Option Addr} {z : Nat → Int} {nb p k c1 : Nat} (h : RowOf w a1 (nb - p) (fun j => .int .u8 (z (p + j)))) (hk : k ≤ nb - p) (hc : c1 ≠ k) : RowOf w (a1.map (fun x => x.add k)) (nb - (p + k)) (fun j => .int .u8 (z (p + k + j))) := by
  rcases h with h0 | ⟨b1, o1, rfl, hcell⟩
  · exact .inl (by omega)
  · refine .inr ⟨b1, o1 + k, ?_, fun j hj => ?_⟩
    · simp only [Option.map_some, Addr.add]
      split
      · rename_i h; subst h; rfl
      · rfl
    · rw [show o1 + k + j = o1 + (k + j) by omega, hcell (k + j) (by omega)]
      show some (Value.int .u8 (z (p + (k + j)))) = some (Value.int .u8 (z (p + k + j)))
      rw [← Nat.add_assoc p]
/-- How the document's Decode ends. -/
def HEnd (z : Nat → Int) (n nb : Nat) (w : World) (e : Ending) (w' : World) : Prop :=
  ∃ a c, e = .returned (.tuple #[.slice a (hnums z n nb).length c, .int .i64 (herr z n nb)]) ∧ RowOf w' a (hnums z n nb).length (fun i => .int .i64 ((hnums z n nb).getD i 0)) ∧ Below w.heap.size w w'
theorem rhdecode_out (a : Option Addr) (nb cap : Nat) (n : Int) (hb : blk n = false) (w : World) :
    Calls Try.prog 16 #[.slice a nb cap, .int .i64 n] w fun e w' => e = .returned (.tuple #[.slice none 0 0, .int .i64 7]) ∧ w = w' := by
  have BK := rblock_any n
  rw [hb] at BK
  have BK := Lib.hid BK
  clear hb
  go_enter Try.func16, Try.ntmps16
  go_wp2_with (go_at_call 32; refine (BK.out _).mono ?_; rintro e w1 ⟨rfl, rfl⟩)
  go_ret2
  exact ⟨rfl, rfl⟩
theorem hend_fail (z : Nat → Int) (n nb : Nat) (w W : World) (m : Int) (hm : m ≠ 0) (h : (hres z nb n).1 = m) (hb : Below w.heap.size w W) : HEnd z n nb w (.returned (.tuple #[.slice none 0 0, .int .i64 m])) W := by
  have h1 : herr z n nb = m := by unfold herr rerr; rw [h, if_neg hm]
  have h2 : hnums z n nb = [] := by unfold hnums rnums; rw [if_neg (by show ¬ herr z n nb = 0; rw [h1]; exact hm)]
  exact ⟨none, 0, by rw [h1, h2]; rfl, by rw [h2]; exact .inl rfl, hb⟩
set_option maxRecDepth 100000 in
set_option maxHeartbeats 4000000 in
theorem rhdecode_in (a : Option Addr) (nb cap n : Nat) (z : Nat → Int) (hz : ∀ i, i < nb → 0 ≤ z i ∧ z i ≤ 255) (hnb : nb ≤ 10000) (hcap : nb ≤ cap) (hcm : cap ≤ maxLen) (hb : blk n = true) (w : World) (hrow : RowOf w a nb (fun i => .int .u8 (z i))) :
    Calls Try.prog 16 #[.slice a nb cap, .int .i64 n] w (HEnd z n nb w) := by
  obtain ⟨i0, hi, hz0, hz1, hz2⟩ := info_parts longInfo
  have hn : n ≤ 1024 := by have := of_decide_eq_true hb; omega
  have BK := rblock_any n
  rw [hb] at BK
  have BK := Lib.hid BK
  have FAIL := Lib.hid (fun m hm (h : (hres z nb n).1 = m) W hb => hend_fail z n nb w W m hm h hb)
  obtain ⟨ZE, hZE⟩ : ∃ ZE, HEnd z n nb w = ZE := ⟨_, rfl⟩
  have HZE := Lib.hid hZE
  rw [hZE] at FAIL ⊢
  clear hZE hb
  by_cases h0 : nb = 0
  · have hr : (hres z nb n).1 = 1 := by unfold hres; rw [if_pos h0]
    have FL := Lib.hid (FAIL.out 1 (by decide) hr w (Below.refl _ _))
    subst h0
    clear FAIL HZE hr hrow hz
    go_enter Try.func16, Try.ntmps16
    go_wp2_with (go_at_call 32; refine (BK.out _).mono ?_; rintro e w1 ⟨rfl, rfl⟩)
    exact FL.out
  obtain ⟨q, hq⟩ : ∃ q, (z 0).toNat = q := ⟨_, rfl⟩
  have hz00 := hz 0 (by omega)
  have hq8 : q < 256 := by omega
  have hzq : z 0 = (q : Int) := by omega
  obtain ⟨b0, o0, rfl, hblt, hc⟩ := hrow.at_ (i := 0) (by omega)
  have c0 := hc 0 (by omega)
  rw [Nat.add_zero, hzq] at c0
  have n0 : ¬ (nb : Int) = 0 := by omega
  have n0b : ((nb : Int) == 0) = false := beq_eq_false_iff_ne.mpr n0
  have n1 : (0 : Int) < nb := by omega
  by_cases h6 : 64 < q
  · have hr : (hres z nb n).1 = 6 := by unfold hres; rw [if_neg h0, hq, if_pos h6]
    have FL := Lib.hid (FAIL.out 6 (by decide) hr w (Below.refl _ _))
    have h64 : (64 : Int) < q := by omega
    clear FAIL HZE hr hrow hz hc h0
    go_enter Try.func16, Try.ntmps16
    go_wp2_with (go_at_call 32; refine (BK.out _).mono ?_; rintro e w1 ⟨rfl, rfl⟩)
    exact FL.out
  have hres1 : hres z nb n = ((hrun z nb n q 1 n).1, (hrun z nb n q 1 n).2.1, (hrun z nb n q 1 n).2.2.map fun v => zag (v : Nat)) := by unfold hres; rw [if_neg h0, hq, if_neg h6]
  have HRES := Lib.hid hres1
  have h64 : ¬ (64 : Int) < q := by omega
  have hq64 : q ≤ 64 := by omega
  have hp1 : 1 ≤ nb := by omega
  have hcap1 : (nb : Int) ≤ cap := by omega
  have hcm1 : (cap : Int) ≤ 9223372036854775807 := by unfold maxLen at hcm; omega
  have HR0 := Lib.hid hrow
  have HZ := Lib.hid hz
  have HCM := Lib.hid hcm
  have s7 : ((q : Int) + 7) / 8 = ((need 1 q : Nat) : Int) := by unfold need; omega
  have hs8 : need 1 q ≤ 8 := by unfold need; omega
  clear hres1 hrow hz hc h6 h0 hq hz00 hzq hcm
  obtain ⟨s8, hs8e⟩ : ∃ s8, need 1 q = s8 := ⟨_, rfl⟩
  rw [hs8e] at s7 hs8
  have HS8 := Lib.hid hs8e
  clear hs8e
  obtain ⟨B, hB⟩ : ∃ B, w.heap.size = B := ⟨_, rfl⟩
  rw [hB] at FAIL
  have HB := Lib.hid hB
  go_enter Try.func16, Try.ntmps16
  go_upto_region 8 with (go_at_call 32; refine (BK.out _).mono ?_; rintro e w1 ⟨rfl, rfl⟩)
  go_cut [0] from 29 to 30 (fun s0 wc => (∃ a1 c1, s0 = .slice a1 (nb - 1) c1 ∧ nb - 1 ≤ c1 ∧ c1 ≤ maxLen ∧ RowOf w a1 (nb - 1) (fun j => .int .u8 (z (1 + j)))) ∧ w = wc)
  case first =>
    by_cases hcc : cap = 1
    · have hc1 : nb - 1 = 0 := by omega
      go_wp2
      go_meet
      exact ⟨⟨_, 0, by rw [hc1], by omega, Nat.zero_le _, .inl hc1⟩, rfl⟩
    · go_wp2
      go_meet
      exact ⟨⟨_, _, rfl, by omega, by have := HCM.out; omega, row_behind (p := 0) (k := 1) (c1 := cap) (by simpa using HR0.out) (by omega) hcc⟩, rfl⟩
  case rest =>
    obtain ⟨⟨a1, c1, rfl, hc1, hc2, hr1⟩, rfl⟩ := hcut
    have HR1 := Lib.hid hr1
    have HC2 := Lib.hid hc2
    clear hr1 hc2 c0
    have hcR : (0 : Nat) < 1 := by omega
    go_wp2_with fail
    go_loopg [0, 7] n (fun gk s v wr => ∃ k l p a1 c1, hrun z nb n q 1 k = (0, p, l) ∧ k ≤ l.length ∧ gk = n - l.length ∧ l.length ≤ n ∧ s = .slice a1 (nb - p) c1 ∧ nb - p ≤ c1 ∧ c1 ≤ maxLen ∧ RowOf w a1 (nb - p) (fun j => .int .u8 (z (p + j))) ∧ wr.ownsRow B 2 1 v l.length (rowZ l) ∧ Below B w wr)
    case atStart => exact ⟨0, [], 1, a1, c1, rfl, Nat.le_refl _, rfl, Nat.zero_le _, rfl, hc1, HC2.out, HR1.out, World.ownsRow_nil _ _ _ _, Below.refl _ _⟩
    clear hc1 HC2 HR1
    clear c1 a1
    case round =>
      obtain ⟨k, l, p, a1, c1, hk, hkl, rfl, hln, rfl, hc1, hc2, hr1, ho, hb⟩ := hrel
      obtain ⟨a9, c9, rfl, hr9, _⟩ := own_reads' ho
      have HR9 := Lib.hid hr9
      clear hr9
      have hlen := hrun_len (z := z) (nb := nb) (n := n) (q := q) hp1 k
      rw [hk] at hlen
      dsimp only at hlen
      have hpnb := hlen.2.1
      clear hlen
      by_cases hlt : l.length < n
      · have i1 : (l.length : Int) < n := by omega
        obtain ⟨lack, hlack⟩ : ∃ lack, n - l.length = lack := ⟨_, rfl⟩
        have i2 : (n : Int) - l.length = lack := by omega
        have HST := fun g => hrun_step (z := z) (nb := nb) (n := n) (q := q) (p0 := 1) (k := k) (by rw [hk]) (by rw [hk]; exact hlt) g
        have HFL := fun g => hrun_fail (z := z) (nb := nb) (n := n) (q := q) (p0 := 1) (k := k) (by rw [hk]) (by rw [hk]; exact hlt) g (n - (k + 1))
        rw [hk] at HST HFL
        dsimp only at HST HFL
        rw [hlack] at HST HFL
        have hkn : k + 1 ≤ n := by omega
        rw [show k + 1 + (n - (k + 1)) = n by omega] at HFL
        have hrl := rd1_len z nb q p lack
        have FA := Lib.hid (show ∀ m : Int, m ≠ 0 → (rd1 z nb q p lack).1 = m → ∀ W, Below B w W → ZE (.returned (.tuple #[.slice none 0 0, .int .i64 m])) W from fun m hm he W hb => FAIL.out m hm (by rw [HRES.out]; show (hrun z nb n q 1 n).1 = m; rw [HFL (by rw [he]; exact hm), he]) W hb)
        have HST := Lib.hid (show ∀ p2 ys, rd1 z nb q p lack = (0, p2, ys) → hrun z nb n q 1 (k + 1) = (0, p2, l ++ ys) ∧ 1 ≤ ys.length ∧ ys.length ≤ lack ∧ p2 ≤ nb from fun p2 ys he => by
          rw [he] at HST hrl
          exact ⟨HST rfl, hrl rfl (by omega)⟩)
        have hbd := nx_bd HZ.out p
        have hok : (nx z p nb).2.2 = 0 → _ := fun hs => nx_ok hs
        have hrd : rd1 z nb q p lack = if (nx z p nb).2.2 = 0 then rd2 z nb q (p + (seen z p nb + 1)) lack (nx z p nb).1.toNat else ((nx z p nb).2.2, p, []) := rfl
        generalize rd1 z nb q p lack = r1 at *
        have RG : Calls Try.prog 45 #[.slice a1 (nb - p) c1] wr fun e w' => e = .returned (.tuple #[.int .u64 (nx z p nb).1, .int .i64 (nx z p nb).2.1, .int .i64 (nx z p nb).2.2]) ∧ wr = w' := by
          rcases hr1.below (show Below w.heap.size w wr from hB ▸ hb) with h0 | ⟨b1, o1, rfl, hcell⟩
          · exact rget_any a1 0 0 (nb - p) c1 (seen z p nb) (zt z p nb) (fun j => zt_bytes HZ.out p j) hc1 (by unfold maxLen at hc2; omega) (seen_last z p nb) wr (.inl h0) (fun j hj => by omega)
          · exact rget_any (some ⟨b1, o1, none⟩) b1 o1 (nb - p) c1 (seen z p nb) (zt z p nb) (fun j => zt_bytes HZ.out p j) hc1 (by unfold maxLen at hc2; omega) (seen_last z p nb) wr (.inr rfl) (fun j hj => by
              rw [hcell j hj]
              unfold zt
              rw [if_pos (by omega)])
        have HO := Lib.hid ho
        have HBW := Lib.hid hb
        have HRW := Lib.hid hr1
        have hcx : (c1 : Int) ≤ 9223372036854775807 := by unfold maxLen at hc2; omega
        have hcy : ((nb - p : Nat) : Int) ≤ c1 := by omega
        by_cases hs : (nx z p nb).2.2 = 0
        · obtain ⟨hk1, hk2, hk3⟩ := hok hs
          rw [if_pos hs] at hrd
          rw [hk3, hs] at RG
          obtain ⟨x, hx⟩ : ∃ x : Nat, (nx z p nb).1 = x := ⟨(nx z p nb).1.toNat, by omega⟩
          rw [hx, Int.toNat_natCast] at hrd
          rw [hx] at RG hbd
          have hx64 : x < 18446744073709551616 := by omega
          obtain ⟨f1, hf1⟩ : ∃ f1, seen z p nb + 1 = f1 := ⟨_, rfl⟩
          rw [hf1] at RG hrd
          have hfn : f1 ≤ nb - p := by omega
          have HF1 := Lib.hid hfn
          have RG := Lib.hid RG
          have q1 : (f1 : Int) ≤ ((nb - p : Nat) : Int) := by omega
          have q5 : 1 ≤ f1 := by omega
          have HRD := Lib.hid hrd
          have HC12 := Lib.hid (And.intro hc1 hc2)
          clear hk1 hk2 hk3 hx hbd hok hs hf1 hrl HFL hk ho hb hr1 hrd hc2 hlack
          go_upto_region 14 with (go_at_call 45; refine RG.out.mono ?_; rintro e w1 ⟨rfl, rfl⟩)
          go_cut [0] from 31 to 134 (fun s0 wc => (∃ a2 c2, s0 = .slice a2 (nb - (p + f1)) c2 ∧ nb - (p + f1) ≤ c2 ∧ c2 ≤ maxLen ∧ RowOf w a2 (nb - (p + f1)) (fun j => .int .u8 (z (p + f1 + j)))) ∧ wr = wc)
          case first =>
            have hc2 := HC12.out.2
            by_cases hcc : c1 = f1
            · have hc0 : nb - (p + f1) = 0 := by omega
              go_wp2
              go_meet
              exact ⟨⟨_, 0, by rw [hc0, show nb - p - f1 = 0 by omega], by omega, Nat.zero_le _, .inl hc0⟩, rfl⟩
            · go_wp2
              go_meet
              exact ⟨⟨_, _, by rw [Nat.sub_sub], by omega, by omega, row_behind HRW.out hfn hcc⟩, rfl⟩
          case rest =>
            obtain ⟨⟨a2, c2, rfl, hc3, hc4, hr2⟩, rfl⟩ := hcut
            have HR2 := Lib.hid hr2
            have HC34 := Lib.hid (And.intro hc3 hc4)
            clear hr2 hc3 hc4 hcx hcy HRW RG
            obtain ⟨p1, hp1e⟩ : ∃ p1, p + f1 = p1 := ⟨_, rfl⟩
            have hp1n : p1 ≤ nb := by have := HF1.out; omega
            rw [hp1e] at HR2 HC34 HRD
            rw [hp1e]
            clear hp1e hcR hpnb q1 q5 HF1 HC12 hc1
            obtain ⟨m1, hm1⟩ : ∃ m1, nb - p1 = m1 := ⟨_, rfl⟩
            rw [hm1] at HR2 HC34
            rw [hm1]
            have hm1n : m1 ≤ 10000 := by omega
            have HM1 := Lib.hid hm1
            clear hm1
            obtain ⟨c, hc⟩ : ∃ c, x / 2 = c := ⟨_, rfl⟩
            have q2 : (x : Int) / 2 = (c : Int) := by omega
            have hlw : IntKind.u64.wrap (lack : Int) = (lack : Int) := by simp [IntKind.wrap, IntKind.bits, IntKind.signed]; omega
            have hrd : r1 = _ := HRD.out
            unfold rd2 at hrd
            rw [hc] at hrd
            have HX := Lib.hid hc
            clear hc HRD
            by_cases h1 : c = 0
            · have FL := Lib.hid (FA.out 7 (by decide) (by rw [hrd, if_pos h1]) wr HBW.out)
              subst h1
              clear hrd FA HST
              go_wp2
              exact FL.out
            rw [if_neg h1] at hrd
            have hcne : ((c : Int) == 0) = false := beq_eq_false_iff_ne.mpr (by omega)
            have hc1 : 1 ≤ c := by omega
            have HZ1 := Lib.hid (show ∀ i, i < m1 → 0 ≤ z (p1 + i) ∧ z (p1 + i) ≤ 255 from fun i hi => HZ.out _ (by have := HM1.out; omega))
            by_cases h2 : x % 2 = 0
            · rw [if_pos h2] at hrd
              have q3 : (x : Int) % 2 = 0 := by omega
              clear h2 HX h1
              by_cases h3 : lack < c
              · have FL := Lib.hid (FA.out 7 (by decide) (by rw [hrd, if_pos h3]) wr HBW.out)
                have h3i : (lack : Int) < c := by omega
                clear hrd FA HST
                go_wp2
                exact FL.out
              rw [if_neg h3] at hrd
              have h3i : ¬ (lack : Int) < c := by omega
              rw [HS8.out] at hrd
              by_cases h4 : nb < p1 + s8
              · have FL := Lib.hid (FA.out 1 (by decide) (by rw [hrd, if_pos h4]) wr HBW.out)
                have h4i : (m1 : Int) < s8 := by have := HM1.out; omega
                clear hrd FA HST
                go_wp2
                exact FL.out
              rw [if_neg h4] at hrd
              have h4n : s8 ≤ m1 := by have := HM1.out; omega
              have h4i : ¬ (m1 : Int) < s8 := by omega
              have h4j : (s8 : Int) ≤ m1 := by omega
              obtain ⟨M, hM⟩ : ∃ M, num (fun i => z (p1 + i)) s8 = M := ⟨_, rfl⟩
              rw [hM] at hrd
              have hM64 : M < 18446744073709551616 := by
                have h5 := num_lt (fun i => z (p1 + i)) s8 (fun i hi => HZ1.out i (by omega))
                rw [hM] at h5
                have h6 : (256 : Nat) ^ s8 ≤ 256 ^ 8 := Nat.pow_le_pow_right (by decide) hs8
                have e : (256 : Nat) ^ 8 = 18446744073709551616 := by decide
                omega
              have NU := rnumber3_any a2 s8 c2 (fun i => z (p1 + i)) hs8 (fun i hi => HZ1.out i (by omega)) wr (by
                have h5 := HR2.out.below (show Below w.heap.size w wr from hB ▸ HBW.out)
                rcases h5 with h6 | ⟨b1, o1, e1, hcell⟩
                · exact .inl (by omega)
                · exact .inr ⟨b1, o1, e1, fun i hi => hcell i (by omega)⟩)
              rw [hM] at NU
              have NU := Lib.hid NU
              have c2a : (m1 : Int) ≤ c2 := by have := HC34.out.1; omega
              have c2b : (c2 : Int) ≤ 9223372036854775807 := by have := HC34.out.2; unfold maxLen at this; omega
              by_cases h5 : M < 2 ^ q
              · have RF := Lib.hid (fun W => rfits_any M q hM64 hq64 true (decide_eq_true h5) W)
                rw [if_pos h5] at hrd
                have hst := HST.out _ _ hrd
                have HST2 := Lib.hid hst
                have hcl : c ≤ lack := by omega
                clear hrd FA HST h5 hM hst
                go_upto_region 27 with (first
                  | (go_at_call 46; refine NU.out.mono ?_; rintro e w1 ⟨rfl, rfl⟩)
                  | (go_at_call 47; refine (RF.out _).mono ?_; rintro e w1 ⟨rfl, rfl⟩))
                go_cut [0] from 31 to 134 (fun s0 wc => (∃ a3 c3, s0 = .slice a3 (nb - (p1 + s8)) c3 ∧ nb - (p1 + s8) ≤ c3 ∧ c3 ≤ maxLen ∧ RowOf w a3 (nb - (p1 + s8)) (fun j => .int .u8 (z (p1 + s8 + j)))) ∧ wr = wc)
                case first =>
                  have hmm := HM1.out
                  have hc2 := HC34.out.2
                  have hc2' := HC34.out.1
                  have HMX := HM1
                  clear HST2
                  by_cases hcc : c2 = s8
                  · have hc0 : nb - (p1 + s8) = 0 := by omega
                    have hc00 : m1 - s8 = 0 := by omega
                    clear hmm
                    go_wp2
                    go_meet
                    exact ⟨⟨_, 0, by rw [hc0], by omega, Nat.zero_le _, .inl hc0⟩, rfl⟩
                  · clear hmm
                    go_wp2
                    go_meet
                    have hmm := HMX.out
                    exact ⟨⟨_, _, by rw [show nb - (p1 + s8) = m1 - s8 by omega], by omega, by omega, row_behind (by rw [hmm]; exact HR2.out) (by omega) hcc⟩, rfl⟩
                case rest =>
                  obtain ⟨⟨a3, c3, rfl, hc3, hc4, hr3⟩, rfl⟩ := hcut
                  have HR3 := Lib.hid hr3
                  have HC5 := Lib.hid (And.intro hc3 hc4)
                  clear hr3 hc3 hc4 HR2 HC34 NU RF c2a c2b
                  have ZG := Lib.hid (fun W => rzag_any (M : Int) (by omega) (by omega) W)
                  have HRR := Lib.hid (show ∀ i, l ++ List.replicate (i + 1) M = (l ++ List.replicate i M) ++ [M] from fun i => by rw [List.replicate_succ', List.append_assoc])
                  have HRL := Lib.hid (show ∀ i, (l ++ List.replicate i M).length = l.length + i from fun i => by rw [List.length_append, List.length_replicate])
                  go_wp2_with fail
                  go_loopg [7, 14] c (fun gk v x wl => ∃ i : Nat, i ≤ c ∧ gk = c - i ∧ x = .int .u64 i ∧ wl.ownsRow B 2 1 v (l ++ List.replicate i M).length (rowZ (l ++ List.replicate i M)) ∧ Below B w wl)
                  case atStart => exact ⟨0, Nat.zero_le _, rfl, rfl, by rw [show l ++ List.replicate 0 M = l from List.append_nil l]; exact HO.out, HBW.out⟩
                  case round =>
                    obtain ⟨i, hic, rfl, rfl, ho2, hb2⟩ := hrel
                    have HO2 := Lib.hid ho2
                    have HB2 := Lib.hid hb2
                    have hBs : B ≤ wr.heap.size := by have := hb2.size; omega
                    by_cases hil : i < c
                    · have j1 : (i : Int) < c := by omega
                      have hrr := HRR.out i
                      have hl2 := HRL.out i
                      obtain ⟨l2, hl2e⟩ : ∃ l2, l ++ List.replicate i M = l2 := ⟨_, rfl⟩
                      rw [hl2e] at HO2 hrr hl2
                      have hl2b : l2.length ≤ 1024 := by omega
                      have HRR2 := Lib.hid hrr
                      have HL2 := Lib.hid hl2
                      clear ho2 hb2 hl2e hrr hl2
                      go_wp2_with (first
                        | (go_at_call 48; refine (ZG.out _).mono ?_; rintro e w1 ⟨rfl, rfl⟩)
                        | (at_builtin; go_must (refine wpList_append_own_at _ rfl _ _ 22 rfl B 2 i0 (.int .i64 0) 1 8 Try.underlying22 hi hz0 hz1 hz2 rfl (by decide) _ _ _ rfl (HO2.out.alloc _) ⟨wr.heap.size, 0, none⟩ 1 1 [.int .i64 (zag M)] rfl rfl (cell_one_new _ _ _) (by simp [Value.oneCell']) (by unfold maxLen; omega) (by omega) (by simp; omega) ?_); intro v2 w2 hown2 hgrow2 _ _; have HO3 := Lib.hid hown2; have HG3 := Lib.hid hgrow2; clear hown2 hgrow2))
                      go_roundg (c - (i + 1))
                      case rel => exact ⟨i + 1, by omega, rfl, by go_num, by rw [HRR2.out, rowZ_more, List.length_append]; exact HO3.out, (HB2.out.alloc hBs _).grown HG3.out (by simp; omega) (fun j hj => (HO2.out.lt j hj).1)⟩
                      case measure => omega
                    · obtain rfl : i = c := by omega
                      have j1 : ¬ (i : Int) < i := by omega
                      have hl2 := HRL.out i
                      have hst := HST2.out
                      obtain ⟨l2, hl2e⟩ : ∃ l2, l ++ List.replicate i M = l2 := ⟨_, rfl⟩
                      rw [hl2e] at HO2 hl2 hst
                      have HST3 := Lib.hid hst
                      have HL2 := Lib.hid hl2
                      clear ho2 hb2 hl2e hl2 hst
                      go_wp2_with fail
                      go_roundg (n - l2.length)
                      case rel => exact ⟨k + 1, l2, p1 + s8, a3, c3, HST3.out.1, by have := HL2.out; omega, rfl, by have := HL2.out; omega, rfl, HC5.out.1, HC5.out.2, HR3.out, HO2.out, HB2.out⟩
                      case measure => have := HL2.out; omega
              · have RF := Lib.hid (fun W => rfits_any M q hM64 hq64 false (decide_eq_false h5) W)
                rw [if_neg h5] at hrd
                have FL := Lib.hid (FA.out 4 (by decide) (by rw [hrd]) wr HBW.out)
                clear hrd FA HST h5 hM
                go_wp2_with (first
                  | (go_at_call 46; refine NU.out.mono ?_; rintro e w1 ⟨rfl, rfl⟩)
                  | (go_at_call 47; refine (RF.out _).mono ?_; rintro e w1 ⟨rfl, rfl⟩))
                exact FL.out
            · rw [if_neg h2] at hrd
              have q3 : (x : Int) % 2 = 1 := by omega
              have q3b : ((1 : Int) == 0) = false := by decide
              obtain ⟨G, hG⟩ : ∃ G, grp lack = G := ⟨_, rfl⟩
              have q6 : ((lack : Int) + 7) / 8 = (G : Int) := by rw [← hG]; unfold grp; omega
              have hGb : G ≤ 128 := by rw [← hG]; unfold grp; omega
              have hgw : IntKind.u64.wrap (G : Int) = (G : Int) := by simp [IntKind.wrap, IntKind.bits, IntKind.signed]; omega
              rw [hG] at hrd
              have HG := Lib.hid hG
              clear h2 HX h1 hG
              by_cases h3 : G < c
              · have FL := Lib.hid (FA.out 7 (by decide) (by rw [hrd, if_pos h3]) wr HBW.out)
                have h3i : (G : Int) < c := by omega
                clear hrd FA HST
                go_wp2
                exact FL.out
              rw [if_neg h3] at hrd
              have h3i : ¬ (G : Int) < c := by omega
              have hc64 : (c : Int) ≤ 9223372036854775807 := by omega
              obtain ⟨s, hs⟩ : ∃ s, c * q = s := ⟨_, rfl⟩
              have hcq : (c : Int) * (q : Int) = (s : Int) := by rw [← hs, Int.natCast_mul]
              have hsb : s ≤ 8192 := by
                have : c * q ≤ 128 * 64 := Nat.mul_le_mul (by omega) hq64
                omega
              rw [hs] at hrd
              have HSS := Lib.hid hs
              clear hs
              by_cases h4 : nb < p1 + s
              · have FL := Lib.hid (FA.out 1 (by decide) (by rw [hrd, if_pos h4]) wr HBW.out)
                have h4i : (m1 : Int) < s := by have := HM1.out; omega
                clear hrd FA HST
                go_wp2
                exact FL.out
              rw [if_neg h4] at hrd
              have h4n : s ≤ m1 := by have := HM1.out; omega
              have h4i : ¬ (m1 : Int) < s := by omega
              have h4j : (s : Int) ≤ m1 := by omega
              obtain ⟨u, hu⟩ : ∃ u, unN q (num (fun i => z (p1 + i)) s) = u := ⟨_, rfl⟩
              rw [hu] at hrd
              have HU := Lib.hid (show ∀ i, i < 8 * c → num (fun i => z (p1 + i)) m1 / 2 ^ (i * q) % 2 ^ q = u i from fun i hi => by
                rw [rnum_part (fun i => z (p1 + i)) m1 c q i (by rw [HSS.out]; exact h4n) hi, HSS.out, hu])
              have HUL := Lib.hid (show ∀ i, u i < 18446744073709551616 from fun i => by
                have h5 := unN_lt q (num (fun i => z (p1 + i)) s) i
                rw [hu] at h5
                have := pow_le64 hq64
                omega)
              obtain ⟨N, hN⟩ : ∃ N, 8 * c = N := ⟨_, rfl⟩
              rw [hN] at hrd HU
              have q4 : (8 : Int) * (c : Int) = (N : Int) := by omega
              have hN2 : N ≤ 1024 := by omega
              have HN := Lib.hid hN
              have c2a : (m1 : Int) ≤ c2 := by have := HC34.out.1; omega
              have c2b : (c2 : Int) ≤ 9223372036854775807 := by have := HC34.out.2; unfold maxLen at this; omega
              have HALL := Lib.hid (all_iff u N lack)
              have HRD := Lib.hid hrd
              clear hrd hN hu h4
              go_wp2_with fail
              go_loopg [7, 15] N (fun gk v x wl => ∃ i : Nat, i ≤ N ∧ gk = N - i ∧ x = .int .i64 i ∧ (∀ j, j < i → lack ≤ j → u j = 0) ∧ wl.ownsRow B 2 1 v (l ++ (List.range (min i lack)).map u).length (rowZ (l ++ (List.range (min i lack)).map u)) ∧ Below B w wl)
              case atStart => exact ⟨0, Nat.zero_le _, rfl, rfl, fun j hj => absurd hj (Nat.not_lt_zero _), by rw [Nat.zero_min, List.range_zero, List.map_nil, List.append_nil]; exact HO.out, HBW.out⟩
              case round =>
                obtain ⟨i, hiN, rfl, rfl, hz0, ho2, hb2⟩ := hrel
                have HZJ := Lib.hid hz0
                have HO2 := Lib.hid ho2
                have HB2 := Lib.hid hb2
                have hBs : B ≤ wr.heap.size := by have := hb2.size; omega
                have hl2 : (l ++ (List.range (min i lack)).map u).length = l.length + min i lack := by simp
                by_cases hil : i < N
                · have j1 : (i : Int) < N := by omega
                  have j0 : (0 : Int) ≤ i := by omega
                  obtain ⟨f, hf⟩ : ∃ f, i * q = f := ⟨_, rfl⟩
                  have hiq : (i : Int) * (q : Int) = (f : Int) := by rw [← hf, Int.natCast_mul]
                  have hfb : f ≤ 65536 := by
                    have : i * q ≤ 1024 * 64 := Nat.mul_le_mul (by omega) hq64
                    omega
                  have hfk : f + q ≤ 8 * m1 := by
                    have h5 : (i + 1) * q ≤ 8 * c * q := Nat.mul_le_mul_right q (by have := HN.out; omega)
                    rw [Nat.add_mul, Nat.one_mul, hf, Nat.mul_assoc, HSS.out] at h5
                    omega
                  have NU := number_any a2 m1 c2 (fun i => z (p1 + i)) HZ1.out hm1n f q hq64 hfk wr (HR2.out.below (show Below w.heap.size w wr from hB ▸ hb2))
                  rw [← hf, HU.out i hil, hf] at NU
                  have NU := Lib.hid NU
                  have hul := HUL.out i
                  obtain ⟨v, hv⟩ : ∃ v, u i = v := ⟨_, rfl⟩
                  rw [hv] at NU hul
                  have HV := Lib.hid hv
                  obtain ⟨l2, hl2e⟩ : ∃ l2, l ++ (List.range (min i lack)).map u = l2 := ⟨_, rfl⟩
                  have HL2E := Lib.hid hl2e
                  rw [hl2e] at HO2 hl2
                  have hl2b : l2.length ≤ 1024 := by omega
                  clear hz0 ho2 hb2 hf hv hl2e hl2
                  by_cases hla : i < lack
                  · have j2 : ¬ (lack : Int) ≤ i := by omega
                    have ZG := Lib.hid (fun W => rzag_any (v : Int) (by omega) (by omega) W)
                    go_wp2_with (first
                      | (go_at_call 49; refine NU.out.mono ?_; rintro e w1 ⟨rfl, rfl⟩)
                      | (go_at_call 48; refine (ZG.out _).mono ?_; rintro e w1 ⟨rfl, rfl⟩)
                      | (at_builtin; go_must (refine wpList_append_own_at _ rfl _ _ 22 rfl B 2 i0 (.int .i64 0) 1 8 Try.underlying22 hi hz0 hz1 hz2 rfl (by decide) _ _ _ rfl (HO2.out.alloc _) ⟨wr.heap.size, 0, none⟩ 1 1 [.int .i64 (zag v)] rfl rfl (cell_one_new _ _ _) (by simp [Value.oneCell']) (by unfold maxLen; omega) (by omega) (by simp; omega) ?_); intro v2 w2 hown2 hgrow2 _ _; have HO3 := Lib.hid hown2; have HG3 := Lib.hid hgrow2; clear hown2 hgrow2))
                    go_roundg (N - (i + 1))
                    case rel =>
                      have hmm : l ++ (List.range (min (i + 1) lack)).map u = l2 ++ [v] := by
                        rw [← HL2E.out, Nat.min_eq_left (by omega), Nat.min_eq_left (by omega), List.range_succ, List.map_append, List.append_assoc, ← HV.out]; rfl
                      exact ⟨i + 1, by omega, rfl, by go_num, fun j hj hl => by omega, by rw [hmm, rowZ_more, List.length_append]; exact HO3.out, (HB2.out.alloc hBs _).grown HG3.out (by simp; omega) (fun j hj => (HO2.out.lt j hj).1)⟩
                    case measure => omega
                  · have j2 : (lack : Int) ≤ i := by omega
                    by_cases hv0 : v = 0
                    · subst hv0
                      go_wp2_with (go_at_call 49; refine NU.out.mono ?_; rintro e w1 ⟨rfl, rfl⟩)
                      go_roundg (N - (i + 1))
                      case rel =>
                        have hmm : l ++ (List.range (min (i + 1) lack)).map u = l2 := by
                          rw [← HL2E.out, Nat.min_eq_right (by omega), Nat.min_eq_right (by omega)]
                        exact ⟨i + 1, by omega, rfl, by go_num, fun j hj hl => by
                          rcases Nat.lt_or_ge j i with h7 | h7
                          · exact HZJ.out j h7 hl
                          · obtain rfl : j = i := by omega
                            exact HV.out, by rw [hmm]; exact HO2.out, HB2.out⟩
                      case measure => omega
                    · have FL := Lib.hid (FA.out 3 (by decide) (by
                        rw [HRD.out, if_neg (fun h => hv0 (by rw [← HV.out]; exact HALL.out.1 h i hil (by omega)))]) wr HB2.out)
                      have hvb : ((v : Int) == 0) = false := beq_eq_false_iff_ne.mpr (by omega)
                      clear FA
                      go_wp2_with (go_at_call 49; refine NU.out.mono ?_; rintro e w1 ⟨rfl, rfl⟩)
                      exact FL.out
                · obtain rfl : i = N := by omega
                  have j1 : ¬ (i : Int) < i := by omega
                  have hst := HST.out _ _ (HRD.out.trans (by rw [if_pos (HALL.out.2 (fun j hj hl => HZJ.out j hj hl))]))
                  obtain ⟨l2, hl2e⟩ : ∃ l2, l ++ (List.range (min i lack)).map u = l2 := ⟨_, rfl⟩
                  rw [hl2e] at HO2 hl2 hst
                  have HST3 := Lib.hid hst
                  have HL2 := Lib.hid (show l2.length ≤ n ∧ k + 1 ≤ l2.length ∧ l.length + 1 ≤ l2.length from by omega)
                  clear hz0 ho2 hb2 hl2e hst hl2
                  have hmm := HM1.out
                  by_cases hcc : c2 = s
                  · have hc0 : nb - (p1 + s) = 0 := by omega
                    have hc00 : m1 - s = 0 := by have := HC34.out.1; omega
                    have HMM := Lib.hid hmm
                    clear hmm
                    go_wp2_with fail
                    go_roundg (n - l2.length)
                    case rel => exact ⟨k + 1, l2, p1 + s, a2, 0, HST3.out.1, HL2.out.2.1, rfl, HL2.out.1, by rw [hc0], by omega, Nat.zero_le _, .inl hc0, HO2.out, HB2.out⟩
                    case measure => have := HL2.out; omega
                  · have HMM := Lib.hid hmm
                    clear hmm
                    go_wp2_with fail
                    go_roundg (n - l2.length)
                    case rel => exact ⟨k + 1, l2, p1 + s, _, _, HST3.out.1, HL2.out.2.1, rfl, HL2.out.1, by rw [show nb - (p1 + s) = m1 - s by have := HMM.out; omega], by have := HMM.out; have := HC34.out.1; omega, by have := HC34.out.2; omega, row_behind (by rw [HMM.out]; exact HR2.out) (by rw [HMM.out]; exact h4n) hcc, HO2.out, HB2.out⟩
                    case measure => have := HL2.out; omega
        · have FL := Lib.hid (FA.out _ hs (by rw [hrd, if_neg hs]) wr hb)
          generalize (nx z p nb).1 = v1 at *
          generalize (nx z p nb).2.1 = v2 at *
          generalize (nx z p nb).2.2 = e3 at *
          have RG := Lib.hid RG
          have he3 : ((e3 : Int) == 0) = false := beq_eq_false_iff_ne.mpr hs
          clear hok hbd hrd hb ho hr1 hk FA HST HFL hrl
          go_wp2_with (go_at_call 45; refine RG.out.mono ?_; rintro e w1 ⟨rfl, rfl⟩)
          exact FL.out
      · have hend := hrun_end (z := z) (nb := nb) (n := n) (q := q) (p0 := 1) (k := k) hp1 (by rw [hk]) (by rw [hk]; exact hlt) (by omega)
        rw [hk] at hend
        obtain ⟨he1, he2⟩ := hend
        dsimp only at he2
        have hres2 := HRES.out
        rw [he1] at hres2
        dsimp only at hres2
        have i1 : ¬ (l.length : Int) < n := by omega
        have hb' : Below w.heap.size w wr := hB ▸ hb
        by_cases hpl : p < nb
        · have FL := Lib.hid (show ZE (.returned (.tuple #[.slice none 0 0, .int .i64 2])) wr from by
            have h1 : herr z n nb = 2 := by unfold herr rerr; rw [hres2]; simp [hpl]
            have h2 : hnums z n nb = [] := by unfold hnums rnums; rw [if_neg (by show ¬ herr z n nb = 0; rw [h1]; decide)]
            rw [← HZE.out]
            exact ⟨none, 0, by rw [h1, h2]; rfl, by rw [h2]; exact .inl rfl, hb'⟩)
          have h3 : (0 : Int) < ((nb - p : Nat) : Int) := by omega
          clear hb hb' ho hr1 hk he1 he2 hres2
          go_wp2
          exact FL.out
        · have h3 : nb - p = 0 := by omega
          have FL := Lib.hid (show ZE (.returned (.tuple #[.slice a9 l.length c9, .int .i64 0])) wr from by
            have h1 : herr z n nb = 0 := by unfold herr rerr; rw [hres2]; simp [hpl]
            have h2 : hnums z n nb = l.map fun v => zag (v : Nat) := by unfold hnums rnums; rw [if_pos (show rerr _ _ _ = 0 from h1), hres2]
            rw [← HZE.out]
            refine ⟨a9, c9, by rw [h1, h2, List.length_map], ?_, hb'⟩
            rw [h2, List.length_map]
            exact HR9.out.congr fun i hi => by simp only [List.getD_eq_getElem?_getD, List.getElem?_map, List.getElem?_eq_getElem hi]; rfl)
          clear hb hb' ho hr1 hk he1 he2 hres2
          go_wp2
          exact FL.out
end Go.Proofs.Ythonjffojaljdaa

