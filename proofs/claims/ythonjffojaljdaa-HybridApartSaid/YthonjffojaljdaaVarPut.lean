/-
  CONTRACT OF varint.Put behind nothing, in any world, for any number: a slice of its own that holds the number's short bytes; nothing that lay is turned. No condition.
-/
import Derived.Test.YthonjffojaljdaaRows
import Derived.Test.YthonjffojaljdaaWordsB
import Derived.Test.YthonjffojaljdaaHybM1
import Derived.RangeFuncBox
import Derived.RangeFuncLeaves
import Derived.Shelf.Abstract
import Derived.WalkKit
import Derived.WalkLawsBesides
import Derived.WalkSpells
import Derived.OwnWalkIn
import Derived.TacticsInMore
import Derived.LoopNIn
import Derived.LoopIn
import Derived.Maps.AppendAt
import Derived.Laws.BitsAllLaws
import Derived.Lib.Hide
import Derived.Outline
import Derived.Deep.DeepMust
namespace Go.Proofs.Ythonjffojaljdaa
open Go.RowKit Go.Shelf
set_option linter.unusedVariables false
attribute [local go_sem] Oper.semAt_some

theorem or128 (r : Nat) : Go.bits .or .u8 ((r : Int) % 256) 128 = ((r % 128 + 128 : Nat) : Int) := by
  have e : (r : Int) % 256 = ((r % 256 : Nat) : Int) := by omega
  rw [e, u8_or _ _ (by omega) (by omega) (by decide) (by decide)]
  have h128 : (128 : Int).toNat = 128 := rfl
  rw [Int.toNat_natCast, h128]
  have h : ∀ x : Fin 256, (x.val ||| 128) = x.val % 128 + 128 := by decide +kernel
  have := h ⟨r % 256, Nat.mod_lt _ (by decide)⟩
  simp only at this
  rw [this]
  omega
set_option maxRecDepth 100000 in
set_option maxHeartbeats 1000000 in
theorem digits1_in (F : Fence) (n : Nat) (h6 : F.fn 126) (hro : F.round = none) (hn : 1 ≤ n) (l Bn n₀ v : Nat) (hv : v < 18446744073709551616) (J Jx : List Int → World → Prop)
    (hY : ∀ pre x W, J pre W → pre.length < (digs 9 v).length → YieldAt F (n - 1) Try.prog l #[.int .u8 x] W fun e W' =>
      (e = .returned (.bool true) ∧ J (pre ++ [x]) W' ∧ Below n₀ W W') ∨ (e = .returned (.bool false) ∧ Jx (pre ++ [x]) W'))
    (W : World) (hBn : W.cell? ⟨Bn, 0, none⟩ = some (.int .u64 v)) (h0 : J [] W) :
    CallsIn F n Try.prog 126 #[.func (.yield l) #[] #[], .pointer (some ⟨Bn, 0, none⟩)] W fun e W' => (∃ v, e = .returned v) ∧
      ((∃ ys, ys = digs 9 v ∧ J ys W') ∨ (∃ pre, pre <+: digs 9 v ∧ Jx pre W')) := by
  refine callsIn_of_wp Try.func126 rfl h6 ?_ hro
  simp only [Try.ntmps126, List.size_toArray, List.length_cons, List.length_nil, Nat.reduceAdd, Nat.reduceSub, Array.replicate_succ, Array.replicate_zero, List.push_toArray, List.append_toArray, List.nil_append, List.cons_append]
  gi_wp2
  gi_loopw [3] (fun p wr => ∃ (pre : List Int) (k r : Nat), p = .int .u64 r ∧ digs 9 v = pre ++ digs k r ∧ r < 18446744073709551616 ∧ r < 128 ^ (k + 1) ∧ J pre wr)
    (fun p wr => (intOf p).toNat)
  case atStart =>
    exact ⟨[], 9, v, rfl, rfl, hv, by omega, h0⟩
  case round =>
    obtain ⟨pre, k, r, rfl, hx, hr, hk, hJs⟩ := hrel
    by_cases c : r ≤ 127
    · have hd : digs k r = [(r : Int)] := by cases k <;> simp [digs, c]
      rw [hd] at hx
      obtain ⟨fn, tmps, assign, body, hy, hR⟩ := hY pre r wr hJs (by rw [hx]; simp)
      have hcv : (r : Int) % 256 = r := by omega
      have hc : ¬ (127 : Int) < r := by omega
      gi_wp2
      refine hR.mono ?_
      rintro e W3 (⟨rfl, hJ3, hk3⟩ | ⟨rfl, hJx3⟩)
      · gi_wp2
        go_end0
        exact ⟨⟨_, rfl⟩, .inl ⟨_, hx.symm ▸ rfl, hx ▸ hJ3⟩⟩
      · gi_wp2
        go_end0
        exact ⟨⟨_, rfl⟩, .inr ⟨pre ++ [(r : Int)], ⟨[], by simp [hx]⟩, hJx3⟩⟩
    · obtain ⟨k, rfl⟩ : ∃ k', k = k' + 1 := ⟨k - 1, by
        rcases Nat.eq_zero_or_pos k with h | h
        · subst h; omega
        · omega⟩
      have hd : digs (k + 1) r = ((r % 128 + 128 : Nat) : Int) :: digs k (r / 128) := by simp [digs, c]
      rw [hd] at hx
      obtain ⟨x, hxe⟩ : ∃ x : Int, ((r % 128 + 128 : Nat) : Int) = x := ⟨_, rfl⟩
      have hcv : Go.bits .or .u8 ((r : Int) % 256) 128 = x := (or128 r).trans hxe
      rw [hxe] at hx
      clear hxe hd
      obtain ⟨fn, tmps, assign, body, hy, hR⟩ := hY pre x wr hJs (by rw [hx]; simp)
      have hc : (127 : Int) < r := by omega
      gi_wp2
      refine hR.mono ?_
      rintro e W3 (⟨rfl, hJ3, hk3⟩ | ⟨rfl, hJx3⟩)
      · gi_wp2
        go_roundw
        case rel => exact ⟨pre ++ [x], k, r / 128, by go_num, by simp [hx], by omega, by rw [Nat.pow_succ] at hk; omega, hJ3⟩
        case measure => simp [intOf]; omega
      · gi_wp2
        refine bodyPost_ret (results_none rfl _ _ _) rfl ?_
        exact ⟨⟨_, rfl⟩, .inr ⟨pre ++ [x], ⟨digs k (r / 128), by simp [hx]⟩, hJx3⟩⟩
set_option maxHeartbeats 1000000 in
theorem digits_in (F : Fence) (n : Nat) (h5 : F.fn 98) (hro : F.round = none) (v : Int) (w : World) :
    CallsIn F n Try.prog 98 #[.int .u64 v] w fun e w' => e = .returned (.func (.func 126) #[] #[.pointer (some ⟨w.heap.size, 0, none⟩)]) ∧ w' = w.alloc (.cells #[.int .u64 v] 40) := by
  refine callsIn_of_wp Try.func98 rfl h5 ?_ hro
  simp only [Try.ntmps98, List.size_toArray, List.length_cons, List.length_nil, Nat.reduceAdd, Nat.reduceSub, Array.replicate_succ, Array.replicate_zero, List.push_toArray, List.append_toArray, List.nil_append, List.cons_append]
  gi_wp2
  go_ret
  exact ⟨rfl, rfl⟩
theorem digits_stops (F : Fence) (n : Nat) (h6 : F.fn 126) (hro : F.round = none) (hn : 1 ≤ n) (Bn n₀ v : Nat) (hv : v < 18446744073709551616) (w : World) (hBn : Bn < w.heap.size)
    (hc : w.cell? ⟨Bn, 0, none⟩ = some (.int .u64 v)) :
    SeqStopsK F n Try.prog 126 #[.pointer (some ⟨Bn, 0, none⟩)] (fun x : Int => #[Value.int .u8 x]) (Below n₀) (fun ys => ys = digs 9 v) (fun pre => pre <+: digs 9 v) (digs 9 v).length w := fun l J Jx W hW _ _ hY h0 =>
  digits1_in F n h6 hro hn l Bn n₀ v hv J Jx hY W ((hW.cell (p := ⟨Bn, 0, none⟩) hBn).trans hc) h0
theorem digs_len : ∀ k v, (digs k v).length ≤ k + 1
  | 0, v => by simp [digs]
  | k + 1, v => by
    unfold digs
    split
    · simp
    · have := digs_len k (v / 128); simp; omega
theorem append_none (g cap c ty : Nat) (w : World) : (Builtin.append_ #[26, 26] ty #[.slice (some ⟨g, 0, none⟩) 0 cap, .slice none 0 c]).run Try.prog w = .ok (.slice (some ⟨g, 0, none⟩) 0 cap) w := by
  obtain ⟨i0, hi, hz0, hz1, hz2⟩ := info_parts byteInfo
  simp [Builtin.append_, run_underlying Try.underlying26, sizeOf, typeInfo, hi, Builtin.lenOf, Builtin.firstCells, storeCells]
set_option maxRecDepth 100000 in
set_option maxHeartbeats 2000000 in
theorem put_none (v : Nat) (hv : v < 18446744073709551616) (w : World) :
    Calls Try.prog 56 #[.slice none 0 0, .int .u64 v] w fun e W' => ∃ x, e = .returned x ∧ W'.ownsRow w.heap.size 5 1 x (digs 9 v).length (cellsOf (digs 9 v)) ∧ Below w.heap.size w W' := by
  obtain ⟨i0, hi, hz0, hz1, hz2⟩ := info_parts byteInfo
  have hap := append_none
  refine (callsIn_wide (n := 3)).1 ?_
  refine callsIn_of_wp_marks Try.func56 rfl trivial ?_ rfl
  simp only [Try.ntmps56, List.size_toArray, List.length_cons, List.length_nil, Nat.reduceAdd, Nat.reduceSub, Array.replicate_succ, Array.replicate_zero, List.push_toArray, List.append_toArray, List.nil_append, List.cons_append]
  have m1 : i0.bytes * 10 ≤ 281474976710656 := by rw [hz2]; decide
  have m2 : 10 ≤ maxLen := by decide
  have M1 := Lib.hid m1
  have M2 := Lib.hid m2
  clear m1 m2
  gi_wp2_with (first | (gi_at_make; refine wpListIn_make_own _ rfl (.const (.int .i64 0)) (.tmp 9) 26 rfl w.heap.size 5 i0 (.int .u8 0) 1 Try.underlying26 hi hz0 hz1 .i64 .i64 10 10 rfl rfl rfl M1.out M2.out (Nat.le_refl _) ?_; intro w1 hown1 hg1) | (refine ⟨trivial, ?_⟩; refine (digits_in Fence.wide _ trivial rfl _ _).mono ?_; rintro e w' ⟨rfl, rfl⟩))
  have hB1 : Below w.heap.size w w1 := (Below.refl _ w).grown hg1 (Nat.le_refl _) (by simp)
  have hs1 := hB1.size
  have bO := Boxed.new w1 26 (.slice (some ⟨w.heap.size, 0, none⟩) 0 10)
  have bN := Boxed.new (w1.alloc (.cells #[.slice (some ⟨w.heap.size, 0, none⟩) 0 10] 26)) 40 (.int .u64 v)
  rw [World.size_alloc] at bN
  have hB0 : Below w.heap.size w ((w1.alloc (.cells #[.slice (some ⟨w.heap.size, 0, none⟩) 0 10] 26)).alloc (.cells #[.int .u64 v] 40)) := (hB1.alloc hs1 _).alloc (by simp; omega) _
  have hlen := digs_len 9 v
  refine wpIn_rangeFunc_ownG rfl (by decide) (gf := 126) (lb := #[.pointer (some ⟨w1.heap.size + 1, 0, none⟩)]) rfl trivial (enters_of Try.func126 (by kernel_rfl) rfl)
    (digits_stops Fence.wide 2 trivial rfl (by decide) (w1.heap.size + 1) w.heap.size v hv _ (by simp) bN.cell) belowK_t (belowK_b (by simp; omega)) (Below.refl _ _) (fun _ => rfl)
    (fun pre W => (∃ x, Boxed W w1.heap.size 26 x ∧ W.ownsRow w.heap.size 5 1 x pre.length (cellsOf pre) ∧ True) ∧ Below w.heap.size w W)
    (fun _ _ _ => False)
    (OwnFrom.and (Own.from (holdsRow_own w.heap.size w1.heap.size 26 5 1 (fun pre => pre.length) (fun pre => cellsOf pre) (fun pre v => True)) _) (ownFrom_below (Nat.le_refl _) (by simp; omega)))
    (fun _ _ _ _ _ hs _ _ => hs)
    ⟨⟨_, bO.alloc _, (hown1.alloc _).alloc _, trivial⟩, hB0⟩
    (fun x => { tmps := #[.slice none 0 0, .int .u64 v, undef, undef, .slice none 0 0, .pointer (some ⟨w1.heap.size, 0, none⟩), .int .u8 x, .slice none 0 0, .int .i64 0, .int .i64 10, .slice (some ⟨w.heap.size, 0, none⟩) 0 10, .slice (some ⟨w.heap.size, 0, none⟩) 0 10, .slice none 0 0, .slice (some ⟨w.heap.size, 0, none⟩) 0 10, .int .u64 v, .func (.func 126) #[] #[.pointer (some ⟨w1.heap.size + 1, 0, none⟩)], .int .u8 x, undef, undef, undef, undef, undef], defers := [] }) ?assign ?body ?done ?stop
  case assign =>
    intro l x W K hK
    gi_wp2
    exact hK
  case body =>
    rintro l pre x W ⟨⟨u, hu, hrow, _⟩, hB⟩ hlt
    have hc := hu.cell
    have hpl : pre.length + 1 ≤ 10 := by omega
    have m1 : pre.length + 1 ≤ maxLen := by unfold maxLen; omega
    have m2 : (pre.length + 1) * 1 ≤ 140737488355328 := by omega
    have M3 := Lib.hid m1
    have M4 := Lib.hid m2
    clear m1 m2
    have hte : (26 : Nat) ≠ 5 := by decide
    gi_wp2_with (gi_at_builtin; go_must (refine wpListIn_append_own _ rfl _ _ 26 rfl w.heap.size 5 i0 (.int .u8 0) 1 1 Try.underlying26 hi hz0 hz1 hz2 rfl (by decide) _ _ _ rfl (hrow.alloc _) ⟨W.heap.size, 0, none⟩ 1 1 [.int .u8 x] rfl rfl (cell_one_new _ _ _) (by simp [Value.oneCell']) M3.out M4.out (by have := hB.size; simp; omega) ?_); intro v' w2 hown' hgrow _; obtain ⟨g', cap', rfl⟩ := ownsRow_succ hown'; obtain ⟨hv1, hv2, hr2, hk2, hb2⟩ := hu.appended hte hrow hB.size hs1 hown' hgrow; have hc1 := hv1.cell; have hf1 := hv1.frozen)
    exact ⟨hk2.from _, hb2, ⟨_, hv2, by simpa [cellsOf] using hr2, trivial⟩, hB.trans hb2⟩
  case done =>
    rintro D ys W hD rfl ⟨⟨u, hu, hrow, _⟩, hB⟩ hK
    have hc := hu.cell
    gi_wp2
    refine ⟨by simp, .inl ⟨_, _, rfl, run_takeDeferred hK, ?_⟩⟩
    exact ⟨_, results_tmp rfl _ _ _, u, rfl, ownsRow_putObj hrow _ hK rfl, hB.trans (belowK_b (w := w) (Nat.le_refl _) W D _ _ (by simp at hD; omega) hK rfl rfl)⟩
  case stop =>
    rintro D c pre W _ _ h _
    exact h.elim
end Go.Proofs.Ythonjffojaljdaa
