/-
  CONTRACT OF pfor.count, in any world. Conditions: at most 1100 offsets, which lie in memory as told; a width of at most 64.
-/
import Derived.Test.YthonjffojaljdaaPforA
namespace Go.Proofs.Ythonjffojaljdaa
open Go.RowKit Go.Shelf
set_option linter.unusedVariables false
attribute [local go_sem] Oper.semAt_some
theorem kx_b {n₀ b1 b2 : Nat} {w : World} (hn : n₀ ≤ w.heap.size) (h1 : b1 < w.heap.size) (h2 : b2 < w.heap.size) (W : World) (l : Nat) (o o' : Obj) (hl : w.heap.size ≤ l) (h : W.heap[l]? = some o) (hc : o.isCells = false) (hw : o.isWalk = false) : KX n₀ b1 b2 W (W.putObj l o') := by
  have hs := (Array.getElem?_eq_some_iff.1 h).1
  exact ⟨belowK_b hn W l o o' hl h hc hw, (grownBy_putObj' W l o').block b1 (by omega) (by simp; omega), (grownBy_putObj' W l o').block b2 (by omega) (by simp; omega)⟩
theorem kx_set {n₀ b1 b2 g : Nat} (hg : n₀ ≤ g) (h1 : b1 ≠ g) (h2 : b2 ≠ g) (W : World) (hs : n₀ ≤ W.heap.size) (l1 : b1 < W.heap.size) (l2 : b2 < W.heap.size) (v : Value) : KX n₀ b1 b2 W (W.setCell ⟨g, 0, none⟩ v) :=
  ⟨(Below.refl n₀ W).grown (grownBy_setCell' W g v) hs (fun k e => by cases e; exact hg), (grownBy_setCell' W g v).block b1 l1 (by simp; omega), (grownBy_setCell' W g v).block b2 l2 (by simp; omega)⟩
set_option maxRecDepth 100000 in
set_option maxHeartbeats 2000000 in
theorem pcount_any (a : Option Addr) (m cap q : Nat) (v : Nat → Nat) (hm : m ≤ 1100) (hq : q ≤ 64) (hv : ∀ i, i < m → v i < 18446744073709551616) (w : World) (hrow : RowOf w a m (fun i => .int .u64 (v i : Nat))) :
    Calls Try.prog 111 #[.slice a m cap, .int .i64 q] w fun e W' => e = .returned (.int .u64 ((exS v q m).1.length : Nat)) ∧ Below w.heap.size w W' := by
  refine (callsIn_wide (n := 3)).1 ?_
  refine callsIn_of_wp_marks Try.func111 rfl trivial ?_ rfl
  simp only [Try.ntmps111, List.size_toArray, List.length_cons, List.length_nil, Nat.reduceAdd, Nat.reduceSub, Array.replicate_succ, Array.replicate_zero, List.push_toArray, List.append_toArray, List.nil_append, List.cons_append]
  gi_wp2_with (refine ⟨trivial, ?_⟩; refine (exc_in Fence.wide _ trivial rfl _ _ _ _ _).mono ?_; rintro e w' ⟨rfl, rfl⟩)
  have b0 := ((Boxed.new w 40 (.int .u64 0)).alloc (.cells #[.slice a m cap] 58)).alloc (.cells #[.int .i64 q] 3)
  have b1 := (Boxed.new (w.alloc (.cells #[.int .u64 0] 40)) 58 (.slice a m cap)).alloc (.cells #[.int .i64 q] 3)
  have b2 := Boxed.new ((w.alloc (.cells #[.int .u64 0] 40)).alloc (.cells #[.slice a m cap] 58)) 3 (.int .i64 q)
  have hB := (((Below.refl w.heap.size w).alloc (Nat.le_refl _) (.cells #[.int .u64 0] 40)).alloc (by simp) (.cells #[.slice a m cap] 58)).alloc (by simp; omega) (.cells #[.int .i64 q] 3)
  simp only [World.size_alloc] at b1 b2
  have hs3 : (((w.alloc (.cells #[.int .u64 0] 40)).alloc (.cells #[.slice a m cap] 58)).alloc (.cells #[.int .i64 q] 3)).heap.size = w.heap.size + 3 := by simp
  generalize ((w.alloc (.cells #[.int .u64 0] 40)).alloc (.cells #[.slice a m cap] 58)).alloc (.cells #[.int .i64 q] 3) = W3 at *
  have hlen := exS_len v q m
  refine wpIn_rangeFunc_ownG rfl (by decide) (gf := 133) (lb := #[.pointer (some ⟨w.heap.size + 1, 0, none⟩), .pointer (some ⟨w.heap.size + 1 + 1, 0, none⟩)]) rfl trivial (enters_of Try.func133 (by kernel_rfl) rfl)
    (exc_stops Fence.wide 2 trivial rfl (by decide) (w.heap.size + 1) (w.heap.size + 1 + 1) a m cap q v hm hq hv w hrow W3 hB b1 b2) (fun h k => h.trans k) (kx_b (by omega) (by omega) (by omega)) (Below.refl _ _) (fun _ => rfl)
    (fun pre W => Boxed W w.heap.size 40 (.int .u64 (pre.length : Nat)) ∧ Below w.heap.size w W ∧ W3.heap.size ≤ W.heap.size)
    (fun _ _ _ => False)
    (fun s W W' row hs hg hr => ⟨hs.1.kept hg (fun e => by have := (hr _ e.symm).1; omega), hs.2.1.grown hg (by omega) (fun k e => by have := (hr _ e).1; omega), Nat.le_trans hs.2.2 hg.size⟩)
    (fun _ _ _ _ _ hs _ _ => hs)
    ⟨b0, hB, Nat.le_refl _⟩
    (fun x => { tmps := #[.slice a m cap, .int .i64 q, undef, undef, .int .u64 0, .pointer (some ⟨w.heap.size, 0, none⟩), .slice a m cap, .int .i64 q, .func (.func 133) #[] #[.pointer (some ⟨w.heap.size + 1, 0, none⟩), .pointer (some ⟨w.heap.size + 1 + 1, 0, none⟩)], .int .u64 (x.1 % 18446744073709551616 : Nat), .int .u64 (x.2 % 18446744073709551616 : Nat), undef, undef, undef], defers := [] }) ?assign ?body ?done ?stop
  case assign =>
    intro l x W K hK
    gi_wp2
    first | exact hK | simpa using hK
  case body =>
    rintro l pre x W ⟨hu, hB3, hs⟩ hlt
    have hc := hu.cell
    have hf := hu.frozen
    gi_wp2
    refine ⟨(KeepsOthers.setCell W _ _).from _, kx_set (Nat.le_refl _) (by omega) (by omega) W (by omega) (by omega) (by omega) _, ?_, ?_, ?_⟩
    · have := hu.set (.int .u64 ((pre ++ [x]).length : Nat))
      simpa using this
    · exact hB3.grown (grownBy_setCell' W _ _) (by omega) (fun k e => by cases e; exact Nat.le_refl _)
    · simpa using hs
  case done =>
    rintro D ys W hD rfl ⟨hu, hB3, hs⟩ hK
    have hc := hu.cell
    gi_wp2
    refine ⟨by simp, .inl ⟨_, _, rfl, run_takeDeferred hK, ?_⟩⟩
    exact ⟨_, results_tmp rfl _ _ _, rfl, hB3.trans (belowK_b (w := W3) (by omega) W D _ _ hD hK rfl rfl)⟩
  case stop =>
    rintro D c pre W _ _ h _
    exact h.elim
end Go.Proofs.Ythonjffojaljdaa
