/-
  CONTRACT OF pfor.size, in any world. Conditions: at most 1100 offsets, which lie in memory as told; a width of at most 64; what varint.Size and bits.Need tell.
-/
import Derived.Test.YthonjffojaljdaaPforB
import Derived.Test.YthonjffojaljdaaPforN
import Derived.Shelf.RegionOpen
import Derived.Sort.BigQuietIn
import Derived.RangeFuncCalls
import Derived.BigQuiet
namespace Go.Proofs.Ythonjffojaljdaa
open Go.RowKit Go.Shelf Go.BigFrame
set_option linter.unusedVariables false
theorem wide_fn (f : FuncId) : Fence.wide.fn f = True := rfl
attribute [local go_sem] Oper.semAt_some wide_fn
theorem KX.drew {n₀ b1 b2 : Nat} {A B : World} (h : KX n₀ b1 b2 A B) : KX n₀ b1 b2 A B.drew := ⟨h.1.drew, h.2.1, h.2.2⟩
set_option maxRecDepth 100000 in
set_option maxHeartbeats 2000000 in
theorem fsize_any (sz : Nat → Nat) (nd : Nat) (hsz : ∀ v, sz v ≤ 10) (hnd : nd ≤ 100000) (a : Option Addr) (m cap q : Nat) (v : Nat → Nat) (hm : m ≤ 1100) (hq : q ≤ 64) (hv : ∀ i, i < m → v i < 18446744073709551616) (w : World) (hrow : RowOf w a m (fun i => .int .u64 (v i : Nat)))
    (SZ : ∀ (u : Nat) W, Calls Try.prog 53 #[.int .u64 (u % 18446744073709551616 : Nat)] W fun e w' => e = .returned (.int .i64 (sz u : Nat)) ∧ W = w')
    (ND : ∀ W, Calls Try.prog 65 #[.int .i64 m, .int .i64 q] W fun e w' => e = .returned (.int .i64 nd) ∧ W = w') :
    Calls Try.prog 72 #[.slice a m cap, .int .i64 q] w fun e W' => e = .returned (.int .i64 ((9 + nd + exW sz (exS v q m).1 + sz (exS v q m).1.length : Nat) : Int)) ∧ Below w.heap.size w W' := by
  have SZh := Lib.hid SZ
  have ND := Lib.hid ND
  clear SZ
  refine (callsIn_wide (n := 3)).1 ?_
  refine callsIn_of_wp_marks Try.func72 rfl trivial ?_ rfl
  simp only [Try.ntmps72, List.size_toArray, List.length_cons, List.length_nil, Nat.reduceAdd, Nat.reduceSub, Array.replicate_succ, Array.replicate_zero, List.push_toArray, List.append_toArray, List.nil_append, List.cons_append]
  gi_wp2_with (first
    | (refine (callsIn_wide.2 (ND.out _)).mono ?_; clear ND; rintro e w' ⟨rfl, rfl⟩)
    | (refine (exc_in Fence.wide _ trivial rfl _ _ _ _ _).mono ?_; rintro e w' ⟨rfl, rfl⟩))
  clear ND
  have hgn : (9 : Int) + nd = ((9 + nd : Nat) : Int) := by omega
  rw [hgn]
  clear hgn
  have b0 := (((Boxed.new w 3 (.int .i64 ((9 + nd : Nat) : Int))).alloc (.cells #[.int .u64 0] 40)).alloc (.cells #[.slice a m cap] 58)).alloc (.cells #[.int .i64 q] 3)
  have b9 := ((Boxed.new (w.alloc (.cells #[.int .i64 ((9 + nd : Nat) : Int)] 3)) 40 (.int .u64 0)).alloc (.cells #[.slice a m cap] 58)).alloc (.cells #[.int .i64 q] 3)
  have b1 := (Boxed.new ((w.alloc (.cells #[.int .i64 ((9 + nd : Nat) : Int)] 3)).alloc (.cells #[.int .u64 0] 40)) 58 (.slice a m cap)).alloc (.cells #[.int .i64 q] 3)
  have b2 := Boxed.new (((w.alloc (.cells #[.int .i64 ((9 + nd : Nat) : Int)] 3)).alloc (.cells #[.int .u64 0] 40)).alloc (.cells #[.slice a m cap] 58)) 3 (.int .i64 q)
  have hB := ((((Below.refl w.heap.size w).alloc (Nat.le_refl _) (.cells #[.int .i64 ((9 + nd : Nat) : Int)] 3)).alloc (by simp) (.cells #[.int .u64 0] 40)).alloc (by simp; omega) (.cells #[.slice a m cap] 58)).alloc (by simp; omega) (.cells #[.int .i64 q] 3)
  simp only [World.size_alloc] at b1 b2 b9
  have hs3 : ((((w.alloc (.cells #[.int .i64 ((9 + nd : Nat) : Int)] 3)).alloc (.cells #[.int .u64 0] 40)).alloc (.cells #[.slice a m cap] 58)).alloc (.cells #[.int .i64 q] 3)).heap.size = w.heap.size + 4 := by simp
  generalize (((w.alloc (.cells #[.int .i64 ((9 + nd : Nat) : Int)] 3)).alloc (.cells #[.int .u64 0] 40)).alloc (.cells #[.slice a m cap] 58)).alloc (.cells #[.int .i64 q] 3) = W3 at *
  have hlen := exS_len v q m
  refine wpIn_rangeFunc_ownG rfl (by decide) (gf := 133) (lb := #[.pointer (some ⟨w.heap.size + 1 + 1, 0, none⟩), .pointer (some ⟨w.heap.size + 1 + 1 + 1, 0, none⟩)]) rfl trivial (enters_of Try.func133 (by kernel_rfl) rfl)
    (exc_stops Fence.wide 2 trivial rfl (by decide) (w.heap.size + 1 + 1) (w.heap.size + 1 + 1 + 1) a m cap q v hm hq hv w hrow W3 hB b1 b2) (fun h k => h.trans k) (kx_b (by omega) (by omega) (by omega)) (Below.refl _ _) (fun _ => rfl)
    (fun pre W => (Boxed W w.heap.size 3 (.int .i64 ((9 + nd + exW sz pre : Nat) : Int)) ∧ Boxed W (w.heap.size + 1) 40 (.int .u64 (pre.length : Nat))) ∧ Below w.heap.size w W ∧ W3.heap.size ≤ W.heap.size)
    (fun _ _ _ => False)
    (fun s W W' row hs hg hr => ⟨⟨hs.1.1.kept hg (fun e => by have := (hr _ e.symm).1; omega), hs.1.2.kept hg (fun e => by have := (hr _ e.symm).1; omega)⟩, hs.2.1.grown hg (by omega) (fun k e => by have := (hr _ e).1; omega), Nat.le_trans hs.2.2 hg.size⟩)
    (fun _ _ _ _ _ hs _ _ => hs)
    ⟨⟨b0, b9⟩, hB, Nat.le_refl _⟩
    (fun x => { tmps := #[.slice a m cap, .int .i64 q, undef, undef, .int .i64 0, .pointer (some ⟨w.heap.size, 0, none⟩), .pointer (some ⟨w.heap.size + 1, 0, none⟩), .int .u64 (x.1 % 18446744073709551616 : Nat), .int .u64 (x.2 % 18446744073709551616 : Nat), .slice a m cap, .int .i64 m, .int .i64 q, .int .i64 nd, .int .i64 ((9 + nd : Nat) : Int), .slice a m cap, .int .i64 q, .func (.func 133) #[] #[.pointer (some ⟨w.heap.size + 1 + 1, 0, none⟩), .pointer (some ⟨w.heap.size + 1 + 1 + 1, 0, none⟩)], .int .u64 (x.1 % 18446744073709551616 : Nat), .int .u64 (x.2 % 18446744073709551616 : Nat), undef, undef, undef, undef, undef, undef, undef, undef, undef, undef, undef, undef, undef], defers := [] }) ?assign ?body ?done ?stop
  case assign =>
    intro l x W K hK
    simp
    gi_wp2
    first | exact hK | simpa using hK
  case body =>
    rintro l pre ⟨g, h⟩ W ⟨⟨hb, hu⟩, hB3, hs⟩ hlt
    have hmx : Try.prog.follows .mixedOrders = true := by kernel_rfl
    have hc := hb.cell
    have hf := hb.frozen
    have hc2 := hu.cell
    have hf2 := hu.frozen
    have hW := exW_le sz hsz pre
    have hM := exW_more sz (g, h) pre
    have h1 := hsz g
    have h2 := hsz h
    have HM := Lib.hid hM
    clear hM
    obtain ⟨E, hE⟩ : ∃ E, exW sz pre = E := ⟨_, rfl⟩
    rw [hE] at hW hc hb HM
    have hpl : pre.length ≤ 1100 := by omega
    have hE' : E ≤ 22000 := by omega
    gi_wp2
    gi_region_with_o (refine (CallsIn.inRound l (callsIn_wide.2 (SZh.out _ _))).mono ?_; rintro e w' ⟨rfl, rfl⟩)
    all_goals gi_wp2
    all_goals
      have e1 : (9 : Int) + nd + E + ((sz g : Nat) + (sz h : Nat)) = ((9 + nd + exW sz (pre ++ [(g, h)]) : Nat) : Int) := by rw [HM.out]; omega
      have e2 : ((pre.length : Nat) : Int) + 1 = (((pre ++ [(g, h)]).length : Nat) : Int) := by simp
      rw [e1, e2]
      have k1 := hb.set (.int .i64 ((9 + nd + exW sz (pre ++ [(g, h)]) : Nat) : Int))
      have k2 := hu.kept (grownBy_setCell' W w.heap.size (.int .i64 ((9 + nd + exW sz (pre ++ [(g, h)]) : Nat) : Int))) (by simp)
      have g1 := kx_set (n₀ := w.heap.size) (b1 := w.heap.size + 1 + 1) (b2 := w.heap.size + 1 + 1 + 1) (g := w.heap.size) (Nat.le_refl _) (by omega) (by omega) W (by omega) (by omega) (by omega) (.int .i64 ((9 + nd + exW sz (pre ++ [(g, h)]) : Nat) : Int))
      have hs2 : (W.setCell ⟨w.heap.size, 0, none⟩ (.int .i64 ((9 + nd + exW sz (pre ++ [(g, h)]) : Nat) : Int))).heap.size = W.heap.size := by simp
      have g0 := KeepsOthers.setCell W ⟨w.heap.size, 0, none⟩ (.int .i64 ((9 + nd + exW sz (pre ++ [(g, h)]) : Nat) : Int))
      generalize W.setCell ⟨w.heap.size, 0, none⟩ (.int .i64 ((9 + nd + exW sz (pre ++ [(g, h)]) : Nat) : Int)) = W5 at *
      have g2 := kx_set (n₀ := w.heap.size) (b1 := w.heap.size + 1 + 1) (b2 := w.heap.size + 1 + 1 + 1) (g := w.heap.size + 1) (by omega) (by omega) (by omega) W5 (by omega) (by omega) (by omega) (.int .u64 (((pre ++ [(g, h)]).length : Nat) : Int))
      have k3 := k2.set (.int .u64 (((pre ++ [(g, h)]).length : Nat) : Int))
      have k4 := k1.kept (grownBy_setCell' W5 (w.heap.size + 1) (.int .u64 (((pre ++ [(g, h)]).length : Nat) : Int))) (by simp)
      have g3 := KeepsOthers.setCell W5 ⟨w.heap.size + 1, 0, none⟩ (.int .u64 (((pre ++ [(g, h)]).length : Nat) : Int))
      have hs3 : (W5.setCell ⟨w.heap.size + 1, 0, none⟩ (.int .u64 (((pre ++ [(g, h)]).length : Nat) : Int))).heap.size = W5.heap.size := by simp
      have g4 := g1.trans g2
      exact ⟨((g0.trans g3).trans (KeepsOthers.drew _)).from _, g4.drew, ⟨k4, k3⟩, (hB3.trans g4.1).drew, by show _ ≤ (W5.setCell _ _).heap.size; omega⟩
  case done =>
    rintro D ys W hD hys ⟨⟨hb, hu⟩, hB3, hs⟩ hK
    have hmx : Try.prog.follows .mixedOrders = true := by kernel_rfl
    have hc := hb.cell
    have hc2 := hu.cell
    have hW := exW_le sz hsz ys
    have h1 := hsz ys.length
    have hyl : ys.length ≤ 1100 := by rw [hys]; omega
    obtain ⟨E, hE⟩ : ∃ E, exW sz ys = E := ⟨_, rfl⟩
    rw [hE] at hW hc hb
    have HY := Lib.hid hys
    have HE := Lib.hid hE
    clear hE hys
    gi_wp2
    have SQ := Lib.hid (fun (V : World) => (show CallsIn Fence.wide (3 - 1) Try.prog 53 #[.int .u64 ys.length] V fun e w' => e = .returned (.int .i64 (sz ys.length : Nat)) ∧ w' = V from by have h := SZh.out ys.length V; rw [Nat.mod_eq_of_lt (show ys.length < 18446744073709551616 by omega)] at h; exact (callsIn_wide.2 h).mono fun e w' ⟨h1, h2⟩ => ⟨h1, h2.symm⟩))
    gi_big_quiet_th (exact CallsIn.quiet_of_same (SQ.out _))
    gi_wp2
    have hK' : (W.drewN nq).heap[D]? = some (Obj.deferred (some [])) := hK
    refine ⟨by simp, .inl ⟨_, _, rfl, run_takeDeferred hK', ?_⟩⟩
    refine ⟨_, results_tmp rfl _ _ _, ?_, (below_drewN hB3 nq).trans (belowK_b (w := W3) (by omega) (W.drewN nq) D _ _ hD hK' rfl rfl)⟩
    have he : (9 : Int) + nd + E + (sz ys.length : Nat) = ((9 + nd + exW sz (exS v q m).1 + sz (exS v q m).1.length : Nat) : Int) := by rw [← HY.out, HE.out]; omega
    exact congrArg (fun z => Ending.returned (.int .i64 z)) he
  case stop =>
    rintro D c pre W _ _ h _
    exact h.elim
end Go.Proofs.Ythonjffojaljdaa
