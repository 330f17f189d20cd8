/-
  CONTRACT OF Pfor's Encode of a block that is taken, in any world. Condition: numbers that lie in memory as told.
-/
import Derived.Test.YthonjffojaljdaaPforH
import Derived.Test.YthonjffojaljdaaPforG
import Derived.Test.YthonjffojaljdaaBoxApp
import Derived.Test.YthonjffojaljdaaWordsI
import Derived.Test.YthonjffojaljdaaBitsPack
import Derived.Sort.CutIn
import Derived.Shelf.RegionOpen
namespace Go.Proofs.Ythonjffojaljdaa
open Go.RowKit Go.Shelf Go.BigFrame
set_option linter.unusedVariables false
/-- The exceptions' bytes. -/
def mk : List (Nat × Nat) → List Int
  | [] => []
  | x :: l => dg x.1 ++ dg x.2 ++ mk l
theorem mk_more (x : Nat × Nat) : ∀ l, mk (l ++ [x]) = mk l ++ dg x.1 ++ dg x.2
  | [] => by simp [mk]
  | y :: l => by simp [mk, mk_more x l]
theorem mk_length : ∀ l, (mk l).length = exW dn l
  | [] => rfl
  | y :: l => by simp only [mk, exW, List.length_append, mk_length l]; rfl
/-- The form ahead of the exceptions. -/
def fh (x : Nat → Int) (n : Nat) : List Int := bytesOf 8 (un (lmin x n)) ++ [(fq x n : Int)] ++ dg (exS (fo x n) (fq x n) n).1.length
/-- The form. -/
def fb (x : Nat → Int) (n : Nat) : List Int := fh x n ++ mk (exS (fo x n) (fq x n) n).1 ++ bytesOf (need n (fq x n)) (packN (fq x n) (fun i => fo x n i % 2 ^ fq x n) n)
theorem fb_length (x : Nat → Int) (n : Nat) : (fb x n).length = fl x n := by
  unfold fb fh fl pS
  simp only [List.length_append, bytesOf_length, mk_length, List.length_cons, List.length_nil]
  unfold dn
  omega
theorem dput_any (u : Nat) (W : World) : Calls Try.prog 56 #[.slice none 0 0, .int .u64 (u % 18446744073709551616 : Nat)] W fun e W' => ∃ x, e = .returned x ∧ W'.ownsRow W.heap.size 5 1 x (dg u).length (cellsOf (dg u)) ∧ Below W.heap.size W W' :=
  put_none (u % 18446744073709551616) (by omega) W
theorem wide_fn' (f : FuncId) : Fence.wide.fn f = True := rfl
attribute [local go_sem] Oper.semAt_some wide_fn'
set_option maxRecDepth 100000 in
set_option maxHeartbeats 2000000 in
theorem fencode_in (a : Option Addr) (n cap : Nat) (x : Nat → Int) (hb : blk n = true) (w : World) (h : RowOf w a n (fun i => .int .i64 (x i))) :
    Calls Try.prog 74 #[.agg #[], .slice a n cap] w fun e w' => ∃ v, e = .returned (.tuple #[v, .int .i64 0]) ∧ w'.ownsRow w.heap.size 5 1 v (fl x n) (cellsOf (fb x n)) ∧ Below w.heap.size w w' := by
  obtain ⟨i0, hi, hz0, hz1, hz2⟩ := info_parts byteInfo
  have hn : 1 ≤ n ∧ n ≤ 1024 := by have := of_decide_eq_true hb; omega
  obtain ⟨hn1, hn2⟩ := hn
  have WR := fwrong_any a n cap
  rw [show wrg n = 0 by simp [wrg, hb]] at WR
  have WR := Lib.hid WR
  have FL := Lib.hid (fun (W : World) (hW : Below w.heap.size w W) => ffl_any a n cap x (by omega) (by omega) W (h.below hW))
  have NA := Lib.hid (fun (a2 : Option Addr) (c2 : Nat) (W : World) (hr : RowOf W a2 n (fun i => .int .u64 (fo x n i : Nat))) => (show Calls Try.prog 73 #[.slice a2 n c2] W fun e W' => e = .returned (.int .i64 (fq x n : Nat)) ∧ Below W.heap.size W W' from narrow_any a2 n c2 (fo x n) hn2 (fun i _ => fo_lt x n i) W hr))
  have hq : fq x n ≤ 64 := by have := fq_le x n; have := most_le (fo x n) n; omega
  have CN := Lib.hid (fun (a2 : Option Addr) (c2 : Nat) (W : World) (hr : RowOf W a2 n (fun i => .int .u64 (fo x n i : Nat))) => pcount_any a2 n c2 (fq x n) (fo x n) (by omega) hq (fun i _ => fo_lt x n i) W hr)
  have HFB := Lib.hid (show fb x n = bytesOf 8 (un (lmin x n)) ++ [(fq x n : Int)] ++ dg (exS (fo x n) (fq x n) n).1.length ++ mk (exS (fo x n) (fq x n) n).1 ++ bytesOf (need n (fq x n)) (packN (fq x n) (fun i => fo x n i % 2 ^ fq x n) n) from rfl)
  have HFL := Lib.hid (fb_length x n)
  have HB := Lib.hid ((Below.refl w.heap.size w).alloc (Nat.le_refl _) (.cells #[] 51))
  have hvl := exS_len (fo x n) (fq x n) n
  have HV := Lib.hid (fun i (_ : i < n) => fo_lt x n i)
  clear hb h
  have hun := un_wrap (lmin x n)
  have hul := un_lt (lmin x n)
  generalize un (lmin x n) = u at *
  generalize lmin x n = f at *
  generalize fb x n = FB at *
  generalize fl x n = FLN at *
  generalize fq x n = q at *
  generalize fo x n = o at *
  have PF := Lib.hid (fun (W : World) => (show Calls Try.prog 110 #[.slice none 0 0, .int .u64 u] W fun e w' => ∃ v, e = .returned v ∧ w'.ownsRow W.heap.size 5 1 v 8 (cellsOf (bytesOf 8 u)) ∧ Below W.heap.size W w' from Put64_any none 0 0 (fun _ => 0) u hul (by omega) W (.inl rfl)))
  have hqw : IntKind.u8.wrap (q : Int) = (q : Int) := by simp [IntKind.wrap, IntKind.bits, IntKind.signed]; omega
  clear hul
  refine (callsIn_wide (n := 3)).1 ?_
  refine callsIn_of_wp_marks Try.func74 rfl trivial ?_ rfl
  simp only [Try.ntmps74, List.size_toArray, List.length_cons, List.length_nil, Nat.reduceAdd, Nat.reduceSub, Array.replicate_succ, Array.replicate_zero, List.push_toArray, List.append_toArray, List.nil_append, List.cons_append]
  gi_upto_region 7 with (first
    | (gi_at_call 33; refine (callsIn_wide.2 (WR.out _)).mono ?_; rintro e w1 ⟨rfl, hb⟩; have HB1 := Lib.hid (HB.out.trans (hb.mono HB.out.size)); clear hb)
    | (gi_at_call 71; refine (callsIn_wide.2 (FL.out _ HB1.out)).mono ?_; rintro e w2 ⟨a2, c2, rfl, hr, hb⟩; have HR2 := Lib.hid hr; have HB2 := Lib.hid (HB1.out.trans (hb.mono HB1.out.size)); clear hb hr)
    | (gi_at_call 73; refine (callsIn_wide.2 (NA.out _ _ _ HR2.out)).mono ?_; rintro e w3 ⟨rfl, hb⟩; have HR3 := Lib.hid (HR2.out.below hb); have HB3 := Lib.hid (HB2.out.trans (hb.mono HB2.out.size)); clear hb)
    | (gi_at_call 110; refine (callsIn_wide.2 (PF.out _)).mono ?_; rintro e w4 ⟨v4, rfl, ho, hb⟩; have HB4 := Lib.hid hb; have HO4 := Lib.hid ho; clear hb ho)
    | (gi_at_builtin; go_must (refine wpListIn_append_own _ rfl _ _ 26 rfl w3.heap.size 5 i0 (.int .u8 0) 1 1 Try.underlying26 hi hz0 hz1 hz2 rfl (by decide) _ _ _ rfl (HO4.out.alloc _) ⟨w4.heap.size, 0, none⟩ 1 1 [.int .u8 q] rfl rfl (cell_one_new _ _ _) (by simp [Value.oneCell']) (by decide) (by decide) (by have := HB4.out.size; simp; omega) ?_); intro v' w5 hown' hgrow _; obtain ⟨g', cap', rfl⟩ := ownsRow_succ hown'; have HO5 := Lib.hid hown'; have HG5 := Lib.hid (show (w4.alloc (.cells #[.int .u8 q] 5)).grownBy w5 v4.ownBlock from hgrow); clear hown' hgrow))
  have ho5 : w5.ownsRow w3.heap.size 5 1 (.slice (some ⟨g', 0, none⟩) 9 cap') 9 (cellsOf (bytesOf 8 u ++ [(q : Int)])) := by
    have := HO5.out
    rwa [show cellsOf (bytesOf 8 u) ++ [Value.int .u8 q] = cellsOf (bytesOf 8 u ++ [(q : Int)]) from by simp [cellsOf]] at this
  have hb5 : Below w3.heap.size w3 w5 := (HB4.out.alloc HB4.out.size _).grown HG5.out (by have := HB4.out.size; simp; omega) (fun j hj => (HO4.out.lt j hj).1)
  have hs5 := hb5.size
  have b10 := Boxed.new w5 26 (.slice (some ⟨g', 0, none⟩) 9 cap')
  have ho7 := ho5.alloc (.cells #[.slice (some ⟨g', 0, none⟩) 9 cap'] 26)
  have hb7 := hb5.alloc hs5 (.cells #[.slice (some ⟨g', 0, none⟩) 9 cap'] 26)
  clear HO5 HG5 HO4 HB4 ho5 hb5
  obtain ⟨xs0, hx0⟩ : ∃ xs0, bytesOf 8 u ++ [(q : Int)] = xs0 := ⟨_, rfl⟩
  have hl0 : xs0.length = 9 := by rw [← hx0]; simp [bytesOf_length]
  rw [hx0] at HFB ho7
  clear hx0
  generalize w5.alloc (.cells #[.slice (some ⟨g', 0, none⟩) 9 cap'] 26) = w7 at *
  generalize w5.heap.size = B at *
  obtain ⟨ys, hys⟩ : ∃ ys, (exS o q n).1 = ys := ⟨_, rfl⟩
  rw [hys] at hvl HFB
  have CN7 := Lib.hid (CN.out a2 c2 w7.drew (HR3.out.below hb7.drew))
  rw [hys] at CN7
  have PC := Lib.hid (fun W : World => dput_any ys.length W)
  rw [Nat.mod_eq_of_lt (show ys.length < 18446744073709551616 by omega)] at PC
  have hdl : (dg ys.length).length ≤ 10 := digs_len 9 _
  have hmx : Try.prog.follows .mixedOrders = true := by kernel_rfl
  have HYS := Lib.hid hys
  clear hys
  gi_cut [] from 36 (fun wx => ∃ g c, Boxed wx B 26 (.slice (some ⟨g, 0, none⟩) (9 + (dg ys.length).length) c) ∧ wx.ownsRow w3.heap.size 5 1 (.slice (some ⟨g, 0, none⟩) (9 + (dg ys.length).length) c) (9 + (dg ys.length).length) (cellsOf (xs0 ++ dg ys.length)) ∧ Below w3.heap.size w3 wx)
  case first =>
    have hc7 := b10.cell
    have hf7 := b10.frozen
    generalize dg ys.length = ds at *
    refine wpIn_region_any hmx ?_
    (try (change wpAnyIn _ _ _ _ _ _ _ _ _ (World.drew _)))
    refine wpAnyIn_ready (rs := [0, 1, 2]) (by kernel_rfl) (by simp) ?_
    refine AllReadyIn.cons rfl (fun K hK => ?_) ?_
    · go_simp
      refine hK _ _ ?_
      clear hK K
      refine wpAnyIn_ready (rs := [1, 2]) (by kernel_rfl) (by simp) ?_
      refine AllReadyIn.cons rfl (fun K hK => ?_) ?_
      · go_simp
        refine hK _ _ ?_
        clear hK K
        refine wpAnyIn_ready (rs := [2]) (by kernel_rfl) (by simp) ?_
        refine AllReadyIn.cons rfl (fun K hK => ?_) ?_
        · go_simp
          refine hK _ _ ?_
          clear hK K
          refine wpAnyIn_ready (rs := [3]) (by kernel_rfl) (by simp) ?_
          refine AllReadyIn.cons rfl (fun K hK => ?_) ?_
          · go_simp
            refine (callsIn_wide.2 CN7.out).mono ?_
            rintro e w8 ⟨rfl, hb8⟩
            have hv8 : Boxed w8 B 26 _ := (hb8.block B b10.lt).trans b10
            have hrow8 := owns_turned ho7.drew (S := fun i => w7.heap.size ≤ i) (Turned.of_below hb8 (fun i _ hi => by show i < w7.heap.size; omega)) (fun i hi hs => by have := (ho7.lt i hi).2; omega)
            have hc8 := hv8.cell
            (try dsimp only)
            refine hK _ _ ?_
            clear hK K
            refine wpAnyIn_ready (rs := [4]) (by kernel_rfl) (by simp) ?_
            refine AllReadyIn.cons rfl (fun K hK => ?_) ?_
            · go_simp
              refine (callsIn_wide.2 (PC.out _)).mono ?_
              rintro e w9 ⟨v9, rfl, ho9, hb9⟩
              obtain ⟨a4, c4, g5, c5, w10, rfl, hrun, hcB, hc5, hf5, hv6, hrow6, _, hbel, _⟩ := box_append w8 w9 w3.heap.size B g' cap' v9 xs0 ds (by rw [hl0]; exact hv8) (by rw [hl0]; exact hrow8) (by omega) (by have h1 : w7.heap.size ≤ w8.heap.size := hb8.size; have := hb7.size; omega) hs5 ho9 hb9 (by omega)
              rw [hl0] at hrun hcB hc5
              (try dsimp only)
              refine hK _ _ ?_
              clear hK K
              refine wpAnyIn_ready (rs := [5]) (by kernel_rfl) (by simp) ?_
              refine AllReadyIn.cons rfl (fun K hK => ?_) ?_
              · refine stepIn_append_ran _ _ rfl _ _ 26 rfl _ _ _ rfl rfl hrun ?_
                refine hK _ _ ?_
                clear hK K
                refine wpAnyIn_ready (rs := [6]) (by kernel_rfl) (by simp) ?_
                refine AllReadyIn.cons rfl (fun K hK => ?_) ?_
                · go_simp
                  refine hK _ _ ?_
                  clear hK K
                  refine wpAnyIn_done (by kernel_rfl) ?_ _
                  have hLL : (xs0 ++ ds).length = 9 + ds.length := by simp [hl0]
                  rw [hLL] at hv6 hrow6 hbel
                  gi_wp2
                  gi_meet
                  exact ⟨g5, c5, hv6, hrow6, ((hb7.drew.trans (hb8.mono hb7.size)).trans hbel)⟩
                exact AllReadyIn.nil
              exact AllReadyIn.nil
            exact AllReadyIn.nil
          exact AllReadyIn.nil
        exact AllReadyIn.nil
      refine AllReadyIn.cons rfl (fun K hK => ?_) ?_
      · go_simp
        refine hK _ _ ?_
        clear hK K
        refine wpAnyIn_ready (rs := [1]) (by kernel_rfl) (by simp) ?_
        refine AllReadyIn.cons rfl (fun K hK => ?_) ?_
        · go_simp
          refine hK _ _ ?_
          clear hK K
          refine wpAnyIn_ready (rs := [3]) (by kernel_rfl) (by simp) ?_
          refine AllReadyIn.cons rfl (fun K hK => ?_) ?_
          · go_simp
            refine (callsIn_wide.2 CN7.out).mono ?_
            rintro e w8 ⟨rfl, hb8⟩
            have hv8 : Boxed w8 B 26 _ := (hb8.block B b10.lt).trans b10
            have hrow8 := owns_turned ho7.drew (S := fun i => w7.heap.size ≤ i) (Turned.of_below hb8 (fun i _ hi => by show i < w7.heap.size; omega)) (fun i hi hs => by have := (ho7.lt i hi).2; omega)
            have hc8 := hv8.cell
            (try dsimp only)
            refine hK _ _ ?_
            clear hK K
            refine wpAnyIn_ready (rs := [4]) (by kernel_rfl) (by simp) ?_
            refine AllReadyIn.cons rfl (fun K hK => ?_) ?_
            · go_simp
              refine (callsIn_wide.2 (PC.out _)).mono ?_
              rintro e w9 ⟨v9, rfl, ho9, hb9⟩
              obtain ⟨a4, c4, g5, c5, w10, rfl, hrun, hcB, hc5, hf5, hv6, hrow6, _, hbel, _⟩ := box_append w8 w9 w3.heap.size B g' cap' v9 xs0 ds (by rw [hl0]; exact hv8) (by rw [hl0]; exact hrow8) (by omega) (by have h1 : w7.heap.size ≤ w8.heap.size := hb8.size; have := hb7.size; omega) hs5 ho9 hb9 (by omega)
              rw [hl0] at hrun hcB hc5
              (try dsimp only)
              refine hK _ _ ?_
              clear hK K
              refine wpAnyIn_ready (rs := [5]) (by kernel_rfl) (by simp) ?_
              refine AllReadyIn.cons rfl (fun K hK => ?_) ?_
              · refine stepIn_append_ran _ _ rfl _ _ 26 rfl _ _ _ rfl rfl hrun ?_
                refine hK _ _ ?_
                clear hK K
                refine wpAnyIn_ready (rs := [6]) (by kernel_rfl) (by simp) ?_
                refine AllReadyIn.cons rfl (fun K hK => ?_) ?_
                · go_simp
                  refine hK _ _ ?_
                  clear hK K
                  refine wpAnyIn_done (by kernel_rfl) ?_ _
                  have hLL : (xs0 ++ ds).length = 9 + ds.length := by simp [hl0]
                  rw [hLL] at hv6 hrow6 hbel
                  gi_wp2
                  gi_meet
                  exact ⟨g5, c5, hv6, hrow6, ((hb7.drew.trans (hb8.mono hb7.size)).trans hbel)⟩
                exact AllReadyIn.nil
              exact AllReadyIn.nil
            exact AllReadyIn.nil
          exact AllReadyIn.nil
        exact AllReadyIn.nil
      exact AllReadyIn.nil
    refine AllReadyIn.cons rfl (fun K hK => ?_) ?_
    · go_simp
      refine hK _ _ ?_
      clear hK K
      refine wpAnyIn_ready (rs := [0, 2]) (by kernel_rfl) (by simp) ?_
      refine AllReadyIn.cons rfl (fun K hK => ?_) ?_
      · go_simp
        refine hK _ _ ?_
        clear hK K
        refine wpAnyIn_ready (rs := [2]) (by kernel_rfl) (by simp) ?_
        refine AllReadyIn.cons rfl (fun K hK => ?_) ?_
        · go_simp
          refine hK _ _ ?_
          clear hK K
          refine wpAnyIn_ready (rs := [3]) (by kernel_rfl) (by simp) ?_
          refine AllReadyIn.cons rfl (fun K hK => ?_) ?_
          · go_simp
            refine (callsIn_wide.2 CN7.out).mono ?_
            rintro e w8 ⟨rfl, hb8⟩
            have hv8 : Boxed w8 B 26 _ := (hb8.block B b10.lt).trans b10
            have hrow8 := owns_turned ho7.drew (S := fun i => w7.heap.size ≤ i) (Turned.of_below hb8 (fun i _ hi => by show i < w7.heap.size; omega)) (fun i hi hs => by have := (ho7.lt i hi).2; omega)
            have hc8 := hv8.cell
            (try dsimp only)
            refine hK _ _ ?_
            clear hK K
            refine wpAnyIn_ready (rs := [4]) (by kernel_rfl) (by simp) ?_
            refine AllReadyIn.cons rfl (fun K hK => ?_) ?_
            · go_simp
              refine (callsIn_wide.2 (PC.out _)).mono ?_
              rintro e w9 ⟨v9, rfl, ho9, hb9⟩
              obtain ⟨a4, c4, g5, c5, w10, rfl, hrun, hcB, hc5, hf5, hv6, hrow6, _, hbel, _⟩ := box_append w8 w9 w3.heap.size B g' cap' v9 xs0 ds (by rw [hl0]; exact hv8) (by rw [hl0]; exact hrow8) (by omega) (by have h1 : w7.heap.size ≤ w8.heap.size := hb8.size; have := hb7.size; omega) hs5 ho9 hb9 (by omega)
              rw [hl0] at hrun hcB hc5
              (try dsimp only)
              refine hK _ _ ?_
              clear hK K
              refine wpAnyIn_ready (rs := [5]) (by kernel_rfl) (by simp) ?_
              refine AllReadyIn.cons rfl (fun K hK => ?_) ?_
              · refine stepIn_append_ran _ _ rfl _ _ 26 rfl _ _ _ rfl rfl hrun ?_
                refine hK _ _ ?_
                clear hK K
                refine wpAnyIn_ready (rs := [6]) (by kernel_rfl) (by simp) ?_
                refine AllReadyIn.cons rfl (fun K hK => ?_) ?_
                · go_simp
                  refine hK _ _ ?_
                  clear hK K
                  refine wpAnyIn_done (by kernel_rfl) ?_ _
                  have hLL : (xs0 ++ ds).length = 9 + ds.length := by simp [hl0]
                  rw [hLL] at hv6 hrow6 hbel
                  gi_wp2
                  gi_meet
                  exact ⟨g5, c5, hv6, hrow6, ((hb7.drew.trans (hb8.mono hb7.size)).trans hbel)⟩
                exact AllReadyIn.nil
              exact AllReadyIn.nil
            exact AllReadyIn.nil
          exact AllReadyIn.nil
        exact AllReadyIn.nil
      refine AllReadyIn.cons rfl (fun K hK => ?_) ?_
      · go_simp
        refine hK _ _ ?_
        clear hK K
        refine wpAnyIn_ready (rs := [0, 3]) (by kernel_rfl) (by simp) ?_
        refine AllReadyIn.cons rfl (fun K hK => ?_) ?_
        · go_simp
          refine hK _ _ ?_
          clear hK K
          refine wpAnyIn_ready (rs := [3]) (by kernel_rfl) (by simp) ?_
          refine AllReadyIn.cons rfl (fun K hK => ?_) ?_
          · go_simp
            refine (callsIn_wide.2 CN7.out).mono ?_
            rintro e w8 ⟨rfl, hb8⟩
            have hv8 : Boxed w8 B 26 _ := (hb8.block B b10.lt).trans b10
            have hrow8 := owns_turned ho7.drew (S := fun i => w7.heap.size ≤ i) (Turned.of_below hb8 (fun i _ hi => by show i < w7.heap.size; omega)) (fun i hi hs => by have := (ho7.lt i hi).2; omega)
            have hc8 := hv8.cell
            (try dsimp only)
            refine hK _ _ ?_
            clear hK K
            refine wpAnyIn_ready (rs := [4]) (by kernel_rfl) (by simp) ?_
            refine AllReadyIn.cons rfl (fun K hK => ?_) ?_
            · go_simp
              refine (callsIn_wide.2 (PC.out _)).mono ?_
              rintro e w9 ⟨v9, rfl, ho9, hb9⟩
              obtain ⟨a4, c4, g5, c5, w10, rfl, hrun, hcB, hc5, hf5, hv6, hrow6, _, hbel, _⟩ := box_append w8 w9 w3.heap.size B g' cap' v9 xs0 ds (by rw [hl0]; exact hv8) (by rw [hl0]; exact hrow8) (by omega) (by have h1 : w7.heap.size ≤ w8.heap.size := hb8.size; have := hb7.size; omega) hs5 ho9 hb9 (by omega)
              rw [hl0] at hrun hcB hc5
              (try dsimp only)
              refine hK _ _ ?_
              clear hK K
              refine wpAnyIn_ready (rs := [5]) (by kernel_rfl) (by simp) ?_
              refine AllReadyIn.cons rfl (fun K hK => ?_) ?_
              · refine stepIn_append_ran _ _ rfl _ _ 26 rfl _ _ _ rfl rfl hrun ?_
                refine hK _ _ ?_
                clear hK K
                refine wpAnyIn_ready (rs := [6]) (by kernel_rfl) (by simp) ?_
                refine AllReadyIn.cons rfl (fun K hK => ?_) ?_
                · go_simp
                  refine hK _ _ ?_
                  clear hK K
                  refine wpAnyIn_done (by kernel_rfl) ?_ _
                  have hLL : (xs0 ++ ds).length = 9 + ds.length := by simp [hl0]
                  rw [hLL] at hv6 hrow6 hbel
                  gi_wp2
                  gi_meet
                  exact ⟨g5, c5, hv6, hrow6, ((hb7.drew.trans (hb8.mono hb7.size)).trans hbel)⟩
                exact AllReadyIn.nil
              exact AllReadyIn.nil
            exact AllReadyIn.nil
          exact AllReadyIn.nil
        refine AllReadyIn.cons rfl (fun K hK => ?_) ?_
        · go_simp
          refine (callsIn_wide.2 CN7.out).mono ?_
          rintro e w8 ⟨rfl, hb8⟩
          have hv8 : Boxed w8 B 26 _ := (hb8.block B b10.lt).trans b10
          have hrow8 := owns_turned ho7.drew (S := fun i => w7.heap.size ≤ i) (Turned.of_below hb8 (fun i _ hi => by show i < w7.heap.size; omega)) (fun i hi hs => by have := (ho7.lt i hi).2; omega)
          have hc8 := hv8.cell
          (try dsimp only)
          refine hK _ _ ?_
          clear hK K
          refine wpAnyIn_ready (rs := [0, 4]) (by kernel_rfl) (by simp) ?_
          refine AllReadyIn.cons rfl (fun K hK => ?_) ?_
          · go_simp
            refine hK _ _ ?_
            clear hK K
            refine wpAnyIn_ready (rs := [4]) (by kernel_rfl) (by simp) ?_
            refine AllReadyIn.cons rfl (fun K hK => ?_) ?_
            · go_simp
              refine (callsIn_wide.2 (PC.out _)).mono ?_
              rintro e w9 ⟨v9, rfl, ho9, hb9⟩
              obtain ⟨a4, c4, g5, c5, w10, rfl, hrun, hcB, hc5, hf5, hv6, hrow6, _, hbel, _⟩ := box_append w8 w9 w3.heap.size B g' cap' v9 xs0 ds (by rw [hl0]; exact hv8) (by rw [hl0]; exact hrow8) (by omega) (by have h1 : w7.heap.size ≤ w8.heap.size := hb8.size; have := hb7.size; omega) hs5 ho9 hb9 (by omega)
              rw [hl0] at hrun hcB hc5
              (try dsimp only)
              refine hK _ _ ?_
              clear hK K
              refine wpAnyIn_ready (rs := [5]) (by kernel_rfl) (by simp) ?_
              refine AllReadyIn.cons rfl (fun K hK => ?_) ?_
              · refine stepIn_append_ran _ _ rfl _ _ 26 rfl _ _ _ rfl rfl hrun ?_
                refine hK _ _ ?_
                clear hK K
                refine wpAnyIn_ready (rs := [6]) (by kernel_rfl) (by simp) ?_
                refine AllReadyIn.cons rfl (fun K hK => ?_) ?_
                · go_simp
                  refine hK _ _ ?_
                  clear hK K
                  refine wpAnyIn_done (by kernel_rfl) ?_ _
                  have hLL : (xs0 ++ ds).length = 9 + ds.length := by simp [hl0]
                  rw [hLL] at hv6 hrow6 hbel
                  gi_wp2
                  gi_meet
                  exact ⟨g5, c5, hv6, hrow6, ((hb7.drew.trans (hb8.mono hb7.size)).trans hbel)⟩
                exact AllReadyIn.nil
              exact AllReadyIn.nil
            exact AllReadyIn.nil
          refine AllReadyIn.cons rfl (fun K hK => ?_) ?_
          · go_simp
            refine (callsIn_wide.2 (PC.out _)).mono ?_
            rintro e w9 ⟨v9, rfl, ho9, hb9⟩
            obtain ⟨a4, c4, g5, c5, w10, rfl, hrun, hcB, hc5, hf5, hv6, hrow6, _, hbel, _⟩ := box_append w8 w9 w3.heap.size B g' cap' v9 xs0 ds (by rw [hl0]; exact hv8) (by rw [hl0]; exact hrow8) (by omega) (by have h1 : w7.heap.size ≤ w8.heap.size := hb8.size; have := hb7.size; omega) hs5 ho9 hb9 (by omega)
            rw [hl0] at hrun hcB hc5
            (try dsimp only)
            refine hK _ _ ?_
            clear hK K
            refine wpAnyIn_ready (rs := [0]) (by kernel_rfl) (by simp) ?_
            refine AllReadyIn.cons rfl (fun K hK => ?_) ?_
            · go_simp
              refine hK _ _ ?_
              clear hK K
              refine wpAnyIn_ready (rs := [5]) (by kernel_rfl) (by simp) ?_
              refine AllReadyIn.cons rfl (fun K hK => ?_) ?_
              · refine stepIn_append_ran _ _ rfl _ _ 26 rfl _ _ _ rfl rfl hrun ?_
                refine hK _ _ ?_
                clear hK K
                refine wpAnyIn_ready (rs := [6]) (by kernel_rfl) (by simp) ?_
                refine AllReadyIn.cons rfl (fun K hK => ?_) ?_
                · go_simp
                  refine hK _ _ ?_
                  clear hK K
                  refine wpAnyIn_done (by kernel_rfl) ?_ _
                  have hLL : (xs0 ++ ds).length = 9 + ds.length := by simp [hl0]
                  rw [hLL] at hv6 hrow6 hbel
                  gi_wp2
                  gi_meet
                  exact ⟨g5, c5, hv6, hrow6, ((hb7.drew.trans (hb8.mono hb7.size)).trans hbel)⟩
                exact AllReadyIn.nil
              exact AllReadyIn.nil
            exact AllReadyIn.nil
          exact AllReadyIn.nil
        exact AllReadyIn.nil
      exact AllReadyIn.nil
    refine AllReadyIn.cons rfl (fun K hK => ?_) ?_
    · go_simp
      refine hK _ _ ?_
      clear hK K
      refine wpAnyIn_ready (rs := [0, 1]) (by kernel_rfl) (by simp) ?_
      refine AllReadyIn.cons rfl (fun K hK => ?_) ?_
      · go_simp
        refine hK _ _ ?_
        clear hK K
        refine wpAnyIn_ready (rs := [1]) (by kernel_rfl) (by simp) ?_
        refine AllReadyIn.cons rfl (fun K hK => ?_) ?_
        · go_simp
          refine hK _ _ ?_
          clear hK K
          refine wpAnyIn_ready (rs := [3]) (by kernel_rfl) (by simp) ?_
          refine AllReadyIn.cons rfl (fun K hK => ?_) ?_
          · go_simp
            refine (callsIn_wide.2 CN7.out).mono ?_
            rintro e w8 ⟨rfl, hb8⟩
            have hv8 : Boxed w8 B 26 _ := (hb8.block B b10.lt).trans b10
            have hrow8 := owns_turned ho7.drew (S := fun i => w7.heap.size ≤ i) (Turned.of_below hb8 (fun i _ hi => by show i < w7.heap.size; omega)) (fun i hi hs => by have := (ho7.lt i hi).2; omega)
            have hc8 := hv8.cell
            (try dsimp only)
            refine hK _ _ ?_
            clear hK K
            refine wpAnyIn_ready (rs := [4]) (by kernel_rfl) (by simp) ?_
            refine AllReadyIn.cons rfl (fun K hK => ?_) ?_
            · go_simp
              refine (callsIn_wide.2 (PC.out _)).mono ?_
              rintro e w9 ⟨v9, rfl, ho9, hb9⟩
              obtain ⟨a4, c4, g5, c5, w10, rfl, hrun, hcB, hc5, hf5, hv6, hrow6, _, hbel, _⟩ := box_append w8 w9 w3.heap.size B g' cap' v9 xs0 ds (by rw [hl0]; exact hv8) (by rw [hl0]; exact hrow8) (by omega) (by have h1 : w7.heap.size ≤ w8.heap.size := hb8.size; have := hb7.size; omega) hs5 ho9 hb9 (by omega)
              rw [hl0] at hrun hcB hc5
              (try dsimp only)
              refine hK _ _ ?_
              clear hK K
              refine wpAnyIn_ready (rs := [5]) (by kernel_rfl) (by simp) ?_
              refine AllReadyIn.cons rfl (fun K hK => ?_) ?_
              · refine stepIn_append_ran _ _ rfl _ _ 26 rfl _ _ _ rfl rfl hrun ?_
                refine hK _ _ ?_
                clear hK K
                refine wpAnyIn_ready (rs := [6]) (by kernel_rfl) (by simp) ?_
                refine AllReadyIn.cons rfl (fun K hK => ?_) ?_
                · go_simp
                  refine hK _ _ ?_
                  clear hK K
                  refine wpAnyIn_done (by kernel_rfl) ?_ _
                  have hLL : (xs0 ++ ds).length = 9 + ds.length := by simp [hl0]
                  rw [hLL] at hv6 hrow6 hbel
                  gi_wp2
                  gi_meet
                  exact ⟨g5, c5, hv6, hrow6, ((hb7.drew.trans (hb8.mono hb7.size)).trans hbel)⟩
                exact AllReadyIn.nil
              exact AllReadyIn.nil
            exact AllReadyIn.nil
          exact AllReadyIn.nil
        exact AllReadyIn.nil
      refine AllReadyIn.cons rfl (fun K hK => ?_) ?_
      · go_simp
        refine hK _ _ ?_
        clear hK K
        refine wpAnyIn_ready (rs := [0, 3]) (by kernel_rfl) (by simp) ?_
        refine AllReadyIn.cons rfl (fun K hK => ?_) ?_
        · go_simp
          refine hK _ _ ?_
          clear hK K
          refine wpAnyIn_ready (rs := [3]) (by kernel_rfl) (by simp) ?_
          refine AllReadyIn.cons rfl (fun K hK => ?_) ?_
          · go_simp
            refine (callsIn_wide.2 CN7.out).mono ?_
            rintro e w8 ⟨rfl, hb8⟩
            have hv8 : Boxed w8 B 26 _ := (hb8.block B b10.lt).trans b10
            have hrow8 := owns_turned ho7.drew (S := fun i => w7.heap.size ≤ i) (Turned.of_below hb8 (fun i _ hi => by show i < w7.heap.size; omega)) (fun i hi hs => by have := (ho7.lt i hi).2; omega)
            have hc8 := hv8.cell
            (try dsimp only)
            refine hK _ _ ?_
            clear hK K
            refine wpAnyIn_ready (rs := [4]) (by kernel_rfl) (by simp) ?_
            refine AllReadyIn.cons rfl (fun K hK => ?_) ?_
            · go_simp
              refine (callsIn_wide.2 (PC.out _)).mono ?_
              rintro e w9 ⟨v9, rfl, ho9, hb9⟩
              obtain ⟨a4, c4, g5, c5, w10, rfl, hrun, hcB, hc5, hf5, hv6, hrow6, _, hbel, _⟩ := box_append w8 w9 w3.heap.size B g' cap' v9 xs0 ds (by rw [hl0]; exact hv8) (by rw [hl0]; exact hrow8) (by omega) (by have h1 : w7.heap.size ≤ w8.heap.size := hb8.size; have := hb7.size; omega) hs5 ho9 hb9 (by omega)
              rw [hl0] at hrun hcB hc5
              (try dsimp only)
              refine hK _ _ ?_
              clear hK K
              refine wpAnyIn_ready (rs := [5]) (by kernel_rfl) (by simp) ?_
              refine AllReadyIn.cons rfl (fun K hK => ?_) ?_
              · refine stepIn_append_ran _ _ rfl _ _ 26 rfl _ _ _ rfl rfl hrun ?_
                refine hK _ _ ?_
                clear hK K
                refine wpAnyIn_ready (rs := [6]) (by kernel_rfl) (by simp) ?_
                refine AllReadyIn.cons rfl (fun K hK => ?_) ?_
                · go_simp
                  refine hK _ _ ?_
                  clear hK K
                  refine wpAnyIn_done (by kernel_rfl) ?_ _
                  have hLL : (xs0 ++ ds).length = 9 + ds.length := by simp [hl0]
                  rw [hLL] at hv6 hrow6 hbel
                  gi_wp2
                  gi_meet
                  exact ⟨g5, c5, hv6, hrow6, ((hb7.drew.trans (hb8.mono hb7.size)).trans hbel)⟩
                exact AllReadyIn.nil
              exact AllReadyIn.nil
            exact AllReadyIn.nil
          exact AllReadyIn.nil
        refine AllReadyIn.cons rfl (fun K hK => ?_) ?_
        · go_simp
          refine (callsIn_wide.2 CN7.out).mono ?_
          rintro e w8 ⟨rfl, hb8⟩
          have hv8 : Boxed w8 B 26 _ := (hb8.block B b10.lt).trans b10
          have hrow8 := owns_turned ho7.drew (S := fun i => w7.heap.size ≤ i) (Turned.of_below hb8 (fun i _ hi => by show i < w7.heap.size; omega)) (fun i hi hs => by have := (ho7.lt i hi).2; omega)
          have hc8 := hv8.cell
          (try dsimp only)
          refine hK _ _ ?_
          clear hK K
          refine wpAnyIn_ready (rs := [0, 4]) (by kernel_rfl) (by simp) ?_
          refine AllReadyIn.cons rfl (fun K hK => ?_) ?_
          · go_simp
            refine hK _ _ ?_
            clear hK K
            refine wpAnyIn_ready (rs := [4]) (by kernel_rfl) (by simp) ?_
            refine AllReadyIn.cons rfl (fun K hK => ?_) ?_
            · go_simp
              refine (callsIn_wide.2 (PC.out _)).mono ?_
              rintro e w9 ⟨v9, rfl, ho9, hb9⟩
              obtain ⟨a4, c4, g5, c5, w10, rfl, hrun, hcB, hc5, hf5, hv6, hrow6, _, hbel, _⟩ := box_append w8 w9 w3.heap.size B g' cap' v9 xs0 ds (by rw [hl0]; exact hv8) (by rw [hl0]; exact hrow8) (by omega) (by have h1 : w7.heap.size ≤ w8.heap.size := hb8.size; have := hb7.size; omega) hs5 ho9 hb9 (by omega)
              rw [hl0] at hrun hcB hc5
              (try dsimp only)
              refine hK _ _ ?_
              clear hK K
              refine wpAnyIn_ready (rs := [5]) (by kernel_rfl) (by simp) ?_
              refine AllReadyIn.cons rfl (fun K hK => ?_) ?_
              · refine stepIn_append_ran _ _ rfl _ _ 26 rfl _ _ _ rfl rfl hrun ?_
                refine hK _ _ ?_
                clear hK K
                refine wpAnyIn_ready (rs := [6]) (by kernel_rfl) (by simp) ?_
                refine AllReadyIn.cons rfl (fun K hK => ?_) ?_
                · go_simp
                  refine hK _ _ ?_
                  clear hK K
                  refine wpAnyIn_done (by kernel_rfl) ?_ _
                  have hLL : (xs0 ++ ds).length = 9 + ds.length := by simp [hl0]
                  rw [hLL] at hv6 hrow6 hbel
                  gi_wp2
                  gi_meet
                  exact ⟨g5, c5, hv6, hrow6, ((hb7.drew.trans (hb8.mono hb7.size)).trans hbel)⟩
                exact AllReadyIn.nil
              exact AllReadyIn.nil
            exact AllReadyIn.nil
          refine AllReadyIn.cons rfl (fun K hK => ?_) ?_
          · go_simp
            refine (callsIn_wide.2 (PC.out _)).mono ?_
            rintro e w9 ⟨v9, rfl, ho9, hb9⟩
            obtain ⟨a4, c4, g5, c5, w10, rfl, hrun, hcB, hc5, hf5, hv6, hrow6, _, hbel, _⟩ := box_append w8 w9 w3.heap.size B g' cap' v9 xs0 ds (by rw [hl0]; exact hv8) (by rw [hl0]; exact hrow8) (by omega) (by have h1 : w7.heap.size ≤ w8.heap.size := hb8.size; have := hb7.size; omega) hs5 ho9 hb9 (by omega)
            rw [hl0] at hrun hcB hc5
            (try dsimp only)
            refine hK _ _ ?_
            clear hK K
            refine wpAnyIn_ready (rs := [0]) (by kernel_rfl) (by simp) ?_
            refine AllReadyIn.cons rfl (fun K hK => ?_) ?_
            · go_simp
              refine hK _ _ ?_
              clear hK K
              refine wpAnyIn_ready (rs := [5]) (by kernel_rfl) (by simp) ?_
              refine AllReadyIn.cons rfl (fun K hK => ?_) ?_
              · refine stepIn_append_ran _ _ rfl _ _ 26 rfl _ _ _ rfl rfl hrun ?_
                refine hK _ _ ?_
                clear hK K
                refine wpAnyIn_ready (rs := [6]) (by kernel_rfl) (by simp) ?_
                refine AllReadyIn.cons rfl (fun K hK => ?_) ?_
                · go_simp
                  refine hK _ _ ?_
                  clear hK K
                  refine wpAnyIn_done (by kernel_rfl) ?_ _
                  have hLL : (xs0 ++ ds).length = 9 + ds.length := by simp [hl0]
                  rw [hLL] at hv6 hrow6 hbel
                  gi_wp2
                  gi_meet
                  exact ⟨g5, c5, hv6, hrow6, ((hb7.drew.trans (hb8.mono hb7.size)).trans hbel)⟩
                exact AllReadyIn.nil
              exact AllReadyIn.nil
            exact AllReadyIn.nil
          exact AllReadyIn.nil
        exact AllReadyIn.nil
      exact AllReadyIn.nil
    exact AllReadyIn.nil
  clear CN7 PC b10 ho7 hb7 hdl
  obtain ⟨g1, c1, hv1, hrow1, hbc⟩ := hcut
  generalize wc = wA at *
  have hcl : (dg ys.length).length ≤ 10 := digs_len 9 _
  obtain ⟨xs1, hx1⟩ : ∃ xs1, xs0 ++ dg ys.length = xs1 := ⟨_, rfl⟩
  obtain ⟨L1, hL1⟩ : ∃ L1, 9 + (dg ys.length).length = L1 := ⟨_, rfl⟩
  have hl1 : xs1.length = L1 := by rw [← hx1, ← hL1, List.length_append, hl0]
  rw [hx1, hL1] at hrow1
  rw [hL1] at hv1
  gi_wp2_with (gi_at_call 109; refine (exc_in Fence.wide _ trivial rfl _ _ _ _ _).mono ?_; rintro e w' ⟨rfl, rfl⟩)
  have hdl1 : L1 ≤ 19 := by omega
  have h9 : 9 ≤ L1 := by omega
  have hBs := hv1.lt
  have hsc := hbc.size
  have b1 := (Boxed.new wA 58 (.slice a2 n c2)).alloc (.cells #[.int .i64 q] 3)
  have b2 := Boxed.new (wA.alloc (.cells #[.slice a2 n c2] 58)) 3 (.int .i64 q)
  have hvX := (hv1.alloc (.cells #[.slice a2 n c2] 58)).alloc (.cells #[.int .i64 q] 3)
  have hrX := (hrow1.alloc (.cells #[.slice a2 n c2] 58)).alloc (.cells #[.int .i64 q] 3)
  have hbX := (hbc.alloc hsc (.cells #[.slice a2 n c2] 58)).alloc (by simp; omega) (.cells #[.int .i64 q] 3)
  have hsX : ((wA.alloc (.cells #[.slice a2 n c2] 58)).alloc (.cells #[.int .i64 q] 3)).heap.size = wA.heap.size + 2 := by simp
  simp only [World.size_alloc] at b2
  generalize (wA.alloc (.cells #[.slice a2 n c2] 58)).alloc (.cells #[.int .i64 q] 3) = WX at *
  clear hrow1
  have hmkl := fun pre : List (Nat × Nat) => (show (mk pre).length ≤ 20 * pre.length by rw [mk_length]; exact exW_le dn dn_le pre)
  have hXl := fun pre : List (Nat × Nat) => (show (xs1 ++ mk pre).length = L1 + (mk pre).length by rw [List.length_append, hl1])
  have PU := Lib.hid dput_any
  have hne1 : (58 : Nat) ≠ 5 := by decide
  have hne2 : (3 : Nat) ≠ 5 := by decide
  refine wpIn_rangeFunc_ownG rfl (by decide) (gf := 133) (lb := #[.pointer (some ⟨wA.heap.size, 0, none⟩), .pointer (some ⟨wA.heap.size + 1, 0, none⟩)]) rfl trivial (enters_of Try.func133 (by kernel_rfl) rfl)
    (exc_stops Fence.wide 2 trivial rfl (by decide) wA.heap.size (wA.heap.size + 1) a2 n c2 q o (by omega) hq HV.out w3 HR3.out WX hbX b1 b2) (fun h k => h.trans k) (kx_b (by omega) (by omega) (by omega)) (Below.refl _ _) (fun _ => rfl)
    (fun pre W => ((∃ v, Boxed W B 26 v ∧ W.ownsRow w3.heap.size 5 1 v (xs1 ++ mk pre).length (cellsOf (xs1 ++ mk pre)) ∧ ∃ g c, v = .slice (some ⟨g, 0, none⟩) (xs1 ++ mk pre).length c) ∧ Boxed W wA.heap.size 58 (.slice a2 n c2) ∧ Boxed W (wA.heap.size + 1) 3 (.int .i64 q)) ∧ Below w3.heap.size w3 W ∧ WX.heap.size ≤ W.heap.size)
    (fun _ _ _ => False)
    (fun s W W' row hs hg hr => ⟨⟨holdsRow_own w3.heap.size B 26 5 1 (fun pre => (xs1 ++ mk pre).length) (fun pre => cellsOf (xs1 ++ mk pre)) (fun pre v => ∃ g c, v = .slice (some ⟨g, 0, none⟩) (xs1 ++ mk pre).length c) s W W' row hs.1.1 hg (fun r e => (hr r e).2), hs.1.2.1.kept hg (fun e => by have := (hr _ e.symm).1; omega), hs.1.2.2.kept hg (fun e => by have := (hr _ e.symm).1; omega)⟩, hs.2.1.grown hg (by omega) (fun k e => by have := (hr _ e).1; omega), Nat.le_trans hs.2.2 hg.size⟩)
    (fun _ _ _ _ _ hs _ _ => hs)
    ⟨⟨⟨_, hvX, by simpa [mk, hl1] using hrX, ⟨g1, c1, by simp [mk, hl1]⟩⟩, b1, b2⟩, hbX, Nat.le_refl _⟩
    (fun x => { tmps := #[.agg #[], .slice a n cap, .pointer (some ⟨w.heap.size, 0, none⟩), undef, .slice none 0 0, .int .i64 0, .int .i64 0, .int .i64 f, .slice a2 n c2, .int .i64 q, .pointer (some ⟨B, 0, none⟩), .int .u64 (x.1 % 18446744073709551616 : Nat), .int .u64 (x.2 % 18446744073709551616 : Nat), undef, undef, .agg #[], .iface 51 (.agg #[]), .slice a n cap, .int .i64 0, .int .i64 0, .bool false, undef, .tuple #[.int .i64 f, .slice a2 n c2], .slice a n cap, .tuple #[.int .i64 f, .slice a2 n c2], .int .i64 f, .slice a2 n c2, .slice a2 n c2, .int .i64 q, .int .i64 f, .int .u64 u, v4, .int .i64 q, .int .u8 q, .slice (some ⟨w4.heap.size, 0, none⟩) 1 1, .slice (some ⟨g', 0, none⟩) 9 cap', u36, u37, u38, u39, u40, u41, .slice a2 n c2, .int .i64 q, .func (.func 133) #[] #[.pointer (some ⟨wA.heap.size, 0, none⟩), .pointer (some ⟨wA.heap.size + 1, 0, none⟩)], .int .u64 (x.1 % 18446744073709551616 : Nat), .int .u64 (x.2 % 18446744073709551616 : Nat), u47, u48, u49, u50, u51, u52, u53, u54, u55, u56, u57, u58, u59, u60, u61, u62, u63, u64, u65], defers := [] }) ?assign ?body ?done ?stop
  case assign =>
    intro l x W K hK
    gi_wp2
    first | exact hK | simpa using hK
  case body =>
    rintro l pre ⟨gp, hg⟩ W ⟨⟨⟨v, hv, hrow, ⟨gg, cc, rfl⟩⟩, hb1, hb2⟩, hB3, hs⟩ hlt
    have hmx : Try.prog.follows .mixedOrders = true := by kernel_rfl
    have hml := hmkl pre
    have hexl := exS_len o q n
    have hxl := hXl pre
    have hmm := mk_more (gp, hg) pre
    have hd1 : (dg gp).length ≤ 10 := digs_len 9 _
    have hd2 : (dg hg).length ≤ 10 := digs_len 9 _
    obtain ⟨X, hX⟩ : ∃ X, xs1 ++ mk pre = X := ⟨_, rfl⟩
    have HX2 := Lib.hid (show xs1 ++ mk (pre ++ [(gp, hg)]) = X ++ dg gp ++ dg hg by rw [hmm, ← hX]; simp)
    rw [hX] at hv hrow hxl
    clear hmm hX
    have hX1 : 1 ≤ X.length ∧ X.length ≤ 30000 := by omega
    clear hxl hml
    have PG := Lib.hid (PU.out gp)
    have PH := Lib.hid (PU.out hg)
    generalize dg gp = dG at *
    generalize dg hg = dH at *
    have hvc := hv.cell
    gi_wp2
    gi_cut [] from 47 (fun wx => ∃ g c, Boxed wx B 26 (.slice (some ⟨g, 0, none⟩) (X ++ dG).length c) ∧ wx.ownsRow w3.heap.size 5 1 (.slice (some ⟨g, 0, none⟩) (X ++ dG).length c) (X ++ dG).length (cellsOf (X ++ dG)) ∧ (Boxed wx wA.heap.size 58 (.slice a2 n c2) ∧ Boxed wx (wA.heap.size + 1) 3 (.int .i64 q)) ∧ KeepsOthers W wx ∧ Below w3.heap.size W wx)
    case first =>
      refine wpIn_region_any hmx ?_
      (try (change wpAnyIn _ _ _ _ _ _ _ _ _ (World.drew _)))
      refine wpAnyIn_ready (rs := [0, 1]) (by kernel_rfl) (by simp) ?_
      refine AllReadyIn.cons rfl (fun K hK => ?_) ?_
      · go_simp
        refine hK _ _ ?_
        clear hK K
        refine wpAnyIn_ready (rs := [1]) (by kernel_rfl) (by simp) ?_
        refine AllReadyIn.cons rfl (fun K hK => ?_) ?_
        · go_simp
          refine hK _ _ ?_
          clear hK K
          refine wpAnyIn_ready (rs := [2]) (by kernel_rfl) (by simp) ?_
          refine AllReadyIn.cons rfl (fun K hK => ?_) ?_
          · go_simp
            refine (CallsIn.inRound l (callsIn_wide.2 (PG.out _))).mono ?_
            rintro e w9 ⟨v9, rfl, ho9, hb9⟩
            obtain ⟨a4, c4, g5, c5, w10, rfl, hrun, hcB, hc5, hf5, hv6, hrow6, hk6, hbel, hoth⟩ := box_append W.drew w9 w3.heap.size B gg cc v9 X dG hv hrow.drew (by omega) (by show _ ≤ W.heap.size; omega) hs5 ho9 hb9 (by omega)
            (try dsimp only)
            refine hK _ _ ?_
            clear hK K
            refine wpAnyIn_ready (rs := [3]) (by kernel_rfl) (by simp) ?_
            refine AllReadyIn.cons rfl (fun K hK => ?_) ?_
            · refine stepIn_append_ran _ _ rfl _ _ 26 rfl _ _ _ rfl rfl hrun ?_
              refine hK _ _ ?_
              clear hK K
              refine wpAnyIn_ready (rs := [4]) (by kernel_rfl) (by simp) ?_
              refine AllReadyIn.cons rfl (fun K hK => ?_) ?_
              · go_simp
                refine hK _ _ ?_
                clear hK K
                refine wpAnyIn_done (by kernel_rfl) ?_ _
                gi_wp2
                gi_meet
                rw [show X.length + dG.length = (X ++ dG).length from List.length_append.symm]
                exact ⟨g5, c5, hv6, hrow6, ⟨hoth _ _ _ hb1 (by omega) hne1, hoth _ _ _ hb2 (by omega) hne2⟩, (KeepsOthers.drew W).trans hk6, (Below.refl _ W).drew.trans hbel⟩
              exact AllReadyIn.nil
            exact AllReadyIn.nil
          exact AllReadyIn.nil
        exact AllReadyIn.nil
      refine AllReadyIn.cons rfl (fun K hK => ?_) ?_
      · go_simp
        refine hK _ _ ?_
        clear hK K
        refine wpAnyIn_ready (rs := [0, 2]) (by kernel_rfl) (by simp) ?_
        refine AllReadyIn.cons rfl (fun K hK => ?_) ?_
        · go_simp
          refine hK _ _ ?_
          clear hK K
          refine wpAnyIn_ready (rs := [2]) (by kernel_rfl) (by simp) ?_
          refine AllReadyIn.cons rfl (fun K hK => ?_) ?_
          · go_simp
            refine (CallsIn.inRound l (callsIn_wide.2 (PG.out _))).mono ?_
            rintro e w9 ⟨v9, rfl, ho9, hb9⟩
            obtain ⟨a4, c4, g5, c5, w10, rfl, hrun, hcB, hc5, hf5, hv6, hrow6, hk6, hbel, hoth⟩ := box_append W.drew w9 w3.heap.size B gg cc v9 X dG hv hrow.drew (by omega) (by show _ ≤ W.heap.size; omega) hs5 ho9 hb9 (by omega)
            (try dsimp only)
            refine hK _ _ ?_
            clear hK K
            refine wpAnyIn_ready (rs := [3]) (by kernel_rfl) (by simp) ?_
            refine AllReadyIn.cons rfl (fun K hK => ?_) ?_
            · refine stepIn_append_ran _ _ rfl _ _ 26 rfl _ _ _ rfl rfl hrun ?_
              refine hK _ _ ?_
              clear hK K
              refine wpAnyIn_ready (rs := [4]) (by kernel_rfl) (by simp) ?_
              refine AllReadyIn.cons rfl (fun K hK => ?_) ?_
              · go_simp
                refine hK _ _ ?_
                clear hK K
                refine wpAnyIn_done (by kernel_rfl) ?_ _
                gi_wp2
                gi_meet
                rw [show X.length + dG.length = (X ++ dG).length from List.length_append.symm]
                exact ⟨g5, c5, hv6, hrow6, ⟨hoth _ _ _ hb1 (by omega) hne1, hoth _ _ _ hb2 (by omega) hne2⟩, (KeepsOthers.drew W).trans hk6, (Below.refl _ W).drew.trans hbel⟩
              exact AllReadyIn.nil
            exact AllReadyIn.nil
          exact AllReadyIn.nil
        refine AllReadyIn.cons rfl (fun K hK => ?_) ?_
        · go_simp
          refine (CallsIn.inRound l (callsIn_wide.2 (PG.out _))).mono ?_
          rintro e w9 ⟨v9, rfl, ho9, hb9⟩
          obtain ⟨a4, c4, g5, c5, w10, rfl, hrun, hcB, hc5, hf5, hv6, hrow6, hk6, hbel, hoth⟩ := box_append W.drew w9 w3.heap.size B gg cc v9 X dG hv hrow.drew (by omega) (by show _ ≤ W.heap.size; omega) hs5 ho9 hb9 (by omega)
          (try dsimp only)
          refine hK _ _ ?_
          clear hK K
          refine wpAnyIn_ready (rs := [0]) (by kernel_rfl) (by simp) ?_
          refine AllReadyIn.cons rfl (fun K hK => ?_) ?_
          · go_simp
            refine hK _ _ ?_
            clear hK K
            refine wpAnyIn_ready (rs := [3]) (by kernel_rfl) (by simp) ?_
            refine AllReadyIn.cons rfl (fun K hK => ?_) ?_
            · refine stepIn_append_ran _ _ rfl _ _ 26 rfl _ _ _ rfl rfl hrun ?_
              refine hK _ _ ?_
              clear hK K
              refine wpAnyIn_ready (rs := [4]) (by kernel_rfl) (by simp) ?_
              refine AllReadyIn.cons rfl (fun K hK => ?_) ?_
              · go_simp
                refine hK _ _ ?_
                clear hK K
                refine wpAnyIn_done (by kernel_rfl) ?_ _
                gi_wp2
                gi_meet
                rw [show X.length + dG.length = (X ++ dG).length from List.length_append.symm]
                exact ⟨g5, c5, hv6, hrow6, ⟨hoth _ _ _ hb1 (by omega) hne1, hoth _ _ _ hb2 (by omega) hne2⟩, (KeepsOthers.drew W).trans hk6, (Below.refl _ W).drew.trans hbel⟩
              exact AllReadyIn.nil
            exact AllReadyIn.nil
          exact AllReadyIn.nil
        exact AllReadyIn.nil
      exact AllReadyIn.nil
    case rest =>
      obtain ⟨g2, c2', hv2, hrow2, ⟨hb12, hb22⟩, hk2, hbl2⟩ := hcut
      obtain ⟨Y, hY⟩ : ∃ Y, X ++ dG = Y := ⟨_, rfl⟩
      have hYl : 1 ≤ Y.length ∧ Y.length ≤ 30020 := by rw [← hY, List.length_append]; omega
      rw [hY] at hv2 hrow2 HX2
      clear hY
      have hvc2 := hv2.cell
      have hsW2 := hbl2.size
      gi_wp2
      refine wpIn_region_any hmx ?_
      (try (change wpAnyIn _ _ _ _ _ _ _ _ _ (World.drew _)))
      refine wpAnyIn_ready (rs := [0, 1]) (by kernel_rfl) (by simp) ?_
      refine AllReadyIn.cons rfl (fun K hK => ?_) ?_
      · go_simp
        refine hK _ _ ?_
        clear hK K
        refine wpAnyIn_ready (rs := [1]) (by kernel_rfl) (by simp) ?_
        refine AllReadyIn.cons rfl (fun K hK => ?_) ?_
        · go_simp
          refine hK _ _ ?_
          clear hK K
          refine wpAnyIn_ready (rs := [2]) (by kernel_rfl) (by simp) ?_
          refine AllReadyIn.cons rfl (fun K hK => ?_) ?_
          · go_simp
            refine (CallsIn.inRound l (callsIn_wide.2 (PH.out _))).mono ?_
            rintro e w9 ⟨v9, rfl, ho9, hb9⟩
            obtain ⟨a4, c4, g5, c5, w10, rfl, hrun, hcB, hc5, hf5, hv6, hrow6, hk6, hbel, hoth⟩ := box_append wc.drew w9 w3.heap.size B g2 c2' v9 Y dH hv2 hrow2.drew (by omega) (by show _ ≤ wc.heap.size; omega) hs5 ho9 hb9 (by omega)
            (try dsimp only)
            refine hK _ _ ?_
            clear hK K
            refine wpAnyIn_ready (rs := [3]) (by kernel_rfl) (by simp) ?_
            refine AllReadyIn.cons rfl (fun K hK => ?_) ?_
            · refine stepIn_append_ran _ _ rfl _ _ 26 rfl _ _ _ rfl rfl hrun ?_
              refine hK _ _ ?_
              clear hK K
              refine wpAnyIn_ready (rs := [4]) (by kernel_rfl) (by simp) ?_
              refine AllReadyIn.cons rfl (fun K hK => ?_) ?_
              · go_simp
                refine hK _ _ ?_
                clear hK K
                refine wpAnyIn_done (by kernel_rfl) ?_ _
                gi_wp2
                rw [show Y.length + dH.length = (Y ++ dH).length from List.length_append.symm]
                have o1 := hoth _ _ _ hb12 (by omega) hne1
                have o2 := hoth _ _ _ hb22 (by omega) hne2
                have hsz := hbel.size
                have hsz2 : wc.heap.size ≤ (w10.setCell ⟨B, 0, none⟩ (.slice (some ⟨g5, 0, none⟩) (Y ++ dH).length c5)).heap.size := hsz
                refine ⟨(hk2.trans ((KeepsOthers.drew wc).trans hk6)).from _, ⟨hbl2.drew.trans hbel, o1.trans hb1.symm, o2.trans hb2.symm⟩, ⟨⟨_, hv6, ?_, ⟨g5, c5, ?_⟩⟩, o1, o2⟩, (hB3.trans hbl2).drew.trans hbel, by omega⟩
                · show World.ownsRow _ _ _ _ _ (xs1 ++ mk (pre ++ [(gp, hg)])).length (cellsOf (xs1 ++ mk (pre ++ [(gp, hg)])))
                  rw [HX2.out]
                  exact hrow6
                · show _ = Value.slice _ (xs1 ++ mk (pre ++ [(gp, hg)])).length _
                  rw [HX2.out]
              exact AllReadyIn.nil
            exact AllReadyIn.nil
          exact AllReadyIn.nil
        exact AllReadyIn.nil
      refine AllReadyIn.cons rfl (fun K hK => ?_) ?_
      · go_simp
        refine hK _ _ ?_
        clear hK K
        refine wpAnyIn_ready (rs := [0, 2]) (by kernel_rfl) (by simp) ?_
        refine AllReadyIn.cons rfl (fun K hK => ?_) ?_
        · go_simp
          refine hK _ _ ?_
          clear hK K
          refine wpAnyIn_ready (rs := [2]) (by kernel_rfl) (by simp) ?_
          refine AllReadyIn.cons rfl (fun K hK => ?_) ?_
          · go_simp
            refine (CallsIn.inRound l (callsIn_wide.2 (PH.out _))).mono ?_
            rintro e w9 ⟨v9, rfl, ho9, hb9⟩
            obtain ⟨a4, c4, g5, c5, w10, rfl, hrun, hcB, hc5, hf5, hv6, hrow6, hk6, hbel, hoth⟩ := box_append wc.drew w9 w3.heap.size B g2 c2' v9 Y dH hv2 hrow2.drew (by omega) (by show _ ≤ wc.heap.size; omega) hs5 ho9 hb9 (by omega)
            (try dsimp only)
            refine hK _ _ ?_
            clear hK K
            refine wpAnyIn_ready (rs := [3]) (by kernel_rfl) (by simp) ?_
            refine AllReadyIn.cons rfl (fun K hK => ?_) ?_
            · refine stepIn_append_ran _ _ rfl _ _ 26 rfl _ _ _ rfl rfl hrun ?_
              refine hK _ _ ?_
              clear hK K
              refine wpAnyIn_ready (rs := [4]) (by kernel_rfl) (by simp) ?_
              refine AllReadyIn.cons rfl (fun K hK => ?_) ?_
              · go_simp
                refine hK _ _ ?_
                clear hK K
                refine wpAnyIn_done (by kernel_rfl) ?_ _
                gi_wp2
                rw [show Y.length + dH.length = (Y ++ dH).length from List.length_append.symm]
                have o1 := hoth _ _ _ hb12 (by omega) hne1
                have o2 := hoth _ _ _ hb22 (by omega) hne2
                have hsz := hbel.size
                have hsz2 : wc.heap.size ≤ (w10.setCell ⟨B, 0, none⟩ (.slice (some ⟨g5, 0, none⟩) (Y ++ dH).length c5)).heap.size := hsz
                refine ⟨(hk2.trans ((KeepsOthers.drew wc).trans hk6)).from _, ⟨hbl2.drew.trans hbel, o1.trans hb1.symm, o2.trans hb2.symm⟩, ⟨⟨_, hv6, ?_, ⟨g5, c5, ?_⟩⟩, o1, o2⟩, (hB3.trans hbl2).drew.trans hbel, by omega⟩
                · show World.ownsRow _ _ _ _ _ (xs1 ++ mk (pre ++ [(gp, hg)])).length (cellsOf (xs1 ++ mk (pre ++ [(gp, hg)])))
                  rw [HX2.out]
                  exact hrow6
                · show _ = Value.slice _ (xs1 ++ mk (pre ++ [(gp, hg)])).length _
                  rw [HX2.out]
              exact AllReadyIn.nil
            exact AllReadyIn.nil
          exact AllReadyIn.nil
        refine AllReadyIn.cons rfl (fun K hK => ?_) ?_
        · go_simp
          refine (CallsIn.inRound l (callsIn_wide.2 (PH.out _))).mono ?_
          rintro e w9 ⟨v9, rfl, ho9, hb9⟩
          obtain ⟨a4, c4, g5, c5, w10, rfl, hrun, hcB, hc5, hf5, hv6, hrow6, hk6, hbel, hoth⟩ := box_append wc.drew w9 w3.heap.size B g2 c2' v9 Y dH hv2 hrow2.drew (by omega) (by show _ ≤ wc.heap.size; omega) hs5 ho9 hb9 (by omega)
          (try dsimp only)
          refine hK _ _ ?_
          clear hK K
          refine wpAnyIn_ready (rs := [0]) (by kernel_rfl) (by simp) ?_
          refine AllReadyIn.cons rfl (fun K hK => ?_) ?_
          · go_simp
            refine hK _ _ ?_
            clear hK K
            refine wpAnyIn_ready (rs := [3]) (by kernel_rfl) (by simp) ?_
            refine AllReadyIn.cons rfl (fun K hK => ?_) ?_
            · refine stepIn_append_ran _ _ rfl _ _ 26 rfl _ _ _ rfl rfl hrun ?_
              refine hK _ _ ?_
              clear hK K
              refine wpAnyIn_ready (rs := [4]) (by kernel_rfl) (by simp) ?_
              refine AllReadyIn.cons rfl (fun K hK => ?_) ?_
              · go_simp
                refine hK _ _ ?_
                clear hK K
                refine wpAnyIn_done (by kernel_rfl) ?_ _
                gi_wp2
                rw [show Y.length + dH.length = (Y ++ dH).length from List.length_append.symm]
                have o1 := hoth _ _ _ hb12 (by omega) hne1
                have o2 := hoth _ _ _ hb22 (by omega) hne2
                have hsz := hbel.size
                have hsz2 : wc.heap.size ≤ (w10.setCell ⟨B, 0, none⟩ (.slice (some ⟨g5, 0, none⟩) (Y ++ dH).length c5)).heap.size := hsz
                refine ⟨(hk2.trans ((KeepsOthers.drew wc).trans hk6)).from _, ⟨hbl2.drew.trans hbel, o1.trans hb1.symm, o2.trans hb2.symm⟩, ⟨⟨_, hv6, ?_, ⟨g5, c5, ?_⟩⟩, o1, o2⟩, (hB3.trans hbl2).drew.trans hbel, by omega⟩
                · show World.ownsRow _ _ _ _ _ (xs1 ++ mk (pre ++ [(gp, hg)])).length (cellsOf (xs1 ++ mk (pre ++ [(gp, hg)])))
                  rw [HX2.out]
                  exact hrow6
                · show _ = Value.slice _ (xs1 ++ mk (pre ++ [(gp, hg)])).length _
                  rw [HX2.out]
              exact AllReadyIn.nil
            exact AllReadyIn.nil
          exact AllReadyIn.nil
        exact AllReadyIn.nil
      exact AllReadyIn.nil
  case done =>
    rintro D ys' W hD hys' ⟨⟨⟨v, hv, hrow, ⟨gg, cc, rfl⟩⟩, hb1, hb2⟩, hB3, hs⟩ hK
    have hyy : ys' = ys := hys'.trans HYS.out
    have hml := hmkl ys'
    have hxl := hXl ys'
    have hHF := HFB.out
    have hHL := HFL.out
    rw [hx1, ← hyy] at hHF
    obtain ⟨X, hX⟩ : ∃ X, xs1 ++ mk ys' = X := ⟨_, rfl⟩
    rw [hX] at hv hrow hxl hHF
    have hnl : need n q ≤ 8192 := need_le n q hn2 hq
    have hylen : ys'.length ≤ 1024 := by rw [hyy]; omega
    have hXb : X.length ≤ 30000 := by omega
    have hp0 : 0 < 2 ^ q := Nat.pow_pos (by decide)
    have hbl0 : (bytesOf (need n q) (packN q (fun i => o i % 2 ^ q) n)).length = need n q := bytesOf_length _ _
    have HBL := Lib.hid hbl0
    have LW := Lib.hid (lows_any a2 n c2 q o hn2 hq HV.out W (HR3.out.below hB3))
    have PK := Lib.hid (fun (a6 : Option Addr) (c6 : Nat) (V : World) (hr : RowOf V a6 n (fun i => .int .u64 (o i % 2 ^ q : Nat))) => (show Calls Try.prog 99 #[.int .i64 q, .slice a6 n c6] V fun e w' => ∃ v, e = .returned (.tuple #[v, .int .i64 0]) ∧ w'.ownsRow V.heap.size 5 1 v (need n q) (cellsOf (bytesOf (need n q) (packN q (fun i => o i % 2 ^ q) n))) ∧ Below V.heap.size V w' from by
      have h := pack_any q hq a6 n c6 (fun i => o i % 2 ^ q) n hn2 (Nat.le_refl _) (fun i _ => Nat.mod_lt _ hp0) (fun h => absurd h (Nat.lt_irrefl _)) V ⟨hr, fun i hi => Nat.lt_of_le_of_lt (Nat.mod_le _ _) (HV.out i hi)⟩
      refine h.mono fun e w' he => ?_
      unfold PackEnd at he
      rwa [if_neg (Nat.lt_irrefl _)] at he))
    have hHFD := Lib.hid hHF
    have hHLD := Lib.hid hHL
    clear hxl hml hHF hHL hp0 hbl0 hX hyy hys'
    generalize bytesOf (need n q) (packN q (fun i => o i % 2 ^ q) n) = pk at *
    generalize need n q = nd at *
    have hc := hv.cell
    have hsW := hB3.size
    gi_wp2_with (first
      | (gi_at_call 112; refine (callsIn_wide.2 LW.out).mono ?_; rintro e w6 ⟨v6, rfl, ho6, hb6⟩; obtain ⟨a6, c6, rfl, hr6, _⟩ := own_reads' ho6; have HR6 := Lib.hid hr6; have HB6 := Lib.hid hb6; have hrow6 := owns_turned hrow (S := fun i => W.heap.size ≤ i) (Turned.of_below hb6 (fun i _ hi => by omega)) (fun i hi hs => by have := (hrow.lt i hi).2; omega); have HRW6 := Lib.hid hrow6; clear hr6 ho6 hb6 hrow6)
      | (gi_at_call 99; refine (callsIn_wide.2 (PK.out _ _ _ HR6.out)).mono ?_; rintro e w8 ⟨v8, rfl, ho8, hb8⟩
         obtain ⟨a4, c4, a5, c5, w9, rfl, hrun, ho9, hg9, hr8⟩ := row_append w6 w8 w3.heap.size _ v8 X pk HRW6.out (by have := HB6.out.size; omega) (by rw [HBL.out]; exact ho8) hb8 (by rw [HBL.out]; omega)
         have hc8 : w8.cell? ⟨B, 0, none⟩ = some (.slice (some ⟨gg, 0, none⟩) X.length cc) := ((hb8.cell (p := ⟨B, 0, none⟩) (by have := HB6.out.size; have := hv.lt; show B < _; omega)).trans (HB6.out.cell (p := ⟨B, 0, none⟩) hv.lt)).trans hc
         have HRUN := Lib.hid hrun; have HO9 := Lib.hid ho9; have HG9 := Lib.hid hg9; have HB8 := Lib.hid hb8; have HR8 := Lib.hid hr8; clear hrun ho9 hg9 hb8 ho8 hr8)
      | (gi_at_builtin; go_must (refine wpListIn_append_ran _ w9 rfl _ _ 26 rfl _ _ _ rfl rfl HRUN.out ?_)))
    rw [show X.length + pk.length = (X ++ pk).length from List.length_append.symm]
    have hKO : KeepsOthers W w9 := ((keeps_below HB6.out).trans (keeps_below HB8.out)).trans (KeepsOthers.of_grownBy HG9.out fun j ob ej hj => by
      rcases HR8.out.2 with ⟨h0, _⟩ | ⟨g, cap, cur, h0, _, hgb, _⟩
      · rw [h0] at ej; simp [Value.ownBlock] at ej
      · rw [h0] at ej
        obtain rfl : g = j := by simpa [Value.ownBlock] using ej
        rw [hgb] at hj; cases hj; rfl)
    have hK' := hKO.same D _ hK rfl
    have hs6 := HB6.out.size
    have hs8 := HB8.out.size
    have hb9 : Below w3.heap.size w3 w9 := ((hB3.trans (HB6.out.mono hsW)).trans (HB8.out.mono (by omega))).grown HG9.out (by omega) (fun j hj => (HRW6.out.lt j hj).1)
    have hs3 := HB3.out.size
    have hlen9 : (X ++ pk).length = FLN := by rw [← hHLD.out, hHFD.out]
    refine ⟨by simp, .inl ⟨_, _, rfl, run_takeDeferred hK', ?_⟩⟩
    refine ⟨_, results_tmp2 rfl _ _ _, _, rfl, ?_, ((HB3.out.trans (hb9.mono hs3)).trans (belowK_b (w := w) (Nat.le_refl _) w9 D _ _ (by omega) hK' rfl rfl))⟩
    rw [hHFD.out, ← hlen9]
    exact ownsRow_putObj (owns_base HO9.out (fun j hj => Nat.le_trans hs3 (HO9.out.lt j hj).1)) _ hK' rfl
  case stop =>
    rintro D c pre W _ _ h _
    exact h.elim
end Go.Proofs.Ythonjffojaljdaa
