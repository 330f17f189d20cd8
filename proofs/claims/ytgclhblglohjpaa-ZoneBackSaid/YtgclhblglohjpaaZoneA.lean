/-
  CONTRACTS OF zone.one, Zone.Join and zone.Of, in any world. Conditions: at most 600 numbers, which lie in memory as told.
-/
import Derived.Test.YtgclhblglohjpaaIsRow
import Derived.Test.YtgclhblglohjpaaSameI
import Derived.Test.YtgclhblglohjpaaNumW
import Derived.Deep.LoopGhost
import Derived.RegionTactic
import Derived.Laws.ResultCell
import Derived.Laws.Rows
import Derived.Deep.RegionHeld3
import Derived.Deep.DrawnRows
import Derived.Deep.MidRow
namespace Go.Proofs.Ytgclhblglohjpaa
open Go.RowKit
set_option linter.unusedVariables false
set_option linter.unusedSimpArgs false
/-- What a zone is, cell by cell. -/
def zV (c mn mx s : Int) : Array Value := #[.int .i64 c, .int .i64 mn, .int .i64 mx, .int .i64 s]
def zmin (x : Nat → Int) : Nat → Int
  | 0 => x 0
  | k + 1 => if x k < zmin x k then x k else zmin x k
def zmax (x : Nat → Int) : Nat → Int
  | 0 => x 0
  | k + 1 => if zmax x k < x k then x k else zmax x k
def ztot (x : Nat → Int) : Nat → Int
  | 0 => 0
  | k + 1 => ztot x k + x k
theorem zwrap_eq (n : Int) : IntKind.i64.wrap n = wrap64 n := by
  simp [IntKind.wrap, IntKind.bits, IntKind.signed, wrap64]
  split <;> omega
theorem zwrap_add (a b : Int) : wrap64 (wrap64 a + b) = wrap64 (a + b) := by unfold wrap64; omega
theorem zwrap_in (n : Int) (h : -9223372036854775808 ≤ n ∧ n ≤ 9223372036854775807) : wrap64 n = n := by unfold wrap64; omega
/-- The zone of the first n. -/
def zOf (x : Nat → Int) (n : Nat) : Array Value := zV n (zmin x n) (zmax x n) (wrap64 (ztot x n))
theorem zOf_one (x : Nat → Int) (h : -9223372036854775808 ≤ x 0 ∧ x 0 ≤ 9223372036854775807) : zV 1 (x 0) (x 0) (x 0) = zOf x 1 := by
  simp [zOf, zmin, zmax, ztot, zwrap_in _ h]
theorem zOf_succ (x : Nat → Int) (n : Nat) (hn : n ≤ 1000) : zV (wrap64 (n + 1)) (if x n < zmin x n then x n else zmin x n) (if zmax x n < x n then x n else zmax x n) (wrap64 (wrap64 (ztot x n) + x n)) = zOf x (n + 1) := by
  rw [zwrap_add, zwrap_in _ (by omega)]; rfl
theorem zV_one (c l h s : Int) : (zV c l h s).all (·.oneCell') = true := by simp [zV, Value.oneCell']
theorem zone_info : (Try.prog.info? 40).map (·.size) = some 4 := by kernel_rfl
theorem results_cell_tmp_row {P : Program} {fn : Func} {p u : Tmp} {ty : TypeId} (h : fn.results = #[.cell p ty, .tmp u]) (tmps : Array Value) (w : World) (g : Nat) (t : TypeId) (cs : Array Value) (fr : Nat × Nat) (d : TypeDesc)
    (hp : tmps.getD p undef = .pointer (some ⟨g, 0, none⟩)) (hg : w.heap[g]? = some (.cells cs t fr))
    (hu : P.underlying ty = some d) (hd : (match d with | .struct _ | .array _ _ => true | _ => false) = true) (hi : (P.info? ty).map (·.size) = some cs.size) (v : Value) (hv : tmps.getD u undef = v) :
    (results fn tmps).run P w = .ok (.tuple #[.agg cs, v]) w := by
  rw [results_cell_tmp h, hp]
  simp only [asAddr, Sem.run_pure, Result.andThen_ok, run_loadVar_row w g t ty cs fr d hg hu hd hi, hv]
theorem lies_zone {W : World} {g : Nat} {t ty : TypeId} {cs : Array Value} {d : TypeDesc} (h : Lies W g t cs) (hu : Try.prog.underlying ty = some d) (hd : d.isRow = true) (hi : (Try.prog.info? ty).map (·.size) = some cs.size) :
    (Instr.loadAt ty (.pointer (some ⟨g, 0, none⟩))).run Try.prog W = .ok (.agg cs) W := by
  have := run_loadAt_mid W g 0 ty cs.toList d (fun j v hv => by rw [Nat.zero_add, h.cell j]; simpa using hv) hu hd (by rw [hi]; simp)
  simpa using this
theorem zone_one (v : Int) (w : World) : Calls Try.prog 67 #[.int .i64 v] w fun e w' => e = .returned (.agg (zV 1 v v v)) ∧ Below w.heap.size w w' := by
  go_enter Try.func67, Try.ntmps67
  go_wp2
  exact bodyPost_ret (v := .agg (zV 1 v v v)) (results_cell_row (by rfl) _ _ w.heap.size 40 (zV 1 v v v) (0, 0) _ (by rfl) (heap_alloc_new w _) Try.underlying40 rfl zone_info) rfl ⟨rfl, (Below.refl _ _).alloc (Nat.le_refl _) _⟩
theorem zone_join (c1 l1 h1 s1 c2 l2 h2 s2 : Int) (w : World) : Calls Try.prog 24 #[.agg (zV c1 l1 h1 s1), .agg (zV c2 l2 h2 s2)] w fun e w' => e = .returned (.agg (zV (wrap64 (c1 + c2)) (if l2 < l1 then l2 else l1) (if h1 < h2 then h2 else h1) (wrap64 (s1 + s2)))) ∧ Below w.heap.size w w' := by
  unfold zV
  by_cases a : l2 < l1
  all_goals by_cases b : h1 < h2
  all_goals
    simp only [a, b, if_true, if_false]
    go_enter Try.func24, Try.ntmps24
    go_wp2
    exact bodyPost_ret (v := .agg (zV _ _ _ _)) (results_cell_row (by rfl) _ _ (w.heap.size + 1 + 1) 40 (zV _ _ _ _) (0, 0) _ (by rfl) (by simpa [zV] using heap_alloc_new ((w.alloc _).alloc _) _) Try.underlying40 rfl zone_info) rfl ⟨rfl, (((Below.refl _ _).alloc (Nat.le_refl _) _).alloc (by simp) _).alloc (by simp; omega) _⟩
theorem wpAnyH_pass {P : Program} {ops : Array Oper} {Q : Exit → Act → World → Prop} {md : Region.Mode} {S : World → Prop} {fuel : Nat} {listed : Array Bool} {a : Act} {w : World} {i : Nat} {o : Oper} (ho : ops[i]? = some o)
    (hr : Region.ready md ops listed = [i]) (hw : Region.wanted o (yielded ops a.tmps) = false) (hS : S w)
    (h : wpAnyH P md ops Q S fuel (listed.setIfInBounds i true) (a.put o.dst undef) w) : wpAnyH P md ops Q S (fuel + 1) listed a w :=
  wpAnyH_ready hr (by simp) (AllReadyH.cons ho (fun K hK => by rw [if_neg (by simp [hw])]; exact hK.out _ _ hS (fun _ => h)) AllReadyH.nil)
theorem step_wp {P : Program} {w : World} {ops : Array Oper} {o : Oper} {a : Act} {K : Act → World → Prop} {Q : Exit → Act → World → Prop} {E : Prop} (hgd : o.guard = none) (h : Oper.wp P o a w K Q) : if Region.wanted o (yielded ops a.tmps) = true then Oper.wp P o a w K Q else E := by
  have hw : Region.wanted o (yielded ops a.tmps) = true := by simp [Region.wanted, hgd]
  rw [if_pos hw]
  exact h
theorem exec_load {P : Program} {ev : Operand → Value} {o : Oper} {w : World} {v ptr : Value} (ty : TypeId) (x : Operand) (ho : o.op = .load ty x) (hx : ev x = ptr) (h : (Instr.loadAt ty ptr).run P w = .ok v w) : (execOp ev o).run P w = .ok (.value v) w := by
  unfold execOp
  simp only [ho, hx, Sem.run_bind, Sem.run_pure, h, Result.andThen_ok]
theorem zjoin_step (x : Nat → Int) (n : Nat) (hn : n ≤ 1000) (w : World) : Calls Try.prog 24 #[.agg (zOf x n), .agg (zV 1 (x n) (x n) (x n))] w fun e w' => e = .returned (.agg (zOf x (n + 1))) ∧ Below w.heap.size w w' := by
  have h := zone_join n (zmin x n) (zmax x n) (wrap64 (ztot x n)) 1 (x n) (x n) (x n) w
  rw [zOf_succ x n hn] at h
  exact h
theorem zof_none (a : Option Addr) (cap : Nat) (w : World) : Calls Try.prog 22 #[.slice a 0 cap] w fun e w' => e = .returned (.tuple #[.agg (zV 0 0 0 0), .bool false]) ∧ Below w.heap.size w w' := by
  go_enter Try.func22, Try.ntmps22
  go_wp2
  exact bodyPost_ret (v := .tuple #[.agg (zV 0 0 0 0), .bool false]) (results_cell_tmp_row (by rfl) _ _ w.heap.size 40 (zV 0 0 0 0) (0, 0) _ (by rfl) (heap_alloc_new w _) Try.underlying40 rfl zone_info _ (by rfl)) rfl ⟨rfl, (Below.refl _ _).alloc (Nat.le_refl _) _⟩
set_option maxRecDepth 100000 in
set_option maxHeartbeats 2000000 in
theorem zof_some (a : Option Addr) (n cap : Nat) (x : Nat → Int) (h0 : 0 < n) (hn : n ≤ 600) (hcap : n ≤ cap) (hcm : cap ≤ maxLen) (hx : ∀ i, i < n → -9223372036854775808 ≤ x i ∧ x i ≤ 9223372036854775807) (w : World) (h : RowOf w a n (fun i => .int .i64 (x i))) :
    Calls Try.prog 22 #[.slice a n cap] w fun e w' => e = .returned (.tuple #[.agg (zOf x n), .bool true]) ∧ Below w.heap.size w w' := by
  obtain ⟨b, off, rfl, hblt, hc⟩ := h.at_ h0
  have c0 := hc 0 h0
  rw [Nat.add_zero] at c0
  have HC := Lib.hid hc
  have n0 : ((n : Int) == 0) = false := by simp; omega
  have n1 : (0 : Int) < n := by omega
  have m3 : (cap : Int) ≤ 9223372036854775807 := by unfold maxLen at hcm; omega
  have HX := Lib.hid hx
  have hx0 := hx 0 h0
  clear h hc hcm hx
  have Z1 := Lib.hid (zOf_one x hx0)
  generalize hx0v : x 0 = v0 at c0 Z1 hx0
  have HX0 := Lib.hid hx0v
  clear hx0v
  have s1 : (1 : Int) ≤ n := by omega
  have s2 : (1 : Int) ≤ cap := by omega
  have s3 : ¬ cap = 1 ∨ cap = 1 := by omega
  obtain ⟨cs0, hcs0⟩ : ∃ cs0, zV 1 v0 v0 v0 = cs0 := ⟨_, rfl⟩
  have HCS0 := Lib.hid hcs0
  have O0 := Lib.hid (show cs0.size = 4 ∧ cs0.all (·.oneCell') = true from by rw [← hcs0]; exact ⟨rfl, zV_one _ _ _ _⟩)
  have ONE := Lib.hid (zone_one v0)
  rw [hcs0] at ONE
  clear hcs0
  go_enter Try.func22, Try.ntmps22
  go_wp2_with (first
    | (go_at_call 67; refine (ONE.out _).mono ?_; rintro e w1 ⟨rfl, hb1⟩; have HB1 := Lib.hid hb1; clear hb1)
    | (refine wpList_store_row rfl 40 (.tmp 4) (.tmp 14) rfl w1.heap.size cs0 rfl rfl 40 _ (Lies.new w1 _ _) (zone_info.trans (congrArg some O0.out.1.symm)) (by rw [O0.out.1]; rfl) O0.out.2 ?_))
  case inr =>
    have HW := Lib.hid (show Lies ((w1.alloc (.cells #[.int .i64 0, .int .i64 0, .int .i64 0, .int .i64 0] 40)).setRow w1.heap.size cs0) w1.heap.size 40 cs0 from (Lies.new w1 40 #[.int .i64 0, .int .i64 0, .int .i64 0, .int .i64 0]).row cs0)
    have HR := Lib.hid (show Lies ((w1.alloc (.cells #[.int .i64 0, .int .i64 0, .int .i64 0, .int .i64 0] 40)).setRow w1.heap.size cs0) w.heap.size 40 #[.int .i64 0, .int .i64 0, .int .i64 0, .int .i64 0] from (((Lies.new w 40 #[.int .i64 0, .int .i64 0, .int .i64 0, .int .i64 0]).below HB1.out (by simp)).alloc _).rowFar (by have := HB1.out.size; simp at this; omega) cs0)
    have HBB := Lib.hid (show Below w.heap.size w ((w1.alloc (.cells #[.int .i64 0, .int .i64 0, .int .i64 0, .int .i64 0] 40)).setRow w1.heap.size cs0) from below_row (((((Below.refl w.heap.size w).alloc (Nat.le_refl _) (.cells #[.int .i64 0, .int .i64 0, .int .i64 0, .int .i64 0] 40)).trans (HB1.out.mono (by simp))).alloc (by have := HB1.out.size; simp at this; omega) (.cells #[.int .i64 0, .int .i64 0, .int .i64 0, .int .i64 0] 40))) (by have := HB1.out.size; simp at this; omega) rfl)
    have HG := Lib.hid (show w.heap.size < w1.heap.size from by have := HB1.out.size; simp at this; omega)
    generalize (w1.alloc (.cells #[.int .i64 0, .int .i64 0, .int .i64 0, .int .i64 0] 40)).setRow w1.heap.size cs0 = w2 at *
    generalize w1.heap.size = g at *
    clear HB1 ONE c0
    go_loopw [18] (fun v wr => ∃ j : Nat, j ≤ n - 1 ∧ v = .int .i64 j ∧ Lies wr g 40 (zOf x (j + 1)) ∧ Lies wr w.heap.size 40 #[.int .i64 0, .int .i64 0, .int .i64 0, .int .i64 0] ∧ Below w.heap.size w wr) (fun v _ => n - (intOf v).toNat)
    case atStart => exact ⟨0, by omega, rfl, by rw [← Z1.out, HCS0.out]; exact HW.out, HR.out, HBB.out⟩
    case round =>
      obtain ⟨j, hj, rfl, hl, hz, hb⟩ := hrel
      by_cases hjn : j < n - 1
      · skip
        have k1 : (j : Int) < ((n - 1 : Nat) : Int) := by omega
        have k0 : (0 : Int) ≤ j := by omega
        have c1 : wr.cell? ⟨b, off + 1 + j, none⟩ = some (.int .i64 (x (j + 1))) := by
          have h := (hb.cell (p := ⟨b, off + (j + 1), none⟩) hblt).trans (HC.out (j + 1) (by omega))
          rw [show off + 1 + j = off + (j + 1) by omega]
          exact h
        have JN := Lib.hid (zjoin_step x (j + 1) (by omega))
        have ONE := Lib.hid (zone_one (x (j + 1)))
        have O1 := Lib.hid (show (zOf x (j + 1)).size = 4 from rfl)
        have O2 := Lib.hid (show (zOf x (j + 1 + 1)).size = 4 ∧ (zOf x (j + 1 + 1)).all (·.oneCell') = true from ⟨rfl, zV_one _ _ _ _⟩)
        obtain ⟨cs2, hcs2⟩ : ∃ cs2, zOf x (j + 1 + 1) = cs2 := ⟨_, rfl⟩
        rw [hcs2] at JN O2
        have HCS2 := Lib.hid hcs2
        clear hcs2
        generalize zOf x (j + 1) = cs at *
        generalize x (j + 1) = y at *
        generalize zV 1 y y y = cy at *
        have LG := Lib.hid hl
        have LZ := Lib.hid hz
        have LB := Lib.hid hb
        clear hl hz hb
        go_wp2_with fail
        refine wp_region_held_drew (S := (fun _ : World => True)) (by kernel_rfl) trivial (fun hHeld => ?_)
        refine wpAnyH_take (i := 1) (oi := ?oix1) (v := ?vx1) ?hix1 ?hsx1 ?hfx1 ?hrx1 ?hQx1 ?hyx1 ?hSx1 ?hx1
        case hix1 =>
          simp only [List.getElem?_toArray, List.getElem?_cons_succ, List.getElem?_cons_zero]
          rfl
        case hsx1 => kernel_rfl
        case hfx1 => kernel_rfl
        case hrx1 => kernel_rfl
        case hyx1 =>
          refine Or.inl ⟨by rfl, ?_⟩
          intro w hSw
          (try dsimp only at hSw)
          go_simp
          try with_reducible rfl
        case hQx1 => exact fun _ _ _ h => h
        case hSx1 => trivial
        try simp only [Act.put, List.setIfInBounds_toArray, List.set_cons_zero, List.set_cons_succ]
        refine wpAnyH_ready (rs := [0, 2]) (by kernel_rfl) (by simp) ?_
        refine AllReadyH.cons (o := ?ox8) ?ix8 ?kx8 ?mx8
        case ix8 =>
          simp only [List.getElem?_toArray, List.getElem?_cons_zero]
          rfl
        case' mx8 =>
          refine AllReadyH.cons (o := ?ox9) ?ix9 ?kx9 AllReadyH.nil
          case ix9 =>
            simp only [List.getElem?_toArray, List.getElem?_cons_succ, List.getElem?_cons_zero]
            rfl
          intro K hK
          go_simp
          go_at_call 67
          refine (ONE.out _).mono ?_
          rintro e w3 ⟨rfl, hb⟩
          have P1 := Lib.hid (show Below wr.heap.size wr w3 from ⟨hb.os, hb.tape, hb.output, hb.size, hb.block⟩)
          clear hb
          refine hK.out _ _ trivial (fun hHeld => ?_)
          clear hK K
          try simp only [Act.put, List.setIfInBounds_toArray, List.set_cons_zero, List.set_cons_succ]
          refine wpAnyH_ready (rs := [0]) (by kernel_rfl) (by simp) ?_
          refine AllReadyH.cons (o := ?ox5) ?ix5 ?kx5 AllReadyH.nil
          case ix5 =>
            simp only [List.getElem?_toArray, List.getElem?_cons_zero]
            rfl
          intro K hK
          refine step_wp rfl (wp_load_row 40 (.tmp 4) rfl g rfl 40 cs (0, 0) _ (LG.out.below P1.out LG.out.lt) Try.underlying40 rfl (zone_info.trans (congrArg some O1.out.symm)) ?_)
          refine hK.out _ _ trivial (fun hHeld => ?_)
          clear hK K
          try simp only [Act.put, List.setIfInBounds_toArray, List.set_cons_zero, List.set_cons_succ]
          refine wpAnyH_ready (rs := [3]) (by kernel_rfl) (by simp) ?_
          refine AllReadyH.cons (o := ?ox6) ?ix6 ?kx6 AllReadyH.nil
          case ix6 =>
            simp only [List.getElem?_toArray, List.getElem?_cons_succ, List.getElem?_cons_zero]
            rfl
          intro K hK
          go_simp
          go_at_call 24
          refine (JN.out _).mono ?_
          rintro e w4 ⟨rfl, hb⟩
          have P2 := Lib.hid (P1.out.trans (hb.mono P1.out.size))
          clear hb
          refine hK.out _ _ trivial (fun hHeld => ?_)
          clear hK K
          try simp only [Act.put, List.setIfInBounds_toArray, List.set_cons_zero, List.set_cons_succ]
          refine wpAnyH_ready (rs := [4]) (by kernel_rfl) (by simp) ?_
          refine AllReadyH.cons (o := ?ox7) ?ix7 ?kx7 AllReadyH.nil
          case ix7 =>
            simp only [List.getElem?_toArray, List.getElem?_cons_succ, List.getElem?_cons_zero]
            rfl
          intro K hK
          refine step_wp rfl (wp_store_row 40 (.tmp 4) (.tmp 25) rfl g cs2 rfl rfl 40 _ (LG.out.below P2.out LG.out.lt) (zone_info.trans (congrArg some O2.out.1.symm)) (by rw [O1.out, O2.out.1]) O2.out.2 ?_)
          refine hK.out _ _ trivial (fun hHeld => ?_)
          clear hK K
          try simp only [Act.put, List.setIfInBounds_toArray, List.set_cons_zero, List.set_cons_succ]
          refine wpAnyH_done (by kernel_rfl) ?_ _
          go_wp2_with fail
          go_roundw
          case rel => exact ⟨j + 1, by omega, by go_num, by rw [HCS2.out]; exact (LG.out.below P2.out LG.out.lt).row cs2, (LZ.out.below P2.out LZ.out.lt).rowFar (by have := HG.out; omega) cs2, below_row (LB.out.trans (P2.out.mono LB.out.size)) (by have := HG.out; omega) rfl⟩
          case measure => simp [intOf]; omega
        case' kx8 =>
          intro K hK
          refine step_wp rfl (wp_load_row 40 (.tmp 4) rfl g rfl 40 cs (0, 0) _ LG.out.drew Try.underlying40 rfl (zone_info.trans (congrArg some O1.out.symm)) ?_)
          refine hK.out _ _ trivial (fun hHeld => ?_)
          clear hK K
          try simp only [Act.put, List.setIfInBounds_toArray, List.set_cons_zero, List.set_cons_succ]
          refine wpAnyH_ready (rs := [2]) (by kernel_rfl) (by simp) ?_
          refine AllReadyH.cons (o := ?ox2) ?ix2 ?kx2 AllReadyH.nil
          case ix2 =>
            simp only [List.getElem?_toArray, List.getElem?_cons_succ, List.getElem?_cons_zero]
            rfl
          intro K hK
          go_simp
          go_at_call 67
          refine (ONE.out _).mono ?_
          rintro e w3 ⟨rfl, hb⟩
          have P1 := Lib.hid (show Below wr.heap.size wr w3 from ⟨hb.os, hb.tape, hb.output, hb.size, hb.block⟩)
          clear hb
          refine hK.out _ _ trivial (fun hHeld => ?_)
          clear hK K
          try simp only [Act.put, List.setIfInBounds_toArray, List.set_cons_zero, List.set_cons_succ]
          refine wpAnyH_ready (rs := [3]) (by kernel_rfl) (by simp) ?_
          refine AllReadyH.cons (o := ?ox3) ?ix3 ?kx3 AllReadyH.nil
          case ix3 =>
            simp only [List.getElem?_toArray, List.getElem?_cons_succ, List.getElem?_cons_zero]
            rfl
          intro K hK
          go_simp
          go_at_call 24
          refine (JN.out _).mono ?_
          rintro e w4 ⟨rfl, hb⟩
          have P2 := Lib.hid (P1.out.trans (hb.mono P1.out.size))
          clear hb
          refine hK.out _ _ trivial (fun hHeld => ?_)
          clear hK K
          try simp only [Act.put, List.setIfInBounds_toArray, List.set_cons_zero, List.set_cons_succ]
          refine wpAnyH_ready (rs := [4]) (by kernel_rfl) (by simp) ?_
          refine AllReadyH.cons (o := ?ox4) ?ix4 ?kx4 AllReadyH.nil
          case ix4 =>
            simp only [List.getElem?_toArray, List.getElem?_cons_succ, List.getElem?_cons_zero]
            rfl
          intro K hK
          refine step_wp rfl (wp_store_row 40 (.tmp 4) (.tmp 25) rfl g cs2 rfl rfl 40 _ (LG.out.below P2.out LG.out.lt) (zone_info.trans (congrArg some O2.out.1.symm)) (by rw [O1.out, O2.out.1]) O2.out.2 ?_)
          refine hK.out _ _ trivial (fun hHeld => ?_)
          clear hK K
          try simp only [Act.put, List.setIfInBounds_toArray, List.set_cons_zero, List.set_cons_succ]
          refine wpAnyH_done (by kernel_rfl) ?_ _
          go_wp2_with fail
          go_roundw
          case rel => exact ⟨j + 1, by omega, by go_num, by rw [HCS2.out]; exact (LG.out.below P2.out LG.out.lt).row cs2, (LZ.out.below P2.out LZ.out.lt).rowFar (by have := HG.out; omega) cs2, below_row (LB.out.trans (P2.out.mono LB.out.size)) (by have := HG.out; omega) rfl⟩
          case measure => simp [intOf]; omega
      · obtain rfl : j = n - 1 := by omega
        rw [show n - 1 + 1 = n by omega] at hl
        have k1 : ¬ ((n - 1 : Nat) : Int) < ((n - 1 : Nat) : Int) := by omega
        have O1 := Lib.hid (show (zOf x n).size = 4 ∧ (zOf x n).all (·.oneCell') = true from ⟨rfl, zV_one _ _ _ _⟩)
        obtain ⟨cs, hcs⟩ : ∃ cs, zOf x n = cs := ⟨_, rfl⟩
        rw [hcs] at O1 hl
        have HCS := Lib.hid hcs
        clear hcs
        have LG := Lib.hid hl
        have LZ := Lib.hid hz
        have LB := Lib.hid hb
        clear hl hz hb
        go_wp2_with (first
          | (refine wpList_load_row rfl 40 (.tmp 4) rfl g rfl 40 cs (0, 0) _ LG.out Try.underlying40 rfl (zone_info.trans (congrArg some O1.out.1.symm)) ?_)
          | (refine wpList_store_row rfl 40 (.tmp 2) (.tmp 27) rfl w.heap.size cs rfl rfl 40 _ LZ.out (zone_info.trans (congrArg some O1.out.1.symm)) (by rw [O1.out.1]; rfl) O1.out.2 ?_))
        exact bodyPost_ret (v := .tuple #[.agg cs, .bool true]) (results_cell_tmp_row (by rfl) _ _ w.heap.size 40 cs (0, 0) _ (by rfl) (LZ.out.row cs) Try.underlying40 rfl (zone_info.trans (congrArg some O1.out.1.symm)) _ (by rfl)) rfl ⟨by rw [HCS.out], below_row LB.out (Nat.le_refl _) rfl⟩
  case inl =>
    have HW := Lib.hid (show Lies ((w1.alloc (.cells #[.int .i64 0, .int .i64 0, .int .i64 0, .int .i64 0] 40)).setRow w1.heap.size cs0) w1.heap.size 40 cs0 from (Lies.new w1 40 #[.int .i64 0, .int .i64 0, .int .i64 0, .int .i64 0]).row cs0)
    have HR := Lib.hid (show Lies ((w1.alloc (.cells #[.int .i64 0, .int .i64 0, .int .i64 0, .int .i64 0] 40)).setRow w1.heap.size cs0) w.heap.size 40 #[.int .i64 0, .int .i64 0, .int .i64 0, .int .i64 0] from (((Lies.new w 40 #[.int .i64 0, .int .i64 0, .int .i64 0, .int .i64 0]).below HB1.out (by simp)).alloc _).rowFar (by have := HB1.out.size; simp at this; omega) cs0)
    have HBB := Lib.hid (show Below w.heap.size w ((w1.alloc (.cells #[.int .i64 0, .int .i64 0, .int .i64 0, .int .i64 0] 40)).setRow w1.heap.size cs0) from below_row (((((Below.refl w.heap.size w).alloc (Nat.le_refl _) (.cells #[.int .i64 0, .int .i64 0, .int .i64 0, .int .i64 0] 40)).trans (HB1.out.mono (by simp))).alloc (by have := HB1.out.size; simp at this; omega) (.cells #[.int .i64 0, .int .i64 0, .int .i64 0, .int .i64 0] 40))) (by have := HB1.out.size; simp at this; omega) rfl)
    have HG := Lib.hid (show w.heap.size < w1.heap.size from by have := HB1.out.size; simp at this; omega)
    generalize (w1.alloc (.cells #[.int .i64 0, .int .i64 0, .int .i64 0, .int .i64 0] 40)).setRow w1.heap.size cs0 = w2 at *
    generalize w1.heap.size = g at *
    clear HB1 ONE c0
    go_loopw [18] (fun v wr => ∃ j : Nat, j ≤ n - 1 ∧ v = .int .i64 j ∧ Lies wr g 40 (zOf x (j + 1)) ∧ Lies wr w.heap.size 40 #[.int .i64 0, .int .i64 0, .int .i64 0, .int .i64 0] ∧ Below w.heap.size w wr) (fun v _ => n - (intOf v).toNat)
    case atStart => exact ⟨0, by omega, rfl, by rw [← Z1.out, HCS0.out]; exact HW.out, HR.out, HBB.out⟩
    case round =>
      obtain ⟨j, hj, rfl, hl, hz, hb⟩ := hrel
      by_cases hjn : j < n - 1
      · exfalso; omega
      · obtain rfl : j = n - 1 := by omega
        rw [show n - 1 + 1 = n by omega] at hl
        have k1 : ¬ ((n - 1 : Nat) : Int) < ((n - 1 : Nat) : Int) := by omega
        have O1 := Lib.hid (show (zOf x n).size = 4 ∧ (zOf x n).all (·.oneCell') = true from ⟨rfl, zV_one _ _ _ _⟩)
        obtain ⟨cs, hcs⟩ : ∃ cs, zOf x n = cs := ⟨_, rfl⟩
        rw [hcs] at O1 hl
        have HCS := Lib.hid hcs
        clear hcs
        have LG := Lib.hid hl
        have LZ := Lib.hid hz
        have LB := Lib.hid hb
        clear hl hz hb
        go_wp2_with (first
          | (refine wpList_load_row rfl 40 (.tmp 4) rfl g rfl 40 cs (0, 0) _ LG.out Try.underlying40 rfl (zone_info.trans (congrArg some O1.out.1.symm)) ?_)
          | (refine wpList_store_row rfl 40 (.tmp 2) (.tmp 27) rfl w.heap.size cs rfl rfl 40 _ LZ.out (zone_info.trans (congrArg some O1.out.1.symm)) (by rw [O1.out.1]; rfl) O1.out.2 ?_))
        exact bodyPost_ret (v := .tuple #[.agg cs, .bool true]) (results_cell_tmp_row (by rfl) _ _ w.heap.size 40 cs (0, 0) _ (by rfl) (LZ.out.row cs) Try.underlying40 rfl (zone_info.trans (congrArg some O1.out.1.symm)) _ (by rfl)) rfl ⟨by rw [HCS.out], below_row LB.out (Nat.le_refl _) rfl⟩
end Go.Proofs.Ytgclhblglohjpaa
