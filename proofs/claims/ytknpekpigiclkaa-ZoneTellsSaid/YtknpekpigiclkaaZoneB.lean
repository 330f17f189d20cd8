/-
  CONTRACTS OF the document's own Least (corduroyref06) and Of (corduroyref25), in any world. Conditions: at most 600 numbers, which lie in memory as told.
-/
import Derived.Test.YtknpekpigiclkaaZoneA
import Derived.Deep.CutRange
namespace Go.Proofs.Ytknpekpigiclkaa
open Go.RowKit
set_option linter.unusedVariables false
set_option linter.unusedSimpArgs false
theorem zleast_none (a : Option Addr) (cap : Nat) (w : World) : Calls Try.prog 90 #[.slice a 0 cap] w fun e w' => e = .returned (.int .i64 0) ∧ w = w' := by
  go_enter Try.func90, Try.ntmps90
  go_wp2
  go_ret
  exact ⟨rfl, rfl⟩
theorem zleast_some (a : Option Addr) (n cap : Nat) (x : Nat → Int) (h0 : 0 < n) (hn : n ≤ 1000) (w : World) (h : RowOf w a n (fun i => .int .i64 (x i))) :
    Calls Try.prog 90 #[.slice a n cap] w fun e w' => e = .returned (.int .i64 (zmin x n)) ∧ w = w' := by
  obtain ⟨b, off, rfl, hblt, hc⟩ := h.at_ h0
  have c0 := hc 0 h0
  rw [Nat.add_zero] at c0
  have HC := Lib.hid hc
  have HM := Lib.hid (show zmin x 0 = x 0 from rfl)
  have n0 : ((n : Int) == 0) = false := by simp; omega
  have n1 : (0 : Int) < n := by omega
  clear h hc
  generalize x 0 = m0 at *
  go_enter Try.func90, Try.ntmps90
  go_wp2
  go_loop [3, 4] (fun v i => ∃ k : Nat, k ≤ n ∧ i = .int .i64 k ∧ v = .int .i64 (zmin x k)) (fun _ i => n - (intOf i).toNat)
  case atStart => exact ⟨0, by omega, rfl, by rw [HM.out]⟩
  case round =>
    obtain ⟨k, hk, rfl, rfl⟩ := hrel
    by_cases hkn : k < n
    · have k1 : (k : Int) < n := by omega
      have c1 := HC.out k hkn
      have HE := Lib.hid (show (if x k < zmin x k then x k else zmin x k) = zmin x (k + 1) from rfl)
      clear c0
      generalize x k = y at *
      generalize zmin x k = z at *
      by_cases hyz : y < z
      · have HYZ := Lib.hid hyz
        go_wp2
        go_round
        case rel => exact ⟨k + 1, by omega, by go_num, by rw [← HE.out, if_pos HYZ.out]⟩
        case measure => simp [intOf]; omega
      · have HYZ := Lib.hid hyz
        go_wp2
        go_round
        case rel => exact ⟨k + 1, by omega, by go_num, by rw [← HE.out, if_neg HYZ.out]⟩
        case measure => simp [intOf]; omega
    · obtain rfl : k = n := by omega
      go_wp2
      go_ret
      exact ⟨rfl, rfl⟩
theorem rzone_info : (Try.prog.info? 84).map (·.size) = some 4 := by kernel_rfl
theorem rof_none (a : Option Addr) (cap : Nat) (w : World) : Calls Try.prog 53 #[.slice a 0 cap] w fun e w' => e = .returned (.agg (zV 0 0 0 0)) ∧ Below w.heap.size w w' := by
  go_enter Try.func53, Try.ntmps53
  go_wp2
  exact bodyPost_ret (v := .agg (zV 0 0 0 0)) (results_cell_row (by rfl) _ _ w.heap.size 84 (zV 0 0 0 0) (0, 0) _ (by rfl) (heap_alloc_new w _) Try.underlying84 rfl rzone_info) rfl ⟨rfl, (Below.refl _ _).alloc (Nat.le_refl _) _⟩
theorem uwrap_add (a b : Int) : IntKind.u64.wrap (IntKind.u64.wrap a + IntKind.u64.wrap b) = IntKind.u64.wrap (a + b) := by simp only [u64w]; omega
theorem uwrap_back (a : Int) : wrap64 (IntKind.u64.wrap a) = wrap64 a := by simp only [u64w, wrap64]; omega
set_option maxRecDepth 100000 in
set_option maxHeartbeats 2000000 in
theorem rof_some (a : Option Addr) (n cap : Nat) (x : Nat → Int) (h0 : 0 < n) (hn : n ≤ 600) (w : World) (h : RowOf w a n (fun i => .int .i64 (x i))) :
    Calls Try.prog 53 #[.slice a n cap] w fun e w' => e = .returned (.agg (zOf x n)) ∧ Below w.heap.size w w' := by
  have LS := Lib.hid (fun W (h : RowOf W a n (fun i => .int .i64 (x i))) => zleast_some a n cap x h0 (by omega) W h)
  have H := Lib.hid h
  obtain ⟨b, off, rfl, hblt, hc⟩ := h.at_ h0
  have c0 := hc 0 h0
  rw [Nat.add_zero] at c0
  have HC := Lib.hid hc
  have n0 : ((n : Int) == 0) = false := by simp; omega
  have n1 : (0 : Int) < n := by omega
  obtain ⟨v0, hv0⟩ : ∃ v0, x 0 = v0 := ⟨_, rfl⟩
  rw [hv0] at c0
  obtain ⟨L, hL⟩ : ∃ L, zmin x n = L := ⟨_, rfl⟩
  rw [hL] at LS
  have HV0 := Lib.hid hv0
  have HL := Lib.hid hL
  have BA := Lib.hid (show Below w.heap.size w ((w.alloc (.cells #[.int .i64 0, .int .i64 0, .int .i64 0, .int .i64 0] 84)).drew) from ((Below.refl w.heap.size w).alloc (Nat.le_refl _) _).drew)
  have BB := Lib.hid (show Below w.heap.size w (((w.alloc (.cells #[.int .i64 0, .int .i64 0, .int .i64 0, .int .i64 0] 84)).drew).alloc (.cells #[.int .i64 0, .int .i64 0, .int .i64 0, .int .i64 0] 84)) from BA.out.alloc (by simp) _)
  have BC := Lib.hid (show Below w.heap.size w ((((w.alloc (.cells #[.int .i64 0, .int .i64 0, .int .i64 0, .int .i64 0] 84)).drew).alloc (.cells #[.int .i64 0, .int .i64 0, .int .i64 0, .int .i64 0] 84)).setRow (w.heap.size + 1) (zV n L v0 0)) from below_row BB.out (by omega) rfl)
  have HCELL := Lib.hid (fun W (hb : Below w.heap.size w W) => (hb.cell (p := ⟨b, off, none⟩) hblt).trans c0)
  have HN := Lib.hid (show Lies (((w.alloc (.cells #[.int .i64 0, .int .i64 0, .int .i64 0, .int .i64 0] 84)).drew).alloc (.cells #[.int .i64 0, .int .i64 0, .int .i64 0, .int .i64 0] 84)) (w.heap.size + 1) 84 #[.int .i64 0, .int .i64 0, .int .i64 0, .int .i64 0] from by have := Lies.new ((w.alloc (.cells #[.int .i64 0, .int .i64 0, .int .i64 0, .int .i64 0] 84)).drew) 84 #[.int .i64 0, .int .i64 0, .int .i64 0, .int .i64 0]; simpa using this)
  have WG := Lib.hid (show Lies ((((w.alloc (.cells #[.int .i64 0, .int .i64 0, .int .i64 0, .int .i64 0] 84)).drew).alloc (.cells #[.int .i64 0, .int .i64 0, .int .i64 0, .int .i64 0] 84)).setRow (w.heap.size + 1) (zV n L v0 0)) (w.heap.size + 1) 84 (zV n L v0 0) from HN.out.row _)
  have WR := Lib.hid (show Lies ((((w.alloc (.cells #[.int .i64 0, .int .i64 0, .int .i64 0, .int .i64 0] 84)).drew).alloc (.cells #[.int .i64 0, .int .i64 0, .int .i64 0, .int .i64 0] 84)).setRow (w.heap.size + 1) (zV n L v0 0)) w.heap.size 84 #[.int .i64 0, .int .i64 0, .int .i64 0, .int .i64 0] from (((Lies.new w 84 #[.int .i64 0, .int .i64 0, .int .i64 0, .int .i64 0]).drew).alloc _).rowFar (by omega) _)
  clear hc hL hv0 h c0
  go_enter Try.func53, Try.ntmps53
  go_upto_region 3 with fail
  go_cut [3] from 4 to 47 (fun s3 wx => s3 = .pointer (some ⟨w.heap.size + 1, 0, none⟩) ∧ Lies wx (w.heap.size + 1) 84 (zV n L v0 0) ∧ Lies wx w.heap.size 84 #[.int .i64 0, .int .i64 0, .int .i64 0, .int .i64 0] ∧ Below w.heap.size w wx)
  case first =>
    refine wp_region_held_drew (S := (fun W : World => W.cell? ⟨b, off, none⟩ = some (.int .i64 v0))) (by kernel_rfl) (HCELL.out _ BA.out) (fun hHeld => ?_)
    refine wpAnyH_take (i := 0) (oi := ?oix1) (v := ?vx1) ?hix1 ?hsx1 ?hfx1 ?hrx1 ?hQx1 ?hyx1 ?hSx1 ?hx1
    case hix1 =>
      simp only [List.getElem?_toArray, List.getElem?_cons_zero]
      rfl
    case hsx1 => kernel_rfl
    case hfx1 => kernel_rfl
    case hrx1 => kernel_rfl
    case hyx1 =>
      refine Or.inl ⟨by rfl, ?_⟩
      intro w hSw
      (try dsimp only at hSw)
      go_simp
      try with_reducible rfl
    case hQx1 => exact fun _ _ _ h => h
    case hSx1 => assumption
    try simp only [Act.put, List.setIfInBounds_toArray, List.set_cons_zero, List.set_cons_succ]
    refine wpAnyH_take (i := 1) (oi := ?oix2) (v := ?vx2) ?hix2 ?hsx2 ?hfx2 ?hrx2 ?hQx2 ?hyx2 ?hSx2 ?hx2
    case hix2 =>
      simp only [List.getElem?_toArray, List.getElem?_cons_succ, List.getElem?_cons_zero]
      rfl
    case hsx2 => kernel_rfl
    case hfx2 => kernel_rfl
    case hrx2 => kernel_rfl
    case hyx2 =>
      refine Or.inl ⟨by rfl, ?_⟩
      intro w hSw
      (try dsimp only at hSw)
      go_simp
      try with_reducible rfl
    case hQx2 => exact fun _ _ _ h => h
    case hSx2 => assumption
    try simp only [Act.put, List.setIfInBounds_toArray, List.set_cons_zero, List.set_cons_succ]
    refine wpAnyH_take (i := 2) (oi := ?oix3) (v := ?vx3) ?hix3 ?hsx3 ?hfx3 ?hrx3 ?hQx3 ?hyx3 ?hSx3 ?hx3
    case hix3 =>
      simp only [List.getElem?_toArray, List.getElem?_cons_succ, List.getElem?_cons_zero]
      rfl
    case hsx3 => kernel_rfl
    case hfx3 => kernel_rfl
    case hrx3 => kernel_rfl
    case hyx3 =>
      refine Or.inl ⟨by rfl, ?_⟩
      intro w hSw
      (try dsimp only at hSw)
      go_simp
      try with_reducible rfl
    case hQx3 => exact fun _ _ _ h => h
    case hSx3 => assumption
    try simp only [Act.put, List.setIfInBounds_toArray, List.set_cons_zero, List.set_cons_succ]
    refine wpAnyH_take (i := 4) (oi := ?oix4) (v := ?vx4) ?hix4 ?hsx4 ?hfx4 ?hrx4 ?hQx4 ?hyx4 ?hSx4 ?hx4
    case hix4 =>
      simp only [List.getElem?_toArray, List.getElem?_cons_succ, List.getElem?_cons_zero]
      rfl
    case hsx4 => kernel_rfl
    case hfx4 => kernel_rfl
    case hrx4 => kernel_rfl
    case hyx4 =>
      refine Or.inl ⟨by rfl, ?_⟩
      intro w hSw
      (try dsimp only at hSw)
      go_simp
      try with_reducible rfl
    case hQx4 => exact fun _ _ _ h => h
    case hSx4 => assumption
    try simp only [Act.put, List.setIfInBounds_toArray, List.set_cons_zero, List.set_cons_succ]
    refine wpAnyH_take (i := 5) (oi := ?oix5) (v := ?vx5) ?hix5 ?hsx5 ?hfx5 ?hrx5 ?hQx5 ?hyx5 ?hSx5 ?hx5
    case hix5 =>
      simp only [List.getElem?_toArray, List.getElem?_cons_succ, List.getElem?_cons_zero]
      rfl
    case hsx5 => kernel_rfl
    case hfx5 => kernel_rfl
    case hrx5 => kernel_rfl
    case hyx5 =>
      refine Or.inl ⟨by rfl, ?_⟩
      intro w hSw
      (try dsimp only at hSw)
      go_simp
      try with_reducible rfl
    case hQx5 => exact fun _ _ _ h => h
    case hSx5 => assumption
    try simp only [Act.put, List.setIfInBounds_toArray, List.set_cons_zero, List.set_cons_succ]
    refine wpAnyH_take (i := 6) (oi := ?oix6) (v := ?vx6) ?hix6 ?hsx6 ?hfx6 ?hrx6 ?hQx6 ?hyx6 ?hSx6 ?hx6
    case hix6 =>
      simp only [List.getElem?_toArray, List.getElem?_cons_succ, List.getElem?_cons_zero]
      rfl
    case hsx6 => kernel_rfl
    case hfx6 => kernel_rfl
    case hrx6 => kernel_rfl
    case hyx6 =>
      refine Or.inl ⟨by rfl, ?_⟩
      intro w hSw
      (try dsimp only at hSw)
      go_simp
      try with_reducible rfl
    case hQx6 => exact fun _ _ _ h => h
    case hSx6 => assumption
    try simp only [Act.put, List.setIfInBounds_toArray, List.set_cons_zero, List.set_cons_succ]
    refine wpAnyH_ready (rs := [3, 8]) (by kernel_rfl) (by simp) ?_
    refine AllReadyH.cons (o := ?ox13) ?ix13 ?kx13 ?mx13
    case ix13 =>
      simp only [List.getElem?_toArray, List.getElem?_cons_succ, List.getElem?_cons_zero]
      rfl
    case' mx13 =>
      refine AllReadyH.cons (o := ?ox14) ?ix14 ?kx14 AllReadyH.nil
      case ix14 =>
        simp only [List.getElem?_toArray, List.getElem?_cons_succ, List.getElem?_cons_zero]
        rfl
      intro K hK
      go_simp
      refine hK.out _ _ (HCELL.out _ BB.out) (fun hHeld => ?_)
      clear hK K
      try simp only [Act.put, List.setIfInBounds_toArray, List.set_cons_zero, List.set_cons_succ]
      refine wpAnyH_ready (rs := [3]) (by kernel_rfl) (by simp) ?_
      refine AllReadyH.cons (o := ?ox10) ?ix10 ?kx10 AllReadyH.nil
      case ix10 =>
        simp only [List.getElem?_toArray, List.getElem?_cons_succ, List.getElem?_cons_zero]
        rfl
      intro K hK
      go_simp
      go_at_call 90
      refine (LS.out _ (H.out.below BB.out)).mono ?_
      rintro e w3 ⟨rfl, rfl⟩
      refine hK.out _ _ (HCELL.out _ BB.out) (fun hHeld => ?_)
      clear hK K
      try simp only [Act.put, List.setIfInBounds_toArray, List.set_cons_zero, List.set_cons_succ]
      refine wpAnyH_take (i := 7) (oi := ?oix11) (v := ?vx11) ?hix11 ?hsx11 ?hfx11 ?hrx11 ?hQx11 ?hyx11 ?hSx11 ?hx11
      case hix11 =>
        simp only [List.getElem?_toArray, List.getElem?_cons_succ, List.getElem?_cons_zero]
        rfl
      case hsx11 => kernel_rfl
      case hfx11 => kernel_rfl
      case hrx11 => kernel_rfl
      case hyx11 =>
        refine Or.inl ⟨by rfl, ?_⟩
        intro w hSw
        (try dsimp only at hSw)
        go_simp
        try with_reducible rfl
      case hQx11 => exact fun _ _ _ h => h
      case hSx11 => assumption
      try simp only [Act.put, List.setIfInBounds_toArray, List.set_cons_zero, List.set_cons_succ]
      refine wpAnyH_ready (rs := [9]) (by kernel_rfl) (by simp) ?_
      refine AllReadyH.cons (o := ?ox12) ?ix12 ?kx12 AllReadyH.nil
      case ix12 =>
        simp only [List.getElem?_toArray, List.getElem?_cons_succ, List.getElem?_cons_zero]
        rfl
      intro K hK
      refine step_wp rfl (wp_store_row 84 (.tmp 3) (.tmp 17) rfl (w.heap.size + 1) (zV n L v0 0) rfl rfl 84 #[.int .i64 0, .int .i64 0, .int .i64 0, .int .i64 0] HN.out rzone_info rfl (zV_one _ _ _ _) ?_)
      refine hK.out _ _ (HCELL.out _ BC.out) (fun hHeld => ?_)
      clear hK K
      try simp only [Act.put, List.setIfInBounds_toArray, List.set_cons_zero, List.set_cons_succ]
      refine wpAnyH_done (by kernel_rfl) ?_ _
      go_wp2_with fail
    go_meet
    exact ⟨rfl, WG.out, WR.out, BC.out⟩
    case' kx13 =>
      intro K hK
      go_simp
      go_at_call 90
      refine (LS.out _ (H.out.below BA.out)).mono ?_
      rintro e w3 ⟨rfl, rfl⟩
      refine hK.out _ _ (HCELL.out _ BA.out) (fun hHeld => ?_)
      clear hK K
      try simp only [Act.put, List.setIfInBounds_toArray, List.set_cons_zero, List.set_cons_succ]
      refine wpAnyH_take (i := 7) (oi := ?oix7) (v := ?vx7) ?hix7 ?hsx7 ?hfx7 ?hrx7 ?hQx7 ?hyx7 ?hSx7 ?hx7
      case hix7 =>
        simp only [List.getElem?_toArray, List.getElem?_cons_succ, List.getElem?_cons_zero]
        rfl
      case hsx7 => kernel_rfl
      case hfx7 => kernel_rfl
      case hrx7 => kernel_rfl
      case hyx7 =>
        refine Or.inl ⟨by rfl, ?_⟩
        intro w hSw
        (try dsimp only at hSw)
        go_simp
        try with_reducible rfl
      case hQx7 => exact fun _ _ _ h => h
      case hSx7 => assumption
      try simp only [Act.put, List.setIfInBounds_toArray, List.set_cons_zero, List.set_cons_succ]
      refine wpAnyH_ready (rs := [8]) (by kernel_rfl) (by simp) ?_
      refine AllReadyH.cons (o := ?ox8) ?ix8 ?kx8 AllReadyH.nil
      case ix8 =>
        simp only [List.getElem?_toArray, List.getElem?_cons_succ, List.getElem?_cons_zero]
        rfl
      intro K hK
      go_simp
      refine hK.out _ _ (HCELL.out _ BB.out) (fun hHeld => ?_)
      clear hK K
      try simp only [Act.put, List.setIfInBounds_toArray, List.set_cons_zero, List.set_cons_succ]
      refine wpAnyH_ready (rs := [9]) (by kernel_rfl) (by simp) ?_
      refine AllReadyH.cons (o := ?ox9) ?ix9 ?kx9 AllReadyH.nil
      case ix9 =>
        simp only [List.getElem?_toArray, List.getElem?_cons_succ, List.getElem?_cons_zero]
        rfl
      intro K hK
      refine step_wp rfl (wp_store_row 84 (.tmp 3) (.tmp 17) rfl (w.heap.size + 1) (zV n L v0 0) rfl rfl 84 #[.int .i64 0, .int .i64 0, .int .i64 0, .int .i64 0] HN.out rzone_info rfl (zV_one _ _ _ _) ?_)
      refine hK.out _ _ (HCELL.out _ BC.out) (fun hHeld => ?_)
      clear hK K
      try simp only [Act.put, List.setIfInBounds_toArray, List.set_cons_zero, List.set_cons_succ]
      refine wpAnyH_done (by kernel_rfl) ?_ _
      go_wp2_with fail
    go_meet
    exact ⟨rfl, WG.out, WR.out, BC.out⟩
  case rest =>
    obtain ⟨rfl, hlg, hlr, hbc⟩ := hcut
    have WG := Lib.hid hlg
    have WR := Lib.hid hlr
    have BC := Lib.hid hbc
    clear hlg hlr hbc BA BB HCELL
    obtain ⟨g, hg⟩ : ∃ g, w.heap.size + 1 = g := ⟨_, rfl⟩
    rw [hg] at WG
    simp only [hg]
    have HG := Lib.hid hg
    clear hg
    go_wp2_with fail
    go_loopw [4, 5] (fun sm i wr => ∃ k : Nat, k ≤ n ∧ i = .int .i64 k ∧ sm = .int .u64 (IntKind.u64.wrap (ztot x k)) ∧ Lies wr g 84 (zV n L (zmax x k) 0) ∧ Lies wr w.heap.size 84 #[.int .i64 0, .int .i64 0, .int .i64 0, .int .i64 0] ∧ Below w.heap.size w wr) (fun _ i _ => n - (intOf i).toNat)
    case atStart => exact ⟨0, by omega, rfl, rfl, by rw [show zmax x 0 = v0 from HV0.out]; exact WG.out, WR.out, BC.out⟩
    case round =>
      obtain ⟨k, hk, rfl, rfl, hl, hz, hb⟩ := hrel
      by_cases hkn : k < n
      · have k1 : (k : Int) < n := by omega
        have k0 : (0 : Int) ≤ k := by omega
        have HM := Lib.hid (show (if zmax x k < x k then x k else zmax x k) = zmax x (k + 1) from rfl)
        have HW := uwrap_add (ztot x k) (x k)
        rw [show ztot x k + x k = ztot x (k + 1) from rfl] at HW
        have c1 := (hb.cell (p := ⟨b, off + k, none⟩) hblt).trans (HC.out k hkn)
        have c2 : wr.cell? ⟨g, 2, none⟩ = some (.int .i64 (zmax x k)) := hl.cell 2
        have f2 := hl.frozen 2
        have c3 : ∀ v, (wr.setCell ⟨g, 2, none⟩ v).cell? ⟨b, off + k, none⟩ = some (.int .i64 (x k)) := fun v => by
          rw [← c1]
          exact World.cell?_setCell_far _ _ _ _ (by have := HG.out; show g ≠ b; omega)
        obtain ⟨t1, ht1⟩ : ∃ t1, ztot x (k + 1) = t1 := ⟨_, rfl⟩
        rw [ht1] at HW
        have HT := Lib.hid ht1
        clear ht1
        generalize zmax x k = m at *
        generalize IntKind.u64.wrap (ztot x k) = sk at *
        generalize x k = y at *
        have LG := Lib.hid hl
        have LZ := Lib.hid hz
        have LB := Lib.hid hb
        clear hl hz hb
        by_cases hmy : m < y
        · have HMY := Lib.hid hmy
          go_wp2_with fail
          refine wp_region_held_drew (S := (fun W : World => W.cell? ⟨b, off + k, none⟩ = some (.int .i64 y) ∧ W.cell? ⟨g, 2, none⟩ = some (.int .i64 m))) (by kernel_rfl) ⟨c1, c2⟩ (fun hHeld => ?_)
          refine wpAnyH_take (i := 0) (oi := ?oix15) (v := ?vx15) ?hix15 ?hsx15 ?hfx15 ?hrx15 ?hQx15 ?hyx15 ?hSx15 ?hx15
          case hix15 =>
            simp only [List.getElem?_toArray, List.getElem?_cons_zero]
            rfl
          case hsx15 => kernel_rfl
          case hfx15 => kernel_rfl
          case hrx15 => kernel_rfl
          case hyx15 =>
            refine Or.inl ⟨by rfl, ?_⟩
            intro w hSw
            (try dsimp only at hSw)
            go_simp
            try with_reducible rfl
          case hQx15 => exact fun _ _ _ h => h
          case hSx15 => assumption
          try simp only [Act.put, List.setIfInBounds_toArray, List.set_cons_zero, List.set_cons_succ]
          refine wpAnyH_take (i := 1) (oi := ?oix16) (v := ?vx16) ?hix16 ?hsx16 ?hfx16 ?hrx16 ?hQx16 ?hyx16 ?hSx16 ?hx16
          case hix16 =>
            simp only [List.getElem?_toArray, List.getElem?_cons_succ, List.getElem?_cons_zero]
            rfl
          case hsx16 => kernel_rfl
          case hfx16 => kernel_rfl
          case hrx16 => kernel_rfl
          case hyx16 =>
            refine Or.inl ⟨by rfl, ?_⟩
            intro w hSw
            (try dsimp only at hSw)
            go_simp
            try with_reducible rfl
          case hQx16 => exact fun _ _ _ h => h
          case hSx16 => assumption
          try simp only [Act.put, List.setIfInBounds_toArray, List.set_cons_zero, List.set_cons_succ]
          refine wpAnyH_take (i := 2) (oi := ?oix17) (v := ?vx17) ?hix17 ?hsx17 ?hfx17 ?hrx17 ?hQx17 ?hyx17 ?hSx17 ?hx17
          case hix17 =>
            simp only [List.getElem?_toArray, List.getElem?_cons_succ, List.getElem?_cons_zero]
            rfl
          case hsx17 => kernel_rfl
          case hfx17 => kernel_rfl
          case hrx17 => kernel_rfl
          case hyx17 =>
            refine Or.inl ⟨by rfl, ?_⟩
            intro w hSw
            (try dsimp only at hSw)
            go_simp
            try with_reducible rfl
          case hQx17 => exact fun _ _ _ h => h
          case hSx17 => assumption
          try simp only [Act.put, List.setIfInBounds_toArray, List.set_cons_zero, List.set_cons_succ]
          refine wpAnyH_take (i := 3) (oi := ?oix18) (v := ?vx18) ?hix18 ?hsx18 ?hfx18 ?hrx18 ?hQx18 ?hyx18 ?hSx18 ?hx18
          case hix18 =>
            simp only [List.getElem?_toArray, List.getElem?_cons_succ, List.getElem?_cons_zero]
            rfl
          case hsx18 => kernel_rfl
          case hfx18 => kernel_rfl
          case hrx18 => kernel_rfl
          case hyx18 =>
            refine Or.inl ⟨by rfl, ?_⟩
            intro w hSw
            (try dsimp only at hSw)
            go_simp
            try with_reducible rfl
          case hQx18 => exact fun _ _ _ h => h
          case hSx18 => assumption
          try simp only [Act.put, List.setIfInBounds_toArray, List.set_cons_zero, List.set_cons_succ]
          refine wpAnyH_take (i := 4) (oi := ?oix19) (v := ?vx19) ?hix19 ?hsx19 ?hfx19 ?hrx19 ?hQx19 ?hyx19 ?hSx19 ?hx19
          case hix19 =>
            simp only [List.getElem?_toArray, List.getElem?_cons_succ, List.getElem?_cons_zero]
            rfl
          case hsx19 => kernel_rfl
          case hfx19 => kernel_rfl
          case hrx19 => kernel_rfl
          case hyx19 =>
            refine Or.inl ⟨by rfl, ?_⟩
            intro w hSw
            (try dsimp only at hSw)
            go_simp
            try with_reducible rfl
          case hQx19 => exact fun _ _ _ h => h
          case hSx19 => assumption
          try simp only [Act.put, List.setIfInBounds_toArray, List.set_cons_zero, List.set_cons_succ]
          refine wpAnyH_take (i := 5) (oi := ?oix20) (v := ?vx20) ?hix20 ?hsx20 ?hfx20 ?hrx20 ?hQx20 ?hyx20 ?hSx20 ?hx20
          case hix20 =>
            simp only [List.getElem?_toArray, List.getElem?_cons_succ, List.getElem?_cons_zero]
            rfl
          case hsx20 => kernel_rfl
          case hfx20 => kernel_rfl
          case hrx20 => kernel_rfl
          case hyx20 =>
            refine Or.inl ⟨by rfl, ?_⟩
            intro w hSw
            (try dsimp only at hSw)
            go_simp
            try with_reducible rfl
          case hQx20 => exact fun _ _ _ h => h
          case hSx20 => assumption
          try simp only [Act.put, List.setIfInBounds_toArray, List.set_cons_zero, List.set_cons_succ]
          refine wpAnyH_take (i := 6) (oi := ?oix21) (v := ?vx21) ?hix21 ?hsx21 ?hfx21 ?hrx21 ?hQx21 ?hyx21 ?hSx21 ?hx21
          case hix21 =>
            simp only [List.getElem?_toArray, List.getElem?_cons_succ, List.getElem?_cons_zero]
            rfl
          case hsx21 => kernel_rfl
          case hfx21 => kernel_rfl
          case hrx21 => kernel_rfl
          case hyx21 =>
            refine Or.inl ⟨by rfl, ?_⟩
            intro w hSw
            (try dsimp only at hSw)
            go_simp
            try with_reducible rfl
          case hQx21 => exact fun _ _ _ h => h
          case hSx21 => assumption
          try simp only [Act.put, List.setIfInBounds_toArray, List.set_cons_zero, List.set_cons_succ]
          refine wpAnyH_done (by kernel_rfl) ?_ _
          have c4 : ∀ v, (wr.drew.setCell ⟨g, 2, none⟩ v).cell? ⟨b, off + k, none⟩ = some (.int .i64 y) := fun v => by
            rw [World.cell?_setCell_far _ _ _ _ (by have := HG.out; show g ≠ b; omega)]
            exact c1
          go_wp2_with fail
          go_roundw
          case rel => exact ⟨k + 1, by omega, by go_num, by rw [HT.out], by rw [← HM.out, if_pos HMY.out]; exact (LG.out.drew).set_ 2 _, (LZ.out.drew).far (p := ⟨g, 2, none⟩) (by have := HG.out; show w.heap.size ≠ g; omega) _, below_set LB.out.drew (by have := HG.out; omega) rfl⟩
          case measure => simp [intOf] <;> omega
        · have HMY := Lib.hid hmy
          go_wp2_with fail
          refine wp_region_held_drew (S := (fun W : World => W.cell? ⟨b, off + k, none⟩ = some (.int .i64 y) ∧ W.cell? ⟨g, 2, none⟩ = some (.int .i64 m))) (by kernel_rfl) ⟨c1, c2⟩ (fun hHeld => ?_)
          refine wpAnyH_take (i := 0) (oi := ?oix22) (v := ?vx22) ?hix22 ?hsx22 ?hfx22 ?hrx22 ?hQx22 ?hyx22 ?hSx22 ?hx22
          case hix22 =>
            simp only [List.getElem?_toArray, List.getElem?_cons_zero]
            rfl
          case hsx22 => kernel_rfl
          case hfx22 => kernel_rfl
          case hrx22 => kernel_rfl
          case hyx22 =>
            refine Or.inl ⟨by rfl, ?_⟩
            intro w hSw
            (try dsimp only at hSw)
            go_simp
            try with_reducible rfl
          case hQx22 => exact fun _ _ _ h => h
          case hSx22 => assumption
          try simp only [Act.put, List.setIfInBounds_toArray, List.set_cons_zero, List.set_cons_succ]
          refine wpAnyH_take (i := 1) (oi := ?oix23) (v := ?vx23) ?hix23 ?hsx23 ?hfx23 ?hrx23 ?hQx23 ?hyx23 ?hSx23 ?hx23
          case hix23 =>
            simp only [List.getElem?_toArray, List.getElem?_cons_succ, List.getElem?_cons_zero]
            rfl
          case hsx23 => kernel_rfl
          case hfx23 => kernel_rfl
          case hrx23 => kernel_rfl
          case hyx23 =>
            refine Or.inl ⟨by rfl, ?_⟩
            intro w hSw
            (try dsimp only at hSw)
            go_simp
            try with_reducible rfl
          case hQx23 => exact fun _ _ _ h => h
          case hSx23 => assumption
          try simp only [Act.put, List.setIfInBounds_toArray, List.set_cons_zero, List.set_cons_succ]
          refine wpAnyH_take (i := 2) (oi := ?oix24) (v := ?vx24) ?hix24 ?hsx24 ?hfx24 ?hrx24 ?hQx24 ?hyx24 ?hSx24 ?hx24
          case hix24 =>
            simp only [List.getElem?_toArray, List.getElem?_cons_succ, List.getElem?_cons_zero]
            rfl
          case hsx24 => kernel_rfl
          case hfx24 => kernel_rfl
          case hrx24 => kernel_rfl
          case hyx24 =>
            refine Or.inl ⟨by rfl, ?_⟩
            intro w hSw
            (try dsimp only at hSw)
            go_simp
            try with_reducible rfl
          case hQx24 => exact fun _ _ _ h => h
          case hSx24 => assumption
          try simp only [Act.put, List.setIfInBounds_toArray, List.set_cons_zero, List.set_cons_succ]
          refine wpAnyH_take (i := 3) (oi := ?oix25) (v := ?vx25) ?hix25 ?hsx25 ?hfx25 ?hrx25 ?hQx25 ?hyx25 ?hSx25 ?hx25
          case hix25 =>
            simp only [List.getElem?_toArray, List.getElem?_cons_succ, List.getElem?_cons_zero]
            rfl
          case hsx25 => kernel_rfl
          case hfx25 => kernel_rfl
          case hrx25 => kernel_rfl
          case hyx25 =>
            refine Or.inl ⟨by rfl, ?_⟩
            intro w hSw
            (try dsimp only at hSw)
            go_simp
            try with_reducible rfl
          case hQx25 => exact fun _ _ _ h => h
          case hSx25 => assumption
          try simp only [Act.put, List.setIfInBounds_toArray, List.set_cons_zero, List.set_cons_succ]
          refine wpAnyH_take (i := 4) (oi := ?oix26) (v := ?vx26) ?hix26 ?hsx26 ?hfx26 ?hrx26 ?hQx26 ?hyx26 ?hSx26 ?hx26
          case hix26 =>
            simp only [List.getElem?_toArray, List.getElem?_cons_succ, List.getElem?_cons_zero]
            rfl
          case hsx26 => kernel_rfl
          case hfx26 => kernel_rfl
          case hrx26 => kernel_rfl
          case hyx26 =>
            refine Or.inl ⟨by rfl, ?_⟩
            intro w hSw
            (try dsimp only at hSw)
            go_simp
            try with_reducible rfl
          case hQx26 => exact fun _ _ _ h => h
          case hSx26 => assumption
          try simp only [Act.put, List.setIfInBounds_toArray, List.set_cons_zero, List.set_cons_succ]
          refine wpAnyH_take (i := 5) (oi := ?oix27) (v := ?vx27) ?hix27 ?hsx27 ?hfx27 ?hrx27 ?hQx27 ?hyx27 ?hSx27 ?hx27
          case hix27 =>
            simp only [List.getElem?_toArray, List.getElem?_cons_succ, List.getElem?_cons_zero]
            rfl
          case hsx27 => kernel_rfl
          case hfx27 => kernel_rfl
          case hrx27 => kernel_rfl
          case hyx27 =>
            refine Or.inl ⟨by rfl, ?_⟩
            intro w hSw
            (try dsimp only at hSw)
            go_simp
            try with_reducible rfl
          case hQx27 => exact fun _ _ _ h => h
          case hSx27 => assumption
          try simp only [Act.put, List.setIfInBounds_toArray, List.set_cons_zero, List.set_cons_succ]
          refine wpAnyH_take (i := 6) (oi := ?oix28) (v := ?vx28) ?hix28 ?hsx28 ?hfx28 ?hrx28 ?hQx28 ?hyx28 ?hSx28 ?hx28
          case hix28 =>
            simp only [List.getElem?_toArray, List.getElem?_cons_succ, List.getElem?_cons_zero]
            rfl
          case hsx28 => kernel_rfl
          case hfx28 => kernel_rfl
          case hrx28 => kernel_rfl
          case hyx28 =>
            refine Or.inl ⟨by rfl, ?_⟩
            intro w hSw
            (try dsimp only at hSw)
            go_simp
            try with_reducible rfl
          case hQx28 => exact fun _ _ _ h => h
          case hSx28 => assumption
          try simp only [Act.put, List.setIfInBounds_toArray, List.set_cons_zero, List.set_cons_succ]
          refine wpAnyH_done (by kernel_rfl) ?_ _
          go_wp2_with fail
          go_roundw
          case rel => exact ⟨k + 1, by omega, by go_num, by rw [HT.out], by rw [← HM.out, if_neg (show ¬ m < y from by have := HMY.out; omega)]; exact LG.out.drew, LZ.out.drew, LB.out.drew⟩
          case measure => simp [intOf] <;> omega
      · obtain rfl : k = n := by omega
        have k1 : ¬ (k : Int) < k := by omega
        have f3 := hl.frozen 3
        have c3 : wr.cell? ⟨g, 3, none⟩ = some (.int .i64 0) := hl.cell 3
        have HB2 := uwrap_back (ztot x k)
        obtain ⟨cs, hcs⟩ : ∃ cs, zOf x k = cs := ⟨_, rfl⟩
        have hset : (zV k L (zmax x k) 0).setIfInBounds 3 (.int .i64 (wrap64 (ztot x k))) = cs := by rw [← hcs, ← HL.out]; rfl
        have O1 := Lib.hid (show cs.size = 4 ∧ cs.all (·.oneCell') = true from by rw [← hcs]; exact ⟨rfl, zV_one _ _ _ _⟩)
        have HCS := Lib.hid hcs
        clear hcs
        generalize IntKind.u64.wrap (ztot x k) = sk at *
        generalize wrap64 (ztot x k) = sv at *
        obtain ⟨W5, hW5⟩ : ∃ W5, wr.setCell ⟨g, 3, none⟩ (.int .i64 sv) = W5 := ⟨_, rfl⟩
        have LG := Lib.hid (lies_set hl hW5 hset)
        have LZ := Lib.hid (lies_far hz (by have := HG.out; omega) hW5)
        have LB := Lib.hid (below_set hb (by have := HG.out; omega) hW5)
        clear hl hz hb hset
        go_wp2_with (first
          | (refine wpList_load_row rfl 84 (.tmp 3) rfl g rfl 84 cs (0, 0) _ LG.out Try.underlying84 rfl (rzone_info.trans (congrArg some O1.out.1.symm)) ?_)
          | (refine wpList_store_row rfl 84 (.tmp 2) (.tmp 46) rfl w.heap.size cs rfl rfl 84 _ LZ.out (rzone_info.trans (congrArg some O1.out.1.symm)) (by rw [O1.out.1]; rfl) O1.out.2 ?_))
        exact bodyPost_ret (v := .agg cs) (results_cell_row (by rfl) _ _ w.heap.size 84 cs (0, 0) _ (by rfl) (LZ.out.row cs) Try.underlying84 rfl (rzone_info.trans (congrArg some O1.out.1.symm))) rfl ⟨by rw [HCS.out], below_row LB.out (Nat.le_refl _) rfl⟩
end Go.Proofs.Ytknpekpigiclkaa
