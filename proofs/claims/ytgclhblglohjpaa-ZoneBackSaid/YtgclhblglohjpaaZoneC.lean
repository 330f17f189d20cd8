/-
  CONTRACTS OF corduroylaw25.Own of a single zone, and of its awake, in any world. No condition but that the zone lies in memory as told.
-/
import Derived.Test.YtgclhblglohjpaaZoneA
namespace Go.Proofs.Ytgclhblglohjpaa
open Go.RowKit
set_option linter.unusedVariables false
set_option linter.unusedSimpArgs false
theorem zoneInfo : (Try.prog.info? 40).map (fun i => (i.zero, i.size, i.bytes)) = some (some (.agg #[.int .i64 0, .int .i64 0, .int .i64 0, .int .i64 0]), 4, 32) := by kernel_rfl
/-- A row holds a zone at its beginning. -/
def ZAt (W : World) (g : Nat) (cs : Array Value) : Prop := ∀ (j : Nat) (v : Value), cs.toList[j]? = some v → W.cell? ⟨g, 0 + j, none⟩ = some v
theorem zat_load {W : World} {g : Nat} {c l h s : Int} (hz : ZAt W g (zV c l h s)) : (Instr.loadAt 40 (.pointer (some ⟨g, 0, none⟩))).run Try.prog W = .ok (.agg (zV c l h s)) W := by
  have := run_loadAt_mid W g 0 40 (zV c l h s).toList _ hz Try.underlying40 rfl zone_info
  simpa using this
set_option maxRecDepth 100000 in
set_option maxHeartbeats 2000000 in
theorem own_one (ga : Nat) (c l h s : Int) (w : World) (hl : Lies w ga 43 (zV c l h s)) :
    Calls Try.prog 16 #[.slice (some ⟨ga, 0, none⟩) 1 1] w fun e w' => ∃ g k, e = .returned (.slice (some ⟨g, 0, none⟩) 1 k) ∧ g < w'.heap.size ∧ ZAt w' g (zV c l h s) ∧ Below w.heap.size w w' := by
  obtain ⟨i0, hi, hz0, hz1, hz2⟩ := info_parts zoneInfo
  have hlt := hl.lt
  have HALL := Lib.hid (fun W (hb : Below w.heap.size w W) => (show W.cell? ⟨ga, 0, none⟩ = some (.int .i64 c) ∧ W.cell? ⟨ga, 1, none⟩ = some (.int .i64 l) ∧ W.cell? ⟨ga, 2, none⟩ = some (.int .i64 h) ∧ W.cell? ⟨ga, 3, none⟩ = some (.int .i64 s) from
    ⟨(hl.below hb hlt).cell 0, (hl.below hb hlt).cell 1, (hl.below hb hlt).cell 2, (hl.below hb hlt).cell 3⟩))
  have B0 := Lib.hid (show Below w.heap.size w w.drew from (Below.refl _ _).drew)
  have B1 := Lib.hid (show Below w.heap.size w (w.drew.alloc (.cells (zV c l h s) 40)) from B0.out.alloc (Nat.le_refl _) _)
  obtain ⟨v2, w2, hrun, ho2, hg2, _, hat2⟩ := run_append_own_at (P := Try.prog) (w.drew.alloc (.cells (zV c l h s) 40)) w.heap.size 27 27 40 i0 (.agg #[.int .i64 0, .int .i64 0, .int .i64 0, .int .i64 0]) 4 32 Try.underlying27 hi hz0 hz1 hz2 rfl (by decide) (.slice none 0 0) 0 [] (World.ownsRow_nil _ _ _ _) ⟨w.heap.size, 0, none⟩ 1 1 (zV c l h s).toList rfl
    (fun j u hj => by
      have h := (Lies.new w.drew 40 (zV c l h s)).cell j
      have hadd : (⟨w.heap.size, 0, none⟩ : Addr).add j = ⟨w.heap.size, j, none⟩ := by unfold Addr.add; split <;> simp_all
      rw [hadd]
      exact h.trans (by simpa using hj)) (by simp [zV, Value.oneCell']) (by unfold maxLen; omega) (by omega) (by simp)
  rw [Nat.zero_add, List.nil_append] at ho2
  have B2 := Lib.hid (show Below w.heap.size w w2 from B1.out.grown hg2 (by simp) (fun j hj => by simp [Value.ownBlock] at hj))
  have HRUN := Lib.hid hrun
  have HO2 := Lib.hid ho2
  clear hrun ho2 hg2 hat2 hi hz0 hz1 hz2 hl
  go_enter Try.func16, Try.ntmps16
  go_wp2_with fail
  go_loopw [3, 4] (fun v i wr => (v = .slice none 0 0 ∧ i = .int .i64 0 ∧ wr = w) ∨ (v = v2 ∧ i = .int .i64 1 ∧ wr = w2)) (fun _ i _ => 1 - (intOf i).toNat)
  case atStart => exact .inl ⟨rfl, rfl, rfl⟩
  case round =>
    rcases hrel with ⟨rfl, rfl, rfl⟩ | ⟨rfl, rfl, rfl⟩
    · go_wp2_with fail
      refine wp_region_held_drew (S := (fun W : World => W.cell? ⟨ga, 0, none⟩ = some (.int .i64 c) ∧ W.cell? ⟨ga, 1, none⟩ = some (.int .i64 l) ∧ W.cell? ⟨ga, 2, none⟩ = some (.int .i64 h) ∧ W.cell? ⟨ga, 3, none⟩ = some (.int .i64 s))) (by kernel_rfl) (HALL.out _ B0.out) (fun hHeld => ?_)
      refine wpAnyH_take (i := 0) (oi := ?oix1) (v := ?vx1) ?hix1 ?hsx1 ?hfx1 ?hrx1 ?hQx1 ?hyx1 ?hSx1 ?hx1
      case hix1 =>
        simp only [List.getElem?_toArray, List.getElem?_cons_zero]
        rfl
      case hsx1 => kernel_rfl
      case hfx1 => kernel_rfl
      case hrx1 => kernel_rfl
      case hyx1 =>
        refine Or.inl ⟨by rfl, ?_⟩
        intro w hSw
        (try dsimp only at hSw)
        go_simp
        try with_reducible rfl
      case hQx1 => exact fun _ _ _ h => h
      case hSx1 => assumption
      try simp only [Act.put, List.setIfInBounds_toArray, List.set_cons_zero, List.set_cons_succ]
      refine wpAnyH_take (i := 1) (oi := ?oix2) (v := ?vx2) ?hix2 ?hsx2 ?hfx2 ?hrx2 ?hQx2 ?hyx2 ?hSx2 ?hx2
      case hix2 =>
        simp only [List.getElem?_toArray, List.getElem?_cons_succ, List.getElem?_cons_zero]
        rfl
      case hsx2 => kernel_rfl
      case hfx2 => kernel_rfl
      case hrx2 => kernel_rfl
      case hyx2 =>
        refine Or.inl ⟨by rfl, ?_⟩
        intro w hSw
        (try dsimp only at hSw)
        go_simp
        try with_reducible rfl
      case hQx2 => exact fun _ _ _ h => h
      case hSx2 => assumption
      try simp only [Act.put, List.setIfInBounds_toArray, List.set_cons_zero, List.set_cons_succ]
      refine wpAnyH_take (i := 2) (oi := ?oix3) (v := ?vx3) ?hix3 ?hsx3 ?hfx3 ?hrx3 ?hQx3 ?hyx3 ?hSx3 ?hx3
      case hix3 =>
        simp only [List.getElem?_toArray, List.getElem?_cons_succ, List.getElem?_cons_zero]
        rfl
      case hsx3 => kernel_rfl
      case hfx3 => kernel_rfl
      case hrx3 => kernel_rfl
      case hyx3 =>
        refine Or.inl ⟨by rfl, ?_⟩
        intro w hSw
        (try dsimp only at hSw)
        go_simp
        try with_reducible rfl
      case hQx3 => exact fun _ _ _ h => h
      case hSx3 => assumption
      try simp only [Act.put, List.setIfInBounds_toArray, List.set_cons_zero, List.set_cons_succ]
      refine wpAnyH_take (i := 3) (oi := ?oix4) (v := ?vx4) ?hix4 ?hsx4 ?hfx4 ?hrx4 ?hQx4 ?hyx4 ?hSx4 ?hx4
      case hix4 =>
        simp only [List.getElem?_toArray, List.getElem?_cons_succ, List.getElem?_cons_zero]
        rfl
      case hsx4 => kernel_rfl
      case hfx4 => kernel_rfl
      case hrx4 => kernel_rfl
      case hyx4 =>
        refine Or.inl ⟨by rfl, ?_⟩
        intro w hSw
        (try dsimp only at hSw)
        go_simp
        try with_reducible rfl
      case hQx4 => exact fun _ _ _ h => h
      case hSx4 => assumption
      try simp only [Act.put, List.setIfInBounds_toArray, List.set_cons_zero, List.set_cons_succ]
      refine wpAnyH_take (i := 4) (oi := ?oix5) (v := ?vx5) ?hix5 ?hsx5 ?hfx5 ?hrx5 ?hQx5 ?hyx5 ?hSx5 ?hx5
      case hix5 =>
        simp only [List.getElem?_toArray, List.getElem?_cons_succ, List.getElem?_cons_zero]
        rfl
      case hsx5 => kernel_rfl
      case hfx5 => kernel_rfl
      case hrx5 => kernel_rfl
      case hyx5 =>
        refine Or.inl ⟨by rfl, ?_⟩
        intro w hSw
        (try dsimp only at hSw)
        go_simp
        try with_reducible rfl
      case hQx5 => exact fun _ _ _ h => h
      case hSx5 => assumption
      try simp only [Act.put, List.setIfInBounds_toArray, List.set_cons_zero, List.set_cons_succ]
      refine wpAnyH_take (i := 5) (oi := ?oix6) (v := ?vx6) ?hix6 ?hsx6 ?hfx6 ?hrx6 ?hQx6 ?hyx6 ?hSx6 ?hx6
      case hix6 =>
        simp only [List.getElem?_toArray, List.getElem?_cons_succ, List.getElem?_cons_zero]
        rfl
      case hsx6 => kernel_rfl
      case hfx6 => kernel_rfl
      case hrx6 => kernel_rfl
      case hyx6 =>
        refine Or.inl ⟨by rfl, ?_⟩
        intro w hSw
        (try dsimp only at hSw)
        go_simp
        try with_reducible rfl
      case hQx6 => exact fun _ _ _ h => h
      case hSx6 => assumption
      try simp only [Act.put, List.setIfInBounds_toArray, List.set_cons_zero, List.set_cons_succ]
      refine wpAnyH_take (i := 6) (oi := ?oix7) (v := ?vx7) ?hix7 ?hsx7 ?hfx7 ?hrx7 ?hQx7 ?hyx7 ?hSx7 ?hx7
      case hix7 =>
        simp only [List.getElem?_toArray, List.getElem?_cons_succ, List.getElem?_cons_zero]
        rfl
      case hsx7 => kernel_rfl
      case hfx7 => kernel_rfl
      case hrx7 => kernel_rfl
      case hyx7 =>
        refine Or.inl ⟨by rfl, ?_⟩
        intro w hSw
        (try dsimp only at hSw)
        go_simp
        try with_reducible rfl
      case hQx7 => exact fun _ _ _ h => h
      case hSx7 => assumption
      try simp only [Act.put, List.setIfInBounds_toArray, List.set_cons_zero, List.set_cons_succ]
      refine wpAnyH_take (i := 7) (oi := ?oix8) (v := ?vx8) ?hix8 ?hsx8 ?hfx8 ?hrx8 ?hQx8 ?hyx8 ?hSx8 ?hx8
      case hix8 =>
        simp only [List.getElem?_toArray, List.getElem?_cons_succ, List.getElem?_cons_zero]
        rfl
      case hsx8 => kernel_rfl
      case hfx8 => kernel_rfl
      case hrx8 => kernel_rfl
      case hyx8 =>
        refine Or.inl ⟨by rfl, ?_⟩
        intro w hSw
        (try dsimp only at hSw)
        go_simp
        try with_reducible rfl
      case hQx8 => exact fun _ _ _ h => h
      case hSx8 => assumption
      try simp only [Act.put, List.setIfInBounds_toArray, List.set_cons_zero, List.set_cons_succ]
      refine wpAnyH_take (i := 8) (oi := ?oix9) (v := ?vx9) ?hix9 ?hsx9 ?hfx9 ?hrx9 ?hQx9 ?hyx9 ?hSx9 ?hx9
      case hix9 =>
        simp only [List.getElem?_toArray, List.getElem?_cons_succ, List.getElem?_cons_zero]
        rfl
      case hsx9 => kernel_rfl
      case hfx9 => kernel_rfl
      case hrx9 => kernel_rfl
      case hyx9 =>
        refine Or.inl ⟨by rfl, ?_⟩
        intro w hSw
        (try dsimp only at hSw)
        go_simp
        try with_reducible rfl
      case hQx9 => exact fun _ _ _ h => h
      case hSx9 => assumption
      try simp only [Act.put, List.setIfInBounds_toArray, List.set_cons_zero, List.set_cons_succ]
      refine wpAnyH_take (i := 9) (oi := ?oix10) (v := ?vx10) ?hix10 ?hsx10 ?hfx10 ?hrx10 ?hQx10 ?hyx10 ?hSx10 ?hx10
      case hix10 =>
        simp only [List.getElem?_toArray, List.getElem?_cons_succ, List.getElem?_cons_zero]
        rfl
      case hsx10 => kernel_rfl
      case hfx10 => kernel_rfl
      case hrx10 => kernel_rfl
      case hyx10 =>
        refine Or.inl ⟨by rfl, ?_⟩
        intro w hSw
        (try dsimp only at hSw)
        go_simp
        try with_reducible rfl
      case hQx10 => exact fun _ _ _ h => h
      case hSx10 => assumption
      try simp only [Act.put, List.setIfInBounds_toArray, List.set_cons_zero, List.set_cons_succ]
      refine wpAnyH_take (i := 10) (oi := ?oix11) (v := ?vx11) ?hix11 ?hsx11 ?hfx11 ?hrx11 ?hQx11 ?hyx11 ?hSx11 ?hx11
      case hix11 =>
        simp only [List.getElem?_toArray, List.getElem?_cons_succ, List.getElem?_cons_zero]
        rfl
      case hsx11 => kernel_rfl
      case hfx11 => kernel_rfl
      case hrx11 => kernel_rfl
      case hyx11 =>
        refine Or.inl ⟨by rfl, ?_⟩
        intro w hSw
        (try dsimp only at hSw)
        go_simp
        try with_reducible rfl
      case hQx11 => exact fun _ _ _ h => h
      case hSx11 => assumption
      try simp only [Act.put, List.setIfInBounds_toArray, List.set_cons_zero, List.set_cons_succ]
      refine wpAnyH_take (i := 11) (oi := ?oix12) (v := ?vx12) ?hix12 ?hsx12 ?hfx12 ?hrx12 ?hQx12 ?hyx12 ?hSx12 ?hx12
      case hix12 =>
        simp only [List.getElem?_toArray, List.getElem?_cons_succ, List.getElem?_cons_zero]
        rfl
      case hsx12 => kernel_rfl
      case hfx12 => kernel_rfl
      case hrx12 => kernel_rfl
      case hyx12 =>
        refine Or.inl ⟨by rfl, ?_⟩
        intro w hSw
        (try dsimp only at hSw)
        go_simp
        try with_reducible rfl
      case hQx12 => exact fun _ _ _ h => h
      case hSx12 => assumption
      try simp only [Act.put, List.setIfInBounds_toArray, List.set_cons_zero, List.set_cons_succ]
      refine wpAnyH_take (i := 12) (oi := ?oix13) (v := ?vx13) ?hix13 ?hsx13 ?hfx13 ?hrx13 ?hQx13 ?hyx13 ?hSx13 ?hx13
      case hix13 =>
        simp only [List.getElem?_toArray, List.getElem?_cons_succ, List.getElem?_cons_zero]
        rfl
      case hsx13 => kernel_rfl
      case hfx13 => kernel_rfl
      case hrx13 => kernel_rfl
      case hyx13 =>
        refine Or.inl ⟨by rfl, ?_⟩
        intro w hSw
        (try dsimp only at hSw)
        go_simp
        try with_reducible rfl
      case hQx13 => exact fun _ _ _ h => h
      case hSx13 => assumption
      try simp only [Act.put, List.setIfInBounds_toArray, List.set_cons_zero, List.set_cons_succ]
      refine wpAnyH_take (i := 13) (oi := ?oix14) (v := ?vx14) ?hix14 ?hsx14 ?hfx14 ?hrx14 ?hQx14 ?hyx14 ?hSx14 ?hx14
      case hix14 =>
        simp only [List.getElem?_toArray, List.getElem?_cons_succ, List.getElem?_cons_zero]
        rfl
      case hsx14 => kernel_rfl
      case hfx14 => kernel_rfl
      case hrx14 => kernel_rfl
      case hyx14 =>
        refine Or.inl ⟨by rfl, ?_⟩
        intro w hSw
        (try dsimp only at hSw)
        go_simp
        try with_reducible rfl
      case hQx14 => exact fun _ _ _ h => h
      case hSx14 => assumption
      try simp only [Act.put, List.setIfInBounds_toArray, List.set_cons_zero, List.set_cons_succ]
      refine wpAnyH_take (i := 14) (oi := ?oix15) (v := ?vx15) ?hix15 ?hsx15 ?hfx15 ?hrx15 ?hQx15 ?hyx15 ?hSx15 ?hx15
      case hix15 =>
        simp only [List.getElem?_toArray, List.getElem?_cons_succ, List.getElem?_cons_zero]
        rfl
      case hsx15 => kernel_rfl
      case hfx15 => kernel_rfl
      case hrx15 => kernel_rfl
      case hyx15 =>
        refine Or.inl ⟨by rfl, ?_⟩
        intro w hSw
        (try dsimp only at hSw)
        go_simp
        try with_reducible rfl
      case hQx15 => exact fun _ _ _ h => h
      case hSx15 => assumption
      try simp only [Act.put, List.setIfInBounds_toArray, List.set_cons_zero, List.set_cons_succ]
      refine wpAnyH_take (i := 15) (oi := ?oix16) (v := ?vx16) ?hix16 ?hsx16 ?hfx16 ?hrx16 ?hQx16 ?hyx16 ?hSx16 ?hx16
      case hix16 =>
        simp only [List.getElem?_toArray, List.getElem?_cons_succ, List.getElem?_cons_zero]
        rfl
      case hsx16 => kernel_rfl
      case hfx16 => kernel_rfl
      case hrx16 => kernel_rfl
      case hyx16 =>
        refine Or.inl ⟨by rfl, ?_⟩
        intro w hSw
        (try dsimp only at hSw)
        go_simp
        try with_reducible rfl
      case hQx16 => exact fun _ _ _ h => h
      case hSx16 => assumption
      try simp only [Act.put, List.setIfInBounds_toArray, List.set_cons_zero, List.set_cons_succ]
      refine wpAnyH_take (i := 16) (oi := ?oix17) (v := ?vx17) ?hix17 ?hsx17 ?hfx17 ?hrx17 ?hQx17 ?hyx17 ?hSx17 ?hx17
      case hix17 =>
        simp only [List.getElem?_toArray, List.getElem?_cons_succ, List.getElem?_cons_zero]
        rfl
      case hsx17 => kernel_rfl
      case hfx17 => kernel_rfl
      case hrx17 => kernel_rfl
      case hyx17 =>
        refine Or.inl ⟨by rfl, ?_⟩
        intro w hSw
        (try dsimp only at hSw)
        go_simp
        try with_reducible rfl
      case hQx17 => exact fun _ _ _ h => h
      case hSx17 => assumption
      try simp only [Act.put, List.setIfInBounds_toArray, List.set_cons_zero, List.set_cons_succ]
      refine wpAnyH_take (i := 17) (oi := ?oix18) (v := ?vx18) ?hix18 ?hsx18 ?hfx18 ?hrx18 ?hQx18 ?hyx18 ?hSx18 ?hx18
      case hix18 =>
        simp only [List.getElem?_toArray, List.getElem?_cons_succ, List.getElem?_cons_zero]
        rfl
      case hsx18 => kernel_rfl
      case hfx18 => kernel_rfl
      case hrx18 => kernel_rfl
      case hyx18 =>
        refine Or.inl ⟨by rfl, ?_⟩
        intro w hSw
        (try dsimp only at hSw)
        go_simp
        try with_reducible rfl
      case hQx18 => exact fun _ _ _ h => h
      case hSx18 => assumption
      try simp only [Act.put, List.setIfInBounds_toArray, List.set_cons_zero, List.set_cons_succ]
      refine wpAnyH_take (i := 18) (oi := ?oix19) (v := ?vx19) ?hix19 ?hsx19 ?hfx19 ?hrx19 ?hQx19 ?hyx19 ?hSx19 ?hx19
      case hix19 =>
        simp only [List.getElem?_toArray, List.getElem?_cons_succ, List.getElem?_cons_zero]
        rfl
      case hsx19 => kernel_rfl
      case hfx19 => kernel_rfl
      case hrx19 => kernel_rfl
      case hyx19 =>
        refine Or.inl ⟨by rfl, ?_⟩
        intro w hSw
        (try dsimp only at hSw)
        go_simp
        try with_reducible rfl
      case hQx19 => exact fun _ _ _ h => h
      case hSx19 => assumption
      try simp only [Act.put, List.setIfInBounds_toArray, List.set_cons_zero, List.set_cons_succ]
      refine wpAnyH_take (i := 19) (oi := ?oix20) (v := ?vx20) ?hix20 ?hsx20 ?hfx20 ?hrx20 ?hQx20 ?hyx20 ?hSx20 ?hx20
      case hix20 =>
        simp only [List.getElem?_toArray, List.getElem?_cons_succ, List.getElem?_cons_zero]
        rfl
      case hsx20 => kernel_rfl
      case hfx20 => kernel_rfl
      case hrx20 => kernel_rfl
      case hyx20 =>
        refine Or.inl ⟨by rfl, ?_⟩
        intro w hSw
        (try dsimp only at hSw)
        go_simp
        try with_reducible rfl
      case hQx20 => exact fun _ _ _ h => h
      case hSx20 => assumption
      try simp only [Act.put, List.setIfInBounds_toArray, List.set_cons_zero, List.set_cons_succ]
      refine wpAnyH_take (i := 20) (oi := ?oix21) (v := ?vx21) ?hix21 ?hsx21 ?hfx21 ?hrx21 ?hQx21 ?hyx21 ?hSx21 ?hx21
      case hix21 =>
        simp only [List.getElem?_toArray, List.getElem?_cons_succ, List.getElem?_cons_zero]
        rfl
      case hsx21 => kernel_rfl
      case hfx21 => kernel_rfl
      case hrx21 => kernel_rfl
      case hyx21 =>
        refine Or.inl ⟨by rfl, ?_⟩
        intro w hSw
        (try dsimp only at hSw)
        go_simp
        try with_reducible rfl
      case hQx21 => exact fun _ _ _ h => h
      case hSx21 => assumption
      try simp only [Act.put, List.setIfInBounds_toArray, List.set_cons_zero, List.set_cons_succ]
      refine wpAnyH_take (i := 21) (oi := ?oix22) (v := ?vx22) ?hix22 ?hsx22 ?hfx22 ?hrx22 ?hQx22 ?hyx22 ?hSx22 ?hx22
      case hix22 =>
        simp only [List.getElem?_toArray, List.getElem?_cons_succ, List.getElem?_cons_zero]
        rfl
      case hsx22 => kernel_rfl
      case hfx22 => kernel_rfl
      case hrx22 => kernel_rfl
      case hyx22 =>
        refine Or.inl ⟨by rfl, ?_⟩
        intro w hSw
        (try dsimp only at hSw)
        go_simp
        try with_reducible rfl
      case hQx22 => exact fun _ _ _ h => h
      case hSx22 => assumption
      try simp only [Act.put, List.setIfInBounds_toArray, List.set_cons_zero, List.set_cons_succ]
      refine wpAnyH_ready (rs := [22]) (by kernel_rfl) (by simp) ?_
      refine AllReadyH.cons (o := ?ox23) ?ix23 ?kx23 AllReadyH.nil
      case ix23 =>
        simp only [List.getElem?_toArray, List.getElem?_cons_succ, List.getElem?_cons_zero]
        rfl
      intro K hK
      go_simp
      refine hK.out _ _ (HALL.out _ B1.out) (fun hHeld => ?_)
      clear hK K
      try simp only [Act.put, List.setIfInBounds_toArray, List.set_cons_zero, List.set_cons_succ]
      refine wpAnyH_ready (rs := [23]) (by kernel_rfl) (by simp) ?_
      refine AllReadyH.cons (o := ?ox24) ?ix24 ?kx24 AllReadyH.nil
      case ix24 =>
        simp only [List.getElem?_toArray, List.getElem?_cons_succ, List.getElem?_cons_zero]
        rfl
      intro K hK
      refine step_append_ran _ _ (by rfl) _ _ 27 (by rfl) _ _ _ (by rfl) (by rfl) HRUN.out ?_
      refine hK.out _ _ (HALL.out _ B2.out) (fun hHeld => ?_)
      clear hK K
      try simp only [Act.put, List.setIfInBounds_toArray, List.set_cons_zero, List.set_cons_succ]
      refine wpAnyH_take (i := 24) (oi := ?oix25) (v := ?vx25) ?hix25 ?hsx25 ?hfx25 ?hrx25 ?hQx25 ?hyx25 ?hSx25 ?hx25
      case hix25 =>
        simp only [List.getElem?_toArray, List.getElem?_cons_succ, List.getElem?_cons_zero]
        rfl
      case hsx25 => kernel_rfl
      case hfx25 => kernel_rfl
      case hrx25 => kernel_rfl
      case hyx25 =>
        refine Or.inl ⟨by rfl, ?_⟩
        intro w hSw
        (try dsimp only at hSw)
        go_simp
        try with_reducible rfl
      case hQx25 => exact fun _ _ _ h => h
      case hSx25 => assumption
      try simp only [Act.put, List.setIfInBounds_toArray, List.set_cons_zero, List.set_cons_succ]
      refine wpAnyH_done (by kernel_rfl) ?_ _
      go_wp2_with fail
      go_roundw
      case rel => exact .inr ⟨rfl, by go_num, trivial⟩
      case measure => simp [intOf]
    · obtain ⟨g, k, rfl, h1, h2⟩ := HO2.out.form (by decide)
      have hc := HO2.out.cells (g := g) rfl
      have HC := Lib.hid hc
      clear hc
      go_wp2
      go_ret
      exact ⟨g, k, rfl, h2, fun j v hv => by
        have h := HC.out j v hv
        have hadd : (⟨g, 0, none⟩ : Addr).add j = ⟨g, 0 + j, none⟩ := by unfold Addr.add; split <;> simp_all
        rwa [hadd] at h, B2.out⟩
theorem awake25_any (w : World) : Calls Try.prog 21 #[] w fun e w' => e = .returned (.bool true) ∧ Below w.heap.size w w' := by
  have OF := zof_some (some ⟨w.heap.size, 0, none⟩) 2 2 (fun i => if i = 0 then 5 else -1) (by decide) (by decide) (by decide) (by decide) (fun i _ => by by_cases h : i = 0 <;> simp [h]) (w.alloc (.cells #[.int .i64 5, .int .i64 (-1)] 2))
    (.inr ⟨w.heap.size, 0, rfl, fun i hi => by
      have h := (Lies.new w 2 #[.int .i64 5, .int .i64 (-1)]).cell i
      rw [Nat.zero_add, h]
      match i, hi with
      | 0, _ => rfl
      | 1, _ => rfl⟩)
  rw [show zOf (fun i => if i = 0 then 5 else -1) 2 = #[.int .i64 2, .int .i64 (-1), .int .i64 5, .int .i64 4] from by simp [zOf, zV, zmin, zmax, ztot, wrap64]] at OF
  have OF := Lib.hid OF
  go_enter Try.func21, Try.ntmps21
  go_wp2_with (go_at_call 22; refine OF.out.mono ?_; rintro e w2 ⟨rfl, hb2⟩; have B2 := Lib.hid (((Below.refl w.heap.size w).alloc (Nat.le_refl _) _).trans (hb2.mono (by simp))); clear hb2)
  go_ret
  exact ⟨rfl, B2.out.alloc (by have := B2.out.size; omega) _⟩
end Go.Proofs.Ytgclhblglohjpaa
