/-
  CONTRA#[.int .i64 1, .int .i64 l, .int .i64 h, .int .i64 s]S OF plain.Block, Zone.mayBe and of the document's own Right (corduroyref25), in any world. No condition.
-/
import Derived.Test.YtgclhblglohjpaaZoneA
namespace Go.Proofs.Ytgclhblglohjpaa
open Go.RowKit
set_option linter.unusedVariables false
set_option linter.unusedSimpArgs false
/-- May a zone be? -/
def zrt (c l h s : Int) : Bool := decide (1 ≤ c ∧ c ≤ 1024) && (decide (l ≤ h) && (decide (1 < c) || (l == h && s == l)))
theorem zblock_any (n : Int) (w : World) : Calls Try.prog 97 #[.int .i64 n] w fun e w' => e = .returned (.bool (decide (1 ≤ n ∧ n ≤ 1024))) ∧ w = w' := by
  by_cases h1 : 1 ≤ n
  · by_cases h2 : n ≤ 1024
    · rw [decide_eq_true (And.intro h1 h2)]
      go_enter Try.func97, Try.ntmps97
      go_wp2
      go_ret
      exact ⟨rfl, rfl⟩
    · rw [decide_eq_false (fun h => h2 h.2)]
      go_enter Try.func97, Try.ntmps97
      go_wp2
      go_ret
      exact ⟨rfl, rfl⟩
  · rw [decide_eq_false (fun h => h1 h.1)]
    go_enter Try.func97, Try.ntmps97
    go_wp2
    go_ret
    exact ⟨rfl, rfl⟩
theorem right_any (c l h s : Int) (w : World) : Calls Try.prog 58 #[.agg #[.int .i64 c, .int .i64 l, .int .i64 h, .int .i64 s]] w fun e w' => e = .returned (.bool (zrt c l h s)) ∧ Below w.heap.size w w' := by
  by_cases h1 : c < 1
  · rw [show zrt c l h s = false from by unfold zrt; rw [decide_eq_false (by omega)]; rfl]
    go_enter Try.func58, Try.ntmps58
    go_wp2
    go_ret
    exact ⟨rfl, (Below.refl _ _).alloc (Nat.le_refl _) _⟩
  by_cases h2 : 1024 < c
  · rw [show zrt c l h s = false from by unfold zrt; rw [decide_eq_false (by omega)]; rfl]
    go_enter Try.func58, Try.ntmps58
    go_wp2
    go_ret
    exact ⟨rfl, (Below.refl _ _).alloc (Nat.le_refl _) _⟩
  by_cases h3 : h < l
  · rw [show zrt c l h s = false from by unfold zrt; rw [decide_eq_false (show ¬ l ≤ h by omega)]; simp]
    go_enter Try.func58, Try.ntmps58
    go_wp2
    go_ret
    exact ⟨rfl, (Below.refl _ _).alloc (Nat.le_refl _) _⟩
  by_cases h4 : 1 < c
  · rw [show zrt c l h s = true from by unfold zrt; rw [decide_eq_true (by omega), decide_eq_true (show l ≤ h by omega), decide_eq_true h4]; rfl]
    go_enter Try.func58, Try.ntmps58
    go_wp2
    go_ret
    exact ⟨rfl, (Below.refl _ _).alloc (Nat.le_refl _) _⟩
  by_cases h5 : l = h
  · subst h5
    by_cases h6 : s = l
    · subst h6
      rw [show zrt c s s s = true from by unfold zrt; rw [decide_eq_true (by omega), decide_eq_true (show s ≤ s by omega), decide_eq_false h4]; simp]
      have e1 : (s == s) = true := by simp
      go_enter Try.func58, Try.ntmps58
      go_wp2
      go_ret
      exact ⟨rfl, (Below.refl _ _).alloc (Nat.le_refl _) _⟩
    · have e2 : (s == l) = false := by simpa using h6
      rw [show zrt c l l s = false from by unfold zrt; rw [decide_eq_false h4, e2]; simp]
      have e1 : (l == l) = true := by simp
      go_enter Try.func58, Try.ntmps58
      go_wp2
      go_ret
      exact ⟨rfl, (Below.refl _ _).alloc (Nat.le_refl _) _⟩
  · have e1 : (l == h) = false := by simpa using h5
    rw [show zrt c l h s = false from by unfold zrt; rw [decide_eq_false h4, e1]; simp]
    go_enter Try.func58, Try.ntmps58
    go_wp2
    go_ret
    exact ⟨rfl, (Below.refl _ _).alloc (Nat.le_refl _) _⟩
set_option maxRecDepth 100000 in
theorem maybe_any (c l h s : Int) (w : World) : Calls Try.prog 54 #[.agg #[.int .i64 c, .int .i64 l, .int .i64 h, .int .i64 s]] w fun e w' => e = .returned (.bool (zrt c l h s)) ∧ Below w.heap.size w w' := by
  have BK := Lib.hid (zblock_any c)
  by_cases h1 : 1 ≤ c ∧ c ≤ 1024
  case neg =>
    rw [show zrt c l h s = false from by unfold zrt; rw [decide_eq_false h1]; rfl]
    rw [decide_eq_false h1] at BK
    go_enter Try.func54, Try.ntmps54
    go_wp2_with (go_at_call 97; refine (BK.out _).mono ?_; rintro e w1 ⟨rfl, rfl⟩)
    go_ret
    exact ⟨rfl, (Below.refl _ _).alloc (Nat.le_refl _) _⟩
  rw [decide_eq_true h1] at BK
  by_cases h3 : h < l
  · rw [show zrt c l h s = false from by unfold zrt; rw [decide_eq_false (show ¬ l ≤ h by omega)]; simp]
    go_enter Try.func54, Try.ntmps54
    go_wp2_with (go_at_call 97; refine (BK.out _).mono ?_; rintro e w1 ⟨rfl, rfl⟩)
    go_ret
    exact ⟨rfl, (Below.refl _ _).alloc (Nat.le_refl _) _⟩
  have h3' : l ≤ h := by omega
  have HALL := Lib.hid (fun W (hb : Below (w.heap.size + 1) (w.alloc (.cells #[.int .i64 c, .int .i64 l, .int .i64 h, .int .i64 s] 40)) W) => (show (W.cell? ⟨w.heap.size, 0, none⟩ = some (.int .i64 c) ∧ W.cell? ⟨w.heap.size, 3, none⟩ = some (.int .i64 s)) ∧ (Instr.loadAt 40 (.pointer (some ⟨w.heap.size, 0, none⟩))).run Try.prog W = .ok (.agg #[.int .i64 c, .int .i64 l, .int .i64 h, .int .i64 s]) W from
    have hl := (Lies.new w 40 #[.int .i64 c, .int .i64 l, .int .i64 h, .int .i64 s]).below hb (by omega)
    ⟨⟨hl.cell 0, hl.cell 3⟩, lies_zone hl Try.underlying40 rfl zone_info⟩))
  have P0 := Lib.hid (show Below (w.heap.size + 1) (w.alloc (.cells #[.int .i64 c, .int .i64 l, .int .i64 h, .int .i64 s] 40)) ((w.alloc (.cells #[.int .i64 c, .int .i64 l, .int .i64 h, .int .i64 s] 40)).drew) from (Below.refl _ _).drew)
  have B0 := Lib.hid (show Below w.heap.size w (w.alloc (.cells #[.int .i64 c, .int .i64 l, .int .i64 h, .int .i64 s] 40)) from (Below.refl _ _).alloc (Nat.le_refl _) _)
  by_cases h4 : 1 < c
  · rw [show zrt c l h s = true from by unfold zrt; rw [decide_eq_true h1, decide_eq_true h3', decide_eq_true h4]; rfl]
    go_enter Try.func54, Try.ntmps54
    go_wp2_with (go_at_call 97; refine (BK.out _).mono ?_; rintro e w1 ⟨rfl, rfl⟩)
    refine wp_region_held_drew (S := (fun W : World => W.cell? ⟨w.heap.size, 0, none⟩ = some (.int .i64 c))) (by kernel_rfl) (HALL.out _ P0.out).1.1 (fun hHeld => ?_)
    refine wpAnyH_take (i := 0) (oi := ?oix1) (v := ?vx1) ?hix1 ?hsx1 ?hfx1 ?hrx1 ?hQx1 ?hyx1 ?hSx1 ?hx1
    case hix1 =>
      simp only [List.getElem?_toArray, List.getElem?_cons_zero]
      rfl
    case hsx1 => kernel_rfl
    case hfx1 => kernel_rfl
    case hrx1 => kernel_rfl
    case hyx1 =>
      refine Or.inl ⟨by rfl, ?_⟩
      intro w hSw
      (try dsimp only at hSw)
      go_simp
      try with_reducible rfl
    case hQx1 => exact fun _ _ _ h => h
    case hSx1 => assumption
    try simp only [Act.put, List.setIfInBounds_toArray, List.set_cons_zero, List.set_cons_succ]
    refine wpAnyH_take (i := 1) (oi := ?oix2) (v := ?vx2) ?hix2 ?hsx2 ?hfx2 ?hrx2 ?hQx2 ?hyx2 ?hSx2 ?hx2
    case hix2 =>
      simp only [List.getElem?_toArray, List.getElem?_cons_succ, List.getElem?_cons_zero]
      rfl
    case hsx2 => kernel_rfl
    case hfx2 => kernel_rfl
    case hrx2 => kernel_rfl
    case hyx2 =>
      refine Or.inl ⟨by rfl, ?_⟩
      intro w hSw
      (try dsimp only at hSw)
      go_simp
      try with_reducible rfl
    case hQx2 => exact fun _ _ _ h => h
    case hSx2 => assumption
    try simp only [Act.put, List.setIfInBounds_toArray, List.set_cons_zero, List.set_cons_succ]
    refine wpAnyH_take (i := 2) (oi := ?oix3) (v := ?vx3) ?hix3 ?hsx3 ?hfx3 ?hrx3 ?hQx3 ?hyx3 ?hSx3 ?hx3
    case hix3 =>
      simp only [List.getElem?_toArray, List.getElem?_cons_succ, List.getElem?_cons_zero]
      rfl
    case hsx3 => kernel_rfl
    case hfx3 => kernel_rfl
    case hrx3 => kernel_rfl
    case hyx3 =>
      refine Or.inl ⟨by rfl, ?_⟩
      intro w hSw
      (try dsimp only at hSw)
      go_simp
      try with_reducible rfl
    case hQx3 => exact fun _ _ _ h => h
    case hSx3 => assumption
    try simp only [Act.put, List.setIfInBounds_toArray, List.set_cons_zero, List.set_cons_succ]
    refine wpAnyH_take (i := 3) (oi := ?oix4) (v := ?vx4) ?hix4 ?hsx4 ?hfx4 ?hrx4 ?hQx4 ?hyx4 ?hSx4 ?hx4
    case hix4 =>
      simp only [List.getElem?_toArray, List.getElem?_cons_succ, List.getElem?_cons_zero]
      rfl
    case hsx4 => kernel_rfl
    case hfx4 => kernel_rfl
    case hrx4 => kernel_rfl
    case hyx4 =>
      refine Or.inl ⟨by rfl, ?_⟩
      intro w hSw
      (try dsimp only at hSw)
      go_simp
      try with_reducible rfl
    case hQx4 => exact fun _ _ _ h => h
    case hSx4 => assumption
    try simp only [Act.put, List.setIfInBounds_toArray, List.set_cons_zero, List.set_cons_succ]
    refine wpAnyH_take (i := 4) (oi := ?oix5) (v := undef) ?hix5 ?hsx5 ?hfx5 ?hrx5 ?hQx5 ?hyx5 ?hSx5 ?hx5
    case hix5 =>
      simp only [List.getElem?_toArray, List.getElem?_cons_succ, List.getElem?_cons_zero]
      rfl
    case hsx5 => kernel_rfl
    case hfx5 => kernel_rfl
    case hrx5 => kernel_rfl
    case hyx5 =>
      exact Or.inr ⟨by rfl, rfl⟩
    case hQx5 => exact fun _ _ _ h => h
    case hSx5 => assumption
    try simp only [Act.put, List.setIfInBounds_toArray, List.set_cons_zero, List.set_cons_succ]
    refine wpAnyH_take (i := 5) (oi := ?oix6) (v := undef) ?hix6 ?hsx6 ?hfx6 ?hrx6 ?hQx6 ?hyx6 ?hSx6 ?hx6
    case hix6 =>
      simp only [List.getElem?_toArray, List.getElem?_cons_succ, List.getElem?_cons_zero]
      rfl
    case hsx6 => kernel_rfl
    case hfx6 => kernel_rfl
    case hrx6 => kernel_rfl
    case hyx6 =>
      exact Or.inr ⟨by rfl, rfl⟩
    case hQx6 => exact fun _ _ _ h => h
    case hSx6 => assumption
    try simp only [Act.put, List.setIfInBounds_toArray, List.set_cons_zero, List.set_cons_succ]
    refine wpAnyH_take (i := 6) (oi := ?oix7) (v := undef) ?hix7 ?hsx7 ?hfx7 ?hrx7 ?hQx7 ?hyx7 ?hSx7 ?hx7
    case hix7 =>
      simp only [List.getElem?_toArray, List.getElem?_cons_succ, List.getElem?_cons_zero]
      rfl
    case hsx7 => kernel_rfl
    case hfx7 => kernel_rfl
    case hrx7 => kernel_rfl
    case hyx7 =>
      exact Or.inr ⟨by rfl, rfl⟩
    case hQx7 => exact fun _ _ _ h => h
    case hSx7 => assumption
    try simp only [Act.put, List.setIfInBounds_toArray, List.set_cons_zero, List.set_cons_succ]
    refine wpAnyH_pass (i := 7) (o := ?oix8) ?hix8 ?hrx8 ?hwx8 ?hSx8 ?hx8
    case hix8 =>
      simp only [List.getElem?_toArray, List.getElem?_cons_succ, List.getElem?_cons_zero]
      rfl
    case hrx8 => kernel_rfl
    case hwx8 => rfl
    case hSx8 => assumption
    try simp only [Act.put, List.setIfInBounds_toArray, List.set_cons_zero, List.set_cons_succ]
    refine wpAnyH_take (i := 8) (oi := ?oix9) (v := undef) ?hix9 ?hsx9 ?hfx9 ?hrx9 ?hQx9 ?hyx9 ?hSx9 ?hx9
    case hix9 =>
      simp only [List.getElem?_toArray, List.getElem?_cons_succ, List.getElem?_cons_zero]
      rfl
    case hsx9 => kernel_rfl
    case hfx9 => kernel_rfl
    case hrx9 => kernel_rfl
    case hyx9 =>
      exact Or.inr ⟨by rfl, rfl⟩
    case hQx9 => exact fun _ _ _ h => h
    case hSx9 => assumption
    try simp only [Act.put, List.setIfInBounds_toArray, List.set_cons_zero, List.set_cons_succ]
    refine wpAnyH_take (i := 9) (oi := ?oix10) (v := ?vx10) ?hix10 ?hsx10 ?hfx10 ?hrx10 ?hQx10 ?hyx10 ?hSx10 ?hx10
    case hix10 =>
      simp only [List.getElem?_toArray, List.getElem?_cons_succ, List.getElem?_cons_zero]
      rfl
    case hsx10 => kernel_rfl
    case hfx10 => kernel_rfl
    case hrx10 => kernel_rfl
    case hyx10 =>
      refine Or.inl ⟨by rfl, ?_⟩
      intro w hSw
      (try dsimp only at hSw)
      go_simp
      try with_reducible rfl
    case hQx10 => exact fun _ _ _ h => h
    case hSx10 => assumption
    try simp only [Act.put, List.setIfInBounds_toArray, List.set_cons_zero, List.set_cons_succ]
    refine wpAnyH_take (i := 10) (oi := ?oix11) (v := ?vx11) ?hix11 ?hsx11 ?hfx11 ?hrx11 ?hQx11 ?hyx11 ?hSx11 ?hx11
    case hix11 =>
      simp only [List.getElem?_toArray, List.getElem?_cons_succ, List.getElem?_cons_zero]
      rfl
    case hsx11 => kernel_rfl
    case hfx11 => kernel_rfl
    case hrx11 => kernel_rfl
    case hyx11 =>
      refine Or.inl ⟨by rfl, ?_⟩
      intro w hSw
      (try dsimp only at hSw)
      go_simp
      try with_reducible rfl
    case hQx11 => exact fun _ _ _ h => h
    case hSx11 => assumption
    try simp only [Act.put, List.setIfInBounds_toArray, List.set_cons_zero, List.set_cons_succ]
    refine wpAnyH_done (by kernel_rfl) ?_ _
    go_wp2_with fail
    go_ret
    exact ⟨rfl, B0.out.trans (P0.out.mono (by omega))⟩
  · obtain rfl : c = 1 := by omega
    have ON := Lib.hid (zone_one s)
    unfold zV at ON
    have hz : zrt 1 l h s = (l == h && s == l) := by
      unfold zrt; rw [decide_eq_true h1, decide_eq_true h3', decide_eq_false h4]; rfl
    rw [hz]
    clear hz
    by_cases a : l = s
    · subst a
      by_cases b : h = l
      · subst b
        rw [show (h == h && h == h) = true from by simp]
        go_enter Try.func54, Try.ntmps54
        go_wp2_with (go_at_call 97; refine (BK.out _).mono ?_; rintro e w1 ⟨rfl, rfl⟩)
        refine wp_region_held_drew (S := (fun W : World => (W.cell? ⟨w.heap.size, 0, none⟩ = some (.int .i64 1) ∧ W.cell? ⟨w.heap.size, 3, none⟩ = some (.int .i64 h)) ∧ (Instr.loadAt 40 (.pointer (some ⟨w.heap.size, 0, none⟩))).run Try.prog W = .ok (.agg #[.int .i64 1, .int .i64 h, .int .i64 h, .int .i64 h]) W)) (by kernel_rfl) (HALL.out _ P0.out) (fun hHeld => ?_)
        refine wpAnyH_take (i := 0) (oi := ?oix12) (v := ?vx12) ?hix12 ?hsx12 ?hfx12 ?hrx12 ?hQx12 ?hyx12 ?hSx12 ?hx12
        case hix12 =>
          simp only [List.getElem?_toArray, List.getElem?_cons_zero]
          rfl
        case hsx12 => kernel_rfl
        case hfx12 => kernel_rfl
        case hrx12 => kernel_rfl
        case hyx12 =>
          refine Or.inl ⟨by rfl, ?_⟩
          intro w hSw
          (try dsimp only at hSw)
          go_simp
          try with_reducible rfl
        case hQx12 => exact fun _ _ _ h => h
        case hSx12 => assumption
        try simp only [Act.put, List.setIfInBounds_toArray, List.set_cons_zero, List.set_cons_succ]
        refine wpAnyH_take (i := 1) (oi := ?oix13) (v := ?vx13) ?hix13 ?hsx13 ?hfx13 ?hrx13 ?hQx13 ?hyx13 ?hSx13 ?hx13
        case hix13 =>
          simp only [List.getElem?_toArray, List.getElem?_cons_succ, List.getElem?_cons_zero]
          rfl
        case hsx13 => kernel_rfl
        case hfx13 => kernel_rfl
        case hrx13 => kernel_rfl
        case hyx13 =>
          refine Or.inl ⟨by rfl, ?_⟩
          intro w hSw
          (try dsimp only at hSw)
          go_simp
          try with_reducible rfl
        case hQx13 => exact fun _ _ _ h => h
        case hSx13 => assumption
        try simp only [Act.put, List.setIfInBounds_toArray, List.set_cons_zero, List.set_cons_succ]
        refine wpAnyH_take (i := 2) (oi := ?oix14) (v := ?vx14) ?hix14 ?hsx14 ?hfx14 ?hrx14 ?hQx14 ?hyx14 ?hSx14 ?hx14
        case hix14 =>
          simp only [List.getElem?_toArray, List.getElem?_cons_succ, List.getElem?_cons_zero]
          rfl
        case hsx14 => kernel_rfl
        case hfx14 => kernel_rfl
        case hrx14 => kernel_rfl
        case hyx14 =>
          refine Or.inl ⟨by rfl, ?_⟩
          intro w hSw
          (try dsimp only at hSw)
          go_simp
          try with_reducible rfl
        case hQx14 => exact fun _ _ _ h => h
        case hSx14 => assumption
        try simp only [Act.put, List.setIfInBounds_toArray, List.set_cons_zero, List.set_cons_succ]
        refine wpAnyH_take (i := 3) (oi := ?oix15) (v := ?vx15) ?hix15 ?hsx15 ?hfx15 ?hrx15 ?hQx15 ?hyx15 ?hSx15 ?hx15
        case hix15 =>
          simp only [List.getElem?_toArray, List.getElem?_cons_succ, List.getElem?_cons_zero]
          rfl
        case hsx15 => kernel_rfl
        case hfx15 => kernel_rfl
        case hrx15 => kernel_rfl
        case hyx15 =>
          refine Or.inl ⟨by rfl, ?_⟩
          intro w hSw
          (try dsimp only at hSw)
          go_simp
          try with_reducible rfl
        case hQx15 => exact fun _ _ _ h => h
        case hSx15 => assumption
        try simp only [Act.put, List.setIfInBounds_toArray, List.set_cons_zero, List.set_cons_succ]
        refine wpAnyH_take (i := 4) (oi := ?oix16) (v := (.agg #[.int .i64 1, .int .i64 h, .int .i64 h, .int .i64 h])) ?hix16 ?hsx16 ?hfx16 ?hrx16 ?hQx16 ?hyx16 ?hSx16 ?hx16
        case hix16 =>
          simp only [List.getElem?_toArray, List.getElem?_cons_succ, List.getElem?_cons_zero]
          rfl
        case hsx16 => kernel_rfl
        case hfx16 => kernel_rfl
        case hrx16 => kernel_rfl
        case hyx16 =>
          refine Or.inl ⟨by rfl, ?_⟩
          intro w hSw
          (try dsimp only at hSw)
          exact exec_load (ptr := .pointer (some ⟨_, 0, none⟩)) 40 (.tmp 1) rfl (by rfl) hSw.2
        case hQx16 => exact fun _ _ _ h => h
        case hSx16 => assumption
        try simp only [Act.put, List.setIfInBounds_toArray, List.set_cons_zero, List.set_cons_succ]
        refine wpAnyH_take (i := 5) (oi := ?oix17) (v := ?vx17) ?hix17 ?hsx17 ?hfx17 ?hrx17 ?hQx17 ?hyx17 ?hSx17 ?hx17
        case hix17 =>
          simp only [List.getElem?_toArray, List.getElem?_cons_succ, List.getElem?_cons_zero]
          rfl
        case hsx17 => kernel_rfl
        case hfx17 => kernel_rfl
        case hrx17 => kernel_rfl
        case hyx17 =>
          refine Or.inl ⟨by rfl, ?_⟩
          intro w hSw
          (try dsimp only at hSw)
          go_simp
          try with_reducible rfl
        case hQx17 => exact fun _ _ _ h => h
        case hSx17 => assumption
        try simp only [Act.put, List.setIfInBounds_toArray, List.set_cons_zero, List.set_cons_succ]
        refine wpAnyH_take (i := 6) (oi := ?oix18) (v := ?vx18) ?hix18 ?hsx18 ?hfx18 ?hrx18 ?hQx18 ?hyx18 ?hSx18 ?hx18
        case hix18 =>
          simp only [List.getElem?_toArray, List.getElem?_cons_succ, List.getElem?_cons_zero]
          rfl
        case hsx18 => kernel_rfl
        case hfx18 => kernel_rfl
        case hrx18 => kernel_rfl
        case hyx18 =>
          refine Or.inl ⟨by rfl, ?_⟩
          intro w hSw
          (try dsimp only at hSw)
          go_simp
          try with_reducible rfl
        case hQx18 => exact fun _ _ _ h => h
        case hSx18 => assumption
        try simp only [Act.put, List.setIfInBounds_toArray, List.set_cons_zero, List.set_cons_succ]
        refine wpAnyH_ready (rs := [7]) (by kernel_rfl) (by simp) ?_
        refine AllReadyH.cons (o := ?ox19) ?ix19 ?kx19 AllReadyH.nil
        case ix19 =>
          simp only [List.getElem?_toArray, List.getElem?_cons_succ, List.getElem?_cons_zero]
          rfl
        intro K hK
        go_simp
        go_at_call 67
        refine (ON.out _).mono ?_
        rintro e w3 ⟨rfl, hb⟩
        have P1 := Lib.hid (P0.out.trans (hb.mono (by simp)))
        clear hb
        refine hK.out _ _ (HALL.out _ P1.out) (fun hHeld => ?_)
        clear hK K
        try simp only [Act.put, List.setIfInBounds_toArray, List.set_cons_zero, List.set_cons_succ]
        refine wpAnyH_take (i := 8) (oi := ?oix20) (v := ?vx20) ?hix20 ?hsx20 ?hfx20 ?hrx20 ?hQx20 ?hyx20 ?hSx20 ?hx20
        case hix20 =>
          simp only [List.getElem?_toArray, List.getElem?_cons_succ, List.getElem?_cons_zero]
          rfl
        case hsx20 => kernel_rfl
        case hfx20 => kernel_rfl
        case hrx20 => kernel_rfl
        case hyx20 =>
          refine Or.inl ⟨by rfl, ?_⟩
          intro w hSw
          (try dsimp only at hSw)
          go_simp
          try with_reducible rfl
        case hQx20 => exact fun _ _ _ h => h
        case hSx20 => assumption
        try simp only [Act.put, List.setIfInBounds_toArray, List.set_cons_zero, List.set_cons_succ]
        refine wpAnyH_take (i := 9) (oi := ?oix21) (v := ?vx21) ?hix21 ?hsx21 ?hfx21 ?hrx21 ?hQx21 ?hyx21 ?hSx21 ?hx21
        case hix21 =>
          simp only [List.getElem?_toArray, List.getElem?_cons_succ, List.getElem?_cons_zero]
          rfl
        case hsx21 => kernel_rfl
        case hfx21 => kernel_rfl
        case hrx21 => kernel_rfl
        case hyx21 =>
          refine Or.inl ⟨by rfl, ?_⟩
          intro w hSw
          (try dsimp only at hSw)
          go_simp
          try with_reducible rfl
        case hQx21 => exact fun _ _ _ h => h
        case hSx21 => assumption
        try simp only [Act.put, List.setIfInBounds_toArray, List.set_cons_zero, List.set_cons_succ]
        refine wpAnyH_take (i := 10) (oi := ?oix22) (v := ?vx22) ?hix22 ?hsx22 ?hfx22 ?hrx22 ?hQx22 ?hyx22 ?hSx22 ?hx22
        case hix22 =>
          simp only [List.getElem?_toArray, List.getElem?_cons_succ, List.getElem?_cons_zero]
          rfl
        case hsx22 => kernel_rfl
        case hfx22 => kernel_rfl
        case hrx22 => kernel_rfl
        case hyx22 =>
          refine Or.inl ⟨by rfl, ?_⟩
          intro w hSw
          (try dsimp only at hSw)
          go_simp
          try with_reducible rfl
        case hQx22 => exact fun _ _ _ h => h
        case hSx22 => assumption
        try simp only [Act.put, List.setIfInBounds_toArray, List.set_cons_zero, List.set_cons_succ]
        refine wpAnyH_done (by kernel_rfl) ?_ _
        go_wp2_with fail
        go_ret
        exact ⟨rfl, B0.out.trans (P1.out.mono (by omega))⟩
      · rw [show (l == h && l == l) = false from by have : ¬ l = h := fun e => b e.symm
                                                    simp [this]]
        go_enter Try.func54, Try.ntmps54
        go_wp2_with (go_at_call 97; refine (BK.out _).mono ?_; rintro e w1 ⟨rfl, rfl⟩)
        refine wp_region_held_drew (S := (fun W : World => (W.cell? ⟨w.heap.size, 0, none⟩ = some (.int .i64 1) ∧ W.cell? ⟨w.heap.size, 3, none⟩ = some (.int .i64 l)) ∧ (Instr.loadAt 40 (.pointer (some ⟨w.heap.size, 0, none⟩))).run Try.prog W = .ok (.agg #[.int .i64 1, .int .i64 l, .int .i64 h, .int .i64 l]) W)) (by kernel_rfl) (HALL.out _ P0.out) (fun hHeld => ?_)
        refine wpAnyH_take (i := 0) (oi := ?oix23) (v := ?vx23) ?hix23 ?hsx23 ?hfx23 ?hrx23 ?hQx23 ?hyx23 ?hSx23 ?hx23
        case hix23 =>
          simp only [List.getElem?_toArray, List.getElem?_cons_zero]
          rfl
        case hsx23 => kernel_rfl
        case hfx23 => kernel_rfl
        case hrx23 => kernel_rfl
        case hyx23 =>
          refine Or.inl ⟨by rfl, ?_⟩
          intro w hSw
          (try dsimp only at hSw)
          go_simp
          try with_reducible rfl
        case hQx23 => exact fun _ _ _ h => h
        case hSx23 => assumption
        try simp only [Act.put, List.setIfInBounds_toArray, List.set_cons_zero, List.set_cons_succ]
        refine wpAnyH_take (i := 1) (oi := ?oix24) (v := ?vx24) ?hix24 ?hsx24 ?hfx24 ?hrx24 ?hQx24 ?hyx24 ?hSx24 ?hx24
        case hix24 =>
          simp only [List.getElem?_toArray, List.getElem?_cons_succ, List.getElem?_cons_zero]
          rfl
        case hsx24 => kernel_rfl
        case hfx24 => kernel_rfl
        case hrx24 => kernel_rfl
        case hyx24 =>
          refine Or.inl ⟨by rfl, ?_⟩
          intro w hSw
          (try dsimp only at hSw)
          go_simp
          try with_reducible rfl
        case hQx24 => exact fun _ _ _ h => h
        case hSx24 => assumption
        try simp only [Act.put, List.setIfInBounds_toArray, List.set_cons_zero, List.set_cons_succ]
        refine wpAnyH_take (i := 2) (oi := ?oix25) (v := ?vx25) ?hix25 ?hsx25 ?hfx25 ?hrx25 ?hQx25 ?hyx25 ?hSx25 ?hx25
        case hix25 =>
          simp only [List.getElem?_toArray, List.getElem?_cons_succ, List.getElem?_cons_zero]
          rfl
        case hsx25 => kernel_rfl
        case hfx25 => kernel_rfl
        case hrx25 => kernel_rfl
        case hyx25 =>
          refine Or.inl ⟨by rfl, ?_⟩
          intro w hSw
          (try dsimp only at hSw)
          go_simp
          try with_reducible rfl
        case hQx25 => exact fun _ _ _ h => h
        case hSx25 => assumption
        try simp only [Act.put, List.setIfInBounds_toArray, List.set_cons_zero, List.set_cons_succ]
        refine wpAnyH_take (i := 3) (oi := ?oix26) (v := ?vx26) ?hix26 ?hsx26 ?hfx26 ?hrx26 ?hQx26 ?hyx26 ?hSx26 ?hx26
        case hix26 =>
          simp only [List.getElem?_toArray, List.getElem?_cons_succ, List.getElem?_cons_zero]
          rfl
        case hsx26 => kernel_rfl
        case hfx26 => kernel_rfl
        case hrx26 => kernel_rfl
        case hyx26 =>
          refine Or.inl ⟨by rfl, ?_⟩
          intro w hSw
          (try dsimp only at hSw)
          go_simp
          try with_reducible rfl
        case hQx26 => exact fun _ _ _ h => h
        case hSx26 => assumption
        try simp only [Act.put, List.setIfInBounds_toArray, List.set_cons_zero, List.set_cons_succ]
        refine wpAnyH_take (i := 4) (oi := ?oix27) (v := (.agg #[.int .i64 1, .int .i64 l, .int .i64 h, .int .i64 l])) ?hix27 ?hsx27 ?hfx27 ?hrx27 ?hQx27 ?hyx27 ?hSx27 ?hx27
        case hix27 =>
          simp only [List.getElem?_toArray, List.getElem?_cons_succ, List.getElem?_cons_zero]
          rfl
        case hsx27 => kernel_rfl
        case hfx27 => kernel_rfl
        case hrx27 => kernel_rfl
        case hyx27 =>
          refine Or.inl ⟨by rfl, ?_⟩
          intro w hSw
          (try dsimp only at hSw)
          exact exec_load (ptr := .pointer (some ⟨_, 0, none⟩)) 40 (.tmp 1) rfl (by rfl) hSw.2
        case hQx27 => exact fun _ _ _ h => h
        case hSx27 => assumption
        try simp only [Act.put, List.setIfInBounds_toArray, List.set_cons_zero, List.set_cons_succ]
        refine wpAnyH_take (i := 5) (oi := ?oix28) (v := ?vx28) ?hix28 ?hsx28 ?hfx28 ?hrx28 ?hQx28 ?hyx28 ?hSx28 ?hx28
        case hix28 =>
          simp only [List.getElem?_toArray, List.getElem?_cons_succ, List.getElem?_cons_zero]
          rfl
        case hsx28 => kernel_rfl
        case hfx28 => kernel_rfl
        case hrx28 => kernel_rfl
        case hyx28 =>
          refine Or.inl ⟨by rfl, ?_⟩
          intro w hSw
          (try dsimp only at hSw)
          go_simp
          try with_reducible rfl
        case hQx28 => exact fun _ _ _ h => h
        case hSx28 => assumption
        try simp only [Act.put, List.setIfInBounds_toArray, List.set_cons_zero, List.set_cons_succ]
        refine wpAnyH_take (i := 6) (oi := ?oix29) (v := ?vx29) ?hix29 ?hsx29 ?hfx29 ?hrx29 ?hQx29 ?hyx29 ?hSx29 ?hx29
        case hix29 =>
          simp only [List.getElem?_toArray, List.getElem?_cons_succ, List.getElem?_cons_zero]
          rfl
        case hsx29 => kernel_rfl
        case hfx29 => kernel_rfl
        case hrx29 => kernel_rfl
        case hyx29 =>
          refine Or.inl ⟨by rfl, ?_⟩
          intro w hSw
          (try dsimp only at hSw)
          go_simp
          try with_reducible rfl
        case hQx29 => exact fun _ _ _ h => h
        case hSx29 => assumption
        try simp only [Act.put, List.setIfInBounds_toArray, List.set_cons_zero, List.set_cons_succ]
        refine wpAnyH_ready (rs := [7]) (by kernel_rfl) (by simp) ?_
        refine AllReadyH.cons (o := ?ox30) ?ix30 ?kx30 AllReadyH.nil
        case ix30 =>
          simp only [List.getElem?_toArray, List.getElem?_cons_succ, List.getElem?_cons_zero]
          rfl
        intro K hK
        go_simp
        go_at_call 67
        refine (ON.out _).mono ?_
        rintro e w3 ⟨rfl, hb⟩
        have P1 := Lib.hid (P0.out.trans (hb.mono (by simp)))
        clear hb
        refine hK.out _ _ (HALL.out _ P1.out) (fun hHeld => ?_)
        clear hK K
        try simp only [Act.put, List.setIfInBounds_toArray, List.set_cons_zero, List.set_cons_succ]
        refine wpAnyH_take (i := 8) (oi := ?oix31) (v := ?vx31) ?hix31 ?hsx31 ?hfx31 ?hrx31 ?hQx31 ?hyx31 ?hSx31 ?hx31
        case hix31 =>
          simp only [List.getElem?_toArray, List.getElem?_cons_succ, List.getElem?_cons_zero]
          rfl
        case hsx31 => kernel_rfl
        case hfx31 => kernel_rfl
        case hrx31 => kernel_rfl
        case hyx31 =>
          refine Or.inl ⟨by rfl, ?_⟩
          intro w hSw
          (try dsimp only at hSw)
          go_simp
          try with_reducible rfl
        case hQx31 => exact fun _ _ _ h => h
        case hSx31 => assumption
        try simp only [Act.put, List.setIfInBounds_toArray, List.set_cons_zero, List.set_cons_succ]
        refine wpAnyH_take (i := 9) (oi := ?oix32) (v := ?vx32) ?hix32 ?hsx32 ?hfx32 ?hrx32 ?hQx32 ?hyx32 ?hSx32 ?hx32
        case hix32 =>
          simp only [List.getElem?_toArray, List.getElem?_cons_succ, List.getElem?_cons_zero]
          rfl
        case hsx32 => kernel_rfl
        case hfx32 => kernel_rfl
        case hrx32 => kernel_rfl
        case hyx32 =>
          refine Or.inl ⟨by rfl, ?_⟩
          intro w hSw
          (try dsimp only at hSw)
          go_simp
          try with_reducible rfl
        case hQx32 => exact fun _ _ _ h => h
        case hSx32 => assumption
        try simp only [Act.put, List.setIfInBounds_toArray, List.set_cons_zero, List.set_cons_succ]
        refine wpAnyH_take (i := 10) (oi := ?oix33) (v := ?vx33) ?hix33 ?hsx33 ?hfx33 ?hrx33 ?hQx33 ?hyx33 ?hSx33 ?hx33
        case hix33 =>
          simp only [List.getElem?_toArray, List.getElem?_cons_succ, List.getElem?_cons_zero]
          rfl
        case hsx33 => kernel_rfl
        case hfx33 => kernel_rfl
        case hrx33 => kernel_rfl
        case hyx33 =>
          refine Or.inl ⟨by rfl, ?_⟩
          intro w hSw
          (try dsimp only at hSw)
          go_simp
          try with_reducible rfl
        case hQx33 => exact fun _ _ _ h => h
        case hSx33 => assumption
        try simp only [Act.put, List.setIfInBounds_toArray, List.set_cons_zero, List.set_cons_succ]
        refine wpAnyH_done (by kernel_rfl) ?_ _
        go_wp2_with fail
        go_ret
        exact ⟨rfl, B0.out.trans (P1.out.mono (by omega))⟩
    · rw [show (l == h && s == l) = false from by have : ¬ s = l := fun e => a e.symm
                                                  simp [this]]
      go_enter Try.func54, Try.ntmps54
      go_wp2_with (go_at_call 97; refine (BK.out _).mono ?_; rintro e w1 ⟨rfl, rfl⟩)
      refine wp_region_held_drew (S := (fun W : World => (W.cell? ⟨w.heap.size, 0, none⟩ = some (.int .i64 1) ∧ W.cell? ⟨w.heap.size, 3, none⟩ = some (.int .i64 s)) ∧ (Instr.loadAt 40 (.pointer (some ⟨w.heap.size, 0, none⟩))).run Try.prog W = .ok (.agg #[.int .i64 1, .int .i64 l, .int .i64 h, .int .i64 s]) W)) (by kernel_rfl) (HALL.out _ P0.out) (fun hHeld => ?_)
      refine wpAnyH_take (i := 0) (oi := ?oix34) (v := ?vx34) ?hix34 ?hsx34 ?hfx34 ?hrx34 ?hQx34 ?hyx34 ?hSx34 ?hx34
      case hix34 =>
        simp only [List.getElem?_toArray, List.getElem?_cons_zero]
        rfl
      case hsx34 => kernel_rfl
      case hfx34 => kernel_rfl
      case hrx34 => kernel_rfl
      case hyx34 =>
        refine Or.inl ⟨by rfl, ?_⟩
        intro w hSw
        (try dsimp only at hSw)
        go_simp
        try with_reducible rfl
      case hQx34 => exact fun _ _ _ h => h
      case hSx34 => assumption
      try simp only [Act.put, List.setIfInBounds_toArray, List.set_cons_zero, List.set_cons_succ]
      refine wpAnyH_take (i := 1) (oi := ?oix35) (v := ?vx35) ?hix35 ?hsx35 ?hfx35 ?hrx35 ?hQx35 ?hyx35 ?hSx35 ?hx35
      case hix35 =>
        simp only [List.getElem?_toArray, List.getElem?_cons_succ, List.getElem?_cons_zero]
        rfl
      case hsx35 => kernel_rfl
      case hfx35 => kernel_rfl
      case hrx35 => kernel_rfl
      case hyx35 =>
        refine Or.inl ⟨by rfl, ?_⟩
        intro w hSw
        (try dsimp only at hSw)
        go_simp
        try with_reducible rfl
      case hQx35 => exact fun _ _ _ h => h
      case hSx35 => assumption
      try simp only [Act.put, List.setIfInBounds_toArray, List.set_cons_zero, List.set_cons_succ]
      refine wpAnyH_take (i := 2) (oi := ?oix36) (v := ?vx36) ?hix36 ?hsx36 ?hfx36 ?hrx36 ?hQx36 ?hyx36 ?hSx36 ?hx36
      case hix36 =>
        simp only [List.getElem?_toArray, List.getElem?_cons_succ, List.getElem?_cons_zero]
        rfl
      case hsx36 => kernel_rfl
      case hfx36 => kernel_rfl
      case hrx36 => kernel_rfl
      case hyx36 =>
        refine Or.inl ⟨by rfl, ?_⟩
        intro w hSw
        (try dsimp only at hSw)
        go_simp
        try with_reducible rfl
      case hQx36 => exact fun _ _ _ h => h
      case hSx36 => assumption
      try simp only [Act.put, List.setIfInBounds_toArray, List.set_cons_zero, List.set_cons_succ]
      refine wpAnyH_take (i := 3) (oi := ?oix37) (v := ?vx37) ?hix37 ?hsx37 ?hfx37 ?hrx37 ?hQx37 ?hyx37 ?hSx37 ?hx37
      case hix37 =>
        simp only [List.getElem?_toArray, List.getElem?_cons_succ, List.getElem?_cons_zero]
        rfl
      case hsx37 => kernel_rfl
      case hfx37 => kernel_rfl
      case hrx37 => kernel_rfl
      case hyx37 =>
        refine Or.inl ⟨by rfl, ?_⟩
        intro w hSw
        (try dsimp only at hSw)
        go_simp
        try with_reducible rfl
      case hQx37 => exact fun _ _ _ h => h
      case hSx37 => assumption
      try simp only [Act.put, List.setIfInBounds_toArray, List.set_cons_zero, List.set_cons_succ]
      refine wpAnyH_take (i := 4) (oi := ?oix38) (v := (.agg #[.int .i64 1, .int .i64 l, .int .i64 h, .int .i64 s])) ?hix38 ?hsx38 ?hfx38 ?hrx38 ?hQx38 ?hyx38 ?hSx38 ?hx38
      case hix38 =>
        simp only [List.getElem?_toArray, List.getElem?_cons_succ, List.getElem?_cons_zero]
        rfl
      case hsx38 => kernel_rfl
      case hfx38 => kernel_rfl
      case hrx38 => kernel_rfl
      case hyx38 =>
        refine Or.inl ⟨by rfl, ?_⟩
        intro w hSw
        (try dsimp only at hSw)
        exact exec_load (ptr := .pointer (some ⟨_, 0, none⟩)) 40 (.tmp 1) rfl (by rfl) hSw.2
      case hQx38 => exact fun _ _ _ h => h
      case hSx38 => assumption
      try simp only [Act.put, List.setIfInBounds_toArray, List.set_cons_zero, List.set_cons_succ]
      refine wpAnyH_take (i := 5) (oi := ?oix39) (v := ?vx39) ?hix39 ?hsx39 ?hfx39 ?hrx39 ?hQx39 ?hyx39 ?hSx39 ?hx39
      case hix39 =>
        simp only [List.getElem?_toArray, List.getElem?_cons_succ, List.getElem?_cons_zero]
        rfl
      case hsx39 => kernel_rfl
      case hfx39 => kernel_rfl
      case hrx39 => kernel_rfl
      case hyx39 =>
        refine Or.inl ⟨by rfl, ?_⟩
        intro w hSw
        (try dsimp only at hSw)
        go_simp
        try with_reducible rfl
      case hQx39 => exact fun _ _ _ h => h
      case hSx39 => assumption
      try simp only [Act.put, List.setIfInBounds_toArray, List.set_cons_zero, List.set_cons_succ]
      refine wpAnyH_take (i := 6) (oi := ?oix40) (v := ?vx40) ?hix40 ?hsx40 ?hfx40 ?hrx40 ?hQx40 ?hyx40 ?hSx40 ?hx40
      case hix40 =>
        simp only [List.getElem?_toArray, List.getElem?_cons_succ, List.getElem?_cons_zero]
        rfl
      case hsx40 => kernel_rfl
      case hfx40 => kernel_rfl
      case hrx40 => kernel_rfl
      case hyx40 =>
        refine Or.inl ⟨by rfl, ?_⟩
        intro w hSw
        (try dsimp only at hSw)
        go_simp
        try with_reducible rfl
      case hQx40 => exact fun _ _ _ h => h
      case hSx40 => assumption
      try simp only [Act.put, List.setIfInBounds_toArray, List.set_cons_zero, List.set_cons_succ]
      refine wpAnyH_ready (rs := [7]) (by kernel_rfl) (by simp) ?_
      refine AllReadyH.cons (o := ?ox41) ?ix41 ?kx41 AllReadyH.nil
      case ix41 =>
        simp only [List.getElem?_toArray, List.getElem?_cons_succ, List.getElem?_cons_zero]
        rfl
      intro K hK
      go_simp
      go_at_call 67
      refine (ON.out _).mono ?_
      rintro e w3 ⟨rfl, hb⟩
      have P1 := Lib.hid (P0.out.trans (hb.mono (by simp)))
      clear hb
      refine hK.out _ _ (HALL.out _ P1.out) (fun hHeld => ?_)
      clear hK K
      try simp only [Act.put, List.setIfInBounds_toArray, List.set_cons_zero, List.set_cons_succ]
      refine wpAnyH_take (i := 8) (oi := ?oix42) (v := ?vx42) ?hix42 ?hsx42 ?hfx42 ?hrx42 ?hQx42 ?hyx42 ?hSx42 ?hx42
      case hix42 =>
        simp only [List.getElem?_toArray, List.getElem?_cons_succ, List.getElem?_cons_zero]
        rfl
      case hsx42 => kernel_rfl
      case hfx42 => kernel_rfl
      case hrx42 => kernel_rfl
      case hyx42 =>
        refine Or.inl ⟨by rfl, ?_⟩
        intro w hSw
        (try dsimp only at hSw)
        go_simp
        try with_reducible rfl
      case hQx42 => exact fun _ _ _ h => h
      case hSx42 => assumption
      try simp only [Act.put, List.setIfInBounds_toArray, List.set_cons_zero, List.set_cons_succ]
      refine wpAnyH_take (i := 9) (oi := ?oix43) (v := ?vx43) ?hix43 ?hsx43 ?hfx43 ?hrx43 ?hQx43 ?hyx43 ?hSx43 ?hx43
      case hix43 =>
        simp only [List.getElem?_toArray, List.getElem?_cons_succ, List.getElem?_cons_zero]
        rfl
      case hsx43 => kernel_rfl
      case hfx43 => kernel_rfl
      case hrx43 => kernel_rfl
      case hyx43 =>
        refine Or.inl ⟨by rfl, ?_⟩
        intro w hSw
        (try dsimp only at hSw)
        go_simp
        try with_reducible rfl
      case hQx43 => exact fun _ _ _ h => h
      case hSx43 => assumption
      try simp only [Act.put, List.setIfInBounds_toArray, List.set_cons_zero, List.set_cons_succ]
      refine wpAnyH_take (i := 10) (oi := ?oix44) (v := ?vx44) ?hix44 ?hsx44 ?hfx44 ?hrx44 ?hQx44 ?hyx44 ?hSx44 ?hx44
      case hix44 =>
        simp only [List.getElem?_toArray, List.getElem?_cons_succ, List.getElem?_cons_zero]
        rfl
      case hsx44 => kernel_rfl
      case hfx44 => kernel_rfl
      case hrx44 => kernel_rfl
      case hyx44 =>
        refine Or.inl ⟨by rfl, ?_⟩
        intro w hSw
        (try dsimp only at hSw)
        go_simp
        try with_reducible rfl
      case hQx44 => exact fun _ _ _ h => h
      case hSx44 => assumption
      try simp only [Act.put, List.setIfInBounds_toArray, List.set_cons_zero, List.set_cons_succ]
      refine wpAnyH_done (by kernel_rfl) ?_ _
      go_wp2_with fail
      go_ret
      exact ⟨rfl, B0.out.trans (P1.out.mono (by omega))⟩
end Go.Proofs.Ytgclhblglohjpaa
