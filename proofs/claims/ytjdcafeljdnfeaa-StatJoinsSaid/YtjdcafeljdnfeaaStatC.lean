/-
  CONTRACT OF the document's own Of (corduroyref21), in any world. Conditions: at most 500 reals.
-/
import Derived.Test.YtjdcafeljdnfeaaStatB
namespace Go.Proofs.Ytjdcafeljdnfeaa
open Go.RowKit
set_option linter.unusedVariables false
/-- One more, the count left as it is. -/
def bumpN (s : St) (b : Nat) (W : Bool) : St := if W = true then { setK s (kd b) (s.k (kd b) + 1) with whole := s.whole + 1 } else setK s (kd b) (s.k (kd b) + 1)
def stpN (s : St) (b : Nat) : St := if kd b = 8 then bumpN s b (wb b) else wid (bumpN s b (wb b)) b b
def rfold (N : Int) (l : Nat → Nat) : Nat → St
  | 0 => { st0 with cnt := N }
  | k + 1 => stpN (rfold N l k) (l k)
theorem stpN_eq (s : St) (b : Nat) (N : Int) : stpN { s with cnt := N } b = { stp s b with cnt := N } := by
  have hB : bumpN { s with cnt := N } b (wb b) = { bump s b with cnt := N } := by
    rw [bump_eq s b (wb b) rfl]
    unfold bumpN
    cases wb b <;> rfl
  unfold stpN stp
  rw [hB]
  by_cases h : kd b = 8
  · rw [if_pos h, if_pos h]
  · rw [if_neg h, if_neg h]; rfl
theorem rfold_eq (N : Int) (l : Nat → Nat) (k : Nat) : rfold N l k = { fold l k with cnt := N } := by
  induction k with
  | zero => rfl
  | succ k ih => simp only [rfold, fold]; rw [ih, stpN_eq]
theorem fold_cnt (l : Nat → Nat) (n : Nat) : (fold l n).cnt = n := by
  induction n with
  | zero => rfl
  | succ n ih =>
    simp only [fold]
    have : (stp (fold l n) (l n)).cnt = (fold l n).cnt + 1 := by
      unfold stp
      split <;> rfl
    rw [this, ih]; simp
theorem rfold_all (l : Nat → Nat) (n : Nat) : rfold n l n = fold l n := by
  rw [rfold_eq]
  have := fold_cnt l n
  cases h : fold l n
  rw [h] at this
  simp only at this
  rw [this]
theorem rel_bounds (l : Nat → Nat) (n k : Nat) (hl : ∀ i, i < k → l i < 18446744073709551616) : (∀ i, 0 ≤ (rfold n l k).k i ∧ (rfold n l k).k i ≤ k) ∧ 0 ≤ (rfold n l k).whole ∧ (rfold n l k).whole ≤ k ∧ (rfold n l k).mn < 18446744073709551616 ∧ (rfold n l k).mx < 18446744073709551616 := by
  rw [rfold_eq]
  obtain ⟨_, h2, h3, h4, h5⟩ := small_fold l k hl
  exact ⟨h2, h3.1, h3.2, h4, h5⟩
theorem rrank_quiet (b : Nat) (hb : b < 18446744073709551616) (W : World) (n : Nat) : Calls Try.prog 93 #[.int .u64 (b : Nat)] (W.drewN n) fun e w' => e = .returned (.int .i64 (rk b)) ∧ ∃ m, w' = W.drewN m :=
  (rrank_nat b hb _).mono fun e w' h => ⟨h.1, n, h.2.symm⟩
set_option maxRecDepth 100000 in
set_option maxHeartbeats 8000000 in
theorem rof_any (a : Option Addr) (n cap : Nat) (l : Nat → Nat) (hl : ∀ i, i < n → l i < 18446744073709551616) (hn : n ≤ 500) (w : World) (h : RowOf w a n (fun i => .int .u64 (l i : Nat))) :
    Calls Try.prog 48 #[.slice a n cap] w fun e w' => e = .returned (.agg (stR (fold l n))) ∧ Below w.heap.size w w' := by
  rw [← rfold_all l n]
  have H := Lib.hid h
  have HL := Lib.hid hl
  clear h hl
  obtain ⟨W00, hW00⟩ : ∃ W00, (w.alloc (.cells #[.int .i64 0, .int .i64 0, .int .i64 0, .int .i64 0, .int .i64 0, .int .i64 0, .int .i64 0, .int .i64 0, .int .i64 0, .int .i64 0, .int .i64 0, .bool false, .int .u64 0, .int .u64 0] 86)).alloc (.cells #[.int .i64 0, .int .i64 0, .int .i64 0, .int .i64 0, .int .i64 0, .int .i64 0, .int .i64 0, .int .i64 0, .int .i64 0, .int .i64 0, .int .i64 0, .bool false, .int .u64 0, .int .u64 0] 86) = W00 := ⟨_, rfl⟩
  have z1 : Lies W00 w.heap.size 86 (stR st0) := by rw [← hW00]; exact (Lies.new _ _ _).alloc _
  have z2 : Lies W00 (w.heap.size + 1) 86 #[.int .i64 0, .int .i64 0, .int .i64 0, .int .i64 0, .int .i64 0, .int .i64 0, .int .i64 0, .int .i64 0, .int .i64 0, .int .i64 0, .int .i64 0, .bool false, .int .u64 0, .int .u64 0] := by rw [← hW00]; have := Lies.new (w.alloc (.cells #[.int .i64 0, .int .i64 0, .int .i64 0, .int .i64 0, .int .i64 0, .int .i64 0, .int .i64 0, .int .i64 0, .int .i64 0, .int .i64 0, .int .i64 0, .bool false, .int .u64 0, .int .u64 0] 86)) 86 #[.int .i64 0, .int .i64 0, .int .i64 0, .int .i64 0, .int .i64 0, .int .i64 0, .int .i64 0, .int .i64 0, .int .i64 0, .int .i64 0, .int .i64 0, .bool false, .int .u64 0, .int .u64 0]; rw [show (w.alloc (.cells #[.int .i64 0, .int .i64 0, .int .i64 0, .int .i64 0, .int .i64 0, .int .i64 0, .int .i64 0, .int .i64 0, .int .i64 0, .int .i64 0, .int .i64 0, .bool false, .int .u64 0, .int .u64 0] 86)).heap.size = w.heap.size + 1 from by simp] at this; exact this
  have z3 : Below w.heap.size w W00 := by rw [← hW00]; exact ((Below.refl _ _).alloc (Nat.le_refl _) _).alloc (by simp) _
  obtain ⟨W0, hW0⟩ : ∃ W0, W00.setRow (w.heap.size + 1) #[.int .i64 n, .int .i64 0, .int .i64 0, .int .i64 0, .int .i64 0, .int .i64 0, .int .i64 0, .int .i64 0, .int .i64 0, .int .i64 0, .int .i64 0, .bool false, .int .u64 0, .int .u64 0] = W0 := ⟨_, rfl⟩
  have B1 := Lib.hid (lies_rowFar z1 (by omega) hW0)
  have B2 : Hid (Lies W0 (w.heap.size + 1) 86 (stR (rfold n l 0))) := Lib.hid (lies_row z2 hW0)
  have B3 := Lib.hid (below_row z3 (by omega) hW0)
  have Z2 := Lib.hid z2
  clear z1 z2 z3
  have O0 := Lib.hid (stR_one (rfold n l 0))
  go_enter Try.func48, Try.ntmps48
  go_wp2_with (first | (refine wpList_store_row rfl 86 (.tmp 3) (.tmp 10) rfl (w.heap.size + 1) #[.int .i64 n, .int .i64 0, .int .i64 0, .int .i64 0, .int .i64 0, .int .i64 0, .int .i64 0, .int .i64 0, .int .i64 0, .int .i64 0, .int .i64 0, .bool false, .int .u64 0, .int .u64 0] rfl rfl 86 _ Z2.out stR_info rfl O0.out ?_; rw [hW0]))
  go_loopw [4] (fun i wr => ∃ k : Nat, k ≤ n ∧ i = .int .i64 k ∧ Lies wr w.heap.size 86 (stR st0) ∧ Lies wr (w.heap.size + 1) 86 (stR (rfold n l k)) ∧ Below w.heap.size w wr) (fun i _ => n - (intOf i).toNat)
  case atStart => exact ⟨0, by omega, rfl, B1.out, B2.out, B3.out⟩
  case round =>
    obtain ⟨k, hk, rfl, hz, hs, hb⟩ := hrel
    by_cases hkn : k < n
    · have k1 : (k : Int) < n := by omega
      have k01 : (0 : Int) ≤ k := by omega
      have hlt : Hid (∀ p, a = some p → p.block < w.heap.size) := Lib.hid (by
        obtain ⟨b, off, ha, hb', _⟩ := H.out.at_ hkn
        intro p hp
        rw [ha] at hp
        injection hp with hp
        subst hp
        exact hb')
      have hy := HL.out k hkn
      obtain ⟨hq1, q1, q2, q3, q4⟩ := rel_bounds l n k (fun i hi => HL.out i (by omega))
      have hST := Lib.hid (show stR (rfold n l (k + 1)) = stR (stpN (rfold n l k) (l k)) from rfl)
      have hR : ∀ W, Below w.heap.size w W → ∃ b off, a = some ⟨b, off, none⟩ ∧ W.cell? ⟨b, off + k, none⟩ = some (.int .u64 (l k : Nat)) := fun W hW => by
        obtain ⟨b, off, ha, _, hc⟩ := (H.out.below hW).at_ hkn
        exact ⟨b, off, ha, hc k hkn⟩
      have HR := Lib.hid hR
      clear hR
      have KX := rkind_nat (l k) hy
      have WX := rwhole_nat (l k) hy
      have RY := Lib.hid (rrank_quiet (l k) hy)
      have RN := Lib.hid (rrank_quiet (rfold n l k).mn q3)
      have RX := Lib.hid (rrank_quiet (rfold n l k).mx q4)
      have hkd := kd_le (l k)
      obtain ⟨hk1, hk2⟩ := hq1 (kd (l k))
      have hun : ∀ W : Bool, wb (l k) = W → stpN (rfold n l k) (l k) = (if kd (l k) = 8 then bumpN (rfold n l k) (l k) W else wid (bumpN (rfold n l k) (l k) W) (l k) (l k)) := fun W h => by subst h; rfl
      have HUN := Lib.hid hun
      clear hq1 hun
      generalize hW : wb (l k) = W at *
      have HUN := Lib.hid (HUN.out W rfl)
      clear hW
      generalize rfold n l k = s at *
      generalize hkk : kd (l k) = kk at *
      have HKK := Lib.hid hkk
      clear hkk
      generalize wn (l k) = N at *
      generalize l k = y at *
      have hkI : (s.k kk) ≤ 500 := by omega
      have hwI : s.whole ≤ 500 := by omega
      clear hk2 q2
      have KX := Lib.hid KX
      have WX := Lib.hid WX
      by_cases h8 : kk = 8
      · subst h8
        cases W
        · skip
          have HF := Lib.hid (show stR (stpN s y) = stR (setK s 8 (s.k 8 + 1)) from by rw [HUN.out, if_pos rfl]; unfold bumpN; rw [HKK.out]; rfl)
          clear HUN
          have hl := hs
          have hzz := hz
          have hbb := hb
          obtain ⟨b, off, ha, y0⟩ := HR.out wr hb
          subst ha
          have ck : wr.cell? ⟨w.heap.size + 1, 9, none⟩ = some (.int .i64 (s.k 8)) := by have := hl.cell (1 + 8); rw [stR_at _ 8 (by omega)] at this; exact this
          have fk := hl.frozen (9)
          obtain ⟨W1, hW1⟩ : ∃ W1, wr.setCell ⟨w.heap.size + 1, 9, none⟩ (.int .i64 (s.k 8 + 1)) = W1 := ⟨_, rfl⟩
          have hl := lies_set hl hW1 (stR_k _ 8 (by omega) _)
          have hzz := lies_far hzz (by omega) hW1
          have hbb := below_set hbb (by omega) hW1
          have y1 : W1.cell? ⟨b, off + k, none⟩ = some (.int .u64 (y : Nat)) := by
            obtain ⟨b', off', ha, hy⟩ := HR.out W1 hbb
            injection ha with ha; injection ha with h1 h2; subst h1 h2; exact hy
          have HLL := Lib.hid hl
          have HZZ := Lib.hid hzz
          have HBB := Lib.hid hbb
          clear hl hzz hbb
          clear hs hz hb
          generalize hkv : s.k 8 = kv at *
          have HKV := Lib.hid hkv
          clear hkv
          generalize hwh : s.whole = wh at *
          have HWH := Lib.hid hwh
          clear hwh
          go_wp2_with (first | (go_at_call 91; refine (KX.out _).mono ?_; rintro e w' ⟨rfl, rfl⟩) | (go_at_call 92; refine (WX.out _).mono ?_; rintro e w' ⟨rfl, rfl⟩))
          go_roundw
          case rel => exact ⟨k + 1, by omega, by go_num, HZZ.out, by rw [hST.out, HF.out]; exact HLL.out, HBB.out⟩
          case measure => simp [intOf]; omega
        · skip
          have HF := Lib.hid (show stR (stpN s y) = stR ({ setK s 8 (s.k 8 + 1) with whole := s.whole + 1 }) from by rw [HUN.out, if_pos rfl]; unfold bumpN; rw [HKK.out]; rfl)
          clear HUN
          have hl := hs
          have hzz := hz
          have hbb := hb
          obtain ⟨b, off, ha, y0⟩ := HR.out wr hb
          subst ha
          have ck : wr.cell? ⟨w.heap.size + 1, 9, none⟩ = some (.int .i64 (s.k 8)) := by have := hl.cell (1 + 8); rw [stR_at _ 8 (by omega)] at this; exact this
          have fk := hl.frozen (9)
          obtain ⟨W1, hW1⟩ : ∃ W1, wr.setCell ⟨w.heap.size + 1, 9, none⟩ (.int .i64 (s.k 8 + 1)) = W1 := ⟨_, rfl⟩
          have hl := lies_set hl hW1 (stR_k _ 8 (by omega) _)
          have hzz := lies_far hzz (by omega) hW1
          have hbb := below_set hbb (by omega) hW1
          have y1 : W1.cell? ⟨b, off + k, none⟩ = some (.int .u64 (y : Nat)) := by
            obtain ⟨b', off', ha, hy⟩ := HR.out W1 hbb
            injection ha with ha; injection ha with h1 h2; subst h1 h2; exact hy
          have cw : W1.cell? ⟨w.heap.size + 1, 10, none⟩ = some (.int .i64 s.whole) := hl.cell 10
          have fw := hl.frozen 10
          obtain ⟨W2, hW2⟩ : ∃ W2, W1.setCell ⟨w.heap.size + 1, 10, none⟩ (.int .i64 (s.whole + 1)) = W2 := ⟨_, rfl⟩
          have hl := lies_set hl hW2 (stR_whole _ _)
          have hzz := lies_far hzz (by omega) hW2
          have hbb := below_set hbb (by omega) hW2
          have y2 : W2.cell? ⟨b, off + k, none⟩ = some (.int .u64 (y : Nat)) := by
            obtain ⟨b', off', ha, hy⟩ := HR.out W2 hbb
            injection ha with ha; injection ha with h1 h2; subst h1 h2; exact hy
          have HLL := Lib.hid hl
          have HZZ := Lib.hid hzz
          have HBB := Lib.hid hbb
          clear hl hzz hbb
          clear hs hz hb
          generalize hkv : s.k 8 = kv at *
          have HKV := Lib.hid hkv
          clear hkv
          generalize hwh : s.whole = wh at *
          have HWH := Lib.hid hwh
          clear hwh
          go_wp2_with (first | (go_at_call 91; refine (KX.out _).mono ?_; rintro e w' ⟨rfl, rfl⟩) | (go_at_call 92; refine (WX.out _).mono ?_; rintro e w' ⟨rfl, rfl⟩))
          go_roundw
          case rel => exact ⟨k + 1, by omega, by go_num, HZZ.out, by rw [hST.out, HF.out]; exact HLL.out, HBB.out⟩
          case measure => simp [intOf]; omega
      · have k0 : (0 : Int) ≤ (kk : Nat) := by omega
        have k9 : ((kk : Nat) : Int) < 9 := by omega
        have k8 : (((kk : Nat) : Int) == 8) = false := by simp; omega
        have kn : ((kk : Nat) : Int).toNat = kk := by omega
        have L1E : Hid (decide (rk y < rk s.mn) = decide (rk y < rk s.mn)) := Lib.hid rfl
        cases hany : s.any with
        | false =>
          cases W
          · skip
            have HF := Lib.hid (show stR (stpN s y) = stR ({ { { setK s kk (s.k kk + 1) with mn := y } with mx := y } with any := true }) from by rw [HUN.out, if_neg h8, wid_first _ y y (by unfold bumpN; exact hany)]; unfold bumpN; rw [HKK.out]; rfl)
            have HANY := Lib.hid hany
            clear hany
            clear HUN
            have hl := hs
            have hzz := hz
            have hbb := hb
            obtain ⟨b, off, ha, y0⟩ := HR.out wr hb
            subst ha
            have ck : wr.cell? ⟨w.heap.size + 1, 1 + kk, none⟩ = some (.int .i64 (s.k kk)) := by have := hl.cell (1 + kk); rw [stR_at _ kk (by omega)] at this; exact this
            have fk := hl.frozen (1 + kk)
            obtain ⟨W1, hW1⟩ : ∃ W1, wr.setCell ⟨w.heap.size + 1, 1 + kk, none⟩ (.int .i64 (s.k kk + 1)) = W1 := ⟨_, rfl⟩
            have hl := lies_set hl hW1 (stR_k _ kk (by omega) _)
            have hzz := lies_far hzz (by omega) hW1
            have hbb := below_set hbb (by omega) hW1
            have y1 : W1.cell? ⟨b, off + k, none⟩ = some (.int .u64 (y : Nat)) := by
              obtain ⟨b', off', ha, hy⟩ := HR.out W1 hbb
              injection ha with ha; injection ha with h1 h2; subst h1 h2; exact hy
            have ac11 : W1.cell? ⟨w.heap.size + 1, 11, none⟩ = some (.bool s.any) := hl.cell 11
            rw [HANY.out] at ac11
            have af11 := hl.frozen 11
            have ac12 : W1.cell? ⟨w.heap.size + 1, 12, none⟩ = some (.int .u64 (s.mn : Nat)) := hl.cell 12
            have af12 := hl.frozen 12
            have ac13 : W1.cell? ⟨w.heap.size + 1, 13, none⟩ = some (.int .u64 (s.mx : Nat)) := hl.cell 13
            have af13 := hl.frozen 13
            have HLL := Lib.hid hl
            have HZZ := Lib.hid hzz
            have HBB := Lib.hid hbb
            clear hl hzz hbb
            clear hs hz hb
            generalize hkv : s.k kk = kv at *
            have HKV := Lib.hid hkv
            clear hkv
            generalize hwh : s.whole = wh at *
            have HWH := Lib.hid hwh
            clear hwh
            go_wp2_with (first | (go_at_call 91; refine (KX.out _).mono ?_; rintro e w' ⟨rfl, rfl⟩) | (go_at_call 92; refine (WX.out _).mono ?_; rintro e w' ⟨rfl, rfl⟩))
            go_quiet (fail)
            have hl := HLL.out.drawn nq
            have hzz := HZZ.out.drawn nq
            have hbb := below_drawn HBB.out nq
            generalize W1.drewN nq = V0 at *
            clear HLL HZZ HBB
            have z0 : V0.cell? ⟨b, off + k, none⟩ = some (.int .u64 (y : Nat)) := by
              obtain ⟨b', off', ha, hy⟩ := HR.out V0 hbb
              injection ha with ha; injection ha with h1 h2; subst h1 h2; exact hy
            have bc11 : V0.cell? ⟨w.heap.size + 1, 11, none⟩ = some (.bool s.any) := hl.cell 11
            rw [HANY.out] at bc11
            have bf11 := hl.frozen 11
            have bc12 : V0.cell? ⟨w.heap.size + 1, 12, none⟩ = some (.int .u64 (s.mn : Nat)) := hl.cell 12
            have bf12 := hl.frozen 12
            have bc13 : V0.cell? ⟨w.heap.size + 1, 13, none⟩ = some (.int .u64 (s.mx : Nat)) := hl.cell 13
            have bf13 := hl.frozen 13
            obtain ⟨W2, hW2⟩ : ∃ W2, V0.setCell ⟨w.heap.size + 1, 12, none⟩ (.int .u64 (y : Nat)) = W2 := ⟨_, rfl⟩
            have hl := lies_set hl hW2 (stR_mn _ _)
            have hzz := lies_far hzz (by omega) hW2
            have hbb := below_set hbb (by omega) hW2
            have y2 : W2.cell? ⟨b, off + k, none⟩ = some (.int .u64 (y : Nat)) := by
              obtain ⟨b', off', ha, hy⟩ := HR.out W2 hbb
              injection ha with ha; injection ha with h1 h2; subst h1 h2; exact hy
            have bxc11 : W2.cell? ⟨w.heap.size + 1, 11, none⟩ = some (.bool s.any) := hl.cell 11
            rw [HANY.out] at bxc11
            have bxf11 := hl.frozen 11
            have bxc12 : W2.cell? ⟨w.heap.size + 1, 12, none⟩ = some (.int .u64 (y : Nat)) := hl.cell 12
            have bxf12 := hl.frozen 12
            have bxc13 : W2.cell? ⟨w.heap.size + 1, 13, none⟩ = some (.int .u64 (s.mx : Nat)) := hl.cell 13
            have bxf13 := hl.frozen 13
            have HLL := Lib.hid hl
            have HZZ := Lib.hid hzz
            have HBB := Lib.hid hbb
            clear hl hzz hbb
            go_wp2
            go_quiet (fail)
            have hl := HLL.out.drawn nq
            have hzz := HZZ.out.drawn nq
            have hbb := below_drawn HBB.out nq
            generalize W2.drewN nq = V1 at *
            clear HLL HZZ HBB
            have z1 : V1.cell? ⟨b, off + k, none⟩ = some (.int .u64 (y : Nat)) := by
              obtain ⟨b', off', ha, hy⟩ := HR.out V1 hbb
              injection ha with ha; injection ha with h1 h2; subst h1 h2; exact hy
            have cc11 : V1.cell? ⟨w.heap.size + 1, 11, none⟩ = some (.bool s.any) := hl.cell 11
            rw [HANY.out] at cc11
            have cf11 := hl.frozen 11
            have cc12 : V1.cell? ⟨w.heap.size + 1, 12, none⟩ = some (.int .u64 (y : Nat)) := hl.cell 12
            have cf12 := hl.frozen 12
            have cc13 : V1.cell? ⟨w.heap.size + 1, 13, none⟩ = some (.int .u64 (s.mx : Nat)) := hl.cell 13
            have cf13 := hl.frozen 13
            obtain ⟨W3, hW3⟩ : ∃ W3, V1.setCell ⟨w.heap.size + 1, 13, none⟩ (.int .u64 (y : Nat)) = W3 := ⟨_, rfl⟩
            have hl := lies_set hl hW3 (stR_mx _ _)
            have hzz := lies_far hzz (by omega) hW3
            have hbb := below_set hbb (by omega) hW3
            have y3 : W3.cell? ⟨b, off + k, none⟩ = some (.int .u64 (y : Nat)) := by
              obtain ⟨b', off', ha, hy⟩ := HR.out W3 hbb
              injection ha with ha; injection ha with h1 h2; subst h1 h2; exact hy
            have cxc11 : W3.cell? ⟨w.heap.size + 1, 11, none⟩ = some (.bool s.any) := hl.cell 11
            rw [HANY.out] at cxc11
            have cxf11 := hl.frozen 11
            have cxc12 : W3.cell? ⟨w.heap.size + 1, 12, none⟩ = some (.int .u64 (y : Nat)) := hl.cell 12
            have cxf12 := hl.frozen 12
            have cxc13 : W3.cell? ⟨w.heap.size + 1, 13, none⟩ = some (.int .u64 (y : Nat)) := hl.cell 13
            have cxf13 := hl.frozen 13
            obtain ⟨W4, hW4⟩ : ∃ W4, W3.setCell ⟨w.heap.size + 1, 11, none⟩ (.bool true) = W4 := ⟨_, rfl⟩
            have hl := lies_set hl hW4 (stR_any _ _)
            have hzz := lies_far hzz (by omega) hW4
            have hbb := below_set hbb (by omega) hW4
            have y4 : W4.cell? ⟨b, off + k, none⟩ = some (.int .u64 (y : Nat)) := by
              obtain ⟨b', off', ha, hy⟩ := HR.out W4 hbb
              injection ha with ha; injection ha with h1 h2; subst h1 h2; exact hy
            have HLL := Lib.hid hl
            have HZZ := Lib.hid hzz
            have HBB := Lib.hid hbb
            clear hl hzz hbb
            go_wp2
            go_roundw
            case rel => exact ⟨k + 1, by omega, by go_num, HZZ.out, by rw [hST.out, HF.out]; exact HLL.out, HBB.out⟩
            case measure => simp [intOf]; omega
          · skip
            have HF := Lib.hid (show stR (stpN s y) = stR ({ { { { setK s kk (s.k kk + 1) with whole := s.whole + 1 } with mn := y } with mx := y } with any := true }) from by rw [HUN.out, if_neg h8, wid_first _ y y (by unfold bumpN; exact hany)]; unfold bumpN; rw [HKK.out]; rfl)
            have HANY := Lib.hid hany
            clear hany
            clear HUN
            have hl := hs
            have hzz := hz
            have hbb := hb
            obtain ⟨b, off, ha, y0⟩ := HR.out wr hb
            subst ha
            have ck : wr.cell? ⟨w.heap.size + 1, 1 + kk, none⟩ = some (.int .i64 (s.k kk)) := by have := hl.cell (1 + kk); rw [stR_at _ kk (by omega)] at this; exact this
            have fk := hl.frozen (1 + kk)
            obtain ⟨W1, hW1⟩ : ∃ W1, wr.setCell ⟨w.heap.size + 1, 1 + kk, none⟩ (.int .i64 (s.k kk + 1)) = W1 := ⟨_, rfl⟩
            have hl := lies_set hl hW1 (stR_k _ kk (by omega) _)
            have hzz := lies_far hzz (by omega) hW1
            have hbb := below_set hbb (by omega) hW1
            have y1 : W1.cell? ⟨b, off + k, none⟩ = some (.int .u64 (y : Nat)) := by
              obtain ⟨b', off', ha, hy⟩ := HR.out W1 hbb
              injection ha with ha; injection ha with h1 h2; subst h1 h2; exact hy
            have cw : W1.cell? ⟨w.heap.size + 1, 10, none⟩ = some (.int .i64 s.whole) := hl.cell 10
            have fw := hl.frozen 10
            obtain ⟨W2, hW2⟩ : ∃ W2, W1.setCell ⟨w.heap.size + 1, 10, none⟩ (.int .i64 (s.whole + 1)) = W2 := ⟨_, rfl⟩
            have hl := lies_set hl hW2 (stR_whole _ _)
            have hzz := lies_far hzz (by omega) hW2
            have hbb := below_set hbb (by omega) hW2
            have y2 : W2.cell? ⟨b, off + k, none⟩ = some (.int .u64 (y : Nat)) := by
              obtain ⟨b', off', ha, hy⟩ := HR.out W2 hbb
              injection ha with ha; injection ha with h1 h2; subst h1 h2; exact hy
            have ac11 : W2.cell? ⟨w.heap.size + 1, 11, none⟩ = some (.bool s.any) := hl.cell 11
            rw [HANY.out] at ac11
            have af11 := hl.frozen 11
            have ac12 : W2.cell? ⟨w.heap.size + 1, 12, none⟩ = some (.int .u64 (s.mn : Nat)) := hl.cell 12
            have af12 := hl.frozen 12
            have ac13 : W2.cell? ⟨w.heap.size + 1, 13, none⟩ = some (.int .u64 (s.mx : Nat)) := hl.cell 13
            have af13 := hl.frozen 13
            have HLL := Lib.hid hl
            have HZZ := Lib.hid hzz
            have HBB := Lib.hid hbb
            clear hl hzz hbb
            clear hs hz hb
            generalize hkv : s.k kk = kv at *
            have HKV := Lib.hid hkv
            clear hkv
            generalize hwh : s.whole = wh at *
            have HWH := Lib.hid hwh
            clear hwh
            go_wp2_with (first | (go_at_call 91; refine (KX.out _).mono ?_; rintro e w' ⟨rfl, rfl⟩) | (go_at_call 92; refine (WX.out _).mono ?_; rintro e w' ⟨rfl, rfl⟩))
            go_quiet (fail)
            have hl := HLL.out.drawn nq
            have hzz := HZZ.out.drawn nq
            have hbb := below_drawn HBB.out nq
            generalize W2.drewN nq = V0 at *
            clear HLL HZZ HBB
            have z0 : V0.cell? ⟨b, off + k, none⟩ = some (.int .u64 (y : Nat)) := by
              obtain ⟨b', off', ha, hy⟩ := HR.out V0 hbb
              injection ha with ha; injection ha with h1 h2; subst h1 h2; exact hy
            have bc11 : V0.cell? ⟨w.heap.size + 1, 11, none⟩ = some (.bool s.any) := hl.cell 11
            rw [HANY.out] at bc11
            have bf11 := hl.frozen 11
            have bc12 : V0.cell? ⟨w.heap.size + 1, 12, none⟩ = some (.int .u64 (s.mn : Nat)) := hl.cell 12
            have bf12 := hl.frozen 12
            have bc13 : V0.cell? ⟨w.heap.size + 1, 13, none⟩ = some (.int .u64 (s.mx : Nat)) := hl.cell 13
            have bf13 := hl.frozen 13
            obtain ⟨W3, hW3⟩ : ∃ W3, V0.setCell ⟨w.heap.size + 1, 12, none⟩ (.int .u64 (y : Nat)) = W3 := ⟨_, rfl⟩
            have hl := lies_set hl hW3 (stR_mn _ _)
            have hzz := lies_far hzz (by omega) hW3
            have hbb := below_set hbb (by omega) hW3
            have y3 : W3.cell? ⟨b, off + k, none⟩ = some (.int .u64 (y : Nat)) := by
              obtain ⟨b', off', ha, hy⟩ := HR.out W3 hbb
              injection ha with ha; injection ha with h1 h2; subst h1 h2; exact hy
            have bxc11 : W3.cell? ⟨w.heap.size + 1, 11, none⟩ = some (.bool s.any) := hl.cell 11
            rw [HANY.out] at bxc11
            have bxf11 := hl.frozen 11
            have bxc12 : W3.cell? ⟨w.heap.size + 1, 12, none⟩ = some (.int .u64 (y : Nat)) := hl.cell 12
            have bxf12 := hl.frozen 12
            have bxc13 : W3.cell? ⟨w.heap.size + 1, 13, none⟩ = some (.int .u64 (s.mx : Nat)) := hl.cell 13
            have bxf13 := hl.frozen 13
            have HLL := Lib.hid hl
            have HZZ := Lib.hid hzz
            have HBB := Lib.hid hbb
            clear hl hzz hbb
            go_wp2
            go_quiet (fail)
            have hl := HLL.out.drawn nq
            have hzz := HZZ.out.drawn nq
            have hbb := below_drawn HBB.out nq
            generalize W3.drewN nq = V1 at *
            clear HLL HZZ HBB
            have z1 : V1.cell? ⟨b, off + k, none⟩ = some (.int .u64 (y : Nat)) := by
              obtain ⟨b', off', ha, hy⟩ := HR.out V1 hbb
              injection ha with ha; injection ha with h1 h2; subst h1 h2; exact hy
            have cc11 : V1.cell? ⟨w.heap.size + 1, 11, none⟩ = some (.bool s.any) := hl.cell 11
            rw [HANY.out] at cc11
            have cf11 := hl.frozen 11
            have cc12 : V1.cell? ⟨w.heap.size + 1, 12, none⟩ = some (.int .u64 (y : Nat)) := hl.cell 12
            have cf12 := hl.frozen 12
            have cc13 : V1.cell? ⟨w.heap.size + 1, 13, none⟩ = some (.int .u64 (s.mx : Nat)) := hl.cell 13
            have cf13 := hl.frozen 13
            obtain ⟨W4, hW4⟩ : ∃ W4, V1.setCell ⟨w.heap.size + 1, 13, none⟩ (.int .u64 (y : Nat)) = W4 := ⟨_, rfl⟩
            have hl := lies_set hl hW4 (stR_mx _ _)
            have hzz := lies_far hzz (by omega) hW4
            have hbb := below_set hbb (by omega) hW4
            have y4 : W4.cell? ⟨b, off + k, none⟩ = some (.int .u64 (y : Nat)) := by
              obtain ⟨b', off', ha, hy⟩ := HR.out W4 hbb
              injection ha with ha; injection ha with h1 h2; subst h1 h2; exact hy
            have cxc11 : W4.cell? ⟨w.heap.size + 1, 11, none⟩ = some (.bool s.any) := hl.cell 11
            rw [HANY.out] at cxc11
            have cxf11 := hl.frozen 11
            have cxc12 : W4.cell? ⟨w.heap.size + 1, 12, none⟩ = some (.int .u64 (y : Nat)) := hl.cell 12
            have cxf12 := hl.frozen 12
            have cxc13 : W4.cell? ⟨w.heap.size + 1, 13, none⟩ = some (.int .u64 (y : Nat)) := hl.cell 13
            have cxf13 := hl.frozen 13
            obtain ⟨W5, hW5⟩ : ∃ W5, W4.setCell ⟨w.heap.size + 1, 11, none⟩ (.bool true) = W5 := ⟨_, rfl⟩
            have hl := lies_set hl hW5 (stR_any _ _)
            have hzz := lies_far hzz (by omega) hW5
            have hbb := below_set hbb (by omega) hW5
            have y5 : W5.cell? ⟨b, off + k, none⟩ = some (.int .u64 (y : Nat)) := by
              obtain ⟨b', off', ha, hy⟩ := HR.out W5 hbb
              injection ha with ha; injection ha with h1 h2; subst h1 h2; exact hy
            have HLL := Lib.hid hl
            have HZZ := Lib.hid hzz
            have HBB := Lib.hid hbb
            clear hl hzz hbb
            go_wp2
            go_roundw
            case rel => exact ⟨k + 1, by omega, by go_num, HZZ.out, by rw [hST.out, HF.out]; exact HLL.out, HBB.out⟩
            case measure => simp [intOf]; omega
        | true =>
          cases e1 : decide (rk y < rk s.mn) <;> cases e2 : decide (rk s.mx < rk y) <;> cases W
          · skip
            have HF := Lib.hid (show stR (stpN s y) = stR ({ setK s kk (s.k kk + 1) with any := true }) from by rw [HUN.out, if_neg h8, wid_more _ y y (by unfold bumpN; exact hany) false false (by unfold bumpN; exact e1) (by unfold bumpN; exact e2)]; unfold bumpN; rw [HKK.out]; rfl)
            have g1 := e1
            have g2 := e2
            clear e1 e2
            generalize rk s.mn = rn at *
            generalize rk s.mx = rx at *
            generalize rk y = ry at *
            have HANY := Lib.hid hany
            clear hany
            clear HUN
            have hl := hs
            have hzz := hz
            have hbb := hb
            obtain ⟨b, off, ha, y0⟩ := HR.out wr hb
            subst ha
            have ck : wr.cell? ⟨w.heap.size + 1, 1 + kk, none⟩ = some (.int .i64 (s.k kk)) := by have := hl.cell (1 + kk); rw [stR_at _ kk (by omega)] at this; exact this
            have fk := hl.frozen (1 + kk)
            obtain ⟨W1, hW1⟩ : ∃ W1, wr.setCell ⟨w.heap.size + 1, 1 + kk, none⟩ (.int .i64 (s.k kk + 1)) = W1 := ⟨_, rfl⟩
            have hl := lies_set hl hW1 (stR_k _ kk (by omega) _)
            have hzz := lies_far hzz (by omega) hW1
            have hbb := below_set hbb (by omega) hW1
            have y1 : W1.cell? ⟨b, off + k, none⟩ = some (.int .u64 (y : Nat)) := by
              obtain ⟨b', off', ha, hy⟩ := HR.out W1 hbb
              injection ha with ha; injection ha with h1 h2; subst h1 h2; exact hy
            have ac11 : W1.cell? ⟨w.heap.size + 1, 11, none⟩ = some (.bool s.any) := hl.cell 11
            rw [HANY.out] at ac11
            have af11 := hl.frozen 11
            have ac12 : W1.cell? ⟨w.heap.size + 1, 12, none⟩ = some (.int .u64 (s.mn : Nat)) := hl.cell 12
            have af12 := hl.frozen 12
            have ac13 : W1.cell? ⟨w.heap.size + 1, 13, none⟩ = some (.int .u64 (s.mx : Nat)) := hl.cell 13
            have af13 := hl.frozen 13
            have HLL := Lib.hid hl
            have HZZ := Lib.hid hzz
            have HBB := Lib.hid hbb
            clear hl hzz hbb
            clear hs hz hb
            generalize hkv : s.k kk = kv at *
            have HKV := Lib.hid hkv
            clear hkv
            generalize hwh : s.whole = wh at *
            have HWH := Lib.hid hwh
            clear hwh
            go_wp2_with (first | (go_at_call 91; refine (KX.out _).mono ?_; rintro e w' ⟨rfl, rfl⟩) | (go_at_call 92; refine (WX.out _).mono ?_; rintro e w' ⟨rfl, rfl⟩))
            go_quiet ((go_at_call 93; first | (with_reducible exact RY.out _ _) | (with_reducible exact RN.out _ _) | (with_reducible exact RX.out _ _)))
            have hl := HLL.out.drawn nq
            have hzz := HZZ.out.drawn nq
            have hbb := below_drawn HBB.out nq
            generalize W1.drewN nq = V0 at *
            clear HLL HZZ HBB
            have z0 : V0.cell? ⟨b, off + k, none⟩ = some (.int .u64 (y : Nat)) := by
              obtain ⟨b', off', ha, hy⟩ := HR.out V0 hbb
              injection ha with ha; injection ha with h1 h2; subst h1 h2; exact hy
            have bc11 : V0.cell? ⟨w.heap.size + 1, 11, none⟩ = some (.bool s.any) := hl.cell 11
            rw [HANY.out] at bc11
            have bf11 := hl.frozen 11
            have bc12 : V0.cell? ⟨w.heap.size + 1, 12, none⟩ = some (.int .u64 (s.mn : Nat)) := hl.cell 12
            have bf12 := hl.frozen 12
            have bc13 : V0.cell? ⟨w.heap.size + 1, 13, none⟩ = some (.int .u64 (s.mx : Nat)) := hl.cell 13
            have bf13 := hl.frozen 13
            have HLL := Lib.hid hl
            have HZZ := Lib.hid hzz
            have HBB := Lib.hid hbb
            clear hl hzz hbb
            go_wp2
            go_quiet ((go_at_call 93; first | (with_reducible exact RY.out _ _) | (with_reducible exact RN.out _ _) | (with_reducible exact RX.out _ _)))
            have hl := HLL.out.drawn nq
            have hzz := HZZ.out.drawn nq
            have hbb := below_drawn HBB.out nq
            generalize V0.drewN nq = V1 at *
            clear HLL HZZ HBB
            have z1 : V1.cell? ⟨b, off + k, none⟩ = some (.int .u64 (y : Nat)) := by
              obtain ⟨b', off', ha, hy⟩ := HR.out V1 hbb
              injection ha with ha; injection ha with h1 h2; subst h1 h2; exact hy
            have cc11 : V1.cell? ⟨w.heap.size + 1, 11, none⟩ = some (.bool s.any) := hl.cell 11
            rw [HANY.out] at cc11
            have cf11 := hl.frozen 11
            have cc12 : V1.cell? ⟨w.heap.size + 1, 12, none⟩ = some (.int .u64 (s.mn : Nat)) := hl.cell 12
            have cf12 := hl.frozen 12
            have cc13 : V1.cell? ⟨w.heap.size + 1, 13, none⟩ = some (.int .u64 (s.mx : Nat)) := hl.cell 13
            have cf13 := hl.frozen 13
            obtain ⟨W2, hW2⟩ : ∃ W2, V1.setCell ⟨w.heap.size + 1, 11, none⟩ (.bool true) = W2 := ⟨_, rfl⟩
            have hl := lies_set hl hW2 (stR_any _ _)
            have hzz := lies_far hzz (by omega) hW2
            have hbb := below_set hbb (by omega) hW2
            have y2 : W2.cell? ⟨b, off + k, none⟩ = some (.int .u64 (y : Nat)) := by
              obtain ⟨b', off', ha, hy⟩ := HR.out W2 hbb
              injection ha with ha; injection ha with h1 h2; subst h1 h2; exact hy
            have HLL := Lib.hid hl
            have HZZ := Lib.hid hzz
            have HBB := Lib.hid hbb
            clear hl hzz hbb
            go_wp2
            go_roundw
            case rel => exact ⟨k + 1, by omega, by go_num, HZZ.out, by rw [hST.out, HF.out]; exact HLL.out, HBB.out⟩
            case measure => simp [intOf]; omega
          · skip
            have HF := Lib.hid (show stR (stpN s y) = stR ({ { setK s kk (s.k kk + 1) with whole := s.whole + 1 } with any := true }) from by rw [HUN.out, if_neg h8, wid_more _ y y (by unfold bumpN; exact hany) false false (by unfold bumpN; exact e1) (by unfold bumpN; exact e2)]; unfold bumpN; rw [HKK.out]; rfl)
            have g1 := e1
            have g2 := e2
            clear e1 e2
            generalize rk s.mn = rn at *
            generalize rk s.mx = rx at *
            generalize rk y = ry at *
            have HANY := Lib.hid hany
            clear hany
            clear HUN
            have hl := hs
            have hzz := hz
            have hbb := hb
            obtain ⟨b, off, ha, y0⟩ := HR.out wr hb
            subst ha
            have ck : wr.cell? ⟨w.heap.size + 1, 1 + kk, none⟩ = some (.int .i64 (s.k kk)) := by have := hl.cell (1 + kk); rw [stR_at _ kk (by omega)] at this; exact this
            have fk := hl.frozen (1 + kk)
            obtain ⟨W1, hW1⟩ : ∃ W1, wr.setCell ⟨w.heap.size + 1, 1 + kk, none⟩ (.int .i64 (s.k kk + 1)) = W1 := ⟨_, rfl⟩
            have hl := lies_set hl hW1 (stR_k _ kk (by omega) _)
            have hzz := lies_far hzz (by omega) hW1
            have hbb := below_set hbb (by omega) hW1
            have y1 : W1.cell? ⟨b, off + k, none⟩ = some (.int .u64 (y : Nat)) := by
              obtain ⟨b', off', ha, hy⟩ := HR.out W1 hbb
              injection ha with ha; injection ha with h1 h2; subst h1 h2; exact hy
            have cw : W1.cell? ⟨w.heap.size + 1, 10, none⟩ = some (.int .i64 s.whole) := hl.cell 10
            have fw := hl.frozen 10
            obtain ⟨W2, hW2⟩ : ∃ W2, W1.setCell ⟨w.heap.size + 1, 10, none⟩ (.int .i64 (s.whole + 1)) = W2 := ⟨_, rfl⟩
            have hl := lies_set hl hW2 (stR_whole _ _)
            have hzz := lies_far hzz (by omega) hW2
            have hbb := below_set hbb (by omega) hW2
            have y2 : W2.cell? ⟨b, off + k, none⟩ = some (.int .u64 (y : Nat)) := by
              obtain ⟨b', off', ha, hy⟩ := HR.out W2 hbb
              injection ha with ha; injection ha with h1 h2; subst h1 h2; exact hy
            have ac11 : W2.cell? ⟨w.heap.size + 1, 11, none⟩ = some (.bool s.any) := hl.cell 11
            rw [HANY.out] at ac11
            have af11 := hl.frozen 11
            have ac12 : W2.cell? ⟨w.heap.size + 1, 12, none⟩ = some (.int .u64 (s.mn : Nat)) := hl.cell 12
            have af12 := hl.frozen 12
            have ac13 : W2.cell? ⟨w.heap.size + 1, 13, none⟩ = some (.int .u64 (s.mx : Nat)) := hl.cell 13
            have af13 := hl.frozen 13
            have HLL := Lib.hid hl
            have HZZ := Lib.hid hzz
            have HBB := Lib.hid hbb
            clear hl hzz hbb
            clear hs hz hb
            generalize hkv : s.k kk = kv at *
            have HKV := Lib.hid hkv
            clear hkv
            generalize hwh : s.whole = wh at *
            have HWH := Lib.hid hwh
            clear hwh
            go_wp2_with (first | (go_at_call 91; refine (KX.out _).mono ?_; rintro e w' ⟨rfl, rfl⟩) | (go_at_call 92; refine (WX.out _).mono ?_; rintro e w' ⟨rfl, rfl⟩))
            go_quiet ((go_at_call 93; first | (with_reducible exact RY.out _ _) | (with_reducible exact RN.out _ _) | (with_reducible exact RX.out _ _)))
            have hl := HLL.out.drawn nq
            have hzz := HZZ.out.drawn nq
            have hbb := below_drawn HBB.out nq
            generalize W2.drewN nq = V0 at *
            clear HLL HZZ HBB
            have z0 : V0.cell? ⟨b, off + k, none⟩ = some (.int .u64 (y : Nat)) := by
              obtain ⟨b', off', ha, hy⟩ := HR.out V0 hbb
              injection ha with ha; injection ha with h1 h2; subst h1 h2; exact hy
            have bc11 : V0.cell? ⟨w.heap.size + 1, 11, none⟩ = some (.bool s.any) := hl.cell 11
            rw [HANY.out] at bc11
            have bf11 := hl.frozen 11
            have bc12 : V0.cell? ⟨w.heap.size + 1, 12, none⟩ = some (.int .u64 (s.mn : Nat)) := hl.cell 12
            have bf12 := hl.frozen 12
            have bc13 : V0.cell? ⟨w.heap.size + 1, 13, none⟩ = some (.int .u64 (s.mx : Nat)) := hl.cell 13
            have bf13 := hl.frozen 13
            have HLL := Lib.hid hl
            have HZZ := Lib.hid hzz
            have HBB := Lib.hid hbb
            clear hl hzz hbb
            go_wp2
            go_quiet ((go_at_call 93; first | (with_reducible exact RY.out _ _) | (with_reducible exact RN.out _ _) | (with_reducible exact RX.out _ _)))
            have hl := HLL.out.drawn nq
            have hzz := HZZ.out.drawn nq
            have hbb := below_drawn HBB.out nq
            generalize V0.drewN nq = V1 at *
            clear HLL HZZ HBB
            have z1 : V1.cell? ⟨b, off + k, none⟩ = some (.int .u64 (y : Nat)) := by
              obtain ⟨b', off', ha, hy⟩ := HR.out V1 hbb
              injection ha with ha; injection ha with h1 h2; subst h1 h2; exact hy
            have cc11 : V1.cell? ⟨w.heap.size + 1, 11, none⟩ = some (.bool s.any) := hl.cell 11
            rw [HANY.out] at cc11
            have cf11 := hl.frozen 11
            have cc12 : V1.cell? ⟨w.heap.size + 1, 12, none⟩ = some (.int .u64 (s.mn : Nat)) := hl.cell 12
            have cf12 := hl.frozen 12
            have cc13 : V1.cell? ⟨w.heap.size + 1, 13, none⟩ = some (.int .u64 (s.mx : Nat)) := hl.cell 13
            have cf13 := hl.frozen 13
            obtain ⟨W3, hW3⟩ : ∃ W3, V1.setCell ⟨w.heap.size + 1, 11, none⟩ (.bool true) = W3 := ⟨_, rfl⟩
            have hl := lies_set hl hW3 (stR_any _ _)
            have hzz := lies_far hzz (by omega) hW3
            have hbb := below_set hbb (by omega) hW3
            have y3 : W3.cell? ⟨b, off + k, none⟩ = some (.int .u64 (y : Nat)) := by
              obtain ⟨b', off', ha, hy⟩ := HR.out W3 hbb
              injection ha with ha; injection ha with h1 h2; subst h1 h2; exact hy
            have HLL := Lib.hid hl
            have HZZ := Lib.hid hzz
            have HBB := Lib.hid hbb
            clear hl hzz hbb
            go_wp2
            go_roundw
            case rel => exact ⟨k + 1, by omega, by go_num, HZZ.out, by rw [hST.out, HF.out]; exact HLL.out, HBB.out⟩
            case measure => simp [intOf]; omega
          · skip
            have HF := Lib.hid (show stR (stpN s y) = stR ({ { setK s kk (s.k kk + 1) with mx := y } with any := true }) from by rw [HUN.out, if_neg h8, wid_more _ y y (by unfold bumpN; exact hany) false true (by unfold bumpN; exact e1) (by unfold bumpN; exact e2)]; unfold bumpN; rw [HKK.out]; rfl)
            have g1 := e1
            have g2 := e2
            clear e1 e2
            generalize rk s.mn = rn at *
            generalize rk s.mx = rx at *
            generalize rk y = ry at *
            have HANY := Lib.hid hany
            clear hany
            clear HUN
            have hl := hs
            have hzz := hz
            have hbb := hb
            obtain ⟨b, off, ha, y0⟩ := HR.out wr hb
            subst ha
            have ck : wr.cell? ⟨w.heap.size + 1, 1 + kk, none⟩ = some (.int .i64 (s.k kk)) := by have := hl.cell (1 + kk); rw [stR_at _ kk (by omega)] at this; exact this
            have fk := hl.frozen (1 + kk)
            obtain ⟨W1, hW1⟩ : ∃ W1, wr.setCell ⟨w.heap.size + 1, 1 + kk, none⟩ (.int .i64 (s.k kk + 1)) = W1 := ⟨_, rfl⟩
            have hl := lies_set hl hW1 (stR_k _ kk (by omega) _)
            have hzz := lies_far hzz (by omega) hW1
            have hbb := below_set hbb (by omega) hW1
            have y1 : W1.cell? ⟨b, off + k, none⟩ = some (.int .u64 (y : Nat)) := by
              obtain ⟨b', off', ha, hy⟩ := HR.out W1 hbb
              injection ha with ha; injection ha with h1 h2; subst h1 h2; exact hy
            have ac11 : W1.cell? ⟨w.heap.size + 1, 11, none⟩ = some (.bool s.any) := hl.cell 11
            rw [HANY.out] at ac11
            have af11 := hl.frozen 11
            have ac12 : W1.cell? ⟨w.heap.size + 1, 12, none⟩ = some (.int .u64 (s.mn : Nat)) := hl.cell 12
            have af12 := hl.frozen 12
            have ac13 : W1.cell? ⟨w.heap.size + 1, 13, none⟩ = some (.int .u64 (s.mx : Nat)) := hl.cell 13
            have af13 := hl.frozen 13
            have HLL := Lib.hid hl
            have HZZ := Lib.hid hzz
            have HBB := Lib.hid hbb
            clear hl hzz hbb
            clear hs hz hb
            generalize hkv : s.k kk = kv at *
            have HKV := Lib.hid hkv
            clear hkv
            generalize hwh : s.whole = wh at *
            have HWH := Lib.hid hwh
            clear hwh
            go_wp2_with (first | (go_at_call 91; refine (KX.out _).mono ?_; rintro e w' ⟨rfl, rfl⟩) | (go_at_call 92; refine (WX.out _).mono ?_; rintro e w' ⟨rfl, rfl⟩))
            go_quiet ((go_at_call 93; first | (with_reducible exact RY.out _ _) | (with_reducible exact RN.out _ _) | (with_reducible exact RX.out _ _)))
            have hl := HLL.out.drawn nq
            have hzz := HZZ.out.drawn nq
            have hbb := below_drawn HBB.out nq
            generalize W1.drewN nq = V0 at *
            clear HLL HZZ HBB
            have z0 : V0.cell? ⟨b, off + k, none⟩ = some (.int .u64 (y : Nat)) := by
              obtain ⟨b', off', ha, hy⟩ := HR.out V0 hbb
              injection ha with ha; injection ha with h1 h2; subst h1 h2; exact hy
            have bc11 : V0.cell? ⟨w.heap.size + 1, 11, none⟩ = some (.bool s.any) := hl.cell 11
            rw [HANY.out] at bc11
            have bf11 := hl.frozen 11
            have bc12 : V0.cell? ⟨w.heap.size + 1, 12, none⟩ = some (.int .u64 (s.mn : Nat)) := hl.cell 12
            have bf12 := hl.frozen 12
            have bc13 : V0.cell? ⟨w.heap.size + 1, 13, none⟩ = some (.int .u64 (s.mx : Nat)) := hl.cell 13
            have bf13 := hl.frozen 13
            have HLL := Lib.hid hl
            have HZZ := Lib.hid hzz
            have HBB := Lib.hid hbb
            clear hl hzz hbb
            go_wp2
            go_quiet ((go_at_call 93; first | (with_reducible exact RY.out _ _) | (with_reducible exact RN.out _ _) | (with_reducible exact RX.out _ _)))
            have hl := HLL.out.drawn nq
            have hzz := HZZ.out.drawn nq
            have hbb := below_drawn HBB.out nq
            generalize V0.drewN nq = V1 at *
            clear HLL HZZ HBB
            have z1 : V1.cell? ⟨b, off + k, none⟩ = some (.int .u64 (y : Nat)) := by
              obtain ⟨b', off', ha, hy⟩ := HR.out V1 hbb
              injection ha with ha; injection ha with h1 h2; subst h1 h2; exact hy
            have cc11 : V1.cell? ⟨w.heap.size + 1, 11, none⟩ = some (.bool s.any) := hl.cell 11
            rw [HANY.out] at cc11
            have cf11 := hl.frozen 11
            have cc12 : V1.cell? ⟨w.heap.size + 1, 12, none⟩ = some (.int .u64 (s.mn : Nat)) := hl.cell 12
            have cf12 := hl.frozen 12
            have cc13 : V1.cell? ⟨w.heap.size + 1, 13, none⟩ = some (.int .u64 (s.mx : Nat)) := hl.cell 13
            have cf13 := hl.frozen 13
            obtain ⟨W2, hW2⟩ : ∃ W2, V1.setCell ⟨w.heap.size + 1, 13, none⟩ (.int .u64 (y : Nat)) = W2 := ⟨_, rfl⟩
            have hl := lies_set hl hW2 (stR_mx _ _)
            have hzz := lies_far hzz (by omega) hW2
            have hbb := below_set hbb (by omega) hW2
            have y2 : W2.cell? ⟨b, off + k, none⟩ = some (.int .u64 (y : Nat)) := by
              obtain ⟨b', off', ha, hy⟩ := HR.out W2 hbb
              injection ha with ha; injection ha with h1 h2; subst h1 h2; exact hy
            have cxc11 : W2.cell? ⟨w.heap.size + 1, 11, none⟩ = some (.bool s.any) := hl.cell 11
            rw [HANY.out] at cxc11
            have cxf11 := hl.frozen 11
            have cxc12 : W2.cell? ⟨w.heap.size + 1, 12, none⟩ = some (.int .u64 (s.mn : Nat)) := hl.cell 12
            have cxf12 := hl.frozen 12
            have cxc13 : W2.cell? ⟨w.heap.size + 1, 13, none⟩ = some (.int .u64 (y : Nat)) := hl.cell 13
            have cxf13 := hl.frozen 13
            obtain ⟨W3, hW3⟩ : ∃ W3, W2.setCell ⟨w.heap.size + 1, 11, none⟩ (.bool true) = W3 := ⟨_, rfl⟩
            have hl := lies_set hl hW3 (stR_any _ _)
            have hzz := lies_far hzz (by omega) hW3
            have hbb := below_set hbb (by omega) hW3
            have y3 : W3.cell? ⟨b, off + k, none⟩ = some (.int .u64 (y : Nat)) := by
              obtain ⟨b', off', ha, hy⟩ := HR.out W3 hbb
              injection ha with ha; injection ha with h1 h2; subst h1 h2; exact hy
            have HLL := Lib.hid hl
            have HZZ := Lib.hid hzz
            have HBB := Lib.hid hbb
            clear hl hzz hbb
            go_wp2
            go_roundw
            case rel => exact ⟨k + 1, by omega, by go_num, HZZ.out, by rw [hST.out, HF.out]; exact HLL.out, HBB.out⟩
            case measure => simp [intOf]; omega
          · skip
            have HF := Lib.hid (show stR (stpN s y) = stR ({ { { setK s kk (s.k kk + 1) with whole := s.whole + 1 } with mx := y } with any := true }) from by rw [HUN.out, if_neg h8, wid_more _ y y (by unfold bumpN; exact hany) false true (by unfold bumpN; exact e1) (by unfold bumpN; exact e2)]; unfold bumpN; rw [HKK.out]; rfl)
            have g1 := e1
            have g2 := e2
            clear e1 e2
            generalize rk s.mn = rn at *
            generalize rk s.mx = rx at *
            generalize rk y = ry at *
            have HANY := Lib.hid hany
            clear hany
            clear HUN
            have hl := hs
            have hzz := hz
            have hbb := hb
            obtain ⟨b, off, ha, y0⟩ := HR.out wr hb
            subst ha
            have ck : wr.cell? ⟨w.heap.size + 1, 1 + kk, none⟩ = some (.int .i64 (s.k kk)) := by have := hl.cell (1 + kk); rw [stR_at _ kk (by omega)] at this; exact this
            have fk := hl.frozen (1 + kk)
            obtain ⟨W1, hW1⟩ : ∃ W1, wr.setCell ⟨w.heap.size + 1, 1 + kk, none⟩ (.int .i64 (s.k kk + 1)) = W1 := ⟨_, rfl⟩
            have hl := lies_set hl hW1 (stR_k _ kk (by omega) _)
            have hzz := lies_far hzz (by omega) hW1
            have hbb := below_set hbb (by omega) hW1
            have y1 : W1.cell? ⟨b, off + k, none⟩ = some (.int .u64 (y : Nat)) := by
              obtain ⟨b', off', ha, hy⟩ := HR.out W1 hbb
              injection ha with ha; injection ha with h1 h2; subst h1 h2; exact hy
            have cw : W1.cell? ⟨w.heap.size + 1, 10, none⟩ = some (.int .i64 s.whole) := hl.cell 10
            have fw := hl.frozen 10
            obtain ⟨W2, hW2⟩ : ∃ W2, W1.setCell ⟨w.heap.size + 1, 10, none⟩ (.int .i64 (s.whole + 1)) = W2 := ⟨_, rfl⟩
            have hl := lies_set hl hW2 (stR_whole _ _)
            have hzz := lies_far hzz (by omega) hW2
            have hbb := below_set hbb (by omega) hW2
            have y2 : W2.cell? ⟨b, off + k, none⟩ = some (.int .u64 (y : Nat)) := by
              obtain ⟨b', off', ha, hy⟩ := HR.out W2 hbb
              injection ha with ha; injection ha with h1 h2; subst h1 h2; exact hy
            have ac11 : W2.cell? ⟨w.heap.size + 1, 11, none⟩ = some (.bool s.any) := hl.cell 11
            rw [HANY.out] at ac11
            have af11 := hl.frozen 11
            have ac12 : W2.cell? ⟨w.heap.size + 1, 12, none⟩ = some (.int .u64 (s.mn : Nat)) := hl.cell 12
            have af12 := hl.frozen 12
            have ac13 : W2.cell? ⟨w.heap.size + 1, 13, none⟩ = some (.int .u64 (s.mx : Nat)) := hl.cell 13
            have af13 := hl.frozen 13
            have HLL := Lib.hid hl
            have HZZ := Lib.hid hzz
            have HBB := Lib.hid hbb
            clear hl hzz hbb
            clear hs hz hb
            generalize hkv : s.k kk = kv at *
            have HKV := Lib.hid hkv
            clear hkv
            generalize hwh : s.whole = wh at *
            have HWH := Lib.hid hwh
            clear hwh
            go_wp2_with (first | (go_at_call 91; refine (KX.out _).mono ?_; rintro e w' ⟨rfl, rfl⟩) | (go_at_call 92; refine (WX.out _).mono ?_; rintro e w' ⟨rfl, rfl⟩))
            go_quiet ((go_at_call 93; first | (with_reducible exact RY.out _ _) | (with_reducible exact RN.out _ _) | (with_reducible exact RX.out _ _)))
            have hl := HLL.out.drawn nq
            have hzz := HZZ.out.drawn nq
            have hbb := below_drawn HBB.out nq
            generalize W2.drewN nq = V0 at *
            clear HLL HZZ HBB
            have z0 : V0.cell? ⟨b, off + k, none⟩ = some (.int .u64 (y : Nat)) := by
              obtain ⟨b', off', ha, hy⟩ := HR.out V0 hbb
              injection ha with ha; injection ha with h1 h2; subst h1 h2; exact hy
            have bc11 : V0.cell? ⟨w.heap.size + 1, 11, none⟩ = some (.bool s.any) := hl.cell 11
            rw [HANY.out] at bc11
            have bf11 := hl.frozen 11
            have bc12 : V0.cell? ⟨w.heap.size + 1, 12, none⟩ = some (.int .u64 (s.mn : Nat)) := hl.cell 12
            have bf12 := hl.frozen 12
            have bc13 : V0.cell? ⟨w.heap.size + 1, 13, none⟩ = some (.int .u64 (s.mx : Nat)) := hl.cell 13
            have bf13 := hl.frozen 13
            have HLL := Lib.hid hl
            have HZZ := Lib.hid hzz
            have HBB := Lib.hid hbb
            clear hl hzz hbb
            go_wp2
            go_quiet ((go_at_call 93; first | (with_reducible exact RY.out _ _) | (with_reducible exact RN.out _ _) | (with_reducible exact RX.out _ _)))
            have hl := HLL.out.drawn nq
            have hzz := HZZ.out.drawn nq
            have hbb := below_drawn HBB.out nq
            generalize V0.drewN nq = V1 at *
            clear HLL HZZ HBB
            have z1 : V1.cell? ⟨b, off + k, none⟩ = some (.int .u64 (y : Nat)) := by
              obtain ⟨b', off', ha, hy⟩ := HR.out V1 hbb
              injection ha with ha; injection ha with h1 h2; subst h1 h2; exact hy
            have cc11 : V1.cell? ⟨w.heap.size + 1, 11, none⟩ = some (.bool s.any) := hl.cell 11
            rw [HANY.out] at cc11
            have cf11 := hl.frozen 11
            have cc12 : V1.cell? ⟨w.heap.size + 1, 12, none⟩ = some (.int .u64 (s.mn : Nat)) := hl.cell 12
            have cf12 := hl.frozen 12
            have cc13 : V1.cell? ⟨w.heap.size + 1, 13, none⟩ = some (.int .u64 (s.mx : Nat)) := hl.cell 13
            have cf13 := hl.frozen 13
            obtain ⟨W3, hW3⟩ : ∃ W3, V1.setCell ⟨w.heap.size + 1, 13, none⟩ (.int .u64 (y : Nat)) = W3 := ⟨_, rfl⟩
            have hl := lies_set hl hW3 (stR_mx _ _)
            have hzz := lies_far hzz (by omega) hW3
            have hbb := below_set hbb (by omega) hW3
            have y3 : W3.cell? ⟨b, off + k, none⟩ = some (.int .u64 (y : Nat)) := by
              obtain ⟨b', off', ha, hy⟩ := HR.out W3 hbb
              injection ha with ha; injection ha with h1 h2; subst h1 h2; exact hy
            have cxc11 : W3.cell? ⟨w.heap.size + 1, 11, none⟩ = some (.bool s.any) := hl.cell 11
            rw [HANY.out] at cxc11
            have cxf11 := hl.frozen 11
            have cxc12 : W3.cell? ⟨w.heap.size + 1, 12, none⟩ = some (.int .u64 (s.mn : Nat)) := hl.cell 12
            have cxf12 := hl.frozen 12
            have cxc13 : W3.cell? ⟨w.heap.size + 1, 13, none⟩ = some (.int .u64 (y : Nat)) := hl.cell 13
            have cxf13 := hl.frozen 13
            obtain ⟨W4, hW4⟩ : ∃ W4, W3.setCell ⟨w.heap.size + 1, 11, none⟩ (.bool true) = W4 := ⟨_, rfl⟩
            have hl := lies_set hl hW4 (stR_any _ _)
            have hzz := lies_far hzz (by omega) hW4
            have hbb := below_set hbb (by omega) hW4
            have y4 : W4.cell? ⟨b, off + k, none⟩ = some (.int .u64 (y : Nat)) := by
              obtain ⟨b', off', ha, hy⟩ := HR.out W4 hbb
              injection ha with ha; injection ha with h1 h2; subst h1 h2; exact hy
            have HLL := Lib.hid hl
            have HZZ := Lib.hid hzz
            have HBB := Lib.hid hbb
            clear hl hzz hbb
            go_wp2
            go_roundw
            case rel => exact ⟨k + 1, by omega, by go_num, HZZ.out, by rw [hST.out, HF.out]; exact HLL.out, HBB.out⟩
            case measure => simp [intOf]; omega
          · skip
            have HF := Lib.hid (show stR (stpN s y) = stR ({ { setK s kk (s.k kk + 1) with mn := y } with any := true }) from by rw [HUN.out, if_neg h8, wid_more _ y y (by unfold bumpN; exact hany) true false (by unfold bumpN; exact e1) (by unfold bumpN; exact e2)]; unfold bumpN; rw [HKK.out]; rfl)
            have g1 := e1
            have g2 := e2
            clear e1 e2
            generalize rk s.mn = rn at *
            generalize rk s.mx = rx at *
            generalize rk y = ry at *
            have HANY := Lib.hid hany
            clear hany
            clear HUN
            have hl := hs
            have hzz := hz
            have hbb := hb
            obtain ⟨b, off, ha, y0⟩ := HR.out wr hb
            subst ha
            have ck : wr.cell? ⟨w.heap.size + 1, 1 + kk, none⟩ = some (.int .i64 (s.k kk)) := by have := hl.cell (1 + kk); rw [stR_at _ kk (by omega)] at this; exact this
            have fk := hl.frozen (1 + kk)
            obtain ⟨W1, hW1⟩ : ∃ W1, wr.setCell ⟨w.heap.size + 1, 1 + kk, none⟩ (.int .i64 (s.k kk + 1)) = W1 := ⟨_, rfl⟩
            have hl := lies_set hl hW1 (stR_k _ kk (by omega) _)
            have hzz := lies_far hzz (by omega) hW1
            have hbb := below_set hbb (by omega) hW1
            have y1 : W1.cell? ⟨b, off + k, none⟩ = some (.int .u64 (y : Nat)) := by
              obtain ⟨b', off', ha, hy⟩ := HR.out W1 hbb
              injection ha with ha; injection ha with h1 h2; subst h1 h2; exact hy
            have ac11 : W1.cell? ⟨w.heap.size + 1, 11, none⟩ = some (.bool s.any) := hl.cell 11
            rw [HANY.out] at ac11
            have af11 := hl.frozen 11
            have ac12 : W1.cell? ⟨w.heap.size + 1, 12, none⟩ = some (.int .u64 (s.mn : Nat)) := hl.cell 12
            have af12 := hl.frozen 12
            have ac13 : W1.cell? ⟨w.heap.size + 1, 13, none⟩ = some (.int .u64 (s.mx : Nat)) := hl.cell 13
            have af13 := hl.frozen 13
            have HLL := Lib.hid hl
            have HZZ := Lib.hid hzz
            have HBB := Lib.hid hbb
            clear hl hzz hbb
            clear hs hz hb
            generalize hkv : s.k kk = kv at *
            have HKV := Lib.hid hkv
            clear hkv
            generalize hwh : s.whole = wh at *
            have HWH := Lib.hid hwh
            clear hwh
            go_wp2_with (first | (go_at_call 91; refine (KX.out _).mono ?_; rintro e w' ⟨rfl, rfl⟩) | (go_at_call 92; refine (WX.out _).mono ?_; rintro e w' ⟨rfl, rfl⟩))
            go_quiet ((go_at_call 93; first | (with_reducible exact RY.out _ _) | (with_reducible exact RN.out _ _) | (with_reducible exact RX.out _ _)))
            have hl := HLL.out.drawn nq
            have hzz := HZZ.out.drawn nq
            have hbb := below_drawn HBB.out nq
            generalize W1.drewN nq = V0 at *
            clear HLL HZZ HBB
            have z0 : V0.cell? ⟨b, off + k, none⟩ = some (.int .u64 (y : Nat)) := by
              obtain ⟨b', off', ha, hy⟩ := HR.out V0 hbb
              injection ha with ha; injection ha with h1 h2; subst h1 h2; exact hy
            have bc11 : V0.cell? ⟨w.heap.size + 1, 11, none⟩ = some (.bool s.any) := hl.cell 11
            rw [HANY.out] at bc11
            have bf11 := hl.frozen 11
            have bc12 : V0.cell? ⟨w.heap.size + 1, 12, none⟩ = some (.int .u64 (s.mn : Nat)) := hl.cell 12
            have bf12 := hl.frozen 12
            have bc13 : V0.cell? ⟨w.heap.size + 1, 13, none⟩ = some (.int .u64 (s.mx : Nat)) := hl.cell 13
            have bf13 := hl.frozen 13
            obtain ⟨W2, hW2⟩ : ∃ W2, V0.setCell ⟨w.heap.size + 1, 12, none⟩ (.int .u64 (y : Nat)) = W2 := ⟨_, rfl⟩
            have hl := lies_set hl hW2 (stR_mn _ _)
            have hzz := lies_far hzz (by omega) hW2
            have hbb := below_set hbb (by omega) hW2
            have y2 : W2.cell? ⟨b, off + k, none⟩ = some (.int .u64 (y : Nat)) := by
              obtain ⟨b', off', ha, hy⟩ := HR.out W2 hbb
              injection ha with ha; injection ha with h1 h2; subst h1 h2; exact hy
            have bxc11 : W2.cell? ⟨w.heap.size + 1, 11, none⟩ = some (.bool s.any) := hl.cell 11
            rw [HANY.out] at bxc11
            have bxf11 := hl.frozen 11
            have bxc12 : W2.cell? ⟨w.heap.size + 1, 12, none⟩ = some (.int .u64 (y : Nat)) := hl.cell 12
            have bxf12 := hl.frozen 12
            have bxc13 : W2.cell? ⟨w.heap.size + 1, 13, none⟩ = some (.int .u64 (s.mx : Nat)) := hl.cell 13
            have bxf13 := hl.frozen 13
            have HLL := Lib.hid hl
            have HZZ := Lib.hid hzz
            have HBB := Lib.hid hbb
            clear hl hzz hbb
            go_wp2
            go_quiet ((go_at_call 93; first | (with_reducible exact RY.out _ _) | (with_reducible exact RN.out _ _) | (with_reducible exact RX.out _ _)))
            have hl := HLL.out.drawn nq
            have hzz := HZZ.out.drawn nq
            have hbb := below_drawn HBB.out nq
            generalize W2.drewN nq = V1 at *
            clear HLL HZZ HBB
            have z1 : V1.cell? ⟨b, off + k, none⟩ = some (.int .u64 (y : Nat)) := by
              obtain ⟨b', off', ha, hy⟩ := HR.out V1 hbb
              injection ha with ha; injection ha with h1 h2; subst h1 h2; exact hy
            have cc11 : V1.cell? ⟨w.heap.size + 1, 11, none⟩ = some (.bool s.any) := hl.cell 11
            rw [HANY.out] at cc11
            have cf11 := hl.frozen 11
            have cc12 : V1.cell? ⟨w.heap.size + 1, 12, none⟩ = some (.int .u64 (y : Nat)) := hl.cell 12
            have cf12 := hl.frozen 12
            have cc13 : V1.cell? ⟨w.heap.size + 1, 13, none⟩ = some (.int .u64 (s.mx : Nat)) := hl.cell 13
            have cf13 := hl.frozen 13
            obtain ⟨W3, hW3⟩ : ∃ W3, V1.setCell ⟨w.heap.size + 1, 11, none⟩ (.bool true) = W3 := ⟨_, rfl⟩
            have hl := lies_set hl hW3 (stR_any _ _)
            have hzz := lies_far hzz (by omega) hW3
            have hbb := below_set hbb (by omega) hW3
            have y3 : W3.cell? ⟨b, off + k, none⟩ = some (.int .u64 (y : Nat)) := by
              obtain ⟨b', off', ha, hy⟩ := HR.out W3 hbb
              injection ha with ha; injection ha with h1 h2; subst h1 h2; exact hy
            have HLL := Lib.hid hl
            have HZZ := Lib.hid hzz
            have HBB := Lib.hid hbb
            clear hl hzz hbb
            go_wp2
            go_roundw
            case rel => exact ⟨k + 1, by omega, by go_num, HZZ.out, by rw [hST.out, HF.out]; exact HLL.out, HBB.out⟩
            case measure => simp [intOf]; omega
          · skip
            have HF := Lib.hid (show stR (stpN s y) = stR ({ { { setK s kk (s.k kk + 1) with whole := s.whole + 1 } with mn := y } with any := true }) from by rw [HUN.out, if_neg h8, wid_more _ y y (by unfold bumpN; exact hany) true false (by unfold bumpN; exact e1) (by unfold bumpN; exact e2)]; unfold bumpN; rw [HKK.out]; rfl)
            have g1 := e1
            have g2 := e2
            clear e1 e2
            generalize rk s.mn = rn at *
            generalize rk s.mx = rx at *
            generalize rk y = ry at *
            have HANY := Lib.hid hany
            clear hany
            clear HUN
            have hl := hs
            have hzz := hz
            have hbb := hb
            obtain ⟨b, off, ha, y0⟩ := HR.out wr hb
            subst ha
            have ck : wr.cell? ⟨w.heap.size + 1, 1 + kk, none⟩ = some (.int .i64 (s.k kk)) := by have := hl.cell (1 + kk); rw [stR_at _ kk (by omega)] at this; exact this
            have fk := hl.frozen (1 + kk)
            obtain ⟨W1, hW1⟩ : ∃ W1, wr.setCell ⟨w.heap.size + 1, 1 + kk, none⟩ (.int .i64 (s.k kk + 1)) = W1 := ⟨_, rfl⟩
            have hl := lies_set hl hW1 (stR_k _ kk (by omega) _)
            have hzz := lies_far hzz (by omega) hW1
            have hbb := below_set hbb (by omega) hW1
            have y1 : W1.cell? ⟨b, off + k, none⟩ = some (.int .u64 (y : Nat)) := by
              obtain ⟨b', off', ha, hy⟩ := HR.out W1 hbb
              injection ha with ha; injection ha with h1 h2; subst h1 h2; exact hy
            have cw : W1.cell? ⟨w.heap.size + 1, 10, none⟩ = some (.int .i64 s.whole) := hl.cell 10
            have fw := hl.frozen 10
            obtain ⟨W2, hW2⟩ : ∃ W2, W1.setCell ⟨w.heap.size + 1, 10, none⟩ (.int .i64 (s.whole + 1)) = W2 := ⟨_, rfl⟩
            have hl := lies_set hl hW2 (stR_whole _ _)
            have hzz := lies_far hzz (by omega) hW2
            have hbb := below_set hbb (by omega) hW2
            have y2 : W2.cell? ⟨b, off + k, none⟩ = some (.int .u64 (y : Nat)) := by
              obtain ⟨b', off', ha, hy⟩ := HR.out W2 hbb
              injection ha with ha; injection ha with h1 h2; subst h1 h2; exact hy
            have ac11 : W2.cell? ⟨w.heap.size + 1, 11, none⟩ = some (.bool s.any) := hl.cell 11
            rw [HANY.out] at ac11
            have af11 := hl.frozen 11
            have ac12 : W2.cell? ⟨w.heap.size + 1, 12, none⟩ = some (.int .u64 (s.mn : Nat)) := hl.cell 12
            have af12 := hl.frozen 12
            have ac13 : W2.cell? ⟨w.heap.size + 1, 13, none⟩ = some (.int .u64 (s.mx : Nat)) := hl.cell 13
            have af13 := hl.frozen 13
            have HLL := Lib.hid hl
            have HZZ := Lib.hid hzz
            have HBB := Lib.hid hbb
            clear hl hzz hbb
            clear hs hz hb
            generalize hkv : s.k kk = kv at *
            have HKV := Lib.hid hkv
            clear hkv
            generalize hwh : s.whole = wh at *
            have HWH := Lib.hid hwh
            clear hwh
            go_wp2_with (first | (go_at_call 91; refine (KX.out _).mono ?_; rintro e w' ⟨rfl, rfl⟩) | (go_at_call 92; refine (WX.out _).mono ?_; rintro e w' ⟨rfl, rfl⟩))
            go_quiet ((go_at_call 93; first | (with_reducible exact RY.out _ _) | (with_reducible exact RN.out _ _) | (with_reducible exact RX.out _ _)))
            have hl := HLL.out.drawn nq
            have hzz := HZZ.out.drawn nq
            have hbb := below_drawn HBB.out nq
            generalize W2.drewN nq = V0 at *
            clear HLL HZZ HBB
            have z0 : V0.cell? ⟨b, off + k, none⟩ = some (.int .u64 (y : Nat)) := by
              obtain ⟨b', off', ha, hy⟩ := HR.out V0 hbb
              injection ha with ha; injection ha with h1 h2; subst h1 h2; exact hy
            have bc11 : V0.cell? ⟨w.heap.size + 1, 11, none⟩ = some (.bool s.any) := hl.cell 11
            rw [HANY.out] at bc11
            have bf11 := hl.frozen 11
            have bc12 : V0.cell? ⟨w.heap.size + 1, 12, none⟩ = some (.int .u64 (s.mn : Nat)) := hl.cell 12
            have bf12 := hl.frozen 12
            have bc13 : V0.cell? ⟨w.heap.size + 1, 13, none⟩ = some (.int .u64 (s.mx : Nat)) := hl.cell 13
            have bf13 := hl.frozen 13
            obtain ⟨W3, hW3⟩ : ∃ W3, V0.setCell ⟨w.heap.size + 1, 12, none⟩ (.int .u64 (y : Nat)) = W3 := ⟨_, rfl⟩
            have hl := lies_set hl hW3 (stR_mn _ _)
            have hzz := lies_far hzz (by omega) hW3
            have hbb := below_set hbb (by omega) hW3
            have y3 : W3.cell? ⟨b, off + k, none⟩ = some (.int .u64 (y : Nat)) := by
              obtain ⟨b', off', ha, hy⟩ := HR.out W3 hbb
              injection ha with ha; injection ha with h1 h2; subst h1 h2; exact hy
            have bxc11 : W3.cell? ⟨w.heap.size + 1, 11, none⟩ = some (.bool s.any) := hl.cell 11
            rw [HANY.out] at bxc11
            have bxf11 := hl.frozen 11
            have bxc12 : W3.cell? ⟨w.heap.size + 1, 12, none⟩ = some (.int .u64 (y : Nat)) := hl.cell 12
            have bxf12 := hl.frozen 12
            have bxc13 : W3.cell? ⟨w.heap.size + 1, 13, none⟩ = some (.int .u64 (s.mx : Nat)) := hl.cell 13
            have bxf13 := hl.frozen 13
            have HLL := Lib.hid hl
            have HZZ := Lib.hid hzz
            have HBB := Lib.hid hbb
            clear hl hzz hbb
            go_wp2
            go_quiet ((go_at_call 93; first | (with_reducible exact RY.out _ _) | (with_reducible exact RN.out _ _) | (with_reducible exact RX.out _ _)))
            have hl := HLL.out.drawn nq
            have hzz := HZZ.out.drawn nq
            have hbb := below_drawn HBB.out nq
            generalize W3.drewN nq = V1 at *
            clear HLL HZZ HBB
            have z1 : V1.cell? ⟨b, off + k, none⟩ = some (.int .u64 (y : Nat)) := by
              obtain ⟨b', off', ha, hy⟩ := HR.out V1 hbb
              injection ha with ha; injection ha with h1 h2; subst h1 h2; exact hy
            have cc11 : V1.cell? ⟨w.heap.size + 1, 11, none⟩ = some (.bool s.any) := hl.cell 11
            rw [HANY.out] at cc11
            have cf11 := hl.frozen 11
            have cc12 : V1.cell? ⟨w.heap.size + 1, 12, none⟩ = some (.int .u64 (y : Nat)) := hl.cell 12
            have cf12 := hl.frozen 12
            have cc13 : V1.cell? ⟨w.heap.size + 1, 13, none⟩ = some (.int .u64 (s.mx : Nat)) := hl.cell 13
            have cf13 := hl.frozen 13
            obtain ⟨W4, hW4⟩ : ∃ W4, V1.setCell ⟨w.heap.size + 1, 11, none⟩ (.bool true) = W4 := ⟨_, rfl⟩
            have hl := lies_set hl hW4 (stR_any _ _)
            have hzz := lies_far hzz (by omega) hW4
            have hbb := below_set hbb (by omega) hW4
            have y4 : W4.cell? ⟨b, off + k, none⟩ = some (.int .u64 (y : Nat)) := by
              obtain ⟨b', off', ha, hy⟩ := HR.out W4 hbb
              injection ha with ha; injection ha with h1 h2; subst h1 h2; exact hy
            have HLL := Lib.hid hl
            have HZZ := Lib.hid hzz
            have HBB := Lib.hid hbb
            clear hl hzz hbb
            go_wp2
            go_roundw
            case rel => exact ⟨k + 1, by omega, by go_num, HZZ.out, by rw [hST.out, HF.out]; exact HLL.out, HBB.out⟩
            case measure => simp [intOf]; omega
          · skip
            have HF := Lib.hid (show stR (stpN s y) = stR ({ { { setK s kk (s.k kk + 1) with mn := y } with mx := y } with any := true }) from by rw [HUN.out, if_neg h8, wid_more _ y y (by unfold bumpN; exact hany) true true (by unfold bumpN; exact e1) (by unfold bumpN; exact e2)]; unfold bumpN; rw [HKK.out]; rfl)
            have g1 := e1
            have g2 := e2
            clear e1 e2
            generalize rk s.mn = rn at *
            generalize rk s.mx = rx at *
            generalize rk y = ry at *
            have HANY := Lib.hid hany
            clear hany
            clear HUN
            have hl := hs
            have hzz := hz
            have hbb := hb
            obtain ⟨b, off, ha, y0⟩ := HR.out wr hb
            subst ha
            have ck : wr.cell? ⟨w.heap.size + 1, 1 + kk, none⟩ = some (.int .i64 (s.k kk)) := by have := hl.cell (1 + kk); rw [stR_at _ kk (by omega)] at this; exact this
            have fk := hl.frozen (1 + kk)
            obtain ⟨W1, hW1⟩ : ∃ W1, wr.setCell ⟨w.heap.size + 1, 1 + kk, none⟩ (.int .i64 (s.k kk + 1)) = W1 := ⟨_, rfl⟩
            have hl := lies_set hl hW1 (stR_k _ kk (by omega) _)
            have hzz := lies_far hzz (by omega) hW1
            have hbb := below_set hbb (by omega) hW1
            have y1 : W1.cell? ⟨b, off + k, none⟩ = some (.int .u64 (y : Nat)) := by
              obtain ⟨b', off', ha, hy⟩ := HR.out W1 hbb
              injection ha with ha; injection ha with h1 h2; subst h1 h2; exact hy
            have ac11 : W1.cell? ⟨w.heap.size + 1, 11, none⟩ = some (.bool s.any) := hl.cell 11
            rw [HANY.out] at ac11
            have af11 := hl.frozen 11
            have ac12 : W1.cell? ⟨w.heap.size + 1, 12, none⟩ = some (.int .u64 (s.mn : Nat)) := hl.cell 12
            have af12 := hl.frozen 12
            have ac13 : W1.cell? ⟨w.heap.size + 1, 13, none⟩ = some (.int .u64 (s.mx : Nat)) := hl.cell 13
            have af13 := hl.frozen 13
            have HLL := Lib.hid hl
            have HZZ := Lib.hid hzz
            have HBB := Lib.hid hbb
            clear hl hzz hbb
            clear hs hz hb
            generalize hkv : s.k kk = kv at *
            have HKV := Lib.hid hkv
            clear hkv
            generalize hwh : s.whole = wh at *
            have HWH := Lib.hid hwh
            clear hwh
            go_wp2_with (first | (go_at_call 91; refine (KX.out _).mono ?_; rintro e w' ⟨rfl, rfl⟩) | (go_at_call 92; refine (WX.out _).mono ?_; rintro e w' ⟨rfl, rfl⟩))
            go_quiet ((go_at_call 93; first | (with_reducible exact RY.out _ _) | (with_reducible exact RN.out _ _) | (with_reducible exact RX.out _ _)))
            have hl := HLL.out.drawn nq
            have hzz := HZZ.out.drawn nq
            have hbb := below_drawn HBB.out nq
            generalize W1.drewN nq = V0 at *
            clear HLL HZZ HBB
            have z0 : V0.cell? ⟨b, off + k, none⟩ = some (.int .u64 (y : Nat)) := by
              obtain ⟨b', off', ha, hy⟩ := HR.out V0 hbb
              injection ha with ha; injection ha with h1 h2; subst h1 h2; exact hy
            have bc11 : V0.cell? ⟨w.heap.size + 1, 11, none⟩ = some (.bool s.any) := hl.cell 11
            rw [HANY.out] at bc11
            have bf11 := hl.frozen 11
            have bc12 : V0.cell? ⟨w.heap.size + 1, 12, none⟩ = some (.int .u64 (s.mn : Nat)) := hl.cell 12
            have bf12 := hl.frozen 12
            have bc13 : V0.cell? ⟨w.heap.size + 1, 13, none⟩ = some (.int .u64 (s.mx : Nat)) := hl.cell 13
            have bf13 := hl.frozen 13
            obtain ⟨W2, hW2⟩ : ∃ W2, V0.setCell ⟨w.heap.size + 1, 12, none⟩ (.int .u64 (y : Nat)) = W2 := ⟨_, rfl⟩
            have hl := lies_set hl hW2 (stR_mn _ _)
            have hzz := lies_far hzz (by omega) hW2
            have hbb := below_set hbb (by omega) hW2
            have y2 : W2.cell? ⟨b, off + k, none⟩ = some (.int .u64 (y : Nat)) := by
              obtain ⟨b', off', ha, hy⟩ := HR.out W2 hbb
              injection ha with ha; injection ha with h1 h2; subst h1 h2; exact hy
            have bxc11 : W2.cell? ⟨w.heap.size + 1, 11, none⟩ = some (.bool s.any) := hl.cell 11
            rw [HANY.out] at bxc11
            have bxf11 := hl.frozen 11
            have bxc12 : W2.cell? ⟨w.heap.size + 1, 12, none⟩ = some (.int .u64 (y : Nat)) := hl.cell 12
            have bxf12 := hl.frozen 12
            have bxc13 : W2.cell? ⟨w.heap.size + 1, 13, none⟩ = some (.int .u64 (s.mx : Nat)) := hl.cell 13
            have bxf13 := hl.frozen 13
            have HLL := Lib.hid hl
            have HZZ := Lib.hid hzz
            have HBB := Lib.hid hbb
            clear hl hzz hbb
            go_wp2
            go_quiet ((go_at_call 93; first | (with_reducible exact RY.out _ _) | (with_reducible exact RN.out _ _) | (with_reducible exact RX.out _ _)))
            have hl := HLL.out.drawn nq
            have hzz := HZZ.out.drawn nq
            have hbb := below_drawn HBB.out nq
            generalize W2.drewN nq = V1 at *
            clear HLL HZZ HBB
            have z1 : V1.cell? ⟨b, off + k, none⟩ = some (.int .u64 (y : Nat)) := by
              obtain ⟨b', off', ha, hy⟩ := HR.out V1 hbb
              injection ha with ha; injection ha with h1 h2; subst h1 h2; exact hy
            have cc11 : V1.cell? ⟨w.heap.size + 1, 11, none⟩ = some (.bool s.any) := hl.cell 11
            rw [HANY.out] at cc11
            have cf11 := hl.frozen 11
            have cc12 : V1.cell? ⟨w.heap.size + 1, 12, none⟩ = some (.int .u64 (y : Nat)) := hl.cell 12
            have cf12 := hl.frozen 12
            have cc13 : V1.cell? ⟨w.heap.size + 1, 13, none⟩ = some (.int .u64 (s.mx : Nat)) := hl.cell 13
            have cf13 := hl.frozen 13
            obtain ⟨W3, hW3⟩ : ∃ W3, V1.setCell ⟨w.heap.size + 1, 13, none⟩ (.int .u64 (y : Nat)) = W3 := ⟨_, rfl⟩
            have hl := lies_set hl hW3 (stR_mx _ _)
            have hzz := lies_far hzz (by omega) hW3
            have hbb := below_set hbb (by omega) hW3
            have y3 : W3.cell? ⟨b, off + k, none⟩ = some (.int .u64 (y : Nat)) := by
              obtain ⟨b', off', ha, hy⟩ := HR.out W3 hbb
              injection ha with ha; injection ha with h1 h2; subst h1 h2; exact hy
            have cxc11 : W3.cell? ⟨w.heap.size + 1, 11, none⟩ = some (.bool s.any) := hl.cell 11
            rw [HANY.out] at cxc11
            have cxf11 := hl.frozen 11
            have cxc12 : W3.cell? ⟨w.heap.size + 1, 12, none⟩ = some (.int .u64 (y : Nat)) := hl.cell 12
            have cxf12 := hl.frozen 12
            have cxc13 : W3.cell? ⟨w.heap.size + 1, 13, none⟩ = some (.int .u64 (y : Nat)) := hl.cell 13
            have cxf13 := hl.frozen 13
            obtain ⟨W4, hW4⟩ : ∃ W4, W3.setCell ⟨w.heap.size + 1, 11, none⟩ (.bool true) = W4 := ⟨_, rfl⟩
            have hl := lies_set hl hW4 (stR_any _ _)
            have hzz := lies_far hzz (by omega) hW4
            have hbb := below_set hbb (by omega) hW4
            have y4 : W4.cell? ⟨b, off + k, none⟩ = some (.int .u64 (y : Nat)) := by
              obtain ⟨b', off', ha, hy⟩ := HR.out W4 hbb
              injection ha with ha; injection ha with h1 h2; subst h1 h2; exact hy
            have HLL := Lib.hid hl
            have HZZ := Lib.hid hzz
            have HBB := Lib.hid hbb
            clear hl hzz hbb
            go_wp2
            go_roundw
            case rel => exact ⟨k + 1, by omega, by go_num, HZZ.out, by rw [hST.out, HF.out]; exact HLL.out, HBB.out⟩
            case measure => simp [intOf]; omega
          · skip
            have HF := Lib.hid (show stR (stpN s y) = stR ({ { { { setK s kk (s.k kk + 1) with whole := s.whole + 1 } with mn := y } with mx := y } with any := true }) from by rw [HUN.out, if_neg h8, wid_more _ y y (by unfold bumpN; exact hany) true true (by unfold bumpN; exact e1) (by unfold bumpN; exact e2)]; unfold bumpN; rw [HKK.out]; rfl)
            have g1 := e1
            have g2 := e2
            clear e1 e2
            generalize rk s.mn = rn at *
            generalize rk s.mx = rx at *
            generalize rk y = ry at *
            have HANY := Lib.hid hany
            clear hany
            clear HUN
            have hl := hs
            have hzz := hz
            have hbb := hb
            obtain ⟨b, off, ha, y0⟩ := HR.out wr hb
            subst ha
            have ck : wr.cell? ⟨w.heap.size + 1, 1 + kk, none⟩ = some (.int .i64 (s.k kk)) := by have := hl.cell (1 + kk); rw [stR_at _ kk (by omega)] at this; exact this
            have fk := hl.frozen (1 + kk)
            obtain ⟨W1, hW1⟩ : ∃ W1, wr.setCell ⟨w.heap.size + 1, 1 + kk, none⟩ (.int .i64 (s.k kk + 1)) = W1 := ⟨_, rfl⟩
            have hl := lies_set hl hW1 (stR_k _ kk (by omega) _)
            have hzz := lies_far hzz (by omega) hW1
            have hbb := below_set hbb (by omega) hW1
            have y1 : W1.cell? ⟨b, off + k, none⟩ = some (.int .u64 (y : Nat)) := by
              obtain ⟨b', off', ha, hy⟩ := HR.out W1 hbb
              injection ha with ha; injection ha with h1 h2; subst h1 h2; exact hy
            have cw : W1.cell? ⟨w.heap.size + 1, 10, none⟩ = some (.int .i64 s.whole) := hl.cell 10
            have fw := hl.frozen 10
            obtain ⟨W2, hW2⟩ : ∃ W2, W1.setCell ⟨w.heap.size + 1, 10, none⟩ (.int .i64 (s.whole + 1)) = W2 := ⟨_, rfl⟩
            have hl := lies_set hl hW2 (stR_whole _ _)
            have hzz := lies_far hzz (by omega) hW2
            have hbb := below_set hbb (by omega) hW2
            have y2 : W2.cell? ⟨b, off + k, none⟩ = some (.int .u64 (y : Nat)) := by
              obtain ⟨b', off', ha, hy⟩ := HR.out W2 hbb
              injection ha with ha; injection ha with h1 h2; subst h1 h2; exact hy
            have ac11 : W2.cell? ⟨w.heap.size + 1, 11, none⟩ = some (.bool s.any) := hl.cell 11
            rw [HANY.out] at ac11
            have af11 := hl.frozen 11
            have ac12 : W2.cell? ⟨w.heap.size + 1, 12, none⟩ = some (.int .u64 (s.mn : Nat)) := hl.cell 12
            have af12 := hl.frozen 12
            have ac13 : W2.cell? ⟨w.heap.size + 1, 13, none⟩ = some (.int .u64 (s.mx : Nat)) := hl.cell 13
            have af13 := hl.frozen 13
            have HLL := Lib.hid hl
            have HZZ := Lib.hid hzz
            have HBB := Lib.hid hbb
            clear hl hzz hbb
            clear hs hz hb
            generalize hkv : s.k kk = kv at *
            have HKV := Lib.hid hkv
            clear hkv
            generalize hwh : s.whole = wh at *
            have HWH := Lib.hid hwh
            clear hwh
            go_wp2_with (first | (go_at_call 91; refine (KX.out _).mono ?_; rintro e w' ⟨rfl, rfl⟩) | (go_at_call 92; refine (WX.out _).mono ?_; rintro e w' ⟨rfl, rfl⟩))
            go_quiet ((go_at_call 93; first | (with_reducible exact RY.out _ _) | (with_reducible exact RN.out _ _) | (with_reducible exact RX.out _ _)))
            have hl := HLL.out.drawn nq
            have hzz := HZZ.out.drawn nq
            have hbb := below_drawn HBB.out nq
            generalize W2.drewN nq = V0 at *
            clear HLL HZZ HBB
            have z0 : V0.cell? ⟨b, off + k, none⟩ = some (.int .u64 (y : Nat)) := by
              obtain ⟨b', off', ha, hy⟩ := HR.out V0 hbb
              injection ha with ha; injection ha with h1 h2; subst h1 h2; exact hy
            have bc11 : V0.cell? ⟨w.heap.size + 1, 11, none⟩ = some (.bool s.any) := hl.cell 11
            rw [HANY.out] at bc11
            have bf11 := hl.frozen 11
            have bc12 : V0.cell? ⟨w.heap.size + 1, 12, none⟩ = some (.int .u64 (s.mn : Nat)) := hl.cell 12
            have bf12 := hl.frozen 12
            have bc13 : V0.cell? ⟨w.heap.size + 1, 13, none⟩ = some (.int .u64 (s.mx : Nat)) := hl.cell 13
            have bf13 := hl.frozen 13
            obtain ⟨W3, hW3⟩ : ∃ W3, V0.setCell ⟨w.heap.size + 1, 12, none⟩ (.int .u64 (y : Nat)) = W3 := ⟨_, rfl⟩
            have hl := lies_set hl hW3 (stR_mn _ _)
            have hzz := lies_far hzz (by omega) hW3
            have hbb := below_set hbb (by omega) hW3
            have y3 : W3.cell? ⟨b, off + k, none⟩ = some (.int .u64 (y : Nat)) := by
              obtain ⟨b', off', ha, hy⟩ := HR.out W3 hbb
              injection ha with ha; injection ha with h1 h2; subst h1 h2; exact hy
            have bxc11 : W3.cell? ⟨w.heap.size + 1, 11, none⟩ = some (.bool s.any) := hl.cell 11
            rw [HANY.out] at bxc11
            have bxf11 := hl.frozen 11
            have bxc12 : W3.cell? ⟨w.heap.size + 1, 12, none⟩ = some (.int .u64 (y : Nat)) := hl.cell 12
            have bxf12 := hl.frozen 12
            have bxc13 : W3.cell? ⟨w.heap.size + 1, 13, none⟩ = some (.int .u64 (s.mx : Nat)) := hl.cell 13
            have bxf13 := hl.frozen 13
            have HLL := Lib.hid hl
            have HZZ := Lib.hid hzz
            have HBB := Lib.hid hbb
            clear hl hzz hbb
            go_wp2
            go_quiet ((go_at_call 93; first | (with_reducible exact RY.out _ _) | (with_reducible exact RN.out _ _) | (with_reducible exact RX.out _ _)))
            have hl := HLL.out.drawn nq
            have hzz := HZZ.out.drawn nq
            have hbb := below_drawn HBB.out nq
            generalize W3.drewN nq = V1 at *
            clear HLL HZZ HBB
            have z1 : V1.cell? ⟨b, off + k, none⟩ = some (.int .u64 (y : Nat)) := by
              obtain ⟨b', off', ha, hy⟩ := HR.out V1 hbb
              injection ha with ha; injection ha with h1 h2; subst h1 h2; exact hy
            have cc11 : V1.cell? ⟨w.heap.size + 1, 11, none⟩ = some (.bool s.any) := hl.cell 11
            rw [HANY.out] at cc11
            have cf11 := hl.frozen 11
            have cc12 : V1.cell? ⟨w.heap.size + 1, 12, none⟩ = some (.int .u64 (y : Nat)) := hl.cell 12
            have cf12 := hl.frozen 12
            have cc13 : V1.cell? ⟨w.heap.size + 1, 13, none⟩ = some (.int .u64 (s.mx : Nat)) := hl.cell 13
            have cf13 := hl.frozen 13
            obtain ⟨W4, hW4⟩ : ∃ W4, V1.setCell ⟨w.heap.size + 1, 13, none⟩ (.int .u64 (y : Nat)) = W4 := ⟨_, rfl⟩
            have hl := lies_set hl hW4 (stR_mx _ _)
            have hzz := lies_far hzz (by omega) hW4
            have hbb := below_set hbb (by omega) hW4
            have y4 : W4.cell? ⟨b, off + k, none⟩ = some (.int .u64 (y : Nat)) := by
              obtain ⟨b', off', ha, hy⟩ := HR.out W4 hbb
              injection ha with ha; injection ha with h1 h2; subst h1 h2; exact hy
            have cxc11 : W4.cell? ⟨w.heap.size + 1, 11, none⟩ = some (.bool s.any) := hl.cell 11
            rw [HANY.out] at cxc11
            have cxf11 := hl.frozen 11
            have cxc12 : W4.cell? ⟨w.heap.size + 1, 12, none⟩ = some (.int .u64 (y : Nat)) := hl.cell 12
            have cxf12 := hl.frozen 12
            have cxc13 : W4.cell? ⟨w.heap.size + 1, 13, none⟩ = some (.int .u64 (y : Nat)) := hl.cell 13
            have cxf13 := hl.frozen 13
            obtain ⟨W5, hW5⟩ : ∃ W5, W4.setCell ⟨w.heap.size + 1, 11, none⟩ (.bool true) = W5 := ⟨_, rfl⟩
            have hl := lies_set hl hW5 (stR_any _ _)
            have hzz := lies_far hzz (by omega) hW5
            have hbb := below_set hbb (by omega) hW5
            have y5 : W5.cell? ⟨b, off + k, none⟩ = some (.int .u64 (y : Nat)) := by
              obtain ⟨b', off', ha, hy⟩ := HR.out W5 hbb
              injection ha with ha; injection ha with h1 h2; subst h1 h2; exact hy
            have HLL := Lib.hid hl
            have HZZ := Lib.hid hzz
            have HBB := Lib.hid hbb
            clear hl hzz hbb
            go_wp2
            go_roundw
            case rel => exact ⟨k + 1, by omega, by go_num, HZZ.out, by rw [hST.out, HF.out]; exact HLL.out, HBB.out⟩
            case measure => simp [intOf]; omega
    · obtain rfl : k = n := by omega
      have HS := Lib.hid hs
      have HZ := Lib.hid hz
      have HB := Lib.hid hb
      have Z1 := Lib.hid (stR_size (rfold k l k))
      have O1 := Lib.hid (stR_one (rfold k l k))
      clear hz hs hb
      generalize hcs : stR (rfold k l k) = cs at *
      have HC := Lib.hid hcs
      clear hcs
      go_wp2_with (first | (refine wpList_load_row rfl 86 (.tmp 3) rfl (w.heap.size + 1) rfl 86 cs (0, 0) _ HS.out Try.underlying86 rfl (stR_info.trans (congrArg some Z1.out.symm)) ?_) | (refine wpList_store_row rfl 86 (.tmp 2) (.tmp 84) rfl w.heap.size cs rfl rfl 86 _ HZ.out (stR_info.trans (congrArg some Z1.out.symm)) (by rw [Z1.out]; rfl) O1.out ?_))
      exact bodyPost_ret (v := .agg cs) (results_cell_row (by rfl) _ _ w.heap.size 86 cs (0, 0) _ (by rfl) (HZ.out.row cs) Try.underlying86 rfl (stR_info.trans (congrArg some Z1.out.symm))) rfl ⟨by rw [HC.out], below_row HB.out (Nat.le_refl _) rfl⟩
end Go.Proofs.Ytjdcafeljdnfeaa
