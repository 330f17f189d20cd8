/-
  CONTRACT OF the document's own Load (corduroyref25.Load), in any world. Conditions: at most 100000 bytes, which lie in memory as told.
-/
import Derived.Test.YtgclhblglohjpaaZoneM
import Derived.Test.YtgclhblglohjpaaRefNum
namespace Go.Proofs.Ytgclhblglohjpaa
open Go.RowKit
set_option linter.unusedVariables false
set_option linter.unusedSimpArgs false
theorem rzoneInfo : (Try.prog.info? 43).map (fun i => (i.zero, i.size, i.bytes)) = some (some (.agg #[.int .i64 0, .int .i64 0, .int .i64 0, .int .i64 0]), 4, 32) := by kernel_rfl
/-- A row of the document's zones of one's own, as zones that lie. -/
theorem rzones_own {w : World} {base n : Nat} {v : Value} {C L H S : Nat → Int} (h : w.ownsRow base 43 4 v n (zcells C L H S n)) :
    ∃ a c, v = .slice a n c ∧ Zones w a n C L H S w.heap.size := by
  rcases Nat.eq_zero_or_pos n with h0 | h0
  · subst h0
    rcases h.2 with ⟨rfl, _⟩ | ⟨g, cap, cur, rfl, _⟩
    · exact ⟨none, 0, rfl, .inl rfl⟩
    · exact ⟨_, _, rfl, .inl rfl⟩
  · obtain ⟨g, k, rfl, h1, h2⟩ := h.form h0
    have hc := h.cells (g := g) rfl
    have key : ∀ i j u, i < n → j < 4 → (zV (C i) (L i) (H i) (S i)).toList[j]? = some u → w.cell? ⟨g, 0 + i * 4 + j, none⟩ = some u := fun i j u hi hj hu => by
      have h := hc (i * 4 + j) u (by rw [zcells_get C L H S n i j hi hj]; exact hu)
      have hadd : (⟨g, 0, none⟩ : Addr).add (i * 4 + j) = ⟨g, 0 + i * 4 + j, none⟩ := by unfold Addr.add; split <;> simp_all
      rwa [hadd] at h
    exact ⟨_, _, rfl, .inr ⟨g, 0, rfl, h2, fun i hi => ⟨key i 0 _ hi (by decide) rfl, key i 1 _ hi (by decide) rfl, key i 2 _ hi (by decide) rfl, key i 3 _ hi (by decide) rfl⟩⟩⟩
theorem iwr (n : Int) : IntKind.i64.wrap n = wrap64 n := by
  simp [IntKind.wrap, IntKind.bits, IntKind.signed, wrap64]
  split <;> omega
theorem rz_info : (Try.prog.info? 43).map (·.size) = some 4 := by kernel_rfl
theorem by_end {G C : Prop} (k : Hid G → C) (h : G) : C := k (Lib.hid h)
theorem sub_row {w W : World} {b o n p : Nat} {z : Nat → Int} (h : ∀ i, i < n - p → w.cell? ⟨b, o + i, none⟩ = some (.int .u8 (z (p + i)))) (hb : Below w.heap.size w W) (q m : Nat) (hq : p + q + m ≤ n) (y : Nat → Int) (hy : ∀ i, i < m → z (p + q + i) = y i) : RowOf W (some ⟨b, o + q, none⟩) m (fun i => .int .u8 (y i)) :=
  .inr ⟨b, o + q, rfl, fun i hi => by
    have h1 := h (q + i) (by omega)
    show W.cell? ⟨b, o + q + i, none⟩ = some (.int .u8 (y i))
    rw [show o + q + i = o + (q + i) by omega, ← hy i hi, show p + q + i = p + (q + i) by omega]
    exact (hb.cell (p := ⟨b, o + (q + i), none⟩) (World.block_lt_of_cell? w _ h1)).trans h1⟩
set_option maxRecDepth 100000 in
set_option maxHeartbeats 4000000 in
theorem rload_any (nb cap : Nat) (a : Option Addr) (z : Nat → Int) (hz : ∀ i, i < nb → 0 ≤ z i ∧ z i ≤ 255) (hnb : nb ≤ 100000) (hcap : nb ≤ cap) (hcm : cap ≤ maxLen) (f : Nat) (hf0 : 4 ≤ nb → f ≤ zN z ∧ (∀ i, i < f → zgood z nb i) ∧ (f < zN z → ¬ zgood z nb f)) (w : World)
    (hrow : RowOf w a nb (fun i => .int .u8 (z i))) :
    Calls Try.prog 19 #[.slice a nb cap] w fun e w' => Below w.heap.size w w' ∧
      ∃ a' c', e = .returned (.tuple #[.slice a' (zmany z nb f) c', .int .i64 (zerr z nb f)]) ∧ Zones w' a' (zmany z nb f) (zC z) (zL z) (zH z) (zS z) w'.heap.size := by
  obtain ⟨i0, hi, hz0, hz1, hz2⟩ := info_parts rzoneInfo
  obtain ⟨er, her⟩ : ∃ er, zerr z nb f = er := ⟨_, rfl⟩
  obtain ⟨mn, hmn⟩ : ∃ mn, zmany z nb f = mn := ⟨_, rfl⟩
  rw [her, hmn]
  have HZ := Lib.hid hz
  have HE := Lib.hid her
  have HM := Lib.hid (show (if er = 0 then f else 0) = mn from by rw [← hmn, ← her]; rfl)
  have HF := Lib.hid hf0
  have HR := Lib.hid hrow
  have HC := Lib.hid (And.intro hcap hcm)
  unfold maxLen at hcm
  clear hrow hz her hf0 hmn
  go_enter Try.func19, Try.ntmps19
  by_cases h4 : nb < 4
  · obtain rfl : 1 = er := by have := HE.out; unfold zerr at this; rw [if_pos h4] at this; exact this
    obtain rfl : 0 = mn := HM.out
    go_wp2
    go_ret2
    exact ⟨Below.refl _ _, none, 0, rfl, .inl rfl⟩
  obtain ⟨hfn, hall, hstop⟩ := HF.out (by omega)
  have HALL := Lib.hid hall
  have HSTOP := Lib.hid hstop
  clear hall hstop
  have NLT := Lib.hid (show zN z < 4294967296 from by
    have := num_lt (fun i => z (0 + i)) 4 (fun i hi => HZ.out _ (by omega))
    unfold zN; simpa using this)
  obtain ⟨b0, o0, rfl, _, hcell⟩ := HR.out.at_ (show 0 < nb by omega)
  have HCELL := Lib.hid hcell
  have NU := Lib.hid (fun c W (hb : Below w.heap.size w W) => rnumber3_any (some ⟨b0, o0, none⟩) 4 c (fun i => z (0 + i)) (by omega) (fun i hi => HZ.out _ (by omega)) W
    (sub_row (n := nb) (p := 0) (o := o0) (z := z) (by simpa using hcell) hb 0 4 (by omega) _ (fun i _ => by simp)))
  have N0 := Lib.hid (show num (fun i => z (0 + i)) 4 = zN z from rfl)
  have s4 : (4 : Int) ≤ cap := by omega
  have s5 : (4 : Int) ≤ nb := by omega
  have s6 : ¬ (nb : Int) < 4 := by omega
  clear hcell
  by_cases hc4 : cap = 4
  · subst hc4
    obtain rfl : nb = 4 := by omega
    have hf0 : f = 0 := by
      by_cases e : f = 0
      · exact e
      · have := (HALL.out 0 (by omega)).1; omega
    subst hf0
    have HN := HE.out
    unfold zerr at HN
    rw [if_neg (by omega)] at HN
    obtain ⟨x, hx⟩ : ∃ x, zN z = x := ⟨_, rfl⟩
    rw [hx] at HN N0
    have HN := Lib.hid HN
    go_wp2_with (go_at_call 66; refine (NU.out _ _ (Below.refl _ _)).mono ?_; rintro e w1 ⟨rfl, rfl⟩; rw [N0.out])
    go_loopg [0, 5, 6] 0 (fun g s v i wr => g = 0 ∧ s = .slice (some ⟨b0, o0, none⟩) 0 0 ∧ v = .slice none 0 0 ∧ i = .int .u64 0 ∧ wr = w)
    case atStart => exact ⟨rfl, rfl, rfl, rfl, rfl⟩
    case round =>
      obtain ⟨rfl, rfl, rfl, rfl, rfl⟩ := hrel
      by_cases hx0 : 0 < x
      · have x1 : (0 : Int) < x := by omega
        obtain rfl : 1 = er := by have := HN.out; rw [if_pos hx0, if_pos (by omega)] at this; exact this
        obtain rfl : 0 = mn := HM.out
        go_wp2
        go_ret2
        exact ⟨Below.refl _ _, none, 0, rfl, .inl rfl⟩
      · obtain rfl : x = 0 := by omega
        obtain rfl : 0 = er := by have := HN.out; rw [if_neg hx0, if_neg (by omega)] at this; exact this
        obtain rfl : 0 = mn := HM.out
        go_wp2
        go_ret2
        exact ⟨Below.refl _ _, none, ⟨0, rfl⟩, .inl rfl⟩
  have s7 : (4 : Int) < cap := by omega
  go_wp2_with (go_at_call 66; refine (NU.out _ _ (Below.refl _ _)).mono ?_; rintro e w1 ⟨rfl, rfl⟩; rw [N0.out])
  go_loopg [0, 5, 6] (zN z) (fun g s v x wr => ∃ (k : Nat) (b1 o1 c1 : Nat), k ≤ f ∧ g = zN z - k ∧ x = .int .u64 k ∧ s = .slice (some ⟨b1, o1, none⟩) (nb - (4 + 26 * k)) c1 ∧ nb - (4 + 26 * k) ≤ c1 ∧ c1 ≤ maxLen ∧ 4 + 26 * k ≤ nb ∧ (∀ i, i < nb - (4 + 26 * k) → w.cell? ⟨b1, o1 + i, none⟩ = some (.int .u8 (z (4 + 26 * k + i)))) ∧ wr.ownsRow w.heap.size 43 4 v k (zcells (zC z) (zL z) (zH z) (zS z) k) ∧ Below w.heap.size w wr)
  case atStart => exact ⟨0, b0, o0 + 4, cap - 4, by omega, by omega, rfl, by go_num, by have := HC.out; omega, by have := HC.out; omega, by omega, fun i hi => by have := HCELL.out (4 + i) (by omega); rw [show o0 + 4 + i = o0 + (4 + i) by omega]; simpa using this, World.ownsRow_nil _ _ _ _, Below.refl _ _⟩
  case round =>
    obtain ⟨k, b1, o1, c1, hk, hgk, rfl, rfl, hc1, hc2, hle, hcl, ho, hb⟩ := hrel
    have HO := Lib.hid ho
    have HB := Lib.hid hb
    have HCL := Lib.hid hcl
    have HC1 := Lib.hid (And.intro hc1 hc2)
    unfold maxLen at hc2
    clear ho hb hcl HCELL NU
    by_cases hkn : k < zN z
    · have k1 : (k : Int) < zN z := by omega
      have k0 : (0 : Int) ≤ k := by omega
      have k2 : (k : Int) + 1 < 18446744073709551616 := by have := NLT.out; omega
      have k3 : ((k : Int) + 1) % 18446744073709551616 = k + 1 := by omega
      by_cases h26 : 4 + 26 * (k + 1) ≤ nb
      · obtain ⟨c, hcc⟩ : ∃ c, zC z k = c := ⟨_, rfl⟩
        obtain ⟨l, hll⟩ : ∃ c, zL z k = c := ⟨_, rfl⟩
        obtain ⟨h, hhh⟩ : ∃ c, zH z k = c := ⟨_, rfl⟩
        obtain ⟨s, hss⟩ : ∃ c, zS z k = c := ⟨_, rfl⟩
        obtain ⟨M0, hN0⟩ : ∃ N, num (fun i => z (4 + 26 * k + i)) 2 = N := ⟨_, rfl⟩
        obtain ⟨N1, hN1⟩ : ∃ N, num (fun i => z (4 + 26 * k + 2 + i)) 8 = N := ⟨_, rfl⟩
        obtain ⟨N2, hN2⟩ : ∃ N, num (fun i => z (4 + 26 * k + 2 + 8 + i)) 8 = N := ⟨_, rfl⟩
        obtain ⟨N3, hN3⟩ : ∃ N, num (fun i => z (4 + 26 * k + 2 + 8 + 8 + i)) 8 = N := ⟨_, rfl⟩
        have wc : wrap64 (M0 : Int) = c := by
          have := num_lt (fun i => z (4 + 26 * k + i)) 2 (fun i hi => HZ.out _ (by omega))
          have e : (256 : Nat) ^ 2 = 65536 := by decide
          have e2 : ((num (fun i => z (4 + 26 * k + i)) 2 : Nat) : Int) = c := hcc
          unfold wrap64
          omega
        have wl : wrap64 (N1 : Int) = l := by rw [← hN1]; exact hll
        have wh : wrap64 (N2 : Int) = h := by rw [← hN2]; exact hhh
        have ws : wrap64 (N3 : Int) = s := by rw [← hN3]; exact hss
        have NU0 := Lib.hid (fun c W (hb : Below w.heap.size w W) => rnumber3_any (some ⟨b1, o1, none⟩) 2 c (fun i => z (4 + 26 * k + i)) (by omega) (fun i hi => HZ.out _ (by omega)) W (sub_row (o := o1) HCL.out hb 0 2 (by omega) _ (fun i _ => by simp)))
        have NU1 := Lib.hid (fun c W (hb : Below w.heap.size w W) => rnumber3_any (some ⟨b1, o1 + 2, none⟩) 8 c (fun i => z (4 + 26 * k + 2 + i)) (by omega) (fun i hi => HZ.out _ (by omega)) W (sub_row HCL.out hb 2 8 (by omega) _ (fun i _ => rfl)))
        have NU2 := Lib.hid (fun c W (hb : Below w.heap.size w W) => rnumber3_any (some ⟨b1, o1 + 10, none⟩) 8 c (fun i => z (4 + 26 * k + 2 + 8 + i)) (by omega) (fun i hi => HZ.out _ (by omega)) W (sub_row HCL.out hb 10 8 (by omega) _ (fun i _ => rfl)))
        have NU3 := Lib.hid (fun c W (hb : Below w.heap.size w W) => rnumber3_any (some ⟨b1, o1 + 18, none⟩) 8 c (fun i => z (4 + 26 * k + 2 + 8 + 8 + i)) (by omega) (fun i hi => HZ.out _ (by omega)) W (sub_row HCL.out hb 18 8 (by omega) _ (fun i _ => rfl)))
        rw [hN0] at NU0
        rw [hN1] at NU1
        rw [hN2] at NU2
        rw [hN3] at NU3
        have RS := Lib.hid (show zcells (zC z) (zL z) (zH z) (zS z) (k + 1) = zcells (zC z) (zL z) (zH z) (zS z) k ++ (zV c l h s).toList from by rw [← hcc, ← hll, ← hhh, ← hss]; rfl)
        have ZG := Lib.hid (show k < f → zrt c l h s = true from fun hk => by have := (HALL.out k hk).2; rwa [hcc, hll, hhh, hss] at this)
        have ZB := Lib.hid (show k = f → zrt c l h s = false from fun hk => by
          subst hk
          have := HSTOP.out hkn
          cases hzr : zrt c l h s with
          | false => rfl
          | true => exact absurd ⟨h26, by rw [hcc, hll, hhh, hss]; exact hzr⟩ this)
        clear hcc hll hhh hss hN0 hN1 hN2 hN3
        rw [← iwr] at wc wl wh ws
        subst wc wl wh ws
        have s1 : (26 : Int) ≤ ((nb - (4 + 26 * k) : Nat) : Int) := by omega
        have s2 : (26 : Int) ≤ (c1 : Int) := by omega
        have s3 : ¬ ((nb - (4 + 26 * k) : Nat) : Int) < 26 := by omega
        have t2 : (2 : Int) ≤ (c1 : Int) := by omega
        have t10 : (10 : Int) ≤ (c1 : Int) := by omega
        have t18 : (18 : Int) ≤ (c1 : Int) := by omega
        have n2 : ¬ c1 = 2 := by omega
        have n10 : ¬ c1 = 10 := by omega
        have n18 : ¬ c1 = 18 := by omega
        have BD := Lib.hid (show Below w.heap.size w wr.drew from HB.out.drew)
        have BA := Lib.hid (show Below w.heap.size w (wr.drew.alloc (.cells #[.int .i64 0, .int .i64 0, .int .i64 0, .int .i64 0] 43)) from HB.out.drew.alloc HB.out.size _)
        have LZ0 := Lib.hid (show Lies (wr.drew.alloc (.cells #[.int .i64 0, .int .i64 0, .int .i64 0, .int .i64 0] 43)) wr.heap.size 43 #[.int .i64 0, .int .i64 0, .int .i64 0, .int .i64 0] from Lies.new wr.drew 43 _)
        have RI := Lib.hid (right_any (IntKind.i64.wrap M0) (IntKind.i64.wrap N1) (IntKind.i64.wrap N2) (IntKind.i64.wrap N3))
        have LZ7 := Lib.hid (LZ0.out.row #[.int .i64 (IntKind.i64.wrap M0), .int .i64 (IntKind.i64.wrap N1), .int .i64 (IntKind.i64.wrap N2), .int .i64 (IntKind.i64.wrap N3)])
        have HT7 := Lib.hid (show Turned (fun _ => False) wr ((wr.drew.alloc (.cells #[.int .i64 0, .int .i64 0, .int .i64 0, .int .i64 0] 43)).setRow wr.heap.size #[.int .i64 (IntKind.i64.wrap M0), .int .i64 (IntKind.i64.wrap N1), .int .i64 (IntKind.i64.wrap N2), .int .i64 (IntKind.i64.wrap N3)]) from ((Turned.refl _ wr).drew.alloc _).setRow (.inr (Nat.le_refl _)) _)
        go_wp2_with fail
        refine by_end (G := ?G1) ?main1 ?fin1
        case main1 =>
          intro hG
          refine wp_region_held_drew (S := (fun _ : World => True)) (by kernel_rfl) trivial (fun hHeld => ?_)
          refine wpAnyH_take (i := 0) (oi := ?oix2) (v := ?vx2) ?hix2 ?hsx2 ?hfx2 ?hrx2 ?hQx2 ?hyx2 ?hSx2 ?hx2
          case hix2 =>
            simp only [List.getElem?_toArray, List.getElem?_cons_zero]
            rfl
          case hsx2 => kernel_rfl
          case hfx2 => kernel_rfl
          case hrx2 => kernel_rfl
          case hyx2 =>
            refine Or.inl ⟨by rfl, ?_⟩
            intro w hSw
            (try dsimp only at hSw)
            go_simp
            try with_reducible rfl
          case hQx2 => exact fun _ _ _ h => h
          case hSx2 => trivial
          try simp only [Act.put, List.setIfInBounds_toArray, List.set_cons_zero, List.set_cons_succ]
          refine wpAnyH_take (i := 1) (oi := ?oix3) (v := ?vx3) ?hix3 ?hsx3 ?hfx3 ?hrx3 ?hQx3 ?hyx3 ?hSx3 ?hx3
          case hix3 =>
            simp only [List.getElem?_toArray, List.getElem?_cons_succ, List.getElem?_cons_zero]
            rfl
          case hsx3 => kernel_rfl
          case hfx3 => kernel_rfl
          case hrx3 => kernel_rfl
          case hyx3 =>
            refine Or.inl ⟨by rfl, ?_⟩
            intro w hSw
            (try dsimp only at hSw)
            go_simp
            try with_reducible rfl
          case hQx3 => exact fun _ _ _ h => h
          case hSx3 => trivial
          try simp only [Act.put, List.setIfInBounds_toArray, List.set_cons_zero, List.set_cons_succ]
          refine wpAnyH_take (i := 4) (oi := ?oix4) (v := ?vx4) ?hix4 ?hsx4 ?hfx4 ?hrx4 ?hQx4 ?hyx4 ?hSx4 ?hx4
          case hix4 =>
            simp only [List.getElem?_toArray, List.getElem?_cons_succ, List.getElem?_cons_zero]
            rfl
          case hsx4 => kernel_rfl
          case hfx4 => kernel_rfl
          case hrx4 => kernel_rfl
          case hyx4 =>
            refine Or.inl ⟨by rfl, ?_⟩
            intro w hSw
            (try dsimp only at hSw)
            go_simp
            try with_reducible rfl
          case hQx4 => exact fun _ _ _ h => h
          case hSx4 => trivial
          try simp only [Act.put, List.setIfInBounds_toArray, List.set_cons_zero, List.set_cons_succ]
          refine wpAnyH_take (i := 5) (oi := ?oix5) (v := ?vx5) ?hix5 ?hsx5 ?hfx5 ?hrx5 ?hQx5 ?hyx5 ?hSx5 ?hx5
          case hix5 =>
            simp only [List.getElem?_toArray, List.getElem?_cons_succ, List.getElem?_cons_zero]
            rfl
          case hsx5 => kernel_rfl
          case hfx5 => kernel_rfl
          case hrx5 => kernel_rfl
          case hyx5 =>
            refine Or.inl ⟨by rfl, ?_⟩
            intro w hSw
            (try dsimp only at hSw)
            go_simp
            try with_reducible rfl
          case hQx5 => exact fun _ _ _ h => h
          case hSx5 => trivial
          try simp only [Act.put, List.setIfInBounds_toArray, List.set_cons_zero, List.set_cons_succ]
          refine wpAnyH_take (i := 8) (oi := ?oix6) (v := ?vx6) ?hix6 ?hsx6 ?hfx6 ?hrx6 ?hQx6 ?hyx6 ?hSx6 ?hx6
          case hix6 =>
            simp only [List.getElem?_toArray, List.getElem?_cons_succ, List.getElem?_cons_zero]
            rfl
          case hsx6 => kernel_rfl
          case hfx6 => kernel_rfl
          case hrx6 => kernel_rfl
          case hyx6 =>
            refine Or.inl ⟨by rfl, ?_⟩
            intro w hSw
            (try dsimp only at hSw)
            go_simp
            try with_reducible rfl
          case hQx6 => exact fun _ _ _ h => h
          case hSx6 => trivial
          try simp only [Act.put, List.setIfInBounds_toArray, List.set_cons_zero, List.set_cons_succ]
          refine wpAnyH_take (i := 9) (oi := ?oix7) (v := ?vx7) ?hix7 ?hsx7 ?hfx7 ?hrx7 ?hQx7 ?hyx7 ?hSx7 ?hx7
          case hix7 =>
            simp only [List.getElem?_toArray, List.getElem?_cons_succ, List.getElem?_cons_zero]
            rfl
          case hsx7 => kernel_rfl
          case hfx7 => kernel_rfl
          case hrx7 => kernel_rfl
          case hyx7 =>
            refine Or.inl ⟨by rfl, ?_⟩
            intro w hSw
            (try dsimp only at hSw)
            go_simp
            try with_reducible rfl
          case hQx7 => exact fun _ _ _ h => h
          case hSx7 => trivial
          try simp only [Act.put, List.setIfInBounds_toArray, List.set_cons_zero, List.set_cons_succ]
          refine wpAnyH_take (i := 12) (oi := ?oix8) (v := ?vx8) ?hix8 ?hsx8 ?hfx8 ?hrx8 ?hQx8 ?hyx8 ?hSx8 ?hx8
          case hix8 =>
            simp only [List.getElem?_toArray, List.getElem?_cons_succ, List.getElem?_cons_zero]
            rfl
          case hsx8 => kernel_rfl
          case hfx8 => kernel_rfl
          case hrx8 => kernel_rfl
          case hyx8 =>
            refine Or.inl ⟨by rfl, ?_⟩
            intro w hSw
            (try dsimp only at hSw)
            go_simp
            try with_reducible rfl
          case hQx8 => exact fun _ _ _ h => h
          case hSx8 => trivial
          try simp only [Act.put, List.setIfInBounds_toArray, List.set_cons_zero, List.set_cons_succ]
          refine wpAnyH_take (i := 13) (oi := ?oix9) (v := ?vx9) ?hix9 ?hsx9 ?hfx9 ?hrx9 ?hQx9 ?hyx9 ?hSx9 ?hx9
          case hix9 =>
            simp only [List.getElem?_toArray, List.getElem?_cons_succ, List.getElem?_cons_zero]
            rfl
          case hsx9 => kernel_rfl
          case hfx9 => kernel_rfl
          case hrx9 => kernel_rfl
          case hyx9 =>
            refine Or.inl ⟨by rfl, ?_⟩
            intro w hSw
            (try dsimp only at hSw)
            go_simp
            try with_reducible rfl
          case hQx9 => exact fun _ _ _ h => h
          case hSx9 => trivial
          try simp only [Act.put, List.setIfInBounds_toArray, List.set_cons_zero, List.set_cons_succ]
          refine wpAnyH_ready (rs := [2, 17]) (by kernel_rfl) (by simp) ?_
          refine AllReadyH.cons (o := ?ox51) ?ix51 ?kx51 ?mx51
          case ix51 =>
            simp only [List.getElem?_toArray, List.getElem?_cons_succ, List.getElem?_cons_zero]
            rfl
          case' mx51 =>
            refine AllReadyH.cons (o := ?ox52) ?ix52 ?kx52 AllReadyH.nil
            case ix52 =>
              simp only [List.getElem?_toArray, List.getElem?_cons_succ, List.getElem?_cons_zero]
              rfl
            intro K hK
            go_simp
            refine hK.out _ _ trivial (fun hHeld => ?_)
            clear hK K
            try simp only [Act.put, List.setIfInBounds_toArray, List.set_cons_zero, List.set_cons_succ]
            refine wpAnyH_ready (rs := [2]) (by kernel_rfl) (by simp) ?_
            refine AllReadyH.cons (o := ?ox41) ?ix41 ?kx41 AllReadyH.nil
            case ix41 =>
              simp only [List.getElem?_toArray, List.getElem?_cons_succ, List.getElem?_cons_zero]
              rfl
            intro K hK
            go_simp
            go_at_call 66
            refine (NU0.out _ _ (by first | exact BD.out | exact BA.out)).mono ?_
            rintro e w1 ⟨rfl, rfl⟩
            refine hK.out _ _ trivial (fun hHeld => ?_)
            clear hK K
            try simp only [Act.put, List.setIfInBounds_toArray, List.set_cons_zero, List.set_cons_succ]
            refine wpAnyH_take (i := 3) (oi := ?oix42) (v := ?vx42) ?hix42 ?hsx42 ?hfx42 ?hrx42 ?hQx42 ?hyx42 ?hSx42 ?hx42
            case hix42 =>
              simp only [List.getElem?_toArray, List.getElem?_cons_succ, List.getElem?_cons_zero]
              rfl
            case hsx42 => kernel_rfl
            case hfx42 => kernel_rfl
            case hrx42 => kernel_rfl
            case hyx42 =>
              refine Or.inl ⟨by rfl, ?_⟩
              intro w hSw
              (try dsimp only at hSw)
              go_simp
              try with_reducible rfl
            case hQx42 => exact fun _ _ _ h => h
            case hSx42 => trivial
            try simp only [Act.put, List.setIfInBounds_toArray, List.set_cons_zero, List.set_cons_succ]
            refine wpAnyH_ready (rs := [6]) (by kernel_rfl) (by simp) ?_
            refine AllReadyH.cons (o := ?ox43) ?ix43 ?kx43 AllReadyH.nil
            case ix43 =>
              simp only [List.getElem?_toArray, List.getElem?_cons_succ, List.getElem?_cons_zero]
              rfl
            intro K hK
            go_simp
            go_at_call 66
            refine (NU1.out _ _ (by first | exact BD.out | exact BA.out)).mono ?_
            rintro e w1 ⟨rfl, rfl⟩
            refine hK.out _ _ trivial (fun hHeld => ?_)
            clear hK K
            try simp only [Act.put, List.setIfInBounds_toArray, List.set_cons_zero, List.set_cons_succ]
            refine wpAnyH_take (i := 7) (oi := ?oix44) (v := ?vx44) ?hix44 ?hsx44 ?hfx44 ?hrx44 ?hQx44 ?hyx44 ?hSx44 ?hx44
            case hix44 =>
              simp only [List.getElem?_toArray, List.getElem?_cons_succ, List.getElem?_cons_zero]
              rfl
            case hsx44 => kernel_rfl
            case hfx44 => kernel_rfl
            case hrx44 => kernel_rfl
            case hyx44 =>
              refine Or.inl ⟨by rfl, ?_⟩
              intro w hSw
              (try dsimp only at hSw)
              go_simp
              try with_reducible rfl
            case hQx44 => exact fun _ _ _ h => h
            case hSx44 => trivial
            try simp only [Act.put, List.setIfInBounds_toArray, List.set_cons_zero, List.set_cons_succ]
            refine wpAnyH_ready (rs := [10]) (by kernel_rfl) (by simp) ?_
            refine AllReadyH.cons (o := ?ox45) ?ix45 ?kx45 AllReadyH.nil
            case ix45 =>
              simp only [List.getElem?_toArray, List.getElem?_cons_succ, List.getElem?_cons_zero]
              rfl
            intro K hK
            go_simp
            go_at_call 66
            refine (NU2.out _ _ (by first | exact BD.out | exact BA.out)).mono ?_
            rintro e w1 ⟨rfl, rfl⟩
            refine hK.out _ _ trivial (fun hHeld => ?_)
            clear hK K
            try simp only [Act.put, List.setIfInBounds_toArray, List.set_cons_zero, List.set_cons_succ]
            refine wpAnyH_take (i := 11) (oi := ?oix46) (v := ?vx46) ?hix46 ?hsx46 ?hfx46 ?hrx46 ?hQx46 ?hyx46 ?hSx46 ?hx46
            case hix46 =>
              simp only [List.getElem?_toArray, List.getElem?_cons_succ, List.getElem?_cons_zero]
              rfl
            case hsx46 => kernel_rfl
            case hfx46 => kernel_rfl
            case hrx46 => kernel_rfl
            case hyx46 =>
              refine Or.inl ⟨by rfl, ?_⟩
              intro w hSw
              (try dsimp only at hSw)
              go_simp
              try with_reducible rfl
            case hQx46 => exact fun _ _ _ h => h
            case hSx46 => trivial
            try simp only [Act.put, List.setIfInBounds_toArray, List.set_cons_zero, List.set_cons_succ]
            refine wpAnyH_ready (rs := [14]) (by kernel_rfl) (by simp) ?_
            refine AllReadyH.cons (o := ?ox47) ?ix47 ?kx47 AllReadyH.nil
            case ix47 =>
              simp only [List.getElem?_toArray, List.getElem?_cons_succ, List.getElem?_cons_zero]
              rfl
            intro K hK
            go_simp
            go_at_call 66
            refine (NU3.out _ _ (by first | exact BD.out | exact BA.out)).mono ?_
            rintro e w1 ⟨rfl, rfl⟩
            refine hK.out _ _ trivial (fun hHeld => ?_)
            clear hK K
            try simp only [Act.put, List.setIfInBounds_toArray, List.set_cons_zero, List.set_cons_succ]
            refine wpAnyH_take (i := 15) (oi := ?oix48) (v := ?vx48) ?hix48 ?hsx48 ?hfx48 ?hrx48 ?hQx48 ?hyx48 ?hSx48 ?hx48
            case hix48 =>
              simp only [List.getElem?_toArray, List.getElem?_cons_succ, List.getElem?_cons_zero]
              rfl
            case hsx48 => kernel_rfl
            case hfx48 => kernel_rfl
            case hrx48 => kernel_rfl
            case hyx48 =>
              refine Or.inl ⟨by rfl, ?_⟩
              intro w hSw
              (try dsimp only at hSw)
              go_simp
              try with_reducible rfl
            case hQx48 => exact fun _ _ _ h => h
            case hSx48 => trivial
            try simp only [Act.put, List.setIfInBounds_toArray, List.set_cons_zero, List.set_cons_succ]
            refine wpAnyH_take (i := 16) (oi := ?oix49) (v := ?vx49) ?hix49 ?hsx49 ?hfx49 ?hrx49 ?hQx49 ?hyx49 ?hSx49 ?hx49
            case hix49 =>
              simp only [List.getElem?_toArray, List.getElem?_cons_succ, List.getElem?_cons_zero]
              rfl
            case hsx49 => kernel_rfl
            case hfx49 => kernel_rfl
            case hrx49 => kernel_rfl
            case hyx49 =>
              refine Or.inl ⟨by rfl, ?_⟩
              intro w hSw
              (try dsimp only at hSw)
              go_simp
              try with_reducible rfl
            case hQx49 => exact fun _ _ _ h => h
            case hSx49 => trivial
            try simp only [Act.put, List.setIfInBounds_toArray, List.set_cons_zero, List.set_cons_succ]
            refine wpAnyH_ready (rs := [18]) (by kernel_rfl) (by simp) ?_
            refine AllReadyH.cons (o := ?ox50) ?ix50 ?kx50 AllReadyH.nil
            case ix50 =>
              simp only [List.getElem?_toArray, List.getElem?_cons_succ, List.getElem?_cons_zero]
              rfl
            intro K hK
            refine step_wp rfl (wp_store_row 43 (.tmp 7) (.tmp 40) rfl wr.heap.size #[.int .i64 (IntKind.i64.wrap M0), .int .i64 (IntKind.i64.wrap N1), .int .i64 (IntKind.i64.wrap N2), .int .i64 (IntKind.i64.wrap N3)] rfl rfl 43 #[.int .i64 0, .int .i64 0, .int .i64 0, .int .i64 0] LZ0.out rz_info rfl (zV_one _ _ _ _) ?_)
            refine hK.out _ _ trivial (fun hHeld => ?_)
            clear hK K
            try simp only [Act.put, List.setIfInBounds_toArray, List.set_cons_zero, List.set_cons_succ]
            refine wpAnyH_done (by kernel_rfl) ?_ _
            exact hG.out
          case' kx51 =>
            intro K hK
            go_simp
            go_at_call 66
            refine (NU0.out _ _ (by first | exact BD.out | exact BA.out)).mono ?_
            rintro e w1 ⟨rfl, rfl⟩
            refine hK.out _ _ trivial (fun hHeld => ?_)
            clear hK K
            try simp only [Act.put, List.setIfInBounds_toArray, List.set_cons_zero, List.set_cons_succ]
            refine wpAnyH_take (i := 3) (oi := ?oix10) (v := ?vx10) ?hix10 ?hsx10 ?hfx10 ?hrx10 ?hQx10 ?hyx10 ?hSx10 ?hx10
            case hix10 =>
              simp only [List.getElem?_toArray, List.getElem?_cons_succ, List.getElem?_cons_zero]
              rfl
            case hsx10 => kernel_rfl
            case hfx10 => kernel_rfl
            case hrx10 => kernel_rfl
            case hyx10 =>
              refine Or.inl ⟨by rfl, ?_⟩
              intro w hSw
              (try dsimp only at hSw)
              go_simp
              try with_reducible rfl
            case hQx10 => exact fun _ _ _ h => h
            case hSx10 => trivial
            try simp only [Act.put, List.setIfInBounds_toArray, List.set_cons_zero, List.set_cons_succ]
            refine wpAnyH_ready (rs := [6, 17]) (by kernel_rfl) (by simp) ?_
            refine AllReadyH.cons (o := ?ox39) ?ix39 ?kx39 ?mx39
            case ix39 =>
              simp only [List.getElem?_toArray, List.getElem?_cons_succ, List.getElem?_cons_zero]
              rfl
            case' mx39 =>
              refine AllReadyH.cons (o := ?ox40) ?ix40 ?kx40 AllReadyH.nil
              case ix40 =>
                simp only [List.getElem?_toArray, List.getElem?_cons_succ, List.getElem?_cons_zero]
                rfl
              intro K hK
              go_simp
              refine hK.out _ _ trivial (fun hHeld => ?_)
              clear hK K
              try simp only [Act.put, List.setIfInBounds_toArray, List.set_cons_zero, List.set_cons_succ]
              refine wpAnyH_ready (rs := [6]) (by kernel_rfl) (by simp) ?_
              refine AllReadyH.cons (o := ?ox31) ?ix31 ?kx31 AllReadyH.nil
              case ix31 =>
                simp only [List.getElem?_toArray, List.getElem?_cons_succ, List.getElem?_cons_zero]
                rfl
              intro K hK
              go_simp
              go_at_call 66
              refine (NU1.out _ _ (by first | exact BD.out | exact BA.out)).mono ?_
              rintro e w1 ⟨rfl, rfl⟩
              refine hK.out _ _ trivial (fun hHeld => ?_)
              clear hK K
              try simp only [Act.put, List.setIfInBounds_toArray, List.set_cons_zero, List.set_cons_succ]
              refine wpAnyH_take (i := 7) (oi := ?oix32) (v := ?vx32) ?hix32 ?hsx32 ?hfx32 ?hrx32 ?hQx32 ?hyx32 ?hSx32 ?hx32
              case hix32 =>
                simp only [List.getElem?_toArray, List.getElem?_cons_succ, List.getElem?_cons_zero]
                rfl
              case hsx32 => kernel_rfl
              case hfx32 => kernel_rfl
              case hrx32 => kernel_rfl
              case hyx32 =>
                refine Or.inl ⟨by rfl, ?_⟩
                intro w hSw
                (try dsimp only at hSw)
                go_simp
                try with_reducible rfl
              case hQx32 => exact fun _ _ _ h => h
              case hSx32 => trivial
              try simp only [Act.put, List.setIfInBounds_toArray, List.set_cons_zero, List.set_cons_succ]
              refine wpAnyH_ready (rs := [10]) (by kernel_rfl) (by simp) ?_
              refine AllReadyH.cons (o := ?ox33) ?ix33 ?kx33 AllReadyH.nil
              case ix33 =>
                simp only [List.getElem?_toArray, List.getElem?_cons_succ, List.getElem?_cons_zero]
                rfl
              intro K hK
              go_simp
              go_at_call 66
              refine (NU2.out _ _ (by first | exact BD.out | exact BA.out)).mono ?_
              rintro e w1 ⟨rfl, rfl⟩
              refine hK.out _ _ trivial (fun hHeld => ?_)
              clear hK K
              try simp only [Act.put, List.setIfInBounds_toArray, List.set_cons_zero, List.set_cons_succ]
              refine wpAnyH_take (i := 11) (oi := ?oix34) (v := ?vx34) ?hix34 ?hsx34 ?hfx34 ?hrx34 ?hQx34 ?hyx34 ?hSx34 ?hx34
              case hix34 =>
                simp only [List.getElem?_toArray, List.getElem?_cons_succ, List.getElem?_cons_zero]
                rfl
              case hsx34 => kernel_rfl
              case hfx34 => kernel_rfl
              case hrx34 => kernel_rfl
              case hyx34 =>
                refine Or.inl ⟨by rfl, ?_⟩
                intro w hSw
                (try dsimp only at hSw)
                go_simp
                try with_reducible rfl
              case hQx34 => exact fun _ _ _ h => h
              case hSx34 => trivial
              try simp only [Act.put, List.setIfInBounds_toArray, List.set_cons_zero, List.set_cons_succ]
              refine wpAnyH_ready (rs := [14]) (by kernel_rfl) (by simp) ?_
              refine AllReadyH.cons (o := ?ox35) ?ix35 ?kx35 AllReadyH.nil
              case ix35 =>
                simp only [List.getElem?_toArray, List.getElem?_cons_succ, List.getElem?_cons_zero]
                rfl
              intro K hK
              go_simp
              go_at_call 66
              refine (NU3.out _ _ (by first | exact BD.out | exact BA.out)).mono ?_
              rintro e w1 ⟨rfl, rfl⟩
              refine hK.out _ _ trivial (fun hHeld => ?_)
              clear hK K
              try simp only [Act.put, List.setIfInBounds_toArray, List.set_cons_zero, List.set_cons_succ]
              refine wpAnyH_take (i := 15) (oi := ?oix36) (v := ?vx36) ?hix36 ?hsx36 ?hfx36 ?hrx36 ?hQx36 ?hyx36 ?hSx36 ?hx36
              case hix36 =>
                simp only [List.getElem?_toArray, List.getElem?_cons_succ, List.getElem?_cons_zero]
                rfl
              case hsx36 => kernel_rfl
              case hfx36 => kernel_rfl
              case hrx36 => kernel_rfl
              case hyx36 =>
                refine Or.inl ⟨by rfl, ?_⟩
                intro w hSw
                (try dsimp only at hSw)
                go_simp
                try with_reducible rfl
              case hQx36 => exact fun _ _ _ h => h
              case hSx36 => trivial
              try simp only [Act.put, List.setIfInBounds_toArray, List.set_cons_zero, List.set_cons_succ]
              refine wpAnyH_take (i := 16) (oi := ?oix37) (v := ?vx37) ?hix37 ?hsx37 ?hfx37 ?hrx37 ?hQx37 ?hyx37 ?hSx37 ?hx37
              case hix37 =>
                simp only [List.getElem?_toArray, List.getElem?_cons_succ, List.getElem?_cons_zero]
                rfl
              case hsx37 => kernel_rfl
              case hfx37 => kernel_rfl
              case hrx37 => kernel_rfl
              case hyx37 =>
                refine Or.inl ⟨by rfl, ?_⟩
                intro w hSw
                (try dsimp only at hSw)
                go_simp
                try with_reducible rfl
              case hQx37 => exact fun _ _ _ h => h
              case hSx37 => trivial
              try simp only [Act.put, List.setIfInBounds_toArray, List.set_cons_zero, List.set_cons_succ]
              refine wpAnyH_ready (rs := [18]) (by kernel_rfl) (by simp) ?_
              refine AllReadyH.cons (o := ?ox38) ?ix38 ?kx38 AllReadyH.nil
              case ix38 =>
                simp only [List.getElem?_toArray, List.getElem?_cons_succ, List.getElem?_cons_zero]
                rfl
              intro K hK
              refine step_wp rfl (wp_store_row 43 (.tmp 7) (.tmp 40) rfl wr.heap.size #[.int .i64 (IntKind.i64.wrap M0), .int .i64 (IntKind.i64.wrap N1), .int .i64 (IntKind.i64.wrap N2), .int .i64 (IntKind.i64.wrap N3)] rfl rfl 43 #[.int .i64 0, .int .i64 0, .int .i64 0, .int .i64 0] LZ0.out rz_info rfl (zV_one _ _ _ _) ?_)
              refine hK.out _ _ trivial (fun hHeld => ?_)
              clear hK K
              try simp only [Act.put, List.setIfInBounds_toArray, List.set_cons_zero, List.set_cons_succ]
              refine wpAnyH_done (by kernel_rfl) ?_ _
              exact hG.out
            case' kx39 =>
              intro K hK
              go_simp
              go_at_call 66
              refine (NU1.out _ _ (by first | exact BD.out | exact BA.out)).mono ?_
              rintro e w1 ⟨rfl, rfl⟩
              refine hK.out _ _ trivial (fun hHeld => ?_)
              clear hK K
              try simp only [Act.put, List.setIfInBounds_toArray, List.set_cons_zero, List.set_cons_succ]
              refine wpAnyH_take (i := 7) (oi := ?oix11) (v := ?vx11) ?hix11 ?hsx11 ?hfx11 ?hrx11 ?hQx11 ?hyx11 ?hSx11 ?hx11
              case hix11 =>
                simp only [List.getElem?_toArray, List.getElem?_cons_succ, List.getElem?_cons_zero]
                rfl
              case hsx11 => kernel_rfl
              case hfx11 => kernel_rfl
              case hrx11 => kernel_rfl
              case hyx11 =>
                refine Or.inl ⟨by rfl, ?_⟩
                intro w hSw
                (try dsimp only at hSw)
                go_simp
                try with_reducible rfl
              case hQx11 => exact fun _ _ _ h => h
              case hSx11 => trivial
              try simp only [Act.put, List.setIfInBounds_toArray, List.set_cons_zero, List.set_cons_succ]
              refine wpAnyH_ready (rs := [10, 17]) (by kernel_rfl) (by simp) ?_
              refine AllReadyH.cons (o := ?ox29) ?ix29 ?kx29 ?mx29
              case ix29 =>
                simp only [List.getElem?_toArray, List.getElem?_cons_succ, List.getElem?_cons_zero]
                rfl
              case' mx29 =>
                refine AllReadyH.cons (o := ?ox30) ?ix30 ?kx30 AllReadyH.nil
                case ix30 =>
                  simp only [List.getElem?_toArray, List.getElem?_cons_succ, List.getElem?_cons_zero]
                  rfl
                intro K hK
                go_simp
                refine hK.out _ _ trivial (fun hHeld => ?_)
                clear hK K
                try simp only [Act.put, List.setIfInBounds_toArray, List.set_cons_zero, List.set_cons_succ]
                refine wpAnyH_ready (rs := [10]) (by kernel_rfl) (by simp) ?_
                refine AllReadyH.cons (o := ?ox23) ?ix23 ?kx23 AllReadyH.nil
                case ix23 =>
                  simp only [List.getElem?_toArray, List.getElem?_cons_succ, List.getElem?_cons_zero]
                  rfl
                intro K hK
                go_simp
                go_at_call 66
                refine (NU2.out _ _ (by first | exact BD.out | exact BA.out)).mono ?_
                rintro e w1 ⟨rfl, rfl⟩
                refine hK.out _ _ trivial (fun hHeld => ?_)
                clear hK K
                try simp only [Act.put, List.setIfInBounds_toArray, List.set_cons_zero, List.set_cons_succ]
                refine wpAnyH_take (i := 11) (oi := ?oix24) (v := ?vx24) ?hix24 ?hsx24 ?hfx24 ?hrx24 ?hQx24 ?hyx24 ?hSx24 ?hx24
                case hix24 =>
                  simp only [List.getElem?_toArray, List.getElem?_cons_succ, List.getElem?_cons_zero]
                  rfl
                case hsx24 => kernel_rfl
                case hfx24 => kernel_rfl
                case hrx24 => kernel_rfl
                case hyx24 =>
                  refine Or.inl ⟨by rfl, ?_⟩
                  intro w hSw
                  (try dsimp only at hSw)
                  go_simp
                  try with_reducible rfl
                case hQx24 => exact fun _ _ _ h => h
                case hSx24 => trivial
                try simp only [Act.put, List.setIfInBounds_toArray, List.set_cons_zero, List.set_cons_succ]
                refine wpAnyH_ready (rs := [14]) (by kernel_rfl) (by simp) ?_
                refine AllReadyH.cons (o := ?ox25) ?ix25 ?kx25 AllReadyH.nil
                case ix25 =>
                  simp only [List.getElem?_toArray, List.getElem?_cons_succ, List.getElem?_cons_zero]
                  rfl
                intro K hK
                go_simp
                go_at_call 66
                refine (NU3.out _ _ (by first | exact BD.out | exact BA.out)).mono ?_
                rintro e w1 ⟨rfl, rfl⟩
                refine hK.out _ _ trivial (fun hHeld => ?_)
                clear hK K
                try simp only [Act.put, List.setIfInBounds_toArray, List.set_cons_zero, List.set_cons_succ]
                refine wpAnyH_take (i := 15) (oi := ?oix26) (v := ?vx26) ?hix26 ?hsx26 ?hfx26 ?hrx26 ?hQx26 ?hyx26 ?hSx26 ?hx26
                case hix26 =>
                  simp only [List.getElem?_toArray, List.getElem?_cons_succ, List.getElem?_cons_zero]
                  rfl
                case hsx26 => kernel_rfl
                case hfx26 => kernel_rfl
                case hrx26 => kernel_rfl
                case hyx26 =>
                  refine Or.inl ⟨by rfl, ?_⟩
                  intro w hSw
                  (try dsimp only at hSw)
                  go_simp
                  try with_reducible rfl
                case hQx26 => exact fun _ _ _ h => h
                case hSx26 => trivial
                try simp only [Act.put, List.setIfInBounds_toArray, List.set_cons_zero, List.set_cons_succ]
                refine wpAnyH_take (i := 16) (oi := ?oix27) (v := ?vx27) ?hix27 ?hsx27 ?hfx27 ?hrx27 ?hQx27 ?hyx27 ?hSx27 ?hx27
                case hix27 =>
                  simp only [List.getElem?_toArray, List.getElem?_cons_succ, List.getElem?_cons_zero]
                  rfl
                case hsx27 => kernel_rfl
                case hfx27 => kernel_rfl
                case hrx27 => kernel_rfl
                case hyx27 =>
                  refine Or.inl ⟨by rfl, ?_⟩
                  intro w hSw
                  (try dsimp only at hSw)
                  go_simp
                  try with_reducible rfl
                case hQx27 => exact fun _ _ _ h => h
                case hSx27 => trivial
                try simp only [Act.put, List.setIfInBounds_toArray, List.set_cons_zero, List.set_cons_succ]
                refine wpAnyH_ready (rs := [18]) (by kernel_rfl) (by simp) ?_
                refine AllReadyH.cons (o := ?ox28) ?ix28 ?kx28 AllReadyH.nil
                case ix28 =>
                  simp only [List.getElem?_toArray, List.getElem?_cons_succ, List.getElem?_cons_zero]
                  rfl
                intro K hK
                refine step_wp rfl (wp_store_row 43 (.tmp 7) (.tmp 40) rfl wr.heap.size #[.int .i64 (IntKind.i64.wrap M0), .int .i64 (IntKind.i64.wrap N1), .int .i64 (IntKind.i64.wrap N2), .int .i64 (IntKind.i64.wrap N3)] rfl rfl 43 #[.int .i64 0, .int .i64 0, .int .i64 0, .int .i64 0] LZ0.out rz_info rfl (zV_one _ _ _ _) ?_)
                refine hK.out _ _ trivial (fun hHeld => ?_)
                clear hK K
                try simp only [Act.put, List.setIfInBounds_toArray, List.set_cons_zero, List.set_cons_succ]
                refine wpAnyH_done (by kernel_rfl) ?_ _
                exact hG.out
              case' kx29 =>
                intro K hK
                go_simp
                go_at_call 66
                refine (NU2.out _ _ (by first | exact BD.out | exact BA.out)).mono ?_
                rintro e w1 ⟨rfl, rfl⟩
                refine hK.out _ _ trivial (fun hHeld => ?_)
                clear hK K
                try simp only [Act.put, List.setIfInBounds_toArray, List.set_cons_zero, List.set_cons_succ]
                refine wpAnyH_take (i := 11) (oi := ?oix12) (v := ?vx12) ?hix12 ?hsx12 ?hfx12 ?hrx12 ?hQx12 ?hyx12 ?hSx12 ?hx12
                case hix12 =>
                  simp only [List.getElem?_toArray, List.getElem?_cons_succ, List.getElem?_cons_zero]
                  rfl
                case hsx12 => kernel_rfl
                case hfx12 => kernel_rfl
                case hrx12 => kernel_rfl
                case hyx12 =>
                  refine Or.inl ⟨by rfl, ?_⟩
                  intro w hSw
                  (try dsimp only at hSw)
                  go_simp
                  try with_reducible rfl
                case hQx12 => exact fun _ _ _ h => h
                case hSx12 => trivial
                try simp only [Act.put, List.setIfInBounds_toArray, List.set_cons_zero, List.set_cons_succ]
                refine wpAnyH_ready (rs := [14, 17]) (by kernel_rfl) (by simp) ?_
                refine AllReadyH.cons (o := ?ox21) ?ix21 ?kx21 ?mx21
                case ix21 =>
                  simp only [List.getElem?_toArray, List.getElem?_cons_succ, List.getElem?_cons_zero]
                  rfl
                case' mx21 =>
                  refine AllReadyH.cons (o := ?ox22) ?ix22 ?kx22 AllReadyH.nil
                  case ix22 =>
                    simp only [List.getElem?_toArray, List.getElem?_cons_succ, List.getElem?_cons_zero]
                    rfl
                  intro K hK
                  go_simp
                  refine hK.out _ _ trivial (fun hHeld => ?_)
                  clear hK K
                  try simp only [Act.put, List.setIfInBounds_toArray, List.set_cons_zero, List.set_cons_succ]
                  refine wpAnyH_ready (rs := [14]) (by kernel_rfl) (by simp) ?_
                  refine AllReadyH.cons (o := ?ox17) ?ix17 ?kx17 AllReadyH.nil
                  case ix17 =>
                    simp only [List.getElem?_toArray, List.getElem?_cons_succ, List.getElem?_cons_zero]
                    rfl
                  intro K hK
                  go_simp
                  go_at_call 66
                  refine (NU3.out _ _ (by first | exact BD.out | exact BA.out)).mono ?_
                  rintro e w1 ⟨rfl, rfl⟩
                  refine hK.out _ _ trivial (fun hHeld => ?_)
                  clear hK K
                  try simp only [Act.put, List.setIfInBounds_toArray, List.set_cons_zero, List.set_cons_succ]
                  refine wpAnyH_take (i := 15) (oi := ?oix18) (v := ?vx18) ?hix18 ?hsx18 ?hfx18 ?hrx18 ?hQx18 ?hyx18 ?hSx18 ?hx18
                  case hix18 =>
                    simp only [List.getElem?_toArray, List.getElem?_cons_succ, List.getElem?_cons_zero]
                    rfl
                  case hsx18 => kernel_rfl
                  case hfx18 => kernel_rfl
                  case hrx18 => kernel_rfl
                  case hyx18 =>
                    refine Or.inl ⟨by rfl, ?_⟩
                    intro w hSw
                    (try dsimp only at hSw)
                    go_simp
                    try with_reducible rfl
                  case hQx18 => exact fun _ _ _ h => h
                  case hSx18 => trivial
                  try simp only [Act.put, List.setIfInBounds_toArray, List.set_cons_zero, List.set_cons_succ]
                  refine wpAnyH_take (i := 16) (oi := ?oix19) (v := ?vx19) ?hix19 ?hsx19 ?hfx19 ?hrx19 ?hQx19 ?hyx19 ?hSx19 ?hx19
                  case hix19 =>
                    simp only [List.getElem?_toArray, List.getElem?_cons_succ, List.getElem?_cons_zero]
                    rfl
                  case hsx19 => kernel_rfl
                  case hfx19 => kernel_rfl
                  case hrx19 => kernel_rfl
                  case hyx19 =>
                    refine Or.inl ⟨by rfl, ?_⟩
                    intro w hSw
                    (try dsimp only at hSw)
                    go_simp
                    try with_reducible rfl
                  case hQx19 => exact fun _ _ _ h => h
                  case hSx19 => trivial
                  try simp only [Act.put, List.setIfInBounds_toArray, List.set_cons_zero, List.set_cons_succ]
                  refine wpAnyH_ready (rs := [18]) (by kernel_rfl) (by simp) ?_
                  refine AllReadyH.cons (o := ?ox20) ?ix20 ?kx20 AllReadyH.nil
                  case ix20 =>
                    simp only [List.getElem?_toArray, List.getElem?_cons_succ, List.getElem?_cons_zero]
                    rfl
                  intro K hK
                  refine step_wp rfl (wp_store_row 43 (.tmp 7) (.tmp 40) rfl wr.heap.size #[.int .i64 (IntKind.i64.wrap M0), .int .i64 (IntKind.i64.wrap N1), .int .i64 (IntKind.i64.wrap N2), .int .i64 (IntKind.i64.wrap N3)] rfl rfl 43 #[.int .i64 0, .int .i64 0, .int .i64 0, .int .i64 0] LZ0.out rz_info rfl (zV_one _ _ _ _) ?_)
                  refine hK.out _ _ trivial (fun hHeld => ?_)
                  clear hK K
                  try simp only [Act.put, List.setIfInBounds_toArray, List.set_cons_zero, List.set_cons_succ]
                  refine wpAnyH_done (by kernel_rfl) ?_ _
                  exact hG.out
                case' kx21 =>
                  intro K hK
                  go_simp
                  go_at_call 66
                  refine (NU3.out _ _ (by first | exact BD.out | exact BA.out)).mono ?_
                  rintro e w1 ⟨rfl, rfl⟩
                  refine hK.out _ _ trivial (fun hHeld => ?_)
                  clear hK K
                  try simp only [Act.put, List.setIfInBounds_toArray, List.set_cons_zero, List.set_cons_succ]
                  refine wpAnyH_take (i := 15) (oi := ?oix13) (v := ?vx13) ?hix13 ?hsx13 ?hfx13 ?hrx13 ?hQx13 ?hyx13 ?hSx13 ?hx13
                  case hix13 =>
                    simp only [List.getElem?_toArray, List.getElem?_cons_succ, List.getElem?_cons_zero]
                    rfl
                  case hsx13 => kernel_rfl
                  case hfx13 => kernel_rfl
                  case hrx13 => kernel_rfl
                  case hyx13 =>
                    refine Or.inl ⟨by rfl, ?_⟩
                    intro w hSw
                    (try dsimp only at hSw)
                    go_simp
                    try with_reducible rfl
                  case hQx13 => exact fun _ _ _ h => h
                  case hSx13 => trivial
                  try simp only [Act.put, List.setIfInBounds_toArray, List.set_cons_zero, List.set_cons_succ]
                  refine wpAnyH_take (i := 16) (oi := ?oix14) (v := ?vx14) ?hix14 ?hsx14 ?hfx14 ?hrx14 ?hQx14 ?hyx14 ?hSx14 ?hx14
                  case hix14 =>
                    simp only [List.getElem?_toArray, List.getElem?_cons_succ, List.getElem?_cons_zero]
                    rfl
                  case hsx14 => kernel_rfl
                  case hfx14 => kernel_rfl
                  case hrx14 => kernel_rfl
                  case hyx14 =>
                    refine Or.inl ⟨by rfl, ?_⟩
                    intro w hSw
                    (try dsimp only at hSw)
                    go_simp
                    try with_reducible rfl
                  case hQx14 => exact fun _ _ _ h => h
                  case hSx14 => trivial
                  try simp only [Act.put, List.setIfInBounds_toArray, List.set_cons_zero, List.set_cons_succ]
                  refine wpAnyH_ready (rs := [17]) (by kernel_rfl) (by simp) ?_
                  refine AllReadyH.cons (o := ?ox15) ?ix15 ?kx15 AllReadyH.nil
                  case ix15 =>
                    simp only [List.getElem?_toArray, List.getElem?_cons_succ, List.getElem?_cons_zero]
                    rfl
                  intro K hK
                  go_simp
                  refine hK.out _ _ trivial (fun hHeld => ?_)
                  clear hK K
                  try simp only [Act.put, List.setIfInBounds_toArray, List.set_cons_zero, List.set_cons_succ]
                  refine wpAnyH_ready (rs := [18]) (by kernel_rfl) (by simp) ?_
                  refine AllReadyH.cons (o := ?ox16) ?ix16 ?kx16 AllReadyH.nil
                  case ix16 =>
                    simp only [List.getElem?_toArray, List.getElem?_cons_succ, List.getElem?_cons_zero]
                    rfl
                  intro K hK
                  refine step_wp rfl (wp_store_row 43 (.tmp 7) (.tmp 40) rfl wr.heap.size #[.int .i64 (IntKind.i64.wrap M0), .int .i64 (IntKind.i64.wrap N1), .int .i64 (IntKind.i64.wrap N2), .int .i64 (IntKind.i64.wrap N3)] rfl rfl 43 #[.int .i64 0, .int .i64 0, .int .i64 0, .int .i64 0] LZ0.out rz_info rfl (zV_one _ _ _ _) ?_)
                  refine hK.out _ _ trivial (fun hHeld => ?_)
                  clear hK K
                  try simp only [Act.put, List.setIfInBounds_toArray, List.set_cons_zero, List.set_cons_succ]
                  refine wpAnyH_done (by kernel_rfl) ?_ _
                  exact hG.out
        case fin1 =>
          change Exit.then _ _ _ _ ((wr.drew.alloc (.cells #[.int .i64 0, .int .i64 0, .int .i64 0, .int .i64 0] 43)).setRow wr.heap.size #[.int .i64 (IntKind.i64.wrap M0), .int .i64 (IntKind.i64.wrap N1), .int .i64 (IntKind.i64.wrap N2), .int .i64 (IntKind.i64.wrap N3)])
          clear NU0 NU1 NU2 NU3 BD BA LZ0
          generalize (wr.drew.alloc (.cells #[.int .i64 0, .int .i64 0, .int .i64 0, .int .i64 0] 43)).setRow wr.heap.size #[.int .i64 (IntKind.i64.wrap M0), .int .i64 (IntKind.i64.wrap N1), .int .i64 (IntKind.i64.wrap N2), .int .i64 (IntKind.i64.wrap N3)] = w7 at *
          generalize IntKind.i64.wrap M0 = c at *
          generalize IntKind.i64.wrap N1 = l at *
          generalize IntKind.i64.wrap N2 = h at *
          generalize IntKind.i64.wrap N3 = s at *
          have HB7 := Lib.hid (show Below w.heap.size w w7 from HB.out.trans (HT7.out.below fun i hi => ⟨by have := HB.out.size; omega, fun h => h⟩))
          have HO7 := Lib.hid (owns_turned HO.out HT7.out (fun _ _ h => h))
          have c0 := LZ7.out.cell 0
          have c1' := LZ7.out.cell 1
          have c2' := LZ7.out.cell 2
          have c3' := LZ7.out.cell 3
          by_cases hkf : k < f
          · rw [ZG.out hkf] at RI
            clear s1 t2 t10 t18 n2 n10 n18
            go_wp2_with fail
            refine (RI.out _).mono ?_
            rintro e w6 ⟨rfl, hb6⟩
            have lz6 := LZ7.out.below hb6 LZ7.out.lt
            have hb76 : Below w.heap.size w w6 := HB7.out.trans (hb6.mono HB7.out.size)
            have ho6 := owns_turned HO7.out (Turned.of_below (S := fun i => w7.heap.size ≤ i) hb6 (fun i hi _ => hi)) (fun i hi hs => by have := HO7.out.lt i hi; omega)
            obtain ⟨v2, w8, hrun, ho8, hg8, _, _⟩ := run_append_own_at (P := Try.prog) (w6.alloc (.cells (zV c l h s) 43)) w.heap.size 22 22 43 i0 (.agg #[.int .i64 0, .int .i64 0, .int .i64 0, .int .i64 0]) 4 32 Try.underlying22 hi hz0 hz1 hz2 rfl (by decide) _ k _ (World.ownsRow.alloc ho6 _) ⟨w6.heap.size, 0, none⟩ 1 1 (zV c l h s).toList rfl (fun j u hj => by
                  have h := (Lies.new w6 43 (zV c l h s)).cell j
                  have hadd : (⟨w6.heap.size, 0, none⟩ : Addr).add j = ⟨w6.heap.size, j, none⟩ := by unfold Addr.add; split <;> simp_all
                  rw [hadd]
                  exact h.trans (by simpa using hj)) (by simp [zV, Value.oneCell']) (by unfold maxLen; omega) (by omega) (by have := hb76.size; simp; omega)
            have hb8 : Below w.heap.size w w8 := ((hb76.alloc hb76.size _).grown hg8 (by have := hb76.size; simp; omega) (fun j hj => (ho6.lt j hj).1))
            rw [← RS.out] at ho8
            have c0 := lz6.cell 0
            have c1' := lz6.cell 1
            have c2' := lz6.cell 2
            have c3' := lz6.cell 3
            have HB8 := Lib.hid hb8
            have HO8 := Lib.hid ho8
            have HRUN := Lib.hid (show (Builtin.append_ #[22, 22] 22 #[_, .slice (some ⟨w6.heap.size, 0, none⟩) 1 1]).run Try.prog (w6.alloc (.cells #[.int .i64 c, .int .i64 l, .int .i64 h, .int .i64 s] 43)) = .ok v2 w8 from hrun)
            clear lz6 hb76 ho6 hrun ho8 hg8 hb8 hb6
            by_cases hcc : c1 = 26
            · subst hcc
              clear s2
              go_wp2_with (at_builtin; go_must (refine wpList_append_ran _ _ rfl _ _ 22 rfl _ _ _ rfl rfl HRUN.out ?_))
              go_roundg (zN z - (k + 1))
              case measure => omega
              case rel =>
                refine ⟨k + 1, b1, o1, 0, by omega, rfl, by go_num, by rw [show nb - (4 + 26 * (k + 1)) = 0 by have := HC1.out; omega], by have := HC1.out; omega, by have := HC1.out; omega, by omega, fun i hi => ?_, HO8.out, HB8.out⟩
                have h := HCL.out (26 + i) (by omega)
                have e1 : o1 + i = o1 + (26 + i) := by have := HC1.out; omega
                have e2 : 4 + 26 * (k + 1) + i = 4 + 26 * k + (26 + i) := by omega
                rw [e1, e2]
                exact h
            · go_wp2_with (at_builtin; go_must (refine wpList_append_ran _ _ rfl _ _ 22 rfl _ _ _ rfl rfl HRUN.out ?_))
              go_roundg (zN z - (k + 1))
              case measure => omega
              case rel =>
                refine ⟨k + 1, b1, o1 + 26, c1 - 26, by omega, rfl, by go_num, by rw [show nb - (4 + 26 * (k + 1)) = nb - (4 + 26 * k) - 26 by omega], by have := HC1.out; omega, by have := HC1.out; omega, by omega, fun i hi => ?_, HO8.out, HB8.out⟩
                have h := HCL.out (26 + i) (by omega)
                have e1 : o1 + 26 + i = o1 + (26 + i) := by omega
                have e2 : 4 + 26 * (k + 1) + i = 4 + 26 * k + (26 + i) := by omega
                rw [e1, e2]
                exact h
          · obtain rfl : k = f := by omega
            rw [ZB.out rfl] at RI
            obtain rfl : 4 = er := by
              have := HE.out
              unfold zerr at this
              rw [if_neg h4, if_pos hkn, if_neg (by omega)] at this
              exact this
            obtain rfl : 0 = mn := HM.out
            go_wp2_with (go_at_call 58; refine (RI.out _).mono ?_; rintro e w6 ⟨rfl, hb6⟩; have HB6 := Lib.hid (HB7.out.trans (hb6.mono HB7.out.size)); clear hb6)
            go_ret2
            exact ⟨HB6.out, none, 0, rfl, .inl rfl⟩
      · have hkf : k = f := by
          by_cases e : k < f
          · exact absurd (HALL.out k e).1 h26
          · omega
        subst hkf
        obtain rfl : 1 = er := by
          have := HE.out
          unfold zerr at this
          rw [if_neg h4, if_pos hkn, if_pos (by omega)] at this
          exact this
        obtain rfl : 0 = mn := HM.out
        have s3 : ((nb - (4 + 26 * k) : Nat) : Int) < 26 := by omega
        go_wp2
        go_ret2
        exact ⟨HB.out, none, 0, rfl, .inl rfl⟩
    · obtain rfl : k = zN z := by omega
      obtain rfl : f = zN z := by omega
      by_cases hl : 4 + 26 * zN z < nb
      · obtain rfl : 2 = er := by
          have := HE.out
          unfold zerr at this
          rw [if_neg h4, if_neg (by omega), if_pos hl] at this
          exact this
        obtain rfl : 0 = mn := HM.out
        have s3 : (0 : Int) < ((nb - (4 + 26 * zN z) : Nat) : Int) := by omega
        go_wp2
        go_ret2
        exact ⟨HB.out, none, 0, rfl, .inl rfl⟩
      · obtain rfl : 0 = er := by
          have := HE.out
          unfold zerr at this
          rw [if_neg h4, if_neg (by omega), if_neg hl] at this
          exact this
        obtain rfl : zN z = mn := HM.out
        have s3 : ¬ (0 : Int) < ((nb - (4 + 26 * zN z) : Nat) : Int) := by omega
        obtain ⟨a5, c5, rfl, hz5⟩ := rzones_own HO.out
        have HZ5 := Lib.hid hz5
        clear hz5
        go_wp2
        go_ret2
        exact ⟨HB.out, a5, ⟨c5, rfl⟩, HZ5.out⟩
end Go.Proofs.Ytgclhblglohjpaa
