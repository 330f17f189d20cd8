/-
  THE STATEMENT corduroylaw04.VarintBack: for every number and any two rows of bytes the call returns true and leaves its arguments as they were. No condition.
-/
import Derived.Test.YthfepljblofgfaaVarAwake
import Derived.Test.YthfepljblofgfaaIsRow
import Derived.Test.YthfepljblofgfaaVarBackArith
import Derived.Test.YthfepljblofgfaaVarAppend
import Derived.Deep.RegionHeldLaw
import Derived.Laws.BytesArg
namespace Go.Proofs.Ythfepljblofgfaa.varintBack
open Go.ChangeShapes Go.WideShapes Go.ChangeAt Go.RowKit
set_option linter.unusedVariables false

theorem last_of (z : Nat → Int) : ∀ len, ∃ f, IsLast z len f := by
  intro len
  induction len with
  | zero => exact ⟨0, Nat.le_refl _, fun i hi => by omega, fun h => by omega⟩
  | succ n ih =>
    obtain ⟨k, h1, h2, h3⟩ := ih
    by_cases hk : k < n
    · exact ⟨k, by omega, h2, fun _ => h3 hk⟩
    · obtain rfl : k = n := by omega
      by_cases hz : z k < 128
      · exact ⟨k, by omega, h2, fun _ => hz⟩
      · exact ⟨k + 1, Nat.le_refl _, fun i hi => by
          by_cases e : i = k
          · rw [e]; exact hz
          · exact h2 i (by omega), fun h => by omega⟩
/-- What is told of a number's short bytes, with anything behind them. -/
theorem got_digs (v m len : Nat) (z : Nat → Int) (hv : v < 18446744073709551616) (hm : m ≤ 9) (hml : m < len) (h3 : ∀ i, i < m → 128 ≤ z i) (h4 : 0 ≤ z m) (h5 : z m < 128) (h6 : 0 < m → z m ≠ 0) (h7 : vals z (m + 1) = v) :
    IsLast z (min len 10) m ∧ got z len m = ((v : Int), ((m + 1 : Nat) : Int), (0 : Int)) := by
  refine ⟨⟨by omega, fun i hi => by have := h3 i hi; omega, fun _ => h5⟩, ?_⟩
  unfold got
  rw [if_neg (by omega), if_neg ?_, if_neg ?_, h7]
  · rintro ⟨h, h8⟩; exact h6 h h8
  · rintro ⟨rfl, h8⟩
    obtain ⟨n, hn, _⟩ := vals_bd z 9
    have p2 : (128 : Int) ^ 9 = 9223372036854775808 := by decide
    simp only [vals] at h7 hn
    omega
theorem back_core (a1 : Option Addr) (b1 off1 len1 cap1 : Nat) (z1 : Nat → Int) (a2 : Option Addr) (b2 off2 len2 cap2 f2 : Nat) (z2 : Nat → Int) (v : Nat) (hv : v < 18446744073709551616) (w : World) (h1 : ¬ (100 : Int) < len1) (h2 : ¬ (100 : Int) < len2)
    (ha1 : len1 = 0 ∨ a1 = some ⟨b1, off1, none⟩) (hz1 : ∀ W, Below w.heap.size w W → BytesAt W b1 off1 len1 z1) (hB1 : ∀ i, 0 ≤ z1 i ∧ z1 i ≤ 255)
    (Y N E : Int) (G2 : ∀ W, Below w.heap.size w W → Calls Try.prog 35 #[.slice a2 len2 cap2] W fun e w' => e = .returned (.tuple #[.int .u64 Y, .int .i64 N, .int .i64 E]) ∧ W = w') (hE : (E == 0) = false) (hY : Y = 0) (hN : N = 0) :
    Calls Try.prog 9 #[.int .u64 v, .slice a1 len1 cap1, .slice a2 len2 cap2] w fun e w' => e = .returned (.bool true) ∧ Below w.heap.size w w' := by
  subst hY
  subst hN
  obtain ⟨m, d1, d2, d3, d4, d5, d6, d7⟩ := digs_told 9 v (by have : (128 : Nat) ^ 10 = 1180591620717411303424 := by decide
                                                              omega)
  have hG : IsLast (fun i => (digs 9 v ++ rowOf z1 len1).getD i 0) (min (m + len1 + 1) 10) m ∧ got (fun i => (digs 9 v ++ rowOf z1 len1).getD i 0) (m + len1 + 1) m = ((v : Int), ((m + 1 : Nat) : Int), (0 : Int)) := by
    have e : ∀ i, i < m + 1 → (digs 9 v ++ rowOf z1 len1).getD i 0 = (digs 9 v).getD i 0 := fun i hi => by
      simp only [List.getD_eq_getElem?_getD]
      rw [List.getElem?_append_left (by omega)]
    refine got_digs v m _ _ hv d2 (by omega) (fun i hi => by rw [e i (by omega)]; exact (d3 i hi).1) (by rw [e m (by omega)]; exact d4) (by rw [e m (by omega)]; exact d5) (by rw [e m (by omega)]; exact d6) ?_
    rw [← d7]
    exact vals_congr _ _ _ (fun i hi => e i hi)
  have hBB : ∀ i, 0 ≤ (digs 9 v ++ rowOf z1 len1).getD i 0 ∧ (digs 9 v ++ rowOf z1 len1).getD i 0 ≤ 255 := by
    intro i
    simp only [List.getD_eq_getElem?_getD]
    rcases Nat.lt_or_ge i (m + 1) with h | h
    · rw [List.getElem?_append_left (by omega), ← List.getD_eq_getElem?_getD]
      rcases Nat.lt_or_ge i m with h' | h'
      · have := d3 i h'; omega
      · obtain rfl : i = m := by omega
        omega
    · rw [List.getElem?_append_right (by omega)]
      rcases Nat.lt_or_ge (i - (digs 9 v).length) len1 with h' | h'
      · simp [rowOf, h']; exact hB1 _
      · rw [List.getElem?_eq_none (by simpa [rowOf] using h')]; simp
  have SZ := size_any v (by omega) (by omega)
  rw [Int.toNat_natCast, d1] at SZ
  have SZ := Lib.hid SZ
  have P0 := Lib.hid (put_none v hv w)
  have HD1 := Lib.hid d1
  have HG := Lib.hid hG
  have HBB := Lib.hid hBB
  have HZ1 := Lib.hid hz1
  have HG2 := Lib.hid G2
  have HA1 := Lib.hid ha1
  clear d1 d3 d4 d5 d6 d7 hG hBB hz1 G2 ha1 hB1
  generalize hds : digs 9 v = ds at *
  clear hds
  go_enter Try.func9, Try.ntmps9
  go_wp2_with fail
  refine P0.out.mono ?_
  rintro e w1 ⟨x, rfl, hrow, hb1⟩
  rw [HD1.out] at hrow
  obtain ⟨v2, w2, hr, ho, hb2⟩ := append_row a1 b1 off1 len1 cap1 z1 w.heap.size x m ds w1 hrow (by omega) HA1.out (HZ1.out w1 hb1) hb1.size
  obtain ⟨g, c, rfl, k1, k2, k3, k4, k5, k6⟩ := own_bytes ho
  have G1 := get_any (some ⟨g, 0, none⟩) g 0 (m + len1 + 1) c m _ HBB.out k3 (by unfold maxLen at k4; omega) HG.out.1 w2 (.inr rfl) k6
  rw [HG.out.2] at G1
  have G1 := Lib.hid G1
  have HB2 := Lib.hid (hb1.trans hb2)
  clear hrow ho k6 k5 hb1 hb2
  go_wp2_with (at_builtin; go_loud (refine wpList_append_ran _ w2 rfl _ _ 22 rfl _ _ _ rfl rfl hr ?_))
  refine G1.out.mono ?_
  rintro e w' ⟨rfl, rfl⟩
  go_wp2_with (go_at_call 33; refine (SZ.out _).mono ?_; rintro e w3 ⟨rfl, rfl⟩)
  refine (HG2.out _ HB2.out).mono ?_
  rintro e w' ⟨rfl, rfl⟩
  go_wp2_with fail
  refine (awake_any _).mono ?_
  rintro e w' ⟨rfl, hb⟩
  go_wp2
  go_ret
  exact ⟨rfl, HB2.out.trans (hb.mono HB2.out.size)⟩
set_option maxHeartbeats 2000000 in
theorem back_ok (a1 : Option Addr) (b1 off1 len1 cap1 : Nat) (z1 : Nat → Int) (a2 : Option Addr) (b2 off2 len2 cap2 f2 : Nat) (z2 : Nat → Int) (v : Nat) (hv : v < 18446744073709551616) (w : World) (h1 : ¬ (100 : Int) < len1) (h2 : ¬ (100 : Int) < len2)
    (ha1 : len1 = 0 ∨ a1 = some ⟨b1, off1, none⟩) (hz1 : ∀ W, Below w.heap.size w W → BytesAt W b1 off1 len1 z1) (hB1 : ∀ i, 0 ≤ z1 i ∧ z1 i ≤ 255)
    (y f : Nat) (hy : y < 18446744073709551616) (G2 : ∀ W, Below w.heap.size w W → Calls Try.prog 35 #[.slice a2 len2 cap2] W fun e w' => e = .returned (.tuple #[.int .u64 y, .int .i64 ((f : Int) + 1), .int .i64 0]) ∧ W = w') (hf : f < len2) (hlc : len2 ≤ cap2) (ha2 : a2 = some ⟨b2, off2, none⟩) (hz2 : ∀ W, Below w.heap.size w W → BytesAt W b2 off2 len2 z2) (htx : digs 9 y = rowOf z2 (f + 1)) :
    Calls Try.prog 9 #[.int .u64 v, .slice a1 len1 cap1, .slice a2 len2 cap2] w fun e w' => e = .returned (.bool true) ∧ Below w.heap.size w w' := by
  subst ha2
  have CB := Lib.hid (fun W (hW : Below w.heap.size w W) => conv_row (some ⟨b2, off2, none⟩) b2 off2 (f + 1) cap2 z2 W (.inr rfl) (fun i hi => hz2 W hW i (by omega)))
  have PY := Lib.hid (put_none y hy)
  rw [htx] at PY
  have hl2 : (rowOf z2 (f + 1)).length = f + 1 := by simp [rowOf]
  have HL2 := Lib.hid hl2
  have c0 : (1 : Int) ≤ (f : Int) + 1 := by omega
  have c00 : (0 : Int) ≤ (f : Int) + 1 := by omega
  have c1 : f + 1 ≤ cap2 := by omega
  have c2 : (f : Int) + 1 ≤ cap2 := by omega
  have c3 : (f : Int) + 1 ≤ len2 := by omega
  clear hz2 htx hl2
  generalize rowOf z2 (f + 1) = ts at *
  obtain ⟨m, d1, d2, d3, d4, d5, d6, d7⟩ := digs_told 9 v (by have : (128 : Nat) ^ 10 = 1180591620717411303424 := by decide
                                                              omega)
  have hG : IsLast (fun i => (digs 9 v ++ rowOf z1 len1).getD i 0) (min (m + len1 + 1) 10) m ∧ got (fun i => (digs 9 v ++ rowOf z1 len1).getD i 0) (m + len1 + 1) m = ((v : Int), ((m + 1 : Nat) : Int), (0 : Int)) := by
    have e : ∀ i, i < m + 1 → (digs 9 v ++ rowOf z1 len1).getD i 0 = (digs 9 v).getD i 0 := fun i hi => by
      simp only [List.getD_eq_getElem?_getD]
      rw [List.getElem?_append_left (by omega)]
    refine got_digs v m _ _ hv d2 (by omega) (fun i hi => by rw [e i (by omega)]; exact (d3 i hi).1) (by rw [e m (by omega)]; exact d4) (by rw [e m (by omega)]; exact d5) (by rw [e m (by omega)]; exact d6) ?_
    rw [← d7]
    exact vals_congr _ _ _ (fun i hi => e i hi)
  have hBB : ∀ i, 0 ≤ (digs 9 v ++ rowOf z1 len1).getD i 0 ∧ (digs 9 v ++ rowOf z1 len1).getD i 0 ≤ 255 := by
    intro i
    simp only [List.getD_eq_getElem?_getD]
    rcases Nat.lt_or_ge i (m + 1) with h | h
    · rw [List.getElem?_append_left (by omega), ← List.getD_eq_getElem?_getD]
      rcases Nat.lt_or_ge i m with h' | h'
      · have := d3 i h'; omega
      · obtain rfl : i = m := by omega
        omega
    · rw [List.getElem?_append_right (by omega)]
      rcases Nat.lt_or_ge (i - (digs 9 v).length) len1 with h' | h'
      · simp [rowOf, h']; exact hB1 _
      · rw [List.getElem?_eq_none (by simpa [rowOf] using h')]; simp
  have SZ := size_any v (by omega) (by omega)
  rw [Int.toNat_natCast, d1] at SZ
  have SZ := Lib.hid SZ
  have P0 := Lib.hid (put_none v hv w)
  have HD1 := Lib.hid d1
  have HG := Lib.hid hG
  have HBB := Lib.hid hBB
  have HZ1 := Lib.hid hz1
  have HG2 := Lib.hid G2
  have HA1 := Lib.hid ha1
  clear d1 d3 d4 d5 d6 d7 hG hBB hz1 G2 ha1 hB1
  generalize hds : digs 9 v = ds at *
  clear hds
  go_enter Try.func9, Try.ntmps9
  go_wp2_with fail
  refine P0.out.mono ?_
  rintro e w1 ⟨x, rfl, hrow, hb1⟩
  rw [HD1.out] at hrow
  obtain ⟨v2, w2, hr, ho, hb2⟩ := append_row a1 b1 off1 len1 cap1 z1 w.heap.size x m ds w1 hrow (by omega) HA1.out (HZ1.out w1 hb1) hb1.size
  obtain ⟨g, c, rfl, k1, k2, k3, k4, k5, k6⟩ := own_bytes ho
  have G1 := get_any (some ⟨g, 0, none⟩) g 0 (m + len1 + 1) c m _ HBB.out k3 (by unfold maxLen at k4; omega) HG.out.1 w2 (.inr rfl) k6
  rw [HG.out.2] at G1
  have G1 := Lib.hid G1
  have HB2 := Lib.hid (hb1.trans hb2)
  clear hrow ho k6 k5 hb1 hb2
  go_wp2_with (at_builtin; go_loud (refine wpList_append_ran _ w2 rfl _ _ 22 rfl _ _ _ rfl rfl hr ?_))
  refine G1.out.mono ?_
  rintro e w' ⟨rfl, rfl⟩
  go_wp2_with (go_at_call 33; refine (SZ.out _).mono ?_; rintro e w3 ⟨rfl, rfl⟩)
  refine (HG2.out _ HB2.out).mono ?_
  rintro e w' ⟨rfl, rfl⟩
  have D1 : Below w.heap.size w w2.drew := HB2.out.drew
  have q1 := CB.out w2.drew D1
  have HD := Lib.hid D1
  clear D1
  go_wp2_with fail
  go_region_held_law (fun w' => (convert 22 9 (.slice (some ⟨b2, off2, none⟩) (f + 1) cap2)).run Try.prog w' = .ok (.string (strOfNums ts)) w')
    (first | (exact q1) | (exact q2) | (exact q4) | go_keep)
    (first
      | (go_at_call 32; refine (PY.out _).mono ?_; rintro e w3 ⟨y3, rfl, hrow3, hb3⟩; rw [HL2.out] at hrow3; obtain ⟨g3, cc3, rfl, j1, j2, j3, j4, j5, j6⟩ := own_bytes hrow3; have HB3 := Lib.hid (HD.out.trans (hb3.mono HD.out.size)); have q2 := CB.out w3 HB3.out; have q3 := conv_own g3 (f + 1) cc3 ts HL2.out w3 (fun i u hu => by have := ownsRow_cells hrow3; obtain ⟨g4, c4, e4, _, _, h4⟩ := this; cases e4; exact h4 i u hu); clear hrow3 hb3 j6)
      | (go_at_call 34; refine (awake_any _).mono ?_; rintro e w4 ⟨rfl, hb4⟩; have HB4 := Lib.hid hb4; have q4 := CB.out w4 (HB3.out.trans (HB4.out.mono HB3.out.size)); clear hb4))
  all_goals
    go_wp2
    go_ret
    refine ⟨rfl, ?_⟩
    exact HB3.out.trans (HB4.out.mono HB3.out.size)
theorem back_long (a1 a2 : Option Addr) (len1 cap1 len2 cap2 : Nat) (v : Int) (h : 100 < len1 ∨ 100 < len2) (w : World) :
    Calls Try.prog 9 #[.int .u64 v, .slice a1 len1 cap1, .slice a2 len2 cap2] w fun e w' => e = .returned (.bool true) ∧ Below w.heap.size w w' := by
  by_cases h1 : 100 < len1
  · have h' : (100 : Int) < len1 := by omega
    clear h
    go_enter Try.func9, Try.ntmps9
    go_wp2
    go_ret
    exact ⟨rfl, Below.refl _ _⟩
  · have h2 : (100 : Int) < len2 := by omega
    have h' : ¬ (100 : Int) < len1 := by omega
    clear h
    go_enter Try.func9, Try.ntmps9
    go_wp2
    go_ret
    exact ⟨rfl, Below.refl _ _⟩
theorem row_of {w : World} {a : Option Addr} {len cap : Nat} {zs : List Int} (h : IsRow .u8 w a len cap zs) :
    (∀ i, 0 ≤ zs.getD i 0 ∧ zs.getD i 0 ≤ 255) ∧ len ≤ cap ∧ cap ≤ 9223372036854775807 ∧ ∃ b off, (len = 0 ∨ a = some ⟨b, off, none⟩) ∧ ∀ W, Below w.heap.size w W → BytesAt W b off len (fun i => zs.getD i 0) := by
  refine ⟨fun i => ?_, h.1, by have := h.2.1; unfold maxLen at this; omega, ?_⟩
  · rw [List.getD_eq_getElem?_getD]
    cases hx : zs[i]? with
    | none => simp
    | some n =>
      have := h.2.2.2.1 n (List.mem_of_getElem? hx)
      simp [Lit.wf, IntKind.min, IntKind.max, IntKind.bits, IntKind.signed] at this
      simp
      omega
  · obtain ⟨hl, hm, hz, hwf, h0 | ⟨b, off, rfl, hb, hc⟩⟩ := h
    · exact ⟨0, 0, .inl (by omega), fun W hW i hi => by omega⟩
    · exact ⟨b, off, .inr rfl, fun W hW i hi => (hW.cell (p := ⟨b, off + i, none⟩) hb).trans (hc i (by omega))⟩
theorem vals_u64 (z : Nat → Int) (f : Nat) (hf : f ≤ 9) (hB : ∀ i, 0 ≤ z i ∧ z i ≤ 255) (h9 : ¬ (f = 9 ∧ 1 < z 9)) : 0 ≤ vals z (f + 1) ∧ vals z (f + 1) ≤ 18446744073709551615 := by
  by_cases c : f = 9
  · subst c
    obtain ⟨n, hn, hlt⟩ := vals_bd z 9
    have p : (128 : Nat) ^ 9 = 9223372036854775808 := by decide
    have p2 : (128 : Int) ^ 9 = 9223372036854775808 := by decide
    have := hB 9
    have h1 : z 9 ≤ 1 := by have : ¬ 1 < z 9 := fun h => h9 ⟨rfl, h⟩
                            omega
    simp only [vals] at hn ⊢
    omega
  · obtain ⟨n, hn, hlt⟩ := vals_bd z (f + 1)
    have h3 : (128 : Nat) ^ (f + 1) ≤ 128 ^ 9 := Nat.pow_le_pow_right (by decide) (by omega)
    have p : (128 : Nat) ^ 9 = 9223372036854775808 := by decide
    omega
theorem walk (v : Int) (a1 : Option Addr) (len1 cap1 : Nat) (z1 : List Int) (a2 : Option Addr) (len2 cap2 : Nat) (z2 : List Int) (w : World) (b0 : 0 ≤ v ∧ v ≤ 18446744073709551615) (b1 : IsRow .u8 w a1 len1 cap1 z1) (b2 : IsRow .u8 w a2 len2 cap2 z2) :
    Calls Try.prog 9 #[.int .u64 v, .slice a1 len1 cap1, .slice a2 len2 cap2] w fun e w' => e = .returned (.bool true) ∧ Below w.heap.size w w' := by
  by_cases h : 100 < len1 ∨ 100 < len2
  · exact back_long a1 a2 len1 cap1 len2 cap2 v h w
  · obtain ⟨n, rfl⟩ : ∃ n : Nat, v = n := ⟨v.toNat, by omega⟩
    have l1 : ¬ (100 : Int) < len1 := by omega
    have l2 : ¬ (100 : Int) < len2 := by omega
    obtain ⟨hB1, _, _, p1, o1, ha1, hz1⟩ := row_of b1
    obtain ⟨hB2, hl2, hc2, p2, o2, ha2, hz2⟩ := row_of b2
    obtain ⟨f, hf⟩ := last_of (fun i => z2.getD i 0) (min len2 10)
    have G2 : ∀ W, Below w.heap.size w W → _ := fun W hW => get_any a2 p2 o2 len2 cap2 f _ hB2 hl2 hc2 hf W ha2 (hz2 W hW)
    by_cases c1 : f = min len2 10
    · have e : got (fun i => z2.getD i 0) len2 f = (0, 0, if len2 < 10 then 1 else 9) := by unfold got; rw [if_pos c1]
      rw [e] at G2
      exact back_core a1 p1 o1 len1 cap1 _ a2 p2 o2 len2 cap2 f (fun i => z2.getD i 0) n (by omega) w l1 l2 ha1 hz1 hB1 0 0 _ G2 (by split <;> decide) rfl rfl
    · by_cases c2 : f = 9 ∧ 1 < z2.getD 9 0
      · have e : got (fun i => z2.getD i 0) len2 f = (0, 0, 9) := by unfold got; rw [if_neg c1, if_pos c2]
        rw [e] at G2
        exact back_core a1 p1 o1 len1 cap1 _ a2 p2 o2 len2 cap2 f (fun i => z2.getD i 0) n (by omega) w l1 l2 ha1 hz1 hB1 0 0 _ G2 (by decide) rfl rfl
      · by_cases c3 : 0 < f ∧ z2.getD f 0 = 0
        · have e : got (fun i => z2.getD i 0) len2 f = (0, 0, 9) := by unfold got; rw [if_neg c1, if_neg c2, if_pos c3]
          rw [e] at G2
          exact back_core a1 p1 o1 len1 cap1 _ a2 p2 o2 len2 cap2 f (fun i => z2.getD i 0) n (by omega) w l1 l2 ha1 hz1 hB1 0 0 _ G2 (by decide) rfl rfl
        · have hfl : f < min len2 10 := by have := hf.1; omega
          have hu := vals_u64 (fun i => z2.getD i 0) f (by omega) hB2 c2
          obtain ⟨y, hy⟩ : ∃ y : Nat, vals (fun i => z2.getD i 0) (f + 1) = y := ⟨(vals (fun i => z2.getD i 0) (f + 1)).toNat, by omega⟩
          have hd := digs_vals f 9 (fun i => z2.getD i 0) (by omega) (fun i hi => ⟨by have := hf.2.1 i hi; simp only at this ⊢; omega, (hB2 i).2⟩) (hB2 f).1 (hf.2.2 hfl) (fun h0 hz => c3 ⟨h0, hz⟩)
          have e : got (fun i => z2.getD i 0) len2 f = ((y : Int), ((f : Int) + 1), (0 : Int)) := by
            unfold got
            rw [if_neg c1, if_neg c2, if_neg c3, hy]
            simp
          rw [e] at G2
          rw [hy, Int.toNat_natCast] at hd
          have ha2' : a2 = some ⟨p2, o2, none⟩ := by rcases ha2 with h0 | h0; · omega
                                                     · exact h0
          exact back_ok a1 p1 o1 len1 cap1 _ a2 p2 o2 len2 cap2 f (fun i => z2.getD i 0) n (by omega) w l1 l2 ha1 hz1 hB1 y f (by omega) G2 (by omega) hl2 ha2' hz2 hd
theorem own : ownKnob Try.prog.godebug = none := by kernel_rfl
theorem contract (H : Type) (enc : TypeId × Value → H) (W : World) (base : Nat) (args : Array Value) (ds gs : List (DataW H)) (before : List MemPlace)
    (hval : ∀ (j : Nat) t v, Try.f9.params[j]? = some t → args[j]? = some v → Value.okWide Try.prog W .any base t v)
    (hW : DataW.Whole enc Try.prog Try.f9.params.toList Rows.varintBackSpec.vars false W args.toList ds gs before) :
    Calls Try.prog 9 args W fun e W' => ∃ v, e = .returned v ∧ Rows.varintBackSpec.post enc Try.prog Try.f9 false true false false W args v W' := by
  have hW' := hW
  obtain ⟨p, q, hA0, hV, rfl, hfz, hnd⟩ := hW
  have hA : DataW.TrodAll enc Try.prog W 0 (fun _ => true) true Try.f9.params.toList args.toList ds p := hA0
  rw [Try.params9] at hA hval
  obtain ⟨v0, vs0, d0, ds0, p0, q0, hargs, rfl, rfl, h0, r0⟩ := trodAll_cons hA
  obtain ⟨v1, vs1, d1, ds1, p1, q1, rfl, rfl, rfl, h1, r1⟩ := trodAll_cons r0
  obtain ⟨v2, vs2, d2, ds2, p2, q2, rfl, rfl, rfl, h2, r2⟩ := trodAll_cons r1
  obtain ⟨rfl, rfl, rfl⟩ := trodAll_nil r2
  obtain rfl : args = #[v0, v1, v2] := by cases args; simp_all
  obtain ⟨rfl, rfl⟩ := trodVars_none hV
  have hWhole := hW'
  obtain ⟨a0, rfl, rfl, rfl, w0⟩ := open_int Try.underlying40 (hval 0 40 v0 rfl rfl) h0
  have b0 := bounds_u64 w0
  obtain ⟨a1, len1, cap1, rfl⟩ := okWide_slice Try.underlying22 (hval 1 22 v1 rfl rfl)
  have k1 := h1
  have lt1 : ∀ x ∈ p1, x.block < W.heap.size := by obtain ⟨m, hm⟩ := k1; exact DataW.trod_lt m _ _ _ hm
  obtain ⟨z1, b1⟩ : ∃ zs, IsRow .u8 W a1 len1 cap1 zs := by
    obtain ⟨fuel, hf⟩ := h1
    rcases open_ints Try.underlying22 Try.underlying5 (by kernel_rfl) hf with ⟨hcs, _⟩ | ⟨x, l, c, zs, hcs, _, hl, hm, hz, _, hcell, hwz⟩
    · simp [Value.cells] at hcs
      obtain ⟨rfl, rfl, rfl⟩ := hcs
      exact ⟨[], isRow_nil _ _⟩
    · simp [Value.cells] at hcs
      obtain ⟨rfl, rfl, rfl⟩ := hcs
      exact ⟨zs, isRow_of hl hm (by simpa using hz) hcell hwz⟩
  obtain ⟨a2, len2, cap2, rfl⟩ := okWide_slice Try.underlying22 (hval 2 22 v2 rfl rfl)
  have k2 := h2
  have lt2 : ∀ x ∈ p2, x.block < W.heap.size := by obtain ⟨m, hm⟩ := k2; exact DataW.trod_lt m _ _ _ hm
  obtain ⟨z2, b2⟩ : ∃ zs, IsRow .u8 W a2 len2 cap2 zs := by
    obtain ⟨fuel, hf⟩ := h2
    rcases open_ints Try.underlying22 Try.underlying5 (by kernel_rfl) hf with ⟨hcs, _⟩ | ⟨x, l, c, zs, hcs, _, hl, hm, hz, _, hcell, hwz⟩
    · simp [Value.cells] at hcs
      obtain ⟨rfl, rfl, rfl⟩ := hcs
      exact ⟨[], isRow_nil _ _⟩
    · simp [Value.cells] at hcs
      obtain ⟨rfl, rfl, rfl⟩ := hcs
      exact ⟨zs, isRow_of hl hm (by simpa using hz) hcell hwz⟩
  clear hA0
  refine (walk a0 a1 len1 cap1 z1 a2 len2 cap2 z2 W b0 b1 b2).mono fun e W' ⟨he, hg⟩ => ?_
  subst he
  exact ⟨_, rfl, _, _, _, [], _, [], hW', trodAll_mk1 (shut_bool Try.underlying4 _), (trodAll_cons_mk (shut_int Try.underlying40 w0) (trodAll_cons_mk (Below.trod laidOut (by kernel_rfl) (of_decide_eq_true (by kernel_rfl)) k1 hg lt1) (trodAll_cons_mk (Below.trod laidOut (by kernel_rfl) (of_decide_eq_true (by kernel_rfl)) k2 hg lt2) trodAll_mk0))), rfl, hg.frame _, fun h => by cases h⟩

set_option maxRecDepth 100000 in
theorem lifted (os : Os) (started : os.Started) (H : Type) (enc : TypeId × Value → H) :
    ReturnsInHanded {} Try.checked os 9 .any (Rows.varintBackSpec.pre6 enc Try.prog Try.f9 Rows.varintBackRow.domain false) (Rows.varintBackSpec.post enc Try.prog Try.f9 false true false false) := by
  refine returnsInHanded_of_change (C := Try.checked) own started (by kernel_rfl) Try.func9
    (ChangeSpec.witness6 (enc := enc) (C := Try.checked) false ⟨#[], #[.int .u64 0, .slice none 0 0, .slice none 0 0], []⟩ 8 (by kernel_rfl) (by kernel_rfl) (by kernel_rfl) (by kernel_rfl)) ?_
  intro W base args ds gs before hval hW _ _
  exact contract H enc W base args ds gs before hval hW

/-- ████ THE STATEMENT ████ -/
theorem proved : Rows.VarintBackSaid :=
  OpenClaim.holds_of_wide 9 Try.f9 rfl rfl rfl rfl rfl rfl rfl ⟨rfl, rfl, rfl, rfl, rfl⟩ rfl rfl rfl rfl rfl (by kernel_rfl) Try.func9 (by kernel_rfl)
    (of_decide_eq_true (by kernel_rfl)) (by unfold Func.isWrapper; first | (rw [if_pos (by decide +kernel)]; kernel_rfl) | (rw [if_neg (by decide +kernel)]; exact ⟨rfl, rfl⟩))
    (fun os started H enc _ => lifted os started H enc)
end Go.Proofs.Ythfepljblofgfaa.varintBack
