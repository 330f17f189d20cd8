/-
  CONTRACTS OF width.Of, Most, Count and of the document's own Of and Most (corduroyref06), in any world. Conditions: at most 500 numbers, which lie in memory as told.
-/
import Derived.Test.YthonjffojaljdaaWidC
import Derived.Test.YthonjffojaljdaaArrEq
import Derived.Laws.Rows
import Derived.Laws.Tables
namespace Go.Proofs.Ythonjffojaljdaa
open Go.RowKit
set_option linter.unusedVariables false
/-- A number's width. -/
def bl (v : Nat) : Nat := Lib.bitLen v
theorem bl_zero : bl 0 = 0 := by decide
theorem bl_half (v : Nat) (h0 : 0 < v) (h : v < 18446744073709551616) : bl v = bl (v / 2) + 1 := by
  unfold bl Lib.bitLen
  have h1 : Lib.bitLenAux 64 v = 1 + Lib.bitLenAux 63 (v / 2) := by
    rw [show (64 : Nat) = 63 + 1 from rfl]
    simp only [Lib.bitLenAux]
    rw [if_neg (by omega)]
  have h2 : Lib.bitLenAux 64 (v / 2) = Lib.bitLenAux 63 (v / 2) := Lib.bitLenAux_fuel 63 (v / 2) (by omega) 64 (by decide)
  rw [h1, h2]; omega
theorem bl_le_aux : ∀ (f x : Nat), Lib.bitLenAux f x ≤ f
  | 0, x => Nat.le_refl _
  | f + 1, x => by
    simp only [Lib.bitLenAux]
    split
    · omega
    · have := bl_le_aux f (x / 2); omega
theorem bl_le (v : Nat) : bl v ≤ 64 := bl_le_aux 64 v
theorem of_any6 (v : Nat) (h : v < 18446744073709551616) (w : World) : Calls Try.prog 94 #[.int .u64 (v : Nat)] w fun e w' => e = .returned (.int .i64 (bl v : Nat)) ∧ w = w' := by
  have LN := Try.bits_Len64 (v : Nat) w (by omega) (by omega)
  rw [Int.toNat_natCast] at LN
  have LN := Lib.hid LN
  have HB := Lib.hid (show Lib.bitLen v = bl v from rfl)
  go_enter Try.func94, Try.ntmps94
  go_wp2_with (go_at_call 97; refine LN.out.mono ?_; rintro e w' ⟨rfl, rfl⟩)
  go_ret
  exact ⟨rfl, rfl⟩
theorem rof_any6 (v : Nat) (h : v < 18446744073709551616) (w : World) : Calls Try.prog 18 #[.int .u64 (v : Nat)] w fun e w' => e = .returned (.int .i64 (bl v : Nat)) ∧ w = w' := by
  have hle := bl_le v
  go_enter Try.func18, Try.ntmps18
  go_wp2
  go_loop [0, 3] (fun x n => ∃ u k : Nat, u < 18446744073709551616 ∧ x = .int .u64 (u : Nat) ∧ n = .int .i64 (k : Nat) ∧ k + bl u = bl v) (fun x _ => (intOf x).toNat)
  case atStart => exact ⟨v, 0, h, rfl, rfl, by omega⟩
  case round =>
    obtain ⟨u, k, hu, rfl, rfl, hk⟩ := hrel
    by_cases h0 : 0 < u
    · have h0' : (0 : Int) < (u : Nat) := by omega
      have hh := bl_half u h0 hu
      have HH := Lib.hid (show k + 1 + bl (u / 2) = bl v by omega)
      have HU := Lib.hid (show u / 2 < 18446744073709551616 by omega)
      have k64 : k ≤ 64 := by omega
      clear hh hk
      go_wp2
      go_round
      case rel => exact ⟨u / 2, k + 1, HU.out, congrArg (Value.int .u64) (by simp), by go_num, HH.out⟩
      case measure => simp [intOf]; omega
    · obtain rfl : u = 0 := by omega
      rw [bl_zero] at hk
      obtain rfl : k = bl v := by omega
      go_wp2
      go_ret
      exact ⟨rfl, rfl⟩
/-- The greatest width of the first k. -/
def most (l : Nat → Nat) : Nat → Nat
  | 0 => 0
  | k + 1 => max (most l k) (bl (l k))
theorem most_le (l : Nat → Nat) : ∀ k, most l k ≤ 64
  | 0 => by simp [most]
  | k + 1 => by
    simp only [most]
    have := most_le l k
    have := bl_le (l k)
    omega
theorem most1 (p v : Nat) (hv : v < 18446744073709551616) (w : World) : Calls Try.prog 93 #[.int .i64 (p : Nat), .int .u64 (v : Nat)] w fun e w' => e = .returned (.int .i64 (max p (bl v) : Nat)) ∧ w = w' := by
  have OF := Lib.hid (of_any6 v hv)
  generalize bl v = q at *
  rcases Nat.lt_trichotomy p q with h | h | h
  · have e : max p q = q := by omega
    have E := Lib.hid e
    have h1 : (p : Int) < (q : Nat) := by omega
    clear e
    go_enter Try.func93, Try.ntmps93
    go_wp2_with (go_at_call 94; refine (OF.out _).mono ?_; rintro e w' ⟨rfl, rfl⟩)
    all_goals (go_ret; exact ⟨ret_int (by have := E.out; omega), rfl⟩)
  · subst h
    have e : max p p = p := by omega
    have E := Lib.hid e
    clear e
    go_enter Try.func93, Try.ntmps93
    go_wp2_with (go_at_call 94; refine (OF.out _).mono ?_; rintro e w' ⟨rfl, rfl⟩)
    all_goals (go_ret; exact ⟨ret_int (by have := E.out; omega), rfl⟩)
  · have e : max p q = p := by omega
    have E := Lib.hid e
    have h1 : (q : Int) < (p : Nat) := by omega
    have h2 : ¬ (p : Int) < (q : Nat) := by omega
    clear e
    go_enter Try.func93, Try.ntmps93
    go_wp2_with (go_at_call 94; refine (OF.out _).mono ?_; rintro e w' ⟨rfl, rfl⟩)
    all_goals (go_ret; exact ⟨ret_int (by have := E.out; omega), rfl⟩)
set_option maxRecDepth 100000 in
theorem fold_most (a : Option Addr) (n cap : Nat) (l : Nat → Nat) (hl : ∀ i, i < n → l i < 18446744073709551616) (hn : n ≤ 1100) (w : World) (h : RowOf w a n (fun i => .int .u64 (l i : Nat))) :
    Calls Try.prog 92 #[.int .i64 0, .slice a n cap, .func (.func 93) #[] #[]] w fun e w' => e = .returned (.int .i64 (most l n : Nat)) ∧ w = w' := by
  have H := Lib.hid h
  have HL := Lib.hid hl
  clear h hl
  go_enter Try.func92, Try.ntmps92
  go_wp2
  go_loop [0, 11] (fun v i => ∃ k : Nat, k ≤ n ∧ i = .int .i64 k ∧ v = .int .i64 (most l k : Nat)) (fun _ i => n - (intOf i).toNat)
  case atStart => exact ⟨0, by omega, rfl, rfl⟩
  case round =>
    obtain ⟨k, hk, rfl, rfl⟩ := hrel
    by_cases hkn : k < n
    · have k1 : (k : Int) < n := by omega
      obtain ⟨b, off, rfl, hblt, hc⟩ := H.out.at_ hkn
      have c0 := hc k hkn
      have L1 := Lib.hid (most1 (most l k) (l k) (HL.out k hkn) w)
      have HE := Lib.hid (show max (most l k) (bl (l k)) = most l (k + 1) from rfl)
      rw [HE.out] at L1
      clear hc
      generalize l k = y at *
      generalize most l k = z at *
      go_wp2_with (go_at_call 93; refine L1.out.mono ?_; rintro e w2 ⟨rfl, rfl⟩)
      go_round
      case rel => exact ⟨k + 1, by omega, by go_num, rfl⟩
      case measure => simp [intOf]; omega
    · obtain rfl : k = n := by omega
      go_wp2
      go_ret
      exact ⟨rfl, rfl⟩
theorem most_any (a : Option Addr) (n cap : Nat) (l : Nat → Nat) (hl : ∀ i, i < n → l i < 18446744073709551616) (hn : n ≤ 1100) (w : World) (h : RowOf w a n (fun i => .int .u64 (l i : Nat))) :
    Calls Try.prog 51 #[.slice a n cap] w fun e w' => e = .returned (.int .i64 (most l n : Nat)) ∧ w = w' := by
  have F := Lib.hid (fold_most a n cap l hl hn w h)
  clear h hl
  go_enter Try.func51, Try.ntmps51
  go_wp2_with (go_at_call 92; refine F.out.mono ?_; rintro e w2 ⟨rfl, rfl⟩)
  go_ret
  exact ⟨rfl, rfl⟩
set_option maxRecDepth 100000 in
theorem rmost_any (a : Option Addr) (n cap : Nat) (l : Nat → Nat) (hl : ∀ i, i < n → l i < 18446744073709551616) (hn : n ≤ 1100) (w : World) (h : RowOf w a n (fun i => .int .u64 (l i : Nat))) :
    Calls Try.prog 35 #[.slice a n cap] w fun e w' => e = .returned (.int .i64 (most l n : Nat)) ∧ w = w' := by
  have H := Lib.hid h
  have HL := Lib.hid hl
  clear h hl
  go_enter Try.func35, Try.ntmps35
  go_wp2
  go_loop [3, 4] (fun v i => ∃ k : Nat, k ≤ n ∧ i = .int .i64 k ∧ v = .int .i64 (most l k : Nat)) (fun _ i => n - (intOf i).toNat)
  case atStart => exact ⟨0, by omega, rfl, rfl⟩
  case round =>
    obtain ⟨k, hk, rfl, rfl⟩ := hrel
    by_cases hkn : k < n
    · have k1 : (k : Int) < n := by omega
      have k0 : (0 : Int) ≤ k := by omega
      obtain ⟨b, off, rfl, hblt, hc⟩ := H.out.at_ hkn
      have c0 := hc k hkn
      have OF := Lib.hid (rof_any6 (l k) (HL.out k hkn))
      have HE := Lib.hid (show max (most l k) (bl (l k)) = most l (k + 1) from rfl)
      clear hc
      generalize bl (l k) = q at *
      generalize l k = y at *
      generalize most l k = z at *
      by_cases hq : z < q
      · have hq' : (z : Int) < (q : Nat) := by omega
        go_wp2_with (go_at_call 18; refine (OF.out _).mono ?_; rintro e w2 ⟨rfl, rfl⟩)
        go_round
        case rel => exact ⟨k + 1, by omega, by go_num, by rw [← HE.out, show max z q = q from by omega]⟩
        case measure => simp [intOf]; omega
      · have hq' : ¬ (z : Int) < (q : Nat) := by omega
        go_wp2_with (go_at_call 18; refine (OF.out _).mono ?_; rintro e w2 ⟨rfl, rfl⟩)
        go_round
        case rel => exact ⟨k + 1, by omega, by go_num, by rw [← HE.out, show max z q = z from by omega]⟩
        case measure => simp [intOf]; omega
    · obtain rfl : k = n := by omega
      go_wp2
      go_ret
      exact ⟨rfl, rfl⟩
/-! How many have each width. -/
/-- The cells of 65 counts. -/
def cntV (f : Nat → Int) : Array Value := (rowV (fun i => .int .i64 (f i)) 65).toArray
theorem cntV_size (f : Nat → Int) : (cntV f).size = 65 := by simp [cntV, rowV_length]
theorem cntV_at (f : Nat → Int) (j : Nat) (hj : j < 65) : (cntV f)[j]? = some (.int .i64 (f j)) := by
  unfold cntV
  rw [List.getElem?_toArray, rowV_get _ hj]
theorem cntV_one (f : Nat → Int) : (cntV f).all (·.oneCell') = true := by
  apply Array.all_eq_true_iff_forall_mem.2
  intro v hv
  obtain ⟨i, _, rfl⟩ := List.mem_map.1 (show v ∈ rowV (fun i => Value.int .i64 (f i)) 65 from by simpa [cntV] using hv)
  rfl
theorem cntV_set (f : Nat → Int) (j : Nat) (v : Int) : (cntV f).setIfInBounds j (.int .i64 v) = cntV (fun i => if i = j then v else f i) := by
  unfold cntV
  rw [List.setIfInBounds_toArray, rowV_set]
  congr 1
  exact rowV_congr fun i _ => by by_cases h : i = j <;> simp [h]
/-- How many of the first k have each width. -/
def cnt (l : Nat → Nat) : Nat → Nat → Int
  | 0 => fun _ => 0
  | k + 1 => fun i => if i = bl (l k) then cnt l k (bl (l k)) + 1 else cnt l k i
theorem cnt_bd (l : Nat → Nat) : ∀ k i, 0 ≤ cnt l k i ∧ cnt l k i ≤ k
  | 0, i => by simp [cnt]
  | k + 1, i => by
    simp only [cnt]
    have h1 := cnt_bd l k i
    have h2 := cnt_bd l k (bl (l k))
    split <;> omega
theorem two_new' (w W0 : World) (t1 t2 : TypeId) (z1 z2 : Array Value) (h : (w.alloc (.cells z1 t1)).alloc (.cells z2 t2) = W0) : Lies W0 w.heap.size t1 z1 ∧ Lies W0 (w.heap.size + 1) t2 z2 ∧ Below w.heap.size w W0 := by
  subst h
  refine ⟨(Lies.new _ _ _).alloc _, ?_, ((Below.refl _ _).alloc (Nat.le_refl _) _).alloc (by simp) _⟩
  have := Lies.new (w.alloc (.cells z1 t1)) t2 z2
  simpa using this
end Go.Proofs.Ythonjffojaljdaa
