/-
  CONTRACTS OF corduroylaw21.like and Reals, of stat.Stat.May and of the document's own Of and May (corduroyref21), in any world. Conditions: the ranges that each names.
-/
import Derived.Test.YtjdcafeljdnfeaaStatA
import Derived.Test.YtjdcafeljdnfeaaArrEq
import Derived.Deep.QuietTactic
import Derived.BigQuiet
namespace Go.Proofs.Ytjdcafeljdnfeaa
open Go.RowKit
set_option linter.unusedVariables false
attribute [local go_sem] run_store_float
set_option maxRecDepth 100000 in
set_option maxHeartbeats 2000000 in
theorem like_lit (c k0 k1 k2 k3 k4 k5 k6 k7 k8 wh : Int) (any : Bool) (mn mx : Nat) (w : World) :
    Calls Try.prog 49 #[.agg #[.int .i64 c, .int .i64 k0, .int .i64 k1, .int .i64 k2, .int .i64 k3, .int .i64 k4, .int .i64 k5, .int .i64 k6, .int .i64 k7, .int .i64 k8, .int .i64 wh, .bool any, .float .f64 mn, .float .f64 mx], .agg #[.int .i64 c, .int .i64 k0, .int .i64 k1, .int .i64 k2, .int .i64 k3, .int .i64 k4, .int .i64 k5, .int .i64 k6, .int .i64 k7, .int .i64 k8, .int .i64 wh, .bool any, .int .u64 (mn : Nat), .int .u64 (mx : Nat)]] w fun e w' => e = .returned (.bool true) ∧ Below w.heap.size w w' := by
  have hb := call_bits
  have ec : (c == c) = true := by simp
  have ew : (wh == wh) = true := by simp
  have ea : (any == any) = true := by simp
  have em : ((mn : Int) == (mn : Int)) = true := by simp
  have ex : ((mx : Int) == (mx : Int)) = true := by simp
  have heq := run_eql_array (P := Try.prog) 78 3 9 .i64 #[.int .i64 k0, .int .i64 k1, .int .i64 k2, .int .i64 k3, .int .i64 k4, .int .i64 k5, .int .i64 k6, .int .i64 k7, .int .i64 k8] (fun i => [k0, k1, k2, k3, k4, k5, k6, k7, k8].getD i 0) Try.underlying78 Try.underlying3 (by kernel_rfl) (by intro i hi; match i, hi with | 0, _ => rfl | 1, _ => rfl | 2, _ => rfl | 3, _ => rfl | 4, _ => rfl | 5, _ => rfl | 6, _ => rfl | 7, _ => rfl | 8, _ => rfl)
  have hB : ∀ n, Below w.heap.size w (((w.alloc (.cells #[.int .i64 c, .int .i64 k0, .int .i64 k1, .int .i64 k2, .int .i64 k3, .int .i64 k4, .int .i64 k5, .int .i64 k6, .int .i64 k7, .int .i64 k8, .int .i64 wh, .bool any, .float .f64 mn, .float .f64 mx] 81)).alloc (.cells #[.int .i64 c, .int .i64 k0, .int .i64 k1, .int .i64 k2, .int .i64 k3, .int .i64 k4, .int .i64 k5, .int .i64 k6, .int .i64 k7, .int .i64 k8, .int .i64 wh, .bool any, .int .u64 (mn : Nat), .int .u64 (mx : Nat)] 86)).drewN n) := fun n => below_drawn (((Below.refl _ _).alloc (Nat.le_refl _) _).alloc (by simp) _) n
  have HB := Lib.hid hB
  clear hB
  go_enter Try.func49, Try.ntmps49
  go_wp2
  go_quiet (fail)
  go_wp2
  go_ret
  exact ⟨rfl, HB.out _⟩
theorem like_same (s : St) (w : World) : Calls Try.prog 49 #[.agg (stV s), .agg (stR s)] w fun e w' => e = .returned (.bool true) ∧ Below w.heap.size w w' := like_lit s.cnt (s.k 0) (s.k 1) (s.k 2) (s.k 3) (s.k 4) (s.k 5) (s.k 6) (s.k 7) (s.k 8) s.whole s.any s.mn s.mx w
theorem f64Info : (Try.prog.info? 79).map (fun i => (i.zero, i.size, i.bytes)) = some (some (.float .f64 0), 1, 8) := by kernel_rfl
set_option maxRecDepth 100000 in
set_option maxHeartbeats 1000000 in
theorem reals_any (a : Option Addr) (n cap : Nat) (l : Nat → Nat) (hn : n ≤ 500) (w : World) (h : RowOf w a n (fun i => .int .u64 (l i : Nat))) :
    Calls Try.prog 47 #[.slice a n cap] w fun e w' => ∃ v, e = .returned v ∧ w'.ownsRow w.heap.size 79 1 v n (rowV (fun i => .float .f64 (l i)) n) ∧ Below w.heap.size w w' := by
  obtain ⟨i0, hi, hz0, hz1, hz2⟩ := info_parts f64Info
  have hf := call_frombits
  have H := Lib.hid h
  clear h
  go_enter Try.func47, Try.ntmps47
  go_wp2
  go_loopw [3, 4] (fun v i wr => ∃ k : Nat, k ≤ n ∧ i = .int .i64 k ∧ wr.ownsRow w.heap.size 79 1 v k (rowV (fun i => .float .f64 (l i)) k) ∧ Below w.heap.size w wr) (fun _ i _ => n - (intOf i).toNat)
  case atStart => exact ⟨0, by omega, rfl, World.ownsRow_nil _ _ _ _, Below.refl _ _⟩
  case round =>
    obtain ⟨k, hk, rfl, ho, hb⟩ := hrel
    have hsz := hb.size
    by_cases hkn : k < n
    · have k1 : (k : Int) < n := by omega
      obtain ⟨b, off, rfl, hblt, hc⟩ := (H.out.below hb).at_ hkn
      have c0 := hc k hkn
      have RS := Lib.hid (rowV_succ (fun i => Value.float .f64 (l i)) k)
      have HOW := Lib.hid ho
      have HBW := Lib.hid hb
      clear ho hb hc
      generalize l k = y at *
      go_wp2_with (first | (at_builtin; go_must (refine wpList_append_own_at _ rfl _ _ 83 rfl w.heap.size 79 i0 (.float .f64 0) 1 8 Try.underlying83 hi hz0 hz1 hz2 rfl (by decide) _ _ _ rfl (HOW.out.alloc _) ⟨wr.heap.size, 0, none⟩ 1 1 [.float .f64 y] rfl rfl (cell_one_new _ _ _) (by simp [Value.oneCell']) (by unfold maxLen; omega) (by omega) (by simp; omega) ?_); intro v2 w2 hown2 hgrow2 _ _; have HO2 := Lib.hid hown2; have HG2 := Lib.hid hgrow2; clear hown2 hgrow2))
      go_roundw
      case rel => exact ⟨k + 1, by omega, by go_num, by rw [RS.out]; exact HO2.out, (HBW.out.alloc hsz _).grown HG2.out (by simp; omega) (fun j hj => (HOW.out.lt j hj).1)⟩
      case measure => simp [intOf]; omega
    · obtain rfl : k = n := by omega
      have HOW := Lib.hid ho
      have HBW := Lib.hid hb
      clear ho hb
      go_wp2
      go_ret
      exact ⟨_, rfl, HOW.out, HBW.out⟩
/-- May one be among them? -/
def mayB (s : St) (b : Nat) : Bool := if kd b = 8 then decide (0 < s.k 8) else (s.any && !decide (rk b < rk s.mn) && !decide (rk s.mx < rk b))
set_option maxRecDepth 100000 in
theorem may_8 (c k0 k1 k2 k3 k4 k5 k6 k7 k8 wh : Int) (any : Bool) (mn mx b : Nat) (kx : Int) (KX : Hid (∀ w, Calls Try.prog 95 #[.float .f64 b] w fun e w' => e = .returned (.int .i64 kx) ∧ w = w')) (hk : kx = 8) (w : World) :
    Calls Try.prog 50 #[.agg #[.int .i64 c, .int .i64 k0, .int .i64 k1, .int .i64 k2, .int .i64 k3, .int .i64 k4, .int .i64 k5, .int .i64 k6, .int .i64 k7, .int .i64 k8, .int .i64 wh, .bool any, .float .f64 mn, .float .f64 mx], .float .f64 b] w fun e w' => e = .returned (.bool (decide (0 < k8))) ∧ Below w.heap.size w w' := by
  subst hk
  go_enter Try.func50, Try.ntmps50
  go_wp2_with (first | (go_at_call 95; refine (KX.out _).mono ?_; rintro e w' ⟨rfl, rfl⟩))
  go_ret
  exact ⟨rfl, (Below.refl _ _).alloc (Nat.le_refl _) _⟩
set_option maxRecDepth 100000 in
theorem may_none (c k0 k1 k2 k3 k4 k5 k6 k7 k8 wh : Int) (any : Bool) (mn mx b : Nat) (kx : Int) (KX : Hid (∀ w, Calls Try.prog 95 #[.float .f64 b] w fun e w' => e = .returned (.int .i64 kx) ∧ w = w')) (hk : (kx == 8) = false) (ha : any = false) (w : World) :
    Calls Try.prog 50 #[.agg #[.int .i64 c, .int .i64 k0, .int .i64 k1, .int .i64 k2, .int .i64 k3, .int .i64 k4, .int .i64 k5, .int .i64 k6, .int .i64 k7, .int .i64 k8, .int .i64 wh, .bool any, .float .f64 mn, .float .f64 mx], .float .f64 b] w fun e w' => e = .returned (.bool false) ∧ Below w.heap.size w w' := by
  subst ha
  go_enter Try.func50, Try.ntmps50
  go_wp2_with (first | (go_at_call 95; refine (KX.out _).mono ?_; rintro e w' ⟨rfl, rfl⟩))
  go_ret
  exact ⟨rfl, (Below.refl _ _).alloc (Nat.le_refl _) _⟩
set_option maxRecDepth 100000 in
theorem may_less (c k0 k1 k2 k3 k4 k5 k6 k7 k8 wh : Int) (any : Bool) (mn mx b : Nat) (kx : Int) (KX : Hid (∀ w, Calls Try.prog 95 #[.float .f64 b] w fun e w' => e = .returned (.int .i64 kx) ∧ w = w')) (hk : (kx == 8) = false) (ha : any = true) (L1 : Bool) (hL : L1 = true) (h1 : Hid (∀ w, Calls Try.prog 96 #[.float .f64 b, .float .f64 mn] w fun e w' => e = .returned (.bool L1) ∧ w = w')) (w : World) :
    Calls Try.prog 50 #[.agg #[.int .i64 c, .int .i64 k0, .int .i64 k1, .int .i64 k2, .int .i64 k3, .int .i64 k4, .int .i64 k5, .int .i64 k6, .int .i64 k7, .int .i64 k8, .int .i64 wh, .bool any, .float .f64 mn, .float .f64 mx], .float .f64 b] w fun e w' => e = .returned (.bool false) ∧ Below w.heap.size w w' := by
  subst ha hL
  go_enter Try.func50, Try.ntmps50
  go_wp2_with (first | (go_at_call 95; refine (KX.out _).mono ?_; rintro e w' ⟨rfl, rfl⟩) | (go_at_call 96; ((with_reducible refine (h1.out _).mono ?_); rintro e w' ⟨rfl, rfl⟩)))
  go_ret
  exact ⟨rfl, (Below.refl _ _).alloc (Nat.le_refl _) _⟩
set_option maxRecDepth 100000 in
theorem may_more (c k0 k1 k2 k3 k4 k5 k6 k7 k8 wh : Int) (any : Bool) (mn mx b : Nat) (kx : Int) (KX : Hid (∀ w, Calls Try.prog 95 #[.float .f64 b] w fun e w' => e = .returned (.int .i64 kx) ∧ w = w')) (hk : (kx == 8) = false) (ha : any = true) (L1 L2 : Bool) (hL : L1 = false) (h1 : Hid (∀ w, Calls Try.prog 96 #[.float .f64 b, .float .f64 mn] w fun e w' => e = .returned (.bool L1) ∧ w = w')) (h2 : Hid (∀ w, Calls Try.prog 96 #[.float .f64 mx, .float .f64 b] w fun e w' => e = .returned (.bool L2) ∧ w = w')) (w : World) :
    Calls Try.prog 50 #[.agg #[.int .i64 c, .int .i64 k0, .int .i64 k1, .int .i64 k2, .int .i64 k3, .int .i64 k4, .int .i64 k5, .int .i64 k6, .int .i64 k7, .int .i64 k8, .int .i64 wh, .bool any, .float .f64 mn, .float .f64 mx], .float .f64 b] w fun e w' => e = .returned (.bool (!L2)) ∧ Below w.heap.size w w' := by
  subst ha hL
  go_enter Try.func50, Try.ntmps50
  go_wp2_with (first | (go_at_call 95; refine (KX.out _).mono ?_; rintro e w' ⟨rfl, rfl⟩) | (go_at_call 96; ((with_reducible refine (h1.out _).mono ?_); rintro e w' ⟨rfl, rfl⟩)) | (go_at_call 96; ((with_reducible refine (h2.out _).mono ?_); rintro e w' ⟨rfl, rfl⟩)))
  go_ret
  exact ⟨rfl, (Below.refl _ _).alloc (Nat.le_refl _) _⟩
theorem may_any (s : St) (b : Nat) (hb : b < 18446744073709551616) (h3 : s.mn < 18446744073709551616) (h4 : s.mx < 18446744073709551616) (w : World) :
    Calls Try.prog 50 #[.agg (stV s), .float .f64 b] w fun e w' => e = .returned (.bool (mayB s b)) ∧ Below w.heap.size w w' := by
  have K := kind_any b hb
  rw [← kd_int b] at K
  unfold mayB
  by_cases h8 : kd b = 8
  · rw [if_pos h8]
    exact may_8 _ _ _ _ _ _ _ _ _ _ _ _ _ _ b _ (Lib.hid K) (by rw [h8]; rfl) w
  · rw [if_neg h8]
    have hk : (((kd b : Nat) : Int) == 8) = false := by simp; omega
    cases ha : s.any with
    | false => exact may_none _ _ _ _ _ _ _ _ _ _ _ _ _ _ b _ (Lib.hid K) hk ha w
    | true =>
      have L1 := less_any b s.mn hb h3
      have L2 := less_any s.mx b h4 hb
      unfold lss at L1 L2
      cases e1 : decide (rk b < rk s.mn) with
      | true =>
        have q := may_less s.cnt (s.k 0) (s.k 1) (s.k 2) (s.k 3) (s.k 4) (s.k 5) (s.k 6) (s.k 7) (s.k 8) s.whole s.any s.mn s.mx b _ (Lib.hid K) hk ha _ e1 (Lib.hid L1) w
        rw [show (true && !true && !decide (rk s.mx < rk b)) = false from by simp]
        exact q
      | false =>
        have q := may_more s.cnt (s.k 0) (s.k 1) (s.k 2) (s.k 3) (s.k 4) (s.k 5) (s.k 6) (s.k 7) (s.k 8) s.whole s.any s.mn s.mx b _ (Lib.hid K) hk ha _ _ e1 (Lib.hid L1) (Lib.hid L2) w
        rw [show (true && !false && !decide (rk s.mx < rk b)) = !decide (rk s.mx < rk b) from by simp]
        exact q
set_option maxRecDepth 100000 in
theorem rmay_8 (c k0 k1 k2 k3 k4 k5 k6 k7 k8 wh : Int) (any : Bool) (mn mx b : Nat) (kx : Int) (KX : Hid (∀ w, Calls Try.prog 91 #[.int .u64 (b : Nat)] w fun e w' => e = .returned (.int .i64 kx) ∧ w = w')) (hk : kx = 8) (w : World) :
    Calls Try.prog 52 #[.agg #[.int .i64 c, .int .i64 k0, .int .i64 k1, .int .i64 k2, .int .i64 k3, .int .i64 k4, .int .i64 k5, .int .i64 k6, .int .i64 k7, .int .i64 k8, .int .i64 wh, .bool any, .int .u64 (mn : Nat), .int .u64 (mx : Nat)], .int .u64 (b : Nat)] w fun e w' => e = .returned (.bool (decide (0 < k8))) ∧ Below w.heap.size w w' := by
  subst hk
  go_enter Try.func52, Try.ntmps52
  go_wp2_with (first | (go_at_call 91; refine (KX.out _).mono ?_; rintro e w' ⟨rfl, rfl⟩))
  go_ret
  exact ⟨rfl, (Below.refl _ _).alloc (Nat.le_refl _) _⟩
set_option maxRecDepth 100000 in
theorem rmay_none (c k0 k1 k2 k3 k4 k5 k6 k7 k8 wh : Int) (any : Bool) (mn mx b : Nat) (kx : Int) (KX : Hid (∀ w, Calls Try.prog 91 #[.int .u64 (b : Nat)] w fun e w' => e = .returned (.int .i64 kx) ∧ w = w')) (hk : (kx == 8) = false) (ha : any = false) (r : Int) (h1 : Hid (∀ w, Calls Try.prog 93 #[.int .u64 (b : Nat)] w fun e w' => e = .returned (.int .i64 r) ∧ w = w')) (w : World) :
    Calls Try.prog 52 #[.agg #[.int .i64 c, .int .i64 k0, .int .i64 k1, .int .i64 k2, .int .i64 k3, .int .i64 k4, .int .i64 k5, .int .i64 k6, .int .i64 k7, .int .i64 k8, .int .i64 wh, .bool any, .int .u64 (mn : Nat), .int .u64 (mx : Nat)], .int .u64 (b : Nat)] w fun e w' => e = .returned (.bool false) ∧ Below w.heap.size w w' := by
  subst ha
  go_enter Try.func52, Try.ntmps52
  go_wp2_with (first | (go_at_call 91; refine (KX.out _).mono ?_; rintro e w' ⟨rfl, rfl⟩) | (go_at_call 93; ((with_reducible refine (h1.out _).mono ?_); rintro e w' ⟨rfl, rfl⟩)))
  go_ret
  exact ⟨rfl, (Below.refl _ _).alloc (Nat.le_refl _) _⟩
set_option maxRecDepth 100000 in
theorem rmay_less (c k0 k1 k2 k3 k4 k5 k6 k7 k8 wh : Int) (any : Bool) (mn mx b : Nat) (kx : Int) (KX : Hid (∀ w, Calls Try.prog 91 #[.int .u64 (b : Nat)] w fun e w' => e = .returned (.int .i64 kx) ∧ w = w')) (hk : (kx == 8) = false) (ha : any = true) (r rn : Int) (h1 : Hid (∀ w, Calls Try.prog 93 #[.int .u64 (b : Nat)] w fun e w' => e = .returned (.int .i64 r) ∧ w = w')) (h2 : Hid (∀ w, Calls Try.prog 93 #[.int .u64 (mn : Nat)] w fun e w' => e = .returned (.int .i64 rn) ∧ w = w')) (hr : decide (rn ≤ r) = false) (w : World) :
    Calls Try.prog 52 #[.agg #[.int .i64 c, .int .i64 k0, .int .i64 k1, .int .i64 k2, .int .i64 k3, .int .i64 k4, .int .i64 k5, .int .i64 k6, .int .i64 k7, .int .i64 k8, .int .i64 wh, .bool any, .int .u64 (mn : Nat), .int .u64 (mx : Nat)], .int .u64 (b : Nat)] w fun e w' => e = .returned (.bool false) ∧ Below w.heap.size w w' := by
  subst ha
  go_enter Try.func52, Try.ntmps52
  go_wp2_with (first | (go_at_call 91; refine (KX.out _).mono ?_; rintro e w' ⟨rfl, rfl⟩) | (go_at_call 93; ((with_reducible refine (h1.out _).mono ?_); rintro e w' ⟨rfl, rfl⟩)) | (go_at_call 93; ((with_reducible refine (h2.out _).mono ?_); rintro e w' ⟨rfl, rfl⟩)))
  go_ret
  exact ⟨rfl, (Below.refl _ _).alloc (Nat.le_refl _) _⟩
set_option maxRecDepth 100000 in
theorem rmay_more (c k0 k1 k2 k3 k4 k5 k6 k7 k8 wh : Int) (any : Bool) (mn mx b : Nat) (kx : Int) (KX : Hid (∀ w, Calls Try.prog 91 #[.int .u64 (b : Nat)] w fun e w' => e = .returned (.int .i64 kx) ∧ w = w')) (hk : (kx == 8) = false) (ha : any = true) (r rn rx : Int) (h1 : Hid (∀ w, Calls Try.prog 93 #[.int .u64 (b : Nat)] w fun e w' => e = .returned (.int .i64 r) ∧ w = w')) (h2 : Hid (∀ w, Calls Try.prog 93 #[.int .u64 (mn : Nat)] w fun e w' => e = .returned (.int .i64 rn) ∧ w = w')) (h3 : Hid (∀ w, Calls Try.prog 93 #[.int .u64 (mx : Nat)] w fun e w' => e = .returned (.int .i64 rx) ∧ w = w')) (hr : decide (rn ≤ r) = true) (w : World) :
    Calls Try.prog 52 #[.agg #[.int .i64 c, .int .i64 k0, .int .i64 k1, .int .i64 k2, .int .i64 k3, .int .i64 k4, .int .i64 k5, .int .i64 k6, .int .i64 k7, .int .i64 k8, .int .i64 wh, .bool any, .int .u64 (mn : Nat), .int .u64 (mx : Nat)], .int .u64 (b : Nat)] w fun e w' => e = .returned (.bool (decide (r ≤ rx))) ∧ Below w.heap.size w w' := by
  subst ha
  go_enter Try.func52, Try.ntmps52
  go_wp2_with (first | (go_at_call 91; refine (KX.out _).mono ?_; rintro e w' ⟨rfl, rfl⟩) | (go_at_call 93; ((with_reducible refine (h1.out _).mono ?_); rintro e w' ⟨rfl, rfl⟩)) | (go_at_call 93; ((with_reducible refine (h2.out _).mono ?_); rintro e w' ⟨rfl, rfl⟩)) | (go_at_call 93; ((with_reducible refine (h3.out _).mono ?_); rintro e w' ⟨rfl, rfl⟩)))
  go_ret
  exact ⟨rfl, (Below.refl _ _).alloc (Nat.le_refl _) _⟩
theorem rrank_nat (b : Nat) (hb : b < 18446744073709551616) (w : World) : Calls Try.prog 93 #[.int .u64 (b : Nat)] w fun e w' => e = .returned (.int .i64 (rk b)) ∧ w = w' := by
  have := ref_rank (b : Nat) (by omega) (by omega) w
  rwa [Int.toNat_natCast] at this
theorem rkind_nat (b : Nat) (hb : b < 18446744073709551616) (w : World) : Calls Try.prog 91 #[.int .u64 (b : Nat)] w fun e w' => e = .returned (.int .i64 (kd b : Nat)) ∧ w = w' := by
  have := rkind_any (b : Nat) (by omega) (by omega) w
  rwa [Int.toNat_natCast, ← kd_int] at this
theorem rwhole_nat (b : Nat) (hb : b < 18446744073709551616) (w : World) : Calls Try.prog 92 #[.int .u64 (b : Nat)] w fun e w' => e = .returned (.tuple #[.int .i64 (wn b), .bool (wb b)]) ∧ w = w' := by
  have := rwhole_any (b : Nat) (by omega) (by omega) w
  rwa [Int.toNat_natCast] at this
theorem rmay_any (s : St) (b : Nat) (hb : b < 18446744073709551616) (h3 : s.mn < 18446744073709551616) (h4 : s.mx < 18446744073709551616) (w : World) :
    Calls Try.prog 52 #[.agg (stR s), .int .u64 (b : Nat)] w fun e w' => e = .returned (.bool (mayB s b)) ∧ Below w.heap.size w w' := by
  have K := rkind_nat b hb
  unfold mayB
  by_cases h8 : kd b = 8
  · rw [if_pos h8]
    exact rmay_8 _ _ _ _ _ _ _ _ _ _ _ _ _ _ b _ (Lib.hid K) (by rw [h8]; rfl) w
  · rw [if_neg h8]
    have hk : (((kd b : Nat) : Int) == 8) = false := by simp; omega
    cases ha : s.any with
    | false => exact rmay_none _ _ _ _ _ _ _ _ _ _ _ _ _ _ b _ (Lib.hid K) hk ha _ (Lib.hid (rrank_nat b hb)) w
    | true =>
      cases e1 : decide (rk s.mn ≤ rk b) with
      | false =>
        have q := rmay_less s.cnt (s.k 0) (s.k 1) (s.k 2) (s.k 3) (s.k 4) (s.k 5) (s.k 6) (s.k 7) (s.k 8) s.whole s.any s.mn s.mx b _ (Lib.hid K) hk ha _ _ (Lib.hid (rrank_nat b hb)) (Lib.hid (rrank_nat s.mn h3)) e1 w
        have e2 : decide (rk b < rk s.mn) = true := decide_eq_true (by have := of_decide_eq_false e1; omega)
        rw [e2, show (true && !true && !decide (rk s.mx < rk b)) = false from by simp]
        exact q
      | true =>
        have q := rmay_more s.cnt (s.k 0) (s.k 1) (s.k 2) (s.k 3) (s.k 4) (s.k 5) (s.k 6) (s.k 7) (s.k 8) s.whole s.any s.mn s.mx b _ (Lib.hid K) hk ha _ _ _ (Lib.hid (rrank_nat b hb)) (Lib.hid (rrank_nat s.mn h3)) (Lib.hid (rrank_nat s.mx h4)) e1 w
        have e2 : decide (rk b < rk s.mn) = false := decide_eq_false (by have := of_decide_eq_true e1; omega)
        have e3 : decide (rk b ≤ rk s.mx) = !decide (rk s.mx < rk b) := by
          by_cases h : rk s.mx < rk b
          · rw [decide_eq_true h, decide_eq_false (by omega)]; rfl
          · rw [decide_eq_false h, decide_eq_true (by omega)]; rfl
        rw [e2, ← e3, show (true && !false && decide (rk b ≤ rk s.mx)) = decide (rk b ≤ rk s.mx) from by simp]
        exact q
end Go.Proofs.Ytjdcafeljdnfeaa
