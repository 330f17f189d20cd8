/-
  THE CARD OF corduroylaw20.RealOrder: for every two times 64 bits the call returns true and leaves its arguments as they were. Condition: the card's own, that the package-level table of names starts as the program's text lays it.
-/
import Derived.Test.YtdbppkhdmhdepaaDoorCards
import Derived.Test.YtdbppkhdmhdepaaDoorTie
import Derived.Test.YtdbppkhdmhdepaaDoorRealMore
import Derived.Test.YtdbppkhdmhdepaaDoorRealLaid
namespace Go.Proofs.YtdbppkhdmhdepaaDoor.realOrder
open Go.ChangeShapes Go.WideShapes Go.ChangeAt Go.RowKit
set_option linter.unusedVariables false

theorem core_lt (n m r s : Int) (x y : Nat) (k : Int) (hk : (k == 8) = false) (w : World) (h5 : w.cell? ⟨1, 5, none⟩ = some (.string ⟨#[116, 105, 110, 121]⟩))
    (hx : n.toNat = x) (hy : m.toNat = y) (he : (r == s) = false) (hd : (n == m) = false) (hn : (n != m) = true) (oxy : FloatKind.f64.format.order x y = some .lt) (oxx : FloatKind.f64.format.order x x = some .eq)
    (RX : Hid (∀ w, Calls Tryd.prog 14 #[.float .f64 x] w fun e w' => e = .returned (.int .i64 r) ∧ w = w'))
    (RY : Hid (∀ w, Calls Tryd.prog 14 #[.float .f64 y] w fun e w' => e = .returned (.int .i64 s) ∧ w = w'))
    (FR : Hid (∀ w, Calls Tryd.prog 21 #[.int .i64 r] w fun e w' => e = .returned (.float .f64 x) ∧ w = w'))
    (SXX : Hid (∀ w, Calls Tryd.prog 23 #[.float .f64 x, .float .f64 x] w fun e w' => e = .returned (.bool true) ∧ w = w'))
    (LXX : Hid (∀ w, Calls Tryd.prog 24 #[.float .f64 x, .float .f64 x] w fun e w' => e = .returned (.bool false) ∧ w = w'))
    (LXY : Hid (∀ w, Calls Tryd.prog 24 #[.float .f64 x, .float .f64 y] w fun e w' => e = .returned (.bool true) ∧ w = w'))
    (KX : Hid (∀ w, Calls Tryd.prog 16 #[.float .f64 x] w fun e w' => e = .returned (.int .i64 k) ∧ w = w')) :
    Calls Tryd.prog 6 #[.int .u64 n, .int .u64 m] w fun e w' => e = .returned (.bool true) ∧ w = w' := by
  have hf := call_frombits
  go_enter Tryd.func6, Tryd.ntmps6
  go_wp2_with fail
  refine (RX.out _).mono ?_
  rintro e w' ⟨rfl, rfl⟩
  go_wp2_with fail
  refine (RY.out _).mono ?_
  rintro e w' ⟨rfl, rfl⟩
  go_wp2_with fail
  refine (RX.out _).mono ?_
  rintro e w' ⟨rfl, rfl⟩
  go_wp2_with fail
  refine (FR.out _).mono ?_
  rintro e w' ⟨rfl, rfl⟩
  go_wp2_with fail
  refine (SXX.out _).mono ?_
  rintro e w' ⟨rfl, rfl⟩
  go_wp2_with fail
  refine (SXX.out _).mono ?_
  rintro e w' ⟨rfl, rfl⟩
  go_wp2_with fail
  refine (LXX.out _).mono ?_
  rintro e w' ⟨rfl, rfl⟩
  go_wp2_with fail
  refine (LXY.out _).mono ?_
  rintro e w' ⟨rfl, rfl⟩
  go_wp2_with fail
  refine (KX.out _).mono ?_
  rintro e w' ⟨rfl, rfl⟩
  go_wp2_with fail
  refine (awake_any _ h5).mono ?_
  rintro e w' ⟨rfl, rfl⟩
  go_wp2
  go_ret
  exact ⟨rfl, rfl⟩
theorem core_gt (n m r s : Int) (x y : Nat) (k : Int) (hk : (k == 8) = false) (w : World) (h5 : w.cell? ⟨1, 5, none⟩ = some (.string ⟨#[116, 105, 110, 121]⟩))
    (hx : n.toNat = x) (hy : m.toNat = y) (he : (r == s) = false) (hd : (n == m) = false) (hn : (n != m) = true) (oxy : FloatKind.f64.format.order x y = some .gt) (oxx : FloatKind.f64.format.order x x = some .eq)
    (RX : Hid (∀ w, Calls Tryd.prog 14 #[.float .f64 x] w fun e w' => e = .returned (.int .i64 r) ∧ w = w'))
    (RY : Hid (∀ w, Calls Tryd.prog 14 #[.float .f64 y] w fun e w' => e = .returned (.int .i64 s) ∧ w = w'))
    (FR : Hid (∀ w, Calls Tryd.prog 21 #[.int .i64 r] w fun e w' => e = .returned (.float .f64 x) ∧ w = w'))
    (SXX : Hid (∀ w, Calls Tryd.prog 23 #[.float .f64 x, .float .f64 x] w fun e w' => e = .returned (.bool true) ∧ w = w'))
    (LXX : Hid (∀ w, Calls Tryd.prog 24 #[.float .f64 x, .float .f64 x] w fun e w' => e = .returned (.bool false) ∧ w = w'))
    (LYX : Hid (∀ w, Calls Tryd.prog 24 #[.float .f64 y, .float .f64 x] w fun e w' => e = .returned (.bool true) ∧ w = w'))
    (KX : Hid (∀ w, Calls Tryd.prog 16 #[.float .f64 x] w fun e w' => e = .returned (.int .i64 k) ∧ w = w')) :
    Calls Tryd.prog 6 #[.int .u64 n, .int .u64 m] w fun e w' => e = .returned (.bool true) ∧ w = w' := by
  have hf := call_frombits
  go_enter Tryd.func6, Tryd.ntmps6
  go_wp2_with fail
  refine (RX.out _).mono ?_
  rintro e w' ⟨rfl, rfl⟩
  go_wp2_with fail
  refine (RY.out _).mono ?_
  rintro e w' ⟨rfl, rfl⟩
  go_wp2_with fail
  refine (RX.out _).mono ?_
  rintro e w' ⟨rfl, rfl⟩
  go_wp2_with fail
  refine (FR.out _).mono ?_
  rintro e w' ⟨rfl, rfl⟩
  go_wp2_with fail
  refine (SXX.out _).mono ?_
  rintro e w' ⟨rfl, rfl⟩
  go_wp2_with fail
  refine (SXX.out _).mono ?_
  rintro e w' ⟨rfl, rfl⟩
  go_wp2_with fail
  refine (LXX.out _).mono ?_
  rintro e w' ⟨rfl, rfl⟩
  go_wp2_with fail
  refine (LYX.out _).mono ?_
  rintro e w' ⟨rfl, rfl⟩
  go_wp2_with fail
  refine (KX.out _).mono ?_
  rintro e w' ⟨rfl, rfl⟩
  go_wp2_with fail
  refine (awake_any _ h5).mono ?_
  rintro e w' ⟨rfl, rfl⟩
  go_wp2
  go_ret
  exact ⟨rfl, rfl⟩
theorem core_eq (n m r s : Int) (x y : Nat) (k : Int) (hk : (k == 8) = false) (w : World) (h5 : w.cell? ⟨1, 5, none⟩ = some (.string ⟨#[116, 105, 110, 121]⟩))
    (hx : n.toNat = x) (hy : m.toNat = y) (he : (r == s) = true) (hd : (n == m) = true) (hn : (n != m) = false) (oxy : FloatKind.f64.format.order x y = some .eq) (oxx : FloatKind.f64.format.order x x = some .eq)
    (RX : Hid (∀ w, Calls Tryd.prog 14 #[.float .f64 x] w fun e w' => e = .returned (.int .i64 r) ∧ w = w'))
    (RY : Hid (∀ w, Calls Tryd.prog 14 #[.float .f64 y] w fun e w' => e = .returned (.int .i64 s) ∧ w = w'))
    (FR : Hid (∀ w, Calls Tryd.prog 21 #[.int .i64 r] w fun e w' => e = .returned (.float .f64 x) ∧ w = w'))
    (SXX : Hid (∀ w, Calls Tryd.prog 23 #[.float .f64 x, .float .f64 x] w fun e w' => e = .returned (.bool true) ∧ w = w'))
    (LXX : Hid (∀ w, Calls Tryd.prog 24 #[.float .f64 x, .float .f64 x] w fun e w' => e = .returned (.bool false) ∧ w = w'))
    (KX : Hid (∀ w, Calls Tryd.prog 16 #[.float .f64 x] w fun e w' => e = .returned (.int .i64 k) ∧ w = w')) :
    Calls Tryd.prog 6 #[.int .u64 n, .int .u64 m] w fun e w' => e = .returned (.bool true) ∧ w = w' := by
  have hf := call_frombits
  go_enter Tryd.func6, Tryd.ntmps6
  go_wp2_with fail
  refine (RX.out _).mono ?_
  rintro e w' ⟨rfl, rfl⟩
  go_wp2_with fail
  refine (RY.out _).mono ?_
  rintro e w' ⟨rfl, rfl⟩
  go_wp2_with fail
  refine (RX.out _).mono ?_
  rintro e w' ⟨rfl, rfl⟩
  go_wp2_with fail
  refine (FR.out _).mono ?_
  rintro e w' ⟨rfl, rfl⟩
  go_wp2_with fail
  refine (SXX.out _).mono ?_
  rintro e w' ⟨rfl, rfl⟩
  go_wp2_with fail
  refine (SXX.out _).mono ?_
  rintro e w' ⟨rfl, rfl⟩
  go_wp2_with fail
  refine (LXX.out _).mono ?_
  rintro e w' ⟨rfl, rfl⟩
  go_wp2_with fail
  refine (KX.out _).mono ?_
  rintro e w' ⟨rfl, rfl⟩
  go_wp2_with fail
  refine (awake_any _ h5).mono ?_
  rintro e w' ⟨rfl, rfl⟩
  go_wp2
  go_ret
  exact ⟨rfl, rfl⟩
theorem core_un (n m r s : Int) (x y : Nat) (k : Int) (hk : (k == 8) = false) (w : World) (h5 : w.cell? ⟨1, 5, none⟩ = some (.string ⟨#[116, 105, 110, 121]⟩))
    (hx : n.toNat = x) (hy : m.toNat = y) (he : (r == s) = false) (hd : (n == m) = false) (hn : (n != m) = true) (oxy : FloatKind.f64.format.order x y = none) (oxx : FloatKind.f64.format.order x x = some .eq)
    (RX : Hid (∀ w, Calls Tryd.prog 14 #[.float .f64 x] w fun e w' => e = .returned (.int .i64 r) ∧ w = w'))
    (RY : Hid (∀ w, Calls Tryd.prog 14 #[.float .f64 y] w fun e w' => e = .returned (.int .i64 s) ∧ w = w'))
    (FR : Hid (∀ w, Calls Tryd.prog 21 #[.int .i64 r] w fun e w' => e = .returned (.float .f64 x) ∧ w = w'))
    (SXX : Hid (∀ w, Calls Tryd.prog 23 #[.float .f64 x, .float .f64 x] w fun e w' => e = .returned (.bool true) ∧ w = w'))
    (LXX : Hid (∀ w, Calls Tryd.prog 24 #[.float .f64 x, .float .f64 x] w fun e w' => e = .returned (.bool false) ∧ w = w'))
    (KX : Hid (∀ w, Calls Tryd.prog 16 #[.float .f64 x] w fun e w' => e = .returned (.int .i64 k) ∧ w = w')) :
    Calls Tryd.prog 6 #[.int .u64 n, .int .u64 m] w fun e w' => e = .returned (.bool true) ∧ w = w' := by
  have hf := call_frombits
  go_enter Tryd.func6, Tryd.ntmps6
  go_wp2_with fail
  refine (RX.out _).mono ?_
  rintro e w' ⟨rfl, rfl⟩
  go_wp2_with fail
  refine (RY.out _).mono ?_
  rintro e w' ⟨rfl, rfl⟩
  go_wp2_with fail
  refine (RX.out _).mono ?_
  rintro e w' ⟨rfl, rfl⟩
  go_wp2_with fail
  refine (FR.out _).mono ?_
  rintro e w' ⟨rfl, rfl⟩
  go_wp2_with fail
  refine (SXX.out _).mono ?_
  rintro e w' ⟨rfl, rfl⟩
  go_wp2_with fail
  refine (SXX.out _).mono ?_
  rintro e w' ⟨rfl, rfl⟩
  go_wp2_with fail
  refine (LXX.out _).mono ?_
  rintro e w' ⟨rfl, rfl⟩
  go_wp2_with fail
  refine (KX.out _).mono ?_
  rintro e w' ⟨rfl, rfl⟩
  go_wp2_with fail
  refine (awake_any _ h5).mono ?_
  rintro e w' ⟨rfl, rfl⟩
  go_wp2
  go_ret
  exact ⟨rfl, rfl⟩
theorem core_zmp (n m r s : Int) (x y : Nat) (w : World) (h5 : w.cell? ⟨1, 5, none⟩ = some (.string ⟨#[116, 105, 110, 121]⟩))
    (hx : n.toNat = x) (hy : m.toNat = y) (he : (r == s) = false) (hd : (n == m) = false) (hn : (n != m) = true) (oxy : FloatKind.f64.format.order x y = some .eq) (oxx : FloatKind.f64.format.order x x = some .eq)
    (RX : Hid (∀ w, Calls Tryd.prog 14 #[.float .f64 x] w fun e w' => e = .returned (.int .i64 r) ∧ w = w'))
    (RY : Hid (∀ w, Calls Tryd.prog 14 #[.float .f64 y] w fun e w' => e = .returned (.int .i64 s) ∧ w = w'))
    (FR : Hid (∀ w, Calls Tryd.prog 21 #[.int .i64 r] w fun e w' => e = .returned (.float .f64 x) ∧ w = w'))
    (SXX : Hid (∀ w, Calls Tryd.prog 23 #[.float .f64 x, .float .f64 x] w fun e w' => e = .returned (.bool true) ∧ w = w'))
    (LXX : Hid (∀ w, Calls Tryd.prog 24 #[.float .f64 x, .float .f64 x] w fun e w' => e = .returned (.bool false) ∧ w = w'))
    (KX : Hid (∀ w, Calls Tryd.prog 16 #[.float .f64 x] w fun e w' => e = .returned (.int .i64 3) ∧ w = w'))
    (KY : Hid (∀ w, Calls Tryd.prog 16 #[.float .f64 y] w fun e w' => e = .returned (.int .i64 4) ∧ w = w'))
    (LXY : Hid (∀ w, Calls Tryd.prog 24 #[.float .f64 x, .float .f64 y] w fun e w' => e = .returned (.bool true) ∧ w = w')) :
    Calls Tryd.prog 6 #[.int .u64 n, .int .u64 m] w fun e w' => e = .returned (.bool true) ∧ w = w' := by
  have hf := call_frombits
  go_enter Tryd.func6, Tryd.ntmps6
  go_wp2_with fail
  refine (RX.out _).mono ?_
  rintro e w' ⟨rfl, rfl⟩
  go_wp2_with fail
  refine (RY.out _).mono ?_
  rintro e w' ⟨rfl, rfl⟩
  go_wp2_with fail
  refine (RX.out _).mono ?_
  rintro e w' ⟨rfl, rfl⟩
  go_wp2_with fail
  refine (FR.out _).mono ?_
  rintro e w' ⟨rfl, rfl⟩
  go_wp2_with fail
  refine (SXX.out _).mono ?_
  rintro e w' ⟨rfl, rfl⟩
  go_wp2_with fail
  refine (SXX.out _).mono ?_
  rintro e w' ⟨rfl, rfl⟩
  go_wp2_with fail
  refine (LXX.out _).mono ?_
  rintro e w' ⟨rfl, rfl⟩
  go_wp2_with fail
  refine (KX.out _).mono ?_
  rintro e w' ⟨rfl, rfl⟩
  go_wp2_with fail
  refine (KY.out _).mono ?_
  rintro e w' ⟨rfl, rfl⟩
  go_wp2_with fail
  refine (LXY.out _).mono ?_
  rintro e w' ⟨rfl, rfl⟩
  go_wp2_with fail
  refine (KX.out _).mono ?_
  rintro e w' ⟨rfl, rfl⟩
  go_wp2_with fail
  refine (awake_any _ h5).mono ?_
  rintro e w' ⟨rfl, rfl⟩
  go_wp2
  go_ret
  exact ⟨rfl, rfl⟩
theorem core_zpm (n m r s : Int) (x y : Nat) (w : World) (h5 : w.cell? ⟨1, 5, none⟩ = some (.string ⟨#[116, 105, 110, 121]⟩))
    (hx : n.toNat = x) (hy : m.toNat = y) (he : (r == s) = false) (hd : (n == m) = false) (hn : (n != m) = true) (oxy : FloatKind.f64.format.order x y = some .eq) (oxx : FloatKind.f64.format.order x x = some .eq)
    (RX : Hid (∀ w, Calls Tryd.prog 14 #[.float .f64 x] w fun e w' => e = .returned (.int .i64 r) ∧ w = w'))
    (RY : Hid (∀ w, Calls Tryd.prog 14 #[.float .f64 y] w fun e w' => e = .returned (.int .i64 s) ∧ w = w'))
    (FR : Hid (∀ w, Calls Tryd.prog 21 #[.int .i64 r] w fun e w' => e = .returned (.float .f64 x) ∧ w = w'))
    (SXX : Hid (∀ w, Calls Tryd.prog 23 #[.float .f64 x, .float .f64 x] w fun e w' => e = .returned (.bool true) ∧ w = w'))
    (LXX : Hid (∀ w, Calls Tryd.prog 24 #[.float .f64 x, .float .f64 x] w fun e w' => e = .returned (.bool false) ∧ w = w'))
    (KX : Hid (∀ w, Calls Tryd.prog 16 #[.float .f64 x] w fun e w' => e = .returned (.int .i64 4) ∧ w = w'))
    (KY : Hid (∀ w, Calls Tryd.prog 16 #[.float .f64 y] w fun e w' => e = .returned (.int .i64 3) ∧ w = w'))
    (LYX : Hid (∀ w, Calls Tryd.prog 24 #[.float .f64 y, .float .f64 x] w fun e w' => e = .returned (.bool true) ∧ w = w')) :
    Calls Tryd.prog 6 #[.int .u64 n, .int .u64 m] w fun e w' => e = .returned (.bool true) ∧ w = w' := by
  have hf := call_frombits
  go_enter Tryd.func6, Tryd.ntmps6
  go_wp2_with fail
  refine (RX.out _).mono ?_
  rintro e w' ⟨rfl, rfl⟩
  go_wp2_with fail
  refine (RY.out _).mono ?_
  rintro e w' ⟨rfl, rfl⟩
  go_wp2_with fail
  refine (RX.out _).mono ?_
  rintro e w' ⟨rfl, rfl⟩
  go_wp2_with fail
  refine (FR.out _).mono ?_
  rintro e w' ⟨rfl, rfl⟩
  go_wp2_with fail
  refine (SXX.out _).mono ?_
  rintro e w' ⟨rfl, rfl⟩
  go_wp2_with fail
  refine (SXX.out _).mono ?_
  rintro e w' ⟨rfl, rfl⟩
  go_wp2_with fail
  refine (LXX.out _).mono ?_
  rintro e w' ⟨rfl, rfl⟩
  go_wp2_with fail
  refine (KX.out _).mono ?_
  rintro e w' ⟨rfl, rfl⟩
  go_wp2_with fail
  refine (KY.out _).mono ?_
  rintro e w' ⟨rfl, rfl⟩
  go_wp2_with fail
  refine (KX.out _).mono ?_
  rintro e w' ⟨rfl, rfl⟩
  go_wp2_with fail
  refine (LYX.out _).mono ?_
  rintro e w' ⟨rfl, rfl⟩
  go_wp2_with fail
  refine (KX.out _).mono ?_
  rintro e w' ⟨rfl, rfl⟩
  go_wp2_with fail
  refine (awake_any _ h5).mono ?_
  rintro e w' ⟨rfl, rfl⟩
  go_wp2
  go_ret
  exact ⟨rfl, rfl⟩
theorem core_nanm_true (n m r s : Int) (x y : Nat) (w : World) (h5 : w.cell? ⟨1, 5, none⟩ = some (.string ⟨#[116, 105, 110, 121]⟩))
    (hx : n.toNat = x) (hy : m.toNat = y) (he : (r == s) = true) (hd : (n == m) = true) (hn : (n != m) = false) (oxy : FloatKind.f64.format.order x y = none) (oxx : FloatKind.f64.format.order x x = none)
    (RX : Hid (∀ w, Calls Tryd.prog 14 #[.float .f64 x] w fun e w' => e = .returned (.int .i64 r) ∧ w = w'))
    (RY : Hid (∀ w, Calls Tryd.prog 14 #[.float .f64 y] w fun e w' => e = .returned (.int .i64 s) ∧ w = w'))
    (FR : Hid (∀ w, Calls Tryd.prog 21 #[.int .i64 r] w fun e w' => e = .returned (.float .f64 x) ∧ w = w'))
    (SXX : Hid (∀ w, Calls Tryd.prog 23 #[.float .f64 x, .float .f64 x] w fun e w' => e = .returned (.bool true) ∧ w = w'))
    (LXX : Hid (∀ w, Calls Tryd.prog 24 #[.float .f64 x, .float .f64 x] w fun e w' => e = .returned (.bool false) ∧ w = w'))
    (KX : Hid (∀ w, Calls Tryd.prog 16 #[.float .f64 x] w fun e w' => e = .returned (.int .i64 8) ∧ w = w'))
    (LXM : Hid (∀ w, Calls Tryd.prog 24 #[.float .f64 x, .float .f64 18442240474082181120] w fun e w' => e = .returned (.bool true) ∧ w = w')) :
    Calls Tryd.prog 6 #[.int .u64 n, .int .u64 m] w fun e w' => e = .returned (.bool true) ∧ w = w' := by
  have hf := call_frombits
  go_enter Tryd.func6, Tryd.ntmps6
  go_wp2_with fail
  refine (RX.out _).mono ?_
  rintro e w' ⟨rfl, rfl⟩
  go_wp2_with fail
  refine (RY.out _).mono ?_
  rintro e w' ⟨rfl, rfl⟩
  go_wp2_with fail
  refine (RX.out _).mono ?_
  rintro e w' ⟨rfl, rfl⟩
  go_wp2_with fail
  refine (FR.out _).mono ?_
  rintro e w' ⟨rfl, rfl⟩
  go_wp2_with fail
  refine (SXX.out _).mono ?_
  rintro e w' ⟨rfl, rfl⟩
  go_wp2_with fail
  refine (SXX.out _).mono ?_
  rintro e w' ⟨rfl, rfl⟩
  go_wp2_with fail
  refine (LXX.out _).mono ?_
  rintro e w' ⟨rfl, rfl⟩
  go_wp2_with fail
  refine (KX.out _).mono ?_
  rintro e w' ⟨rfl, rfl⟩
  go_wp2_with fail
  refine (inf_minus _).mono ?_
  rintro e w' ⟨rfl, rfl⟩
  go_wp2_with fail
  refine (LXM.out _).mono ?_
  rintro e w' ⟨rfl, rfl⟩
  go_wp2_with fail
  refine (KX.out _).mono ?_
  rintro e w' ⟨rfl, rfl⟩
  go_wp2_with fail
  refine (awake_any _ h5).mono ?_
  rintro e w' ⟨rfl, rfl⟩
  go_wp2
  go_ret
  exact ⟨rfl, rfl⟩
theorem core_nanp_true (n m r s : Int) (x y : Nat) (w : World) (h5 : w.cell? ⟨1, 5, none⟩ = some (.string ⟨#[116, 105, 110, 121]⟩))
    (hx : n.toNat = x) (hy : m.toNat = y) (he : (r == s) = true) (hd : (n == m) = true) (hn : (n != m) = false) (oxy : FloatKind.f64.format.order x y = none) (oxx : FloatKind.f64.format.order x x = none)
    (RX : Hid (∀ w, Calls Tryd.prog 14 #[.float .f64 x] w fun e w' => e = .returned (.int .i64 r) ∧ w = w'))
    (RY : Hid (∀ w, Calls Tryd.prog 14 #[.float .f64 y] w fun e w' => e = .returned (.int .i64 s) ∧ w = w'))
    (FR : Hid (∀ w, Calls Tryd.prog 21 #[.int .i64 r] w fun e w' => e = .returned (.float .f64 x) ∧ w = w'))
    (SXX : Hid (∀ w, Calls Tryd.prog 23 #[.float .f64 x, .float .f64 x] w fun e w' => e = .returned (.bool true) ∧ w = w'))
    (LXX : Hid (∀ w, Calls Tryd.prog 24 #[.float .f64 x, .float .f64 x] w fun e w' => e = .returned (.bool false) ∧ w = w'))
    (KX : Hid (∀ w, Calls Tryd.prog 16 #[.float .f64 x] w fun e w' => e = .returned (.int .i64 8) ∧ w = w'))
    (LXM0 : Hid (∀ w, Calls Tryd.prog 24 #[.float .f64 x, .float .f64 18442240474082181120] w fun e w' => e = .returned (.bool false) ∧ w = w'))
    (LPX : Hid (∀ w, Calls Tryd.prog 24 #[.float .f64 9218868437227405312, .float .f64 x] w fun e w' => e = .returned (.bool true) ∧ w = w')) :
    Calls Tryd.prog 6 #[.int .u64 n, .int .u64 m] w fun e w' => e = .returned (.bool true) ∧ w = w' := by
  have hf := call_frombits
  go_enter Tryd.func6, Tryd.ntmps6
  go_wp2_with fail
  refine (RX.out _).mono ?_
  rintro e w' ⟨rfl, rfl⟩
  go_wp2_with fail
  refine (RY.out _).mono ?_
  rintro e w' ⟨rfl, rfl⟩
  go_wp2_with fail
  refine (RX.out _).mono ?_
  rintro e w' ⟨rfl, rfl⟩
  go_wp2_with fail
  refine (FR.out _).mono ?_
  rintro e w' ⟨rfl, rfl⟩
  go_wp2_with fail
  refine (SXX.out _).mono ?_
  rintro e w' ⟨rfl, rfl⟩
  go_wp2_with fail
  refine (SXX.out _).mono ?_
  rintro e w' ⟨rfl, rfl⟩
  go_wp2_with fail
  refine (LXX.out _).mono ?_
  rintro e w' ⟨rfl, rfl⟩
  go_wp2_with fail
  refine (KX.out _).mono ?_
  rintro e w' ⟨rfl, rfl⟩
  go_wp2_with fail
  refine (inf_minus _).mono ?_
  rintro e w' ⟨rfl, rfl⟩
  go_wp2_with fail
  refine (LXM0.out _).mono ?_
  rintro e w' ⟨rfl, rfl⟩
  go_wp2_with fail
  refine (inf_plus _).mono ?_
  rintro e w' ⟨rfl, rfl⟩
  go_wp2_with fail
  refine (LPX.out _).mono ?_
  rintro e w' ⟨rfl, rfl⟩
  go_wp2_with fail
  refine (KX.out _).mono ?_
  rintro e w' ⟨rfl, rfl⟩
  go_wp2_with fail
  refine (awake_any _ h5).mono ?_
  rintro e w' ⟨rfl, rfl⟩
  go_wp2
  go_ret
  exact ⟨rfl, rfl⟩
theorem core_nanm_false (n m r s : Int) (x y : Nat) (w : World) (h5 : w.cell? ⟨1, 5, none⟩ = some (.string ⟨#[116, 105, 110, 121]⟩))
    (hx : n.toNat = x) (hy : m.toNat = y) (he : (r == s) = false) (hd : (n == m) = false) (hn : (n != m) = true) (oxy : FloatKind.f64.format.order x y = none) (oxx : FloatKind.f64.format.order x x = none)
    (RX : Hid (∀ w, Calls Tryd.prog 14 #[.float .f64 x] w fun e w' => e = .returned (.int .i64 r) ∧ w = w'))
    (RY : Hid (∀ w, Calls Tryd.prog 14 #[.float .f64 y] w fun e w' => e = .returned (.int .i64 s) ∧ w = w'))
    (FR : Hid (∀ w, Calls Tryd.prog 21 #[.int .i64 r] w fun e w' => e = .returned (.float .f64 x) ∧ w = w'))
    (SXX : Hid (∀ w, Calls Tryd.prog 23 #[.float .f64 x, .float .f64 x] w fun e w' => e = .returned (.bool true) ∧ w = w'))
    (LXX : Hid (∀ w, Calls Tryd.prog 24 #[.float .f64 x, .float .f64 x] w fun e w' => e = .returned (.bool false) ∧ w = w'))
    (KX : Hid (∀ w, Calls Tryd.prog 16 #[.float .f64 x] w fun e w' => e = .returned (.int .i64 8) ∧ w = w'))
    (LXM : Hid (∀ w, Calls Tryd.prog 24 #[.float .f64 x, .float .f64 18442240474082181120] w fun e w' => e = .returned (.bool true) ∧ w = w')) :
    Calls Tryd.prog 6 #[.int .u64 n, .int .u64 m] w fun e w' => e = .returned (.bool true) ∧ w = w' := by
  have hf := call_frombits
  go_enter Tryd.func6, Tryd.ntmps6
  go_wp2_with fail
  refine (RX.out _).mono ?_
  rintro e w' ⟨rfl, rfl⟩
  go_wp2_with fail
  refine (RY.out _).mono ?_
  rintro e w' ⟨rfl, rfl⟩
  go_wp2_with fail
  refine (RX.out _).mono ?_
  rintro e w' ⟨rfl, rfl⟩
  go_wp2_with fail
  refine (FR.out _).mono ?_
  rintro e w' ⟨rfl, rfl⟩
  go_wp2_with fail
  refine (SXX.out _).mono ?_
  rintro e w' ⟨rfl, rfl⟩
  go_wp2_with fail
  refine (SXX.out _).mono ?_
  rintro e w' ⟨rfl, rfl⟩
  go_wp2_with fail
  refine (LXX.out _).mono ?_
  rintro e w' ⟨rfl, rfl⟩
  go_wp2_with fail
  refine (KX.out _).mono ?_
  rintro e w' ⟨rfl, rfl⟩
  go_wp2_with fail
  refine (inf_minus _).mono ?_
  rintro e w' ⟨rfl, rfl⟩
  go_wp2_with fail
  refine (LXM.out _).mono ?_
  rintro e w' ⟨rfl, rfl⟩
  go_wp2_with fail
  refine (KX.out _).mono ?_
  rintro e w' ⟨rfl, rfl⟩
  go_wp2_with fail
  refine (awake_any _ h5).mono ?_
  rintro e w' ⟨rfl, rfl⟩
  go_wp2
  go_ret
  exact ⟨rfl, rfl⟩
theorem core_nanp_false (n m r s : Int) (x y : Nat) (w : World) (h5 : w.cell? ⟨1, 5, none⟩ = some (.string ⟨#[116, 105, 110, 121]⟩))
    (hx : n.toNat = x) (hy : m.toNat = y) (he : (r == s) = false) (hd : (n == m) = false) (hn : (n != m) = true) (oxy : FloatKind.f64.format.order x y = none) (oxx : FloatKind.f64.format.order x x = none)
    (RX : Hid (∀ w, Calls Tryd.prog 14 #[.float .f64 x] w fun e w' => e = .returned (.int .i64 r) ∧ w = w'))
    (RY : Hid (∀ w, Calls Tryd.prog 14 #[.float .f64 y] w fun e w' => e = .returned (.int .i64 s) ∧ w = w'))
    (FR : Hid (∀ w, Calls Tryd.prog 21 #[.int .i64 r] w fun e w' => e = .returned (.float .f64 x) ∧ w = w'))
    (SXX : Hid (∀ w, Calls Tryd.prog 23 #[.float .f64 x, .float .f64 x] w fun e w' => e = .returned (.bool true) ∧ w = w'))
    (LXX : Hid (∀ w, Calls Tryd.prog 24 #[.float .f64 x, .float .f64 x] w fun e w' => e = .returned (.bool false) ∧ w = w'))
    (KX : Hid (∀ w, Calls Tryd.prog 16 #[.float .f64 x] w fun e w' => e = .returned (.int .i64 8) ∧ w = w'))
    (LXM0 : Hid (∀ w, Calls Tryd.prog 24 #[.float .f64 x, .float .f64 18442240474082181120] w fun e w' => e = .returned (.bool false) ∧ w = w'))
    (LPX : Hid (∀ w, Calls Tryd.prog 24 #[.float .f64 9218868437227405312, .float .f64 x] w fun e w' => e = .returned (.bool true) ∧ w = w')) :
    Calls Tryd.prog 6 #[.int .u64 n, .int .u64 m] w fun e w' => e = .returned (.bool true) ∧ w = w' := by
  have hf := call_frombits
  go_enter Tryd.func6, Tryd.ntmps6
  go_wp2_with fail
  refine (RX.out _).mono ?_
  rintro e w' ⟨rfl, rfl⟩
  go_wp2_with fail
  refine (RY.out _).mono ?_
  rintro e w' ⟨rfl, rfl⟩
  go_wp2_with fail
  refine (RX.out _).mono ?_
  rintro e w' ⟨rfl, rfl⟩
  go_wp2_with fail
  refine (FR.out _).mono ?_
  rintro e w' ⟨rfl, rfl⟩
  go_wp2_with fail
  refine (SXX.out _).mono ?_
  rintro e w' ⟨rfl, rfl⟩
  go_wp2_with fail
  refine (SXX.out _).mono ?_
  rintro e w' ⟨rfl, rfl⟩
  go_wp2_with fail
  refine (LXX.out _).mono ?_
  rintro e w' ⟨rfl, rfl⟩
  go_wp2_with fail
  refine (KX.out _).mono ?_
  rintro e w' ⟨rfl, rfl⟩
  go_wp2_with fail
  refine (inf_minus _).mono ?_
  rintro e w' ⟨rfl, rfl⟩
  go_wp2_with fail
  refine (LXM0.out _).mono ?_
  rintro e w' ⟨rfl, rfl⟩
  go_wp2_with fail
  refine (inf_plus _).mono ?_
  rintro e w' ⟨rfl, rfl⟩
  go_wp2_with fail
  refine (LPX.out _).mono ?_
  rintro e w' ⟨rfl, rfl⟩
  go_wp2_with fail
  refine (KX.out _).mono ?_
  rintro e w' ⟨rfl, rfl⟩
  go_wp2_with fail
  refine (awake_any _ h5).mono ?_
  rintro e w' ⟨rfl, rfl⟩
  go_wp2
  go_ret
  exact ⟨rfl, rfl⟩
theorem f64d : FloatKind.f64.format = Ieee.double := rfl
theorem walk (n m : Int) (h0 : 0 ≤ n ∧ n ≤ 18446744073709551615) (h1 : 0 ≤ m ∧ m ≤ 18446744073709551615) (w : World) (h5 : w.cell? ⟨1, 5, none⟩ = some (.string ⟨#[116, 105, 110, 121]⟩)) :
    Calls Tryd.prog 6 #[.int .u64 n, .int .u64 m] w fun e w' => e = .returned (.bool true) ∧ w = w' := by
  obtain ⟨x, rfl⟩ := Int.eq_ofNat_of_zero_le h0.1
  obtain ⟨y, rfl⟩ := Int.eq_ofNat_of_zero_le h1.1
  have bx : x < 18446744073709551616 := by omega
  have bY : y < 18446744073709551616 := by omega
  have tx : (x : Int).toNat = x := Int.toNat_natCast x
  have ty : (y : Int).toNat = y := Int.toNat_natCast y
  have rx := rnk_rung x bx
  have ry := rnk_rung y bY
  have RX := Lib.hid (rank_any x bx)
  have RY := Lib.hid (rank_any y bY)
  have FR := Lib.hid (from_rank_back x bx)
  have SXX := Lib.hid (show ∀ w, Calls Tryd.prog 23 #[.float .f64 x, .float .f64 x] w fun e w' => e = .returned (.bool true) ∧ w = w' from fun w => by have := same_any x x bx bx w; simpa using this)
  have LXX := Lib.hid (show ∀ w, Calls Tryd.prog 24 #[.float .f64 x, .float .f64 x] w fun e w' => e = .returned (.bool false) ∧ w = w' from fun w => by have := less_any x x bx bx w; simpa [lss] using this)
  have less : ∀ a b : Nat, a < 18446744073709551616 → b < 18446744073709551616 → rnk (sgn a) < rnk (sgn b) → ∀ w, Calls Tryd.prog 24 #[.float .f64 a, .float .f64 b] w fun e w' => e = .returned (.bool true) ∧ w = w' := fun a b ha hb h w => by
    have := less_any a b ha hb w; rwa [show lss (sgn a) (sgn b) = true from by unfold lss; simpa using h] at this
  have nless : ∀ a b : Nat, a < 18446744073709551616 → b < 18446744073709551616 → ¬ rnk (sgn a) < rnk (sgn b) → ∀ w, Calls Tryd.prog 24 #[.float .f64 a, .float .f64 b] w fun e w' => e = .returned (.bool false) ∧ w = w' := fun a b ha hb h w => by
    have := less_any a b ha hb w; rwa [show lss (sgn a) (sgn b) = false from by unfold lss; simpa using h] at this
  have KX := kind_any x bx
  have KY := kind_any y bY
  have inj := rung_inj x y bx bY
  have eqf : x ≠ y → ((rnk (sgn x) == rnk (sgn y)) = false ∧ ((x : Int) == (y : Int)) = false ∧ ((x : Int) != (y : Int)) = true) := fun h => by
    refine ⟨?_, by simp; omega, by simp; omega⟩
    have : rnk (sgn x) ≠ rnk (sgn y) := fun e => h (by
      rw [rx, ry] at e
      apply inj
      · cases hmx : minus x <;> cases hmy : minus y <;> simp [hmx, hmy] at e ⊢ <;> omega
      · cases hmx : minus x <;> cases hmy : minus y <;> simp [hmx, hmy] at e <;> omega)
    simpa using this
  have eqt : x = y → ((rnk (sgn x) == rnk (sgn y)) = true ∧ ((x : Int) == (y : Int)) = true ∧ ((x : Int) != (y : Int)) = false) := fun h => by
    subst h; simp
  by_cases nx : isNan x
  · have oxy : FloatKind.f64.format.order x y = none := by rw [f64d]; exact order_nan x y (.inl nx)
    have oxx : FloatKind.f64.format.order x x = none := by rw [f64d]; exact order_nan x x (.inl nx)
    have k8 := (knd_nan x bx).2 nx
    rw [k8] at KX
    have rm : rung 18442240474082181120 = 9218868437227405312 := by decide
    have mm : minus 18442240474082181120 = true := by decide
    have rp : rung 9218868437227405312 = 9218868437227405312 := by decide
    have mp : minus 9218868437227405312 = false := by decide
    have ri := rnk_rung 18442240474082181120 (by decide)
    have rj := rnk_rung 9218868437227405312 (by decide)
    rw [rm, mm] at ri
    rw [rp, mp] at rj
    simp at ri rj
    unfold isNan at nx
    cases hm : minus x with
    | true =>
      rw [hm] at rx
      simp at rx
      have L := less x 18442240474082181120 bx (by decide) (by rw [rx, ri]; omega)
      by_cases e : x = y
      · obtain ⟨e1, e2, e3⟩ := eqt e
        exact core_nanm_true x y _ _ x y w h5 tx ty e1 e2 e3 oxy oxx RX RY FR SXX LXX (Lib.hid KX) (Lib.hid L)
      · obtain ⟨e1, e2, e3⟩ := eqf e
        exact core_nanm_false x y _ _ x y w h5 tx ty e1 e2 e3 oxy oxx RX RY FR SXX LXX (Lib.hid KX) (Lib.hid L)
    | false =>
      rw [hm] at rx
      simp at rx
      have L := nless x 18442240474082181120 bx (by decide) (by rw [rx, ri]; omega)
      have M := less 9218868437227405312 x (by decide) bx (by rw [rx, rj]; omega)
      by_cases e : x = y
      · obtain ⟨e1, e2, e3⟩ := eqt e
        exact core_nanp_true x y _ _ x y w h5 tx ty e1 e2 e3 oxy oxx RX RY FR SXX LXX (Lib.hid KX) (Lib.hid L) (Lib.hid M)
      · obtain ⟨e1, e2, e3⟩ := eqf e
        exact core_nanp_false x y _ _ x y w h5 tx ty e1 e2 e3 oxy oxx RX RY FR SXX LXX (Lib.hid KX) (Lib.hid L) (Lib.hid M)
  · have oxx : FloatKind.f64.format.order x x = some .eq := by rw [f64d, order_num x x nx nx, cmp_eq rfl]
    have hk : (knd (sgn x) == 8) = false := by simpa using fun h => nx ((knd_nan x bx).1 h)
    by_cases ny : isNan y
    · have oxy : FloatKind.f64.format.order x y = none := by rw [f64d]; exact order_nan x y (.inr ny)
      obtain ⟨e1, e2, e3⟩ := eqf (fun e => nx (e ▸ ny))
      exact core_un x y _ _ x y _ hk w h5 tx ty e1 e2 e3 oxy oxx RX RY FR SXX LXX (Lib.hid KX)
    · have oxy : FloatKind.f64.format.order x y = some (compare (place x) (place y)) := by rw [f64d, order_num x y nx ny]
      rcases Int.lt_trichotomy (place x) (place y) with h | h | h
      · rw [cmp_lt h] at oxy
        have hl : rnk (sgn x) < rnk (sgn y) := by
          rw [rx, ry]; unfold place at h
          cases hmx : minus x <;> cases hmy : minus y <;> simp [hmx, hmy] at h ⊢ <;> omega
        obtain ⟨e1, e2, e3⟩ := eqf (fun e => by subst e; omega)
        exact core_lt x y _ _ x y _ hk w h5 tx ty e1 e2 e3 oxy oxx RX RY FR SXX LXX (Lib.hid (less x y bx bY hl)) (Lib.hid KX)
      · rw [cmp_eq h] at oxy
        by_cases e : x = y
        · obtain ⟨e1, e2, e3⟩ := eqt e
          exact core_eq x y _ _ x y _ hk w h5 tx ty e1 e2 e3 oxy oxx RX RY FR SXX LXX (Lib.hid KX)
        · obtain ⟨e1, e2, e3⟩ := eqf e
          have hz : rung x = 0 ∧ rung y = 0 ∧ minus x ≠ minus y := by
            unfold place at h
            cases hmx : minus x <;> cases hmy : minus y <;> simp [hmx, hmy] at h ⊢
            · exact e (inj (by rw [hmx, hmy]) (by omega))
            · omega
            · omega
            · exact e (inj (by rw [hmx, hmy]) (by omega))
          obtain ⟨zx, zy, hne⟩ := hz
          have k1 := knd_zero x bx zx
          have k2 := knd_zero y bY zy
          rw [zx] at rx
          rw [zy] at ry
          cases hmx : minus x with
          | true =>
            have hmy : minus y = false := by cases hmy : minus y <;> simp_all
            rw [hmx] at k1 rx
            rw [hmy] at k2 ry
            rw [k1] at KX
            rw [k2] at KY
            have hl : rnk (sgn x) < rnk (sgn y) := by rw [rx, ry]; decide
            exact core_zmp x y _ _ x y w h5 tx ty e1 e2 e3 oxy oxx RX RY FR SXX LXX (Lib.hid KX) (Lib.hid KY) (Lib.hid (less x y bx bY hl))
          | false =>
            have hmy : minus y = true := by cases hmy : minus y <;> simp_all
            rw [hmx] at k1 rx
            rw [hmy] at k2 ry
            rw [k1] at KX
            rw [k2] at KY
            have hl : rnk (sgn y) < rnk (sgn x) := by rw [rx, ry]; decide
            exact core_zpm x y _ _ x y w h5 tx ty e1 e2 e3 oxy oxx RX RY FR SXX LXX (Lib.hid KX) (Lib.hid KY) (Lib.hid (less y x bY bx hl))
      · rw [cmp_gt h] at oxy
        have hl : rnk (sgn y) < rnk (sgn x) := by
          rw [rx, ry]; unfold place at h
          cases hmx : minus x <;> cases hmy : minus y <;> simp [hmx, hmy] at h ⊢ <;> omega
        obtain ⟨e1, e2, e3⟩ := eqf (fun e => by subst e; omega)
        exact core_gt x y _ _ x y _ hk w h5 tx ty e1 e2 e3 oxy oxx RX RY FR SXX LXX (Lib.hid (less y x bY bx hl)) (Lib.hid KX)
theorem own : ownKnob Tryd.prog.godebug = none := by kernel_rfl
theorem contract (H : Type) (enc : TypeId × Value → H) (W : World) (base : Nat) (args : Array Value) (ds gs : List (DataW H)) (before : List MemPlace)
    (hval : ∀ (j : Nat) t v, Tryd.f6.params[j]? = some t → args[j]? = some v → Value.okWide Tryd.prog W .any base t v)
    (hW : DataW.Whole enc Tryd.prog Tryd.f6.params.toList Rows.realOrderSpec.vars false W args.toList ds gs before) (hL : laidMetH Tryd.prog Rows.realOrderRow.laid W) :
    Calls Tryd.prog 6 args W fun e W' => ∃ v, e = .returned v ∧ Rows.realOrderSpec.post enc Tryd.prog Tryd.f6 false true false false W args v W' := by
  have hW' := hW
  obtain ⟨p, q, hA0, hV, rfl, hfz, hnd⟩ := hW
  have hA : DataW.TrodAll enc Tryd.prog W 0 (fun _ => true) true Tryd.f6.params.toList args.toList ds p := hA0
  rw [Tryd.params6] at hA hval
  obtain ⟨v0, vs0, d0, ds0, p0, q0, hargs, rfl, rfl, h0, r0⟩ := trodAll_cons hA
  obtain ⟨v1, vs1, d1, ds1, p1, q1, rfl, rfl, rfl, h1, r1⟩ := trodAll_cons r0
  obtain ⟨rfl, rfl, rfl⟩ := trodAll_nil r1
  obtain rfl : args = #[v0, v1] := by cases args; simp_all
  obtain ⟨rfl, rfl⟩ := trodVars_none hV
  obtain ⟨a0, rfl, rfl, rfl, w0⟩ := open_int Tryd.underlying22 (hval 0 22 v0 rfl rfl) h0
  have b0 := bounds_u64 w0
  obtain ⟨a1, rfl, rfl, rfl, w1⟩ := open_int Tryd.underlying22 (hval 1 22 v1 rfl rfl) h1
  have b1 := bounds_u64 w1
  clear hA0
  simp only [List.append_nil] at hW'
  have h5 : W.cell? ⟨1, 5, none⟩ = some (.string ⟨#[116, 105, 110, 121]⟩) := (names_cells hL 5).trans rfl
  refine (walk a0 a1 b0 b1 W h5).mono fun e W' ⟨he, hg⟩ => ?_
  subst he
  subst hg
  exact ⟨_, rfl, post_of_same (pa := []) (pv := []) hW' (fun _ _ _ => trodAll_cons_mk (shut_bool Tryd.underlying4 _) trodAll_mk0) (fun _ _ => (trodAll_cons_mk (shut_int Tryd.underlying22 w0) (trodAll_cons_mk (shut_int Tryd.underlying22 w1) trodAll_mk0))) (fun _ _ => rfl) rfl
    (World.keptBut_refl _ _) (fun _ => rfl) (ok_one (by kernel_rfl) rfl (okWide_bool_mk Tryd.underlying4 _))⟩

theorem laid_met (os : Os) : laidMet Tryd.prog Rows.realOrderRow.laid ((laidWorld os).forCall (fun _ _ => 0) ⟨#[], #[.int .u64 0, .int .u64 0], []⟩).memory :=
  laidMet_of_run' 8 (by kernel_rfl) (by kernel_rfl)
theorem reads (os : Os) {H : Type} (enc : TypeId × Value → H) : ∃ places, DataW.whole enc Tryd.prog ((laidWorld os).forCall (fun _ _ => 0) ⟨#[], #[.int .u64 0, .int .u64 0], []⟩).memory Tryd.f6.params.toList Rows.realOrderSpec.vars false (#[.int .u64 0, .int .u64 0] : Array Value).toList 8 = some ([.lit (.int .u64 0), .lit (.int .u64 0)], [], places) :=
  ⟨[], by kernel_rfl⟩

set_option maxRecDepth 100000 in
theorem lifted (os : Os) (started : os.Started) (H : Type) (enc : TypeId × Value → H) (F : Stop.Interp) :
    ReturnsInHanded {} Tryd.checked os 6 .any ((OpenSpec.ofChange Rows.realOrderSpec).preRow enc Tryd.prog Tryd.f6 Rows.realOrderRow.domain false Rows.realOrderRow.laid) (((OpenSpec.ofChange Rows.realOrderSpec).at F).post enc Tryd.prog Tryd.f6 false true false false) := by
  obtain ⟨places, hx⟩ := reads os enc
  refine returnsInHanded_of_row (C := Tryd.checked) (s := OpenSpec.ofChange Rows.realOrderSpec) own started (by kernel_rfl) Tryd.func6
    (witness_row_at (enc := enc) (C := Tryd.checked) false (laidWorld os) #[.int .u64 0, .int .u64 0] rfl (by kernel_rfl) (by kernel_rfl) (by kernel_rfl)
      (OpenSpec.preRow_of_cond 8 hx (by kernel_rfl) (fun k hk => by cases hk) (by kernel_rfl) (laid_met os))) ?_
  intro W base args ds gs before hval hW _ _ _ hL _ _
  exact contract H enc W base args ds gs before hval hW hL

theorem said : Rows.RealOrderSaid :=
  OpenClaim.holds_of_cond 6 Tryd.f6 rfl rfl rfl rfl rfl rfl rfl ⟨rfl, rfl, rfl, rfl, rfl⟩ rfl rfl rfl rfl rfl (by kernel_rfl) Tryd.func6 (by kernel_rfl)
    (of_decide_eq_true (by kernel_rfl)) (by unfold Func.isWrapper; first | (rw [if_pos (by decide +kernel)]; kernel_rfl) | (rw [if_neg (by decide +kernel)]; exact ⟨rfl, rfl⟩))
    (fun os started H enc _ F => by rw [OpenClaim.pre_eq_preRow]; exact lifted os started H enc F)

theorem plain (f : FuncId) (fn : Func) (hf : Tryd.pinned.checked.prog.funcNamed "corduroy/corduroylaw20.RealOrder" = some f) (hfn : Tryd.pinned.checked.prog.funcs[f]? = some fn) :
    false = Tryd.pinned.checked.prog.looks [] ∧ ∀ (j : Nat) t, fn.params[j]? = some t → Tryd.pinned.checked.prog.wantsStandIn t = false := by
  obtain rfl : f = 6 := Option.some.inj ((show Tryd.prog.funcNamed "corduroy/corduroylaw20.RealOrder" = some 6 by kernel_rfl).symm.trans hf) |>.symm
  obtain rfl : fn = Tryd.f6 := (Option.some.inj (Tryd.func6.symm.trans hfn)).symm
  refine ⟨by kernel_rfl, fun j t ht => ?_⟩
  rw [Tryd.params6] at ht
  have hm : t = 22 := by simpa using Array.mem_of_getElem? ht
  subst hm; exact (show Tryd.prog.wantsStandIn 22 = false by kernel_rfl)

/-- ████ THE CARD ████ -/
theorem card : Rows.RealOrderCardSaid :=
  Claim7.holds_tied_plain_at .later [] _ _ _ _ said (fun _ h => by cases h) (by kernel_rfl) (fun _ h => by cases h) realOrder_row_tie rfl ⟨rfl, rfl⟩ (by kernel_rfl) rfl plain (by kernel_rfl)
end Go.Proofs.YtdbppkhdmhdepaaDoor.realOrder
