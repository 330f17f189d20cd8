/-
  CONTRACTS OF Pfor's Size and of pfor.fromLeast, in any world. Conditions: at most 1024 numbers, if they are taken, which lie in memory as told.
-/
import Derived.Test.YthonjffojaljdaaPforE
import Derived.Test.YthonjffojaljdaaPforF
import Derived.Test.YthonjffojaljdaaPforC
namespace Go.Proofs.Ythonjffojaljdaa
open Go.RowKit
set_option linter.unusedVariables false
theorem ffl_any (a : Option Addr) (n cap : Nat) (x : Nat → Int) (h0 : 0 < n) (hn : n ≤ 1100) (w : World) (h : RowOf w a n (fun i => .int .i64 (x i))) :
    Calls Try.prog 71 #[.slice a n cap] w fun e w' => ∃ a2 c2, e = .returned (.tuple #[.int .i64 (lmin x n), .slice a2 n c2]) ∧ RowOf w' a2 n (fun i => .int .u64 (fo x n i : Nat)) ∧ Below w.heap.size w w' := by
  refine (fromLeast_any a n cap x h0 hn w h).mono ?_
  rintro e w' ⟨v, rfl, ho, hb⟩
  obtain ⟨a2, c2, rfl, hr, _⟩ := own_reads' ho
  exact ⟨a2, c2, rfl, hr.congr fun i hi => by rw [fo_int], hb⟩
set_option maxRecDepth 100000 in
set_option maxHeartbeats 1000000 in
theorem fsz_any (a : Option Addr) (n cap : Nat) (x : Nat → Int) (w : World) (h : RowOf w a n (fun i => .int .i64 (x i))) :
    Calls Try.prog 29 #[.agg #[], .slice a n cap] w fun e w' => e = .returned (.int .i64 (if blk n then fl x n else 0 : Nat)) ∧ Below w.heap.size w w' := by
  have HB := Lib.hid ((Below.refl w.heap.size w).alloc (Nat.le_refl _) (.cells #[] 51))
  have TK := fun W => ftakes_any a n cap W
  cases hb : blk n
  · rw [hb] at TK
    have TK := Lib.hid TK
    clear hb h
    go_enter Try.func29, Try.ntmps29
    go_wp2_with (go_at_call 70; refine (TK.out _).mono ?_; rintro e w1 ⟨rfl, hb⟩; have HB1 := Lib.hid hb; clear hb)
    go_ret
    exact ⟨rfl, HB.out.trans (HB1.out.mono (by simp))⟩
  · have hn : 1 ≤ n ∧ n ≤ 1024 := by have := of_decide_eq_true hb; omega
    obtain ⟨hn1, hn2⟩ := hn
    rw [hb] at TK
    have TK := Lib.hid TK
    have FL := Lib.hid (fun (W : World) (hW : Below w.heap.size w W) => ffl_any a n cap x (by omega) (by omega) W (h.below hW))
    have NA := Lib.hid (fun (a2 : Option Addr) (c2 : Nat) (W : World) (hr : RowOf W a2 n (fun i => .int .u64 (fo x n i : Nat))) => (show Calls Try.prog 73 #[.slice a2 n c2] W fun e W' => e = .returned (.int .i64 (fq x n : Nat)) ∧ Below W.heap.size W W' from narrow_any a2 n c2 (fo x n) hn2 (fun i _ => fo_lt x n i) W hr))
    have SZ := Lib.hid (fun (a2 : Option Addr) (c2 : Nat) (W : World) (hr : RowOf W a2 n (fun i => .int .u64 (fo x n i : Nat))) => (show Calls Try.prog 72 #[.slice a2 n c2, .int .i64 (fq x n : Nat)] W fun e W' => e = .returned (.int .i64 (fl x n : Nat)) ∧ Below W.heap.size W W' from psz_any a2 n c2 (fq x n) (fo x n) hn2 (by have := fq_le x n; have := most_le (fo x n) n; omega) (fun i _ => fo_lt x n i) W hr))
    clear hb h
    rw [show (if true = true then fl x n else 0 : Nat) = fl x n from rfl]
    go_enter Try.func29, Try.ntmps29
    go_wp2_with (first
      | (go_at_call 70; refine (TK.out _).mono ?_; rintro e w1 ⟨rfl, hb⟩; have HB1 := Lib.hid (HB.out.trans (hb.mono HB.out.size)); clear hb)
      | (go_at_call 71; refine (FL.out _ HB1.out).mono ?_; rintro e w2 ⟨a2, c2, rfl, hr, hb⟩; have HR2 := Lib.hid hr; have HB2 := Lib.hid (HB1.out.trans (hb.mono HB1.out.size)); clear hb hr)
      | (go_at_call 73; refine (NA.out _ _ _ HR2.out).mono ?_; rintro e w3 ⟨rfl, hb⟩; have HR3 := Lib.hid (HR2.out.below hb); have HB3 := Lib.hid (HB2.out.trans (hb.mono HB2.out.size)); clear hb)
      | (go_at_call 72; refine (SZ.out _ _ _ HR3.out).mono ?_; rintro e w4 ⟨rfl, hb⟩; have HB4 := Lib.hid (HB3.out.trans (hb.mono HB3.out.size)); clear hb))
    go_ret
    exact ⟨rfl, HB4.out⟩
end Go.Proofs.Ythonjffojaljdaa
