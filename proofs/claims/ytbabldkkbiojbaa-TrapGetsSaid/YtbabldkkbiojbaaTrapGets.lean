/-
  THE STATEMENT corduroylaw02.TrapGets: for every number, every error and every bool the call returns true and leaves its arguments as they were. No condition.
-/
import Derived.Test.YtbabldkkbiojbaaTrapLaw
namespace Go.Proofs.Ytbabldkkbiojbaa.trapGets
open Go.ChangeShapes Go.WideShapes Go.ChangeAt Go.RowKit
set_option linter.unusedVariables false

/-- What Must comes to, of a number and an error. -/
def Musts (x n : Int) (w : World) (e : Ending) (w' : World) : Prop :=
  w = w' ∧ ((n = 0 ∧ e = .returned (.int .u64 x)) ∨ ((n != 0) = true ∧ e = .panicked [{ v := .iface 88 (.agg #[.int .i64 n]), recovered := false }]))
theorem must_any (x n : Int) (w : World) : Calls Try.prog 42 #[.int .u64 x, .int .i64 n] w (Musts x n w) := by
  by_cases h : n = 0
  · subst h
    exact (must_ok x w).mono fun e w' ⟨h1, h2⟩ => ⟨h2, .inl ⟨rfl, h1⟩⟩
  · have h' : (n != 0) = true := by simpa using h
    exact (must_some x n h' w).mono fun e w' ⟨h1, h2⟩ => ⟨h2, .inr ⟨h', h1⟩⟩
theorem gets1 (a b : Addr) (x n : Int) (w : World) (ha : w.cell? a = some (.int .u64 x)) (hb : w.cell? b = some (.int .i64 n)) :
    Calls Try.prog 41 #[.pointer (some a), .pointer (some b)] w (Musts x n w) := by
  go_enter Try.func41, Try.ntmps41
  go_wp2_with fail
  refine (must_any x n _).mono ?_
  rintro e w' ⟨rfl, h | h⟩
  · obtain ⟨rfl, rfl⟩ := h
    go_wp2
    go_ret
    exact ⟨rfl, .inl ⟨rfl, rfl⟩⟩
  · obtain ⟨hn, rfl⟩ := h
    go_wp2
    exact ⟨rfl, ⟨rfl, .inr ⟨hn, rfl⟩⟩⟩
/-- What the closure within Get comes to: the number is laid, or an error thrown. -/
def Laid1 (c : Addr) (x n : Int) (w : World) (e : Ending) (w' : World) : Prop :=
  (n = 0 ∧ e = .returned (.tuple #[]) ∧ w' = w.setCell c (.int .u64 x)) ∨ ((n != 0) = true ∧ e = .panicked [{ v := .iface 88 (.agg #[.int .i64 n]), recovered := false }] ∧ w' = w)
theorem within (p c a b : Addr) (x n : Int) (w : World) (hp : w.cell? p = some (.func (.func 41) #[] #[.pointer (some a), .pointer (some b)])) (ha : w.cell? a = some (.int .u64 x)) (hb : w.cell? b = some (.int .i64 n))
    (hc : w.cell? c = some (.int .u64 0)) (hz : w.frozen? c = false) :
    Calls Try.prog 61 #[.pointer (some p), .pointer (some c)] w (Laid1 c x n w) := by
  go_enter Try.func61, Try.ntmps61
  go_wp2_with fail
  refine (gets1 a b x n _ ha hb).mono ?_
  rintro e w' ⟨rfl, h | h⟩
  · obtain ⟨rfl, rfl⟩ := h
    go_wp2
    go_end0
    exact .inl ⟨rfl, rfl, rfl⟩
  · obtain ⟨hn, rfl⟩ := h
    go_wp2
    exact ⟨rfl, .inr ⟨hn, rfl, rfl⟩⟩
/-- The number, if no error was thrown; else 0. -/
def pickd (n x : Int) : Int := if n = 0 then x else 0
/-- What Get comes to. -/
def Got (x n : Int) (w : World) (e : Ending) (w' : World) : Prop :=
  Below w.heap.size w w' ∧ e = .returned (.tuple #[.int .u64 (pickd n x), .int .i64 n])
theorem get_any (a b : Nat) (x n : Int) (w : World) (ha : w.cell? ⟨a, 0, none⟩ = some (.int .u64 x)) (hb : w.cell? ⟨b, 0, none⟩ = some (.int .i64 n)) (la : a < w.heap.size) (lb : b < w.heap.size) :
    Calls Try.prog 40 #[.func (.func 41) #[] #[.pointer (some ⟨a, 0, none⟩), .pointer (some ⟨b, 0, none⟩)]] w (Got x n w) := by
  have hmf : ∀ (fn : Fn) (first cap : Array Value) (w : World), (Instr.makeFunc fn first cap).run Try.prog w = .ok (.func fn first cap) w := fun _ _ _ _ => rfl
  have e1 : Below w.heap.size w ((w.alloc (.cells #[.func (.func 41) #[] #[.pointer (some ⟨a, 0, none⟩), .pointer (some ⟨b, 0, none⟩)]] 72)).alloc (.cells #[.int .u64 0] 29)) :=
    ((Below.refl _ w).alloc (Nat.le_refl _) _).alloc (by simp) _
  have e2 : ((w.alloc (.cells #[.func (.func 41) #[] #[.pointer (some ⟨a, 0, none⟩), .pointer (some ⟨b, 0, none⟩)]] 72)).alloc (.cells #[.int .u64 0] 29)).cell? ⟨w.heap.size, 0, none⟩ = some (.func (.func 41) #[] #[.pointer (some ⟨a, 0, none⟩), .pointer (some ⟨b, 0, none⟩)]) := by simp [go_sem]
  have e3 : ((w.alloc (.cells #[.func (.func 41) #[] #[.pointer (some ⟨a, 0, none⟩), .pointer (some ⟨b, 0, none⟩)]] 72)).alloc (.cells #[.int .u64 0] 29)).cell? ⟨w.heap.size + 1, 0, none⟩ = some (.int .u64 0) := by simp [go_sem]
  have e4 : ((w.alloc (.cells #[.func (.func 41) #[] #[.pointer (some ⟨a, 0, none⟩), .pointer (some ⟨b, 0, none⟩)]] 72)).alloc (.cells #[.int .u64 0] 29)).frozen? ⟨w.heap.size + 1, 0, none⟩ = false := by simp [go_sem]
  have e5 : ((w.alloc (.cells #[.func (.func 41) #[] #[.pointer (some ⟨a, 0, none⟩), .pointer (some ⟨b, 0, none⟩)]] 72)).alloc (.cells #[.int .u64 0] 29)).heap.size = w.heap.size + 2 := by simp
  have E1 := Lib.hid e1
  have E2 := Lib.hid e2
  have E3 := Lib.hid e3
  have E4 := Lib.hid e4
  have E5 := Lib.hid e5
  clear e1 e2 e3 e4 e5
  go_enter Try.func40, Try.ntmps40
  go_wp2_with fail
  generalize ((w.alloc (.cells #[.func (.func 41) #[] #[.pointer (some ⟨a, 0, none⟩), .pointer (some ⟨b, 0, none⟩)]] 72)).alloc (.cells #[.int .u64 0] 29)) = W at *
  have hN := E5.out
  have hB := E1.out
  have ha' := (hB.cell (p := ⟨a, 0, none⟩) la).trans ha
  have hb' := (hB.cell (p := ⟨b, 0, none⟩) lb).trans hb
  refine (try_any 61 _ W (fun k w1 => k = n ∧ w1.cell? ⟨w.heap.size + 1, 0, none⟩ = some (.int .u64 (pickd n x)) ∧ Below w.heap.size w w1 ∧ w.heap.size + 2 < w1.heap.size) (fun _ => by simp [go_sem])
    ((within ⟨w.heap.size, 0, none⟩ ⟨w.heap.size + 1, 0, none⟩ ⟨a, 0, none⟩ ⟨b, 0, none⟩ x n (W.alloc (.cells #[.int .i64 0] 27)) ?_ ?_ ?_ ?_ ?_).mono ?_)).mono ?_
  · rw [World.cell?_alloc_past _ _ _ (by omega)]; exact E2.out
  · rw [World.cell?_alloc_past _ _ _ (by omega)]; exact ha'
  · rw [World.cell?_alloc_past _ _ _ (by omega)]; exact hb'
  · rw [World.cell?_alloc_past _ _ _ (by omega)]; exact E3.out
  · rw [frozen?_alloc_cells]; exact E4.out
  · rintro e w1 (⟨h0, rfl, rfl⟩ | ⟨hn, rfl, rfl⟩)
    · have hA := alive_new W
      refine ⟨⟨?_, ?_, ?_⟩, .inl ⟨rfl, h0.symm, ?_, ?_, ?_⟩⟩
      · rw [World.cell?_setCell_other _ _ _ _ (by simp [hN])]; exact hA.1
      · rw [World.frozen?_setCell]; exact hA.2.1
      · simp
      · rw [show pickd n x = x from if_pos h0]
        exact World.cell?_setCell_same' _ _ _ (by rw [World.cell?_alloc_past _ _ _ (by omega), E3.out]; rfl)
      · exact (hB.alloc (by omega) _).setCell (by simp) _
      · simp; omega
    · have h0 : ¬ n = 0 := by simpa using hn
      refine ⟨alive_new W, .inr ⟨n, hn, rfl, rfl, ?_, ?_, ?_⟩⟩
      · rw [show pickd n x = 0 from if_neg h0, World.cell?_alloc_past _ _ _ (by omega)]; exact E3.out
      · exact hB.alloc (by omega) _
      · simp; omega
  rintro e w' ⟨k, w1, rfl, ⟨rfl, hx, hb1, hs1⟩, hd⟩
  have hx' := (hd.cell (p := ⟨w.heap.size + 1, 0, none⟩) (by simp; omega) (by simp [hN])).trans hx
  have hfin : Below w.heap.size w w' := hb1.trans (hd.below (by omega) (by omega))
  clear hx hb1 hd hB ha' hb' hN E1 E2 E3 E4 E5
  go_wp2
  go_ret2
  exact ⟨hfin, rfl⟩
/-- What a try of a check comes to. -/
def chk (is : Bool) (n : Int) : Int := if is then 0 else n
def Checks (is : Bool) (n : Int) (w : World) (e : Ending) (w' : World) : Prop :=
  w = w' ∧ ((chk is n = 0 ∧ e = .returned (.tuple #[])) ∨ ((chk is n != 0) = true ∧ e = .panicked [{ v := .iface 88 (.agg #[.int .i64 (chk is n)]), recovered := false }]))
theorem checks (a b : Nat) (is : Bool) (n : Int) (w : World) (ha : w.cell? ⟨a, 0, none⟩ = some (.bool is)) (hb : w.cell? ⟨b, 0, none⟩ = some (.int .i64 n)) :
    Calls Try.prog 43 #[.pointer (some ⟨a, 0, none⟩), .pointer (some ⟨b, 0, none⟩)] w (Checks is n w) := by
  cases is with
  | true =>
    go_enter Try.func43, Try.ntmps43
    go_wp2_with fail
    refine (check_ok n _).mono ?_
    rintro e w' ⟨rfl, rfl⟩
    go_wp2
    go_end0
    exact ⟨rfl, .inl ⟨rfl, rfl⟩⟩
  | false =>
    by_cases h : n = 0
    · subst h
      go_enter Try.func43, Try.ntmps43
      go_wp2_with fail
      refine (check_zero _).mono ?_
      rintro e w' ⟨rfl, rfl⟩
      go_wp2
      go_end0
      exact ⟨rfl, .inl ⟨rfl, rfl⟩⟩
    · have h' : (n != 0) = true := by simpa using h
      have H := Lib.hid h'
      clear h' h
      go_enter Try.func43, Try.ntmps43
      go_wp2_with fail
      refine (check_some n H.out _).mono ?_
      rintro e w' ⟨rfl, rfl⟩
      go_wp2
      exact ⟨rfl, rfl, .inr ⟨H.out, rfl⟩⟩
theorem tried_check (a b : Nat) (is : Bool) (n : Int) (w : World) (ha : w.cell? ⟨a, 0, none⟩ = some (.bool is)) (hb : w.cell? ⟨b, 0, none⟩ = some (.int .i64 n)) (la : a < w.heap.size) (lb : b < w.heap.size) :
    Calls Try.prog 35 #[.func (.func 43) #[] #[.pointer (some ⟨a, 0, none⟩), .pointer (some ⟨b, 0, none⟩)]] w fun e w' => e = .returned (.int .i64 (chk is n)) ∧ Below w.heap.size w w' := by
  refine (try_any 43 _ w (fun k w1 => k = chk is n ∧ w1 = w.alloc (.cells #[.int .i64 0] 27)) (fun _ => by simp [go_sem]) ((checks a b is n _ ?_ ?_).mono ?_)).mono ?_
  · rw [World.cell?_alloc_past _ _ _ la]; exact ha
  · rw [World.cell?_alloc_past _ _ _ lb]; exact hb
  · rintro e w1 ⟨rfl, ⟨h0, rfl⟩ | ⟨hn, rfl⟩⟩
    · exact ⟨alive_new w, .inl ⟨rfl, h0.symm, rfl⟩⟩
    · exact ⟨alive_new w, .inr ⟨_, hn, rfl, rfl, rfl⟩⟩
  · rintro e w' ⟨k, w1, rfl, ⟨rfl, rfl⟩, hd⟩
    exact ⟨rfl, ((Below.refl _ w).alloc (Nat.le_refl _) _).trans (hd.below (Nat.le_refl _) (by simp))⟩
theorem gets_zero_true (x : Int) (w : World) :
    Calls Try.prog 12 #[.int .u64 x, .int .i64 0, .bool true] w fun e w' => e = .returned (.bool true) ∧ Below w.heap.size w w' := by
  have hmf : ∀ (fn : Fn) (first cap : Array Value) (w : World), (Instr.makeFunc fn first cap).run Try.prog w = .ok (.func fn first cap) w := fun _ _ _ _ => rfl
  have e1 : Below w.heap.size w (((w.alloc (.cells #[.int .u64 x] 29)).alloc (.cells #[.int .i64 0] 3)).alloc (.cells #[.bool true] 4)) := (((Below.refl _ w).alloc (Nat.le_refl _) _).alloc (by simp) _).alloc (by simp; omega) _
  have e2 : (((w.alloc (.cells #[.int .u64 x] 29)).alloc (.cells #[.int .i64 0] 3)).alloc (.cells #[.bool true] 4)).cell? ⟨w.heap.size, 0, none⟩ = some (.int .u64 x) := by simp [go_sem]
  have e3 : (((w.alloc (.cells #[.int .u64 x] 29)).alloc (.cells #[.int .i64 0] 3)).alloc (.cells #[.bool true] 4)).cell? ⟨w.heap.size + 1, 0, none⟩ = some (.int .i64 0) := by simp [go_sem]
  have e4 : (((w.alloc (.cells #[.int .u64 x] 29)).alloc (.cells #[.int .i64 0] 3)).alloc (.cells #[.bool true] 4)).cell? ⟨w.heap.size + 1 + 1, 0, none⟩ = some (.bool true) := by simp [go_sem]
  have e5 : (((w.alloc (.cells #[.int .u64 x] 29)).alloc (.cells #[.int .i64 0] 3)).alloc (.cells #[.bool true] 4)).heap.size = w.heap.size + 3 := by simp
  have E1 := Lib.hid e1
  have E2 := Lib.hid e2
  have E3 := Lib.hid e3
  have E4 := Lib.hid e4
  have E5 := Lib.hid e5
  clear e1 e2 e3 e4 e5
  go_enter Try.func12, Try.ntmps12
  go_wp2_with fail
  generalize (((w.alloc (.cells #[.int .u64 x] 29)).alloc (.cells #[.int .i64 0] 3)).alloc (.cells #[.bool true] 4)) = W at *
  refine (get_any _ _ x 0 W E2.out E3.out (by have := E5.out; omega) (by have := E5.out; omega)).mono ?_
  rintro e w1 ⟨hb1, rfl⟩
  rw [show pickd 0 x = x from if_pos rfl]
  have c3 := (hb1.cell (p := ⟨w.heap.size + 1, 0, none⟩) (by have := E5.out; simp; omega)).trans E3.out
  have c4 := (hb1.cell (p := ⟨w.heap.size + 1 + 1, 0, none⟩) (by have := E5.out; simp; omega)).trans E4.out
  have C3 := Lib.hid c3
  have C4 := Lib.hid c4
  have hsz := hb1.size
  have B1 := Lib.hid hb1
  clear c3 c4 hb1
  go_wp2_with fail
  refine (tried_check _ _ true 0 w1 C4.out C3.out (by have := E5.out; omega) (by have := E5.out; omega)).mono ?_
  rintro e w2 ⟨rfl, hb2⟩
  rw [show chk true 0 = 0 from rfl]
  have c3 := (hb2.cell (p := ⟨w.heap.size + 1, 0, none⟩) (by have := E5.out; simp; omega)).trans C3.out
  have c4 := (hb2.cell (p := ⟨w.heap.size + 1 + 1, 0, none⟩) (by have := E5.out; simp; omega)).trans C4.out
  have hfin : Below w.heap.size w w2 := (E1.out.trans (B1.out.mono (by have := E5.out; omega))).trans (hb2.mono (by have := E5.out; omega))
  clear hb2
  go_wp2_with fail
  refine (awake_any w2).mono ?_
  rintro e w3 ⟨rfl, hb3⟩
  have hfin := hfin.trans (hb3.mono (by have := hfin.size; omega))
  clear hb3
  go_wp2
  go_ret
  exact ⟨rfl, hfin⟩
theorem gets_zero_false (x : Int) (w : World) :
    Calls Try.prog 12 #[.int .u64 x, .int .i64 0, .bool false] w fun e w' => e = .returned (.bool true) ∧ Below w.heap.size w w' := by
  have hmf : ∀ (fn : Fn) (first cap : Array Value) (w : World), (Instr.makeFunc fn first cap).run Try.prog w = .ok (.func fn first cap) w := fun _ _ _ _ => rfl
  have e1 : Below w.heap.size w (((w.alloc (.cells #[.int .u64 x] 29)).alloc (.cells #[.int .i64 0] 3)).alloc (.cells #[.bool false] 4)) := (((Below.refl _ w).alloc (Nat.le_refl _) _).alloc (by simp) _).alloc (by simp; omega) _
  have e2 : (((w.alloc (.cells #[.int .u64 x] 29)).alloc (.cells #[.int .i64 0] 3)).alloc (.cells #[.bool false] 4)).cell? ⟨w.heap.size, 0, none⟩ = some (.int .u64 x) := by simp [go_sem]
  have e3 : (((w.alloc (.cells #[.int .u64 x] 29)).alloc (.cells #[.int .i64 0] 3)).alloc (.cells #[.bool false] 4)).cell? ⟨w.heap.size + 1, 0, none⟩ = some (.int .i64 0) := by simp [go_sem]
  have e4 : (((w.alloc (.cells #[.int .u64 x] 29)).alloc (.cells #[.int .i64 0] 3)).alloc (.cells #[.bool false] 4)).cell? ⟨w.heap.size + 1 + 1, 0, none⟩ = some (.bool false) := by simp [go_sem]
  have e5 : (((w.alloc (.cells #[.int .u64 x] 29)).alloc (.cells #[.int .i64 0] 3)).alloc (.cells #[.bool false] 4)).heap.size = w.heap.size + 3 := by simp
  have E1 := Lib.hid e1
  have E2 := Lib.hid e2
  have E3 := Lib.hid e3
  have E4 := Lib.hid e4
  have E5 := Lib.hid e5
  clear e1 e2 e3 e4 e5
  go_enter Try.func12, Try.ntmps12
  go_wp2_with fail
  generalize (((w.alloc (.cells #[.int .u64 x] 29)).alloc (.cells #[.int .i64 0] 3)).alloc (.cells #[.bool false] 4)) = W at *
  refine (get_any _ _ x 0 W E2.out E3.out (by have := E5.out; omega) (by have := E5.out; omega)).mono ?_
  rintro e w1 ⟨hb1, rfl⟩
  rw [show pickd 0 x = x from if_pos rfl]
  have c3 := (hb1.cell (p := ⟨w.heap.size + 1, 0, none⟩) (by have := E5.out; simp; omega)).trans E3.out
  have c4 := (hb1.cell (p := ⟨w.heap.size + 1 + 1, 0, none⟩) (by have := E5.out; simp; omega)).trans E4.out
  have C3 := Lib.hid c3
  have C4 := Lib.hid c4
  have hsz := hb1.size
  have B1 := Lib.hid hb1
  clear c3 c4 hb1
  go_wp2_with fail
  refine (tried_check _ _ false 0 w1 C4.out C3.out (by have := E5.out; omega) (by have := E5.out; omega)).mono ?_
  rintro e w2 ⟨rfl, hb2⟩
  rw [show chk false 0 = 0 from rfl]
  have c3 := (hb2.cell (p := ⟨w.heap.size + 1, 0, none⟩) (by have := E5.out; simp; omega)).trans C3.out
  have c4 := (hb2.cell (p := ⟨w.heap.size + 1 + 1, 0, none⟩) (by have := E5.out; simp; omega)).trans C4.out
  have hfin : Below w.heap.size w w2 := (E1.out.trans (B1.out.mono (by have := E5.out; omega))).trans (hb2.mono (by have := E5.out; omega))
  clear hb2
  go_wp2_with fail
  refine (awake_any w2).mono ?_
  rintro e w3 ⟨rfl, hb3⟩
  have hfin := hfin.trans (hb3.mono (by have := hfin.size; omega))
  clear hb3
  go_wp2
  go_ret
  exact ⟨rfl, hfin⟩
theorem gets_some_true (x : Int) (n : Int) (hn : (n != 0) = true) (w : World) :
    Calls Try.prog 12 #[.int .u64 x, .int .i64 n, .bool true] w fun e w' => e = .returned (.bool true) ∧ Below w.heap.size w w' := by
  have hmf : ∀ (fn : Fn) (first cap : Array Value) (w : World), (Instr.makeFunc fn first cap).run Try.prog w = .ok (.func fn first cap) w := fun _ _ _ _ => rfl
  have e1 : Below w.heap.size w (((w.alloc (.cells #[.int .u64 x] 29)).alloc (.cells #[.int .i64 n] 3)).alloc (.cells #[.bool true] 4)) := (((Below.refl _ w).alloc (Nat.le_refl _) _).alloc (by simp) _).alloc (by simp; omega) _
  have e2 : (((w.alloc (.cells #[.int .u64 x] 29)).alloc (.cells #[.int .i64 n] 3)).alloc (.cells #[.bool true] 4)).cell? ⟨w.heap.size, 0, none⟩ = some (.int .u64 x) := by simp [go_sem]
  have e3 : (((w.alloc (.cells #[.int .u64 x] 29)).alloc (.cells #[.int .i64 n] 3)).alloc (.cells #[.bool true] 4)).cell? ⟨w.heap.size + 1, 0, none⟩ = some (.int .i64 n) := by simp [go_sem]
  have e4 : (((w.alloc (.cells #[.int .u64 x] 29)).alloc (.cells #[.int .i64 n] 3)).alloc (.cells #[.bool true] 4)).cell? ⟨w.heap.size + 1 + 1, 0, none⟩ = some (.bool true) := by simp [go_sem]
  have e5 : (((w.alloc (.cells #[.int .u64 x] 29)).alloc (.cells #[.int .i64 n] 3)).alloc (.cells #[.bool true] 4)).heap.size = w.heap.size + 3 := by simp
  have E1 := Lib.hid e1
  have E2 := Lib.hid e2
  have E3 := Lib.hid e3
  have E4 := Lib.hid e4
  have E5 := Lib.hid e5
  clear e1 e2 e3 e4 e5
  go_enter Try.func12, Try.ntmps12
  go_wp2_with fail
  generalize (((w.alloc (.cells #[.int .u64 x] 29)).alloc (.cells #[.int .i64 n] 3)).alloc (.cells #[.bool true] 4)) = W at *
  refine (get_any _ _ x n W E2.out E3.out (by have := E5.out; omega) (by have := E5.out; omega)).mono ?_
  rintro e w1 ⟨hb1, rfl⟩
  rw [show pickd n x = 0 from if_neg (by simpa using hn)]
  have c3 := (hb1.cell (p := ⟨w.heap.size + 1, 0, none⟩) (by have := E5.out; simp; omega)).trans E3.out
  have c4 := (hb1.cell (p := ⟨w.heap.size + 1 + 1, 0, none⟩) (by have := E5.out; simp; omega)).trans E4.out
  have C3 := Lib.hid c3
  have C4 := Lib.hid c4
  have hsz := hb1.size
  have B1 := Lib.hid hb1
  clear c3 c4 hb1
  go_wp2_with fail
  refine (tried_check _ _ true n w1 C4.out C3.out (by have := E5.out; omega) (by have := E5.out; omega)).mono ?_
  rintro e w2 ⟨rfl, hb2⟩
  rw [show chk true n = 0 from rfl]
  have c3 := (hb2.cell (p := ⟨w.heap.size + 1, 0, none⟩) (by have := E5.out; simp; omega)).trans C3.out
  have c4 := (hb2.cell (p := ⟨w.heap.size + 1 + 1, 0, none⟩) (by have := E5.out; simp; omega)).trans C4.out
  have hfin : Below w.heap.size w w2 := (E1.out.trans (B1.out.mono (by have := E5.out; omega))).trans (hb2.mono (by have := E5.out; omega))
  clear hb2
  go_wp2_with fail
  refine (awake_any w2).mono ?_
  rintro e w3 ⟨rfl, hb3⟩
  have hfin := hfin.trans (hb3.mono (by have := hfin.size; omega))
  clear hb3
  go_wp2
  go_ret
  exact ⟨rfl, hfin⟩
theorem gets_some_false (x : Int) (n : Int) (hn : (n != 0) = true) (w : World) :
    Calls Try.prog 12 #[.int .u64 x, .int .i64 n, .bool false] w fun e w' => e = .returned (.bool true) ∧ Below w.heap.size w w' := by
  have hmf : ∀ (fn : Fn) (first cap : Array Value) (w : World), (Instr.makeFunc fn first cap).run Try.prog w = .ok (.func fn first cap) w := fun _ _ _ _ => rfl
  have e1 : Below w.heap.size w (((w.alloc (.cells #[.int .u64 x] 29)).alloc (.cells #[.int .i64 n] 3)).alloc (.cells #[.bool false] 4)) := (((Below.refl _ w).alloc (Nat.le_refl _) _).alloc (by simp) _).alloc (by simp; omega) _
  have e2 : (((w.alloc (.cells #[.int .u64 x] 29)).alloc (.cells #[.int .i64 n] 3)).alloc (.cells #[.bool false] 4)).cell? ⟨w.heap.size, 0, none⟩ = some (.int .u64 x) := by simp [go_sem]
  have e3 : (((w.alloc (.cells #[.int .u64 x] 29)).alloc (.cells #[.int .i64 n] 3)).alloc (.cells #[.bool false] 4)).cell? ⟨w.heap.size + 1, 0, none⟩ = some (.int .i64 n) := by simp [go_sem]
  have e4 : (((w.alloc (.cells #[.int .u64 x] 29)).alloc (.cells #[.int .i64 n] 3)).alloc (.cells #[.bool false] 4)).cell? ⟨w.heap.size + 1 + 1, 0, none⟩ = some (.bool false) := by simp [go_sem]
  have e5 : (((w.alloc (.cells #[.int .u64 x] 29)).alloc (.cells #[.int .i64 n] 3)).alloc (.cells #[.bool false] 4)).heap.size = w.heap.size + 3 := by simp
  have E1 := Lib.hid e1
  have E2 := Lib.hid e2
  have E3 := Lib.hid e3
  have E4 := Lib.hid e4
  have E5 := Lib.hid e5
  clear e1 e2 e3 e4 e5
  go_enter Try.func12, Try.ntmps12
  go_wp2_with fail
  generalize (((w.alloc (.cells #[.int .u64 x] 29)).alloc (.cells #[.int .i64 n] 3)).alloc (.cells #[.bool false] 4)) = W at *
  refine (get_any _ _ x n W E2.out E3.out (by have := E5.out; omega) (by have := E5.out; omega)).mono ?_
  rintro e w1 ⟨hb1, rfl⟩
  rw [show pickd n x = 0 from if_neg (by simpa using hn)]
  have c3 := (hb1.cell (p := ⟨w.heap.size + 1, 0, none⟩) (by have := E5.out; simp; omega)).trans E3.out
  have c4 := (hb1.cell (p := ⟨w.heap.size + 1 + 1, 0, none⟩) (by have := E5.out; simp; omega)).trans E4.out
  have C3 := Lib.hid c3
  have C4 := Lib.hid c4
  have hsz := hb1.size
  have B1 := Lib.hid hb1
  clear c3 c4 hb1
  go_wp2_with fail
  refine (tried_check _ _ false n w1 C4.out C3.out (by have := E5.out; omega) (by have := E5.out; omega)).mono ?_
  rintro e w2 ⟨rfl, hb2⟩
  rw [show chk false n = n from rfl]
  have c3 := (hb2.cell (p := ⟨w.heap.size + 1, 0, none⟩) (by have := E5.out; simp; omega)).trans C3.out
  have c4 := (hb2.cell (p := ⟨w.heap.size + 1 + 1, 0, none⟩) (by have := E5.out; simp; omega)).trans C4.out
  have hfin : Below w.heap.size w w2 := (E1.out.trans (B1.out.mono (by have := E5.out; omega))).trans (hb2.mono (by have := E5.out; omega))
  clear hb2
  go_wp2_with fail
  refine (awake_any w2).mono ?_
  rintro e w3 ⟨rfl, hb3⟩
  have hfin := hfin.trans (hb3.mono (by have := hfin.size; omega))
  clear hb3
  go_wp2
  go_ret
  exact ⟨rfl, hfin⟩
theorem walk (a0 a1 : Int) (a2 : Bool) (b0 : 0 ≤ a0 ∧ a0 ≤ 18446744073709551615) (b1 : -9223372036854775808 ≤ a1 ∧ a1 ≤ 9223372036854775807) (w : World) :
    Calls Try.prog 12 #[.int .u64 a0, .int .i64 a1, .bool a2] w fun e w' => e = .returned (.bool true) ∧ Below w.heap.size w w' := by
  by_cases h : a1 = 0
  · subst h
    cases a2
    · exact gets_zero_false a0 w
    · exact gets_zero_true a0 w
  · have hn : (a1 != 0) = true := by simpa using h
    cases a2
    · exact gets_some_false a0 a1 hn w
    · exact gets_some_true a0 a1 hn w
theorem own : ownKnob Try.prog.godebug = none := by kernel_rfl
theorem contract (H : Type) (enc : TypeId × Value → H) (W : World) (base : Nat) (args : Array Value) (ds gs : List (DataW H)) (before : List MemPlace)
    (hval : ∀ (j : Nat) t v, Try.f12.params[j]? = some t → args[j]? = some v → Value.okWide Try.prog W .any base t v)
    (hW : DataW.Whole enc Try.prog Try.f12.params.toList Rows.trapGetsSpec.vars false W args.toList ds gs before) :
    Calls Try.prog 12 args W fun e W' => ∃ v, e = .returned v ∧ Rows.trapGetsSpec.post enc Try.prog Try.f12 false true false false W args v W' := by
  have hW' := hW
  obtain ⟨p, q, hA0, hV, rfl, hfz, hnd⟩ := hW
  have hA : DataW.TrodAll enc Try.prog W 0 (fun _ => true) true Try.f12.params.toList args.toList ds p := hA0
  rw [Try.params12] at hA hval
  obtain ⟨v0, vs0, d0, ds0, p0, q0, hargs, rfl, rfl, h0, r0⟩ := trodAll_cons hA
  obtain ⟨v1, vs1, d1, ds1, p1, q1, rfl, rfl, rfl, h1, r1⟩ := trodAll_cons r0
  obtain ⟨v2, vs2, d2, ds2, p2, q2, rfl, rfl, rfl, h2, r2⟩ := trodAll_cons r1
  obtain ⟨rfl, rfl, rfl⟩ := trodAll_nil r2
  obtain rfl : args = #[v0, v1, v2] := by cases args; simp_all
  obtain ⟨rfl, rfl⟩ := trodVars_none hV
  obtain ⟨a0, rfl, rfl, rfl, w0⟩ := open_int Try.underlying29 (hval 0 29 v0 rfl rfl) h0
  have b0 := bounds_u64 w0
  obtain ⟨a1, rfl, rfl, rfl, w1⟩ := open_int Try.underlying3 (hval 1 3 v1 rfl rfl) h1
  have b1 := bounds_i64 w1
  obtain ⟨a2, rfl, rfl, rfl⟩ := open_bool Try.underlying4 (hval 2 4 v2 rfl rfl) h2
  clear hA0
  simp only [List.append_nil] at hW'
  refine (walk a0 a1 a2 b0 b1 W).mono fun e W' ⟨he, hg⟩ => ?_
  subst he
  exact ⟨_, rfl, _, _, _, [], [], [], hW', trodAll_mk1 (shut_bool Try.underlying4 _), (trodAll_cons_mk (shut_int Try.underlying29 w0) (trodAll_cons_mk (shut_int Try.underlying3 w1) (trodAll_cons_mk (shut_bool Try.underlying4 _) trodAll_mk0))), rfl, hg.frame _, fun h => by cases h⟩

set_option maxRecDepth 100000 in
theorem lifted (os : Os) (started : os.Started) (H : Type) (enc : TypeId × Value → H) :
    ReturnsInHanded {} Try.checked os 12 .any (Rows.trapGetsSpec.pre6 enc Try.prog Try.f12 Rows.trapGetsRow.domain false) (Rows.trapGetsSpec.post enc Try.prog Try.f12 false true false false) := by
  refine returnsInHanded_of_change (C := Try.checked) own started (by kernel_rfl) Try.func12
    (ChangeSpec.witness6 (enc := enc) (C := Try.checked) false ⟨#[], #[.int .u64 0, .int .i64 0, .bool false], []⟩ 8 (by kernel_rfl) (by kernel_rfl) (by kernel_rfl) (by kernel_rfl)) ?_
  intro W base args ds gs before hval hW _ _
  exact contract H enc W base args ds gs before hval hW

/-- ████ THE STATEMENT ████ -/
theorem proved : Rows.TrapGetsSaid :=
  OpenClaim.holds_of_wide 12 Try.f12 rfl rfl rfl rfl rfl rfl rfl ⟨rfl, rfl, rfl, rfl, rfl⟩ rfl rfl rfl rfl rfl (by kernel_rfl) Try.func12 (by kernel_rfl)
    (of_decide_eq_true (by kernel_rfl)) (by unfold Func.isWrapper; first | (rw [if_pos (by decide +kernel)]; kernel_rfl) | (rw [if_neg (by decide +kernel)]; exact ⟨rfl, rfl⟩))
    (fun os started H enc _ => lifted os started H enc)
end Go.Proofs.Ytbabldkkbiojbaa.trapGets
