/-
  CONTRACTS OF PACKAGE trap, in any world: Throw, Check, the deferred closure of Try in each way it is entered, and Try of any function whose own contract is known: what was thrown comes out as an error, and all else is as the function left it. Conditions: each contract's own.
-/
import Derived.Test.YtelcaejiipibpaaDoorRows
import Derived.WalkKit
import Derived.WalkLawsBesides
import Derived.WalkSpells
import Derived.ProofKit
import Derived.OpenShut
import Derived.Defers
import Derived.Recover
import Derived.Laws.Pointers
import Derived.Laws.NewBlocks
import Derived.Lib.Hide
namespace Go.Proofs.YtelcaejiipibpaaDoor
open Go.ChangeShapes Go.WideShapes Go.ChangeAt Go.RowKit
set_option linter.unusedVariables false

theorem throw_ok (w : World) :
    Calls Tryd.prog 58 #[.int .i64 0] w fun e w' => e = .returned (.tuple #[]) ∧ w = w' := by
  go_enter Tryd.func58, Tryd.ntmps58
  go_wp2
  go_end0
  exact ⟨rfl, rfl⟩
theorem throw_some (n : Int) (h : (n != 0) = true) (w : World) :
    Calls Tryd.prog 58 #[.int .i64 n] w fun e w' => e = .panicked [{ v := .iface 94 (.agg #[.int .i64 n]), recovered := false }] ∧ w = w' := by
  go_enter Tryd.func58, Tryd.ntmps58
  go_wp2
  exact ⟨rfl, rfl, rfl⟩
theorem assert_thrown (x : Value) (w : World) : (Instr.typeAssert (.iface 94 x) 20 94 true).run Tryd.prog w = .ok (.tuple #[x, .bool true]) w := by kernel_rfl
theorem assert_text (x : Value) (w : World) : (Instr.typeAssert (.iface 9 x) 20 94 true).run Tryd.prog w = .ok (.tuple #[.agg #[.int .i64 0], .bool false]) w := by kernel_rfl
theorem catch_idle (p : Addr) (w : World) :
    CallsD Tryd.prog 61 #[.pointer (some p)] .returning w fun e u' w' => e = .returned (.tuple #[]) ∧ u' = .returning ∧ w' = w := by
  refine callsD_of_wpS Tryd.func61 rfl fun c₀ cs hu => ?_
  apply wpS_seq
  apply wpS_region
  simp [wpOpsS, go_sem, recoverD, hu, Tryd.ntmps61, Exit.thenS]
  refine wpS_of_wp ?_
  simp only [Array.replicate_succ, Array.replicate_zero, List.push_toArray, List.append_toArray, List.nil_append, List.cons_append, List.setIfInBounds_toArray, List.set_cons_succ, List.set_cons_zero]
  go_wp2
  cases c₀
  simp_all [bodyPostS, results, Tryd.results61]
theorem catch_thrown (b : Nat) (n m : Int) (older : List PanicEntry) (w : World) (hc : w.cell? ⟨b, 0, none⟩ = some (.int .i64 m)) (hz : w.frozen? ⟨b, 0, none⟩ = false) (hp : b < w.heap.size) :
    CallsD Tryd.prog 61 #[.pointer (some ⟨b, 0, none⟩)] (.panicking ({ v := .iface 94 (.agg #[.int .i64 n]), recovered := false } :: older)) w fun e u' w' =>
      e = .returned (.tuple #[]) ∧ u' = .panicking ({ v := .iface 94 (.agg #[.int .i64 n]), recovered := true } :: older) ∧ w' = (w.setCell ⟨b, 0, none⟩ (.int .i64 n)).alloc (.cells #[.int .i64 n] 94) := by
  have ta := assert_thrown
  have hz2 : (w.alloc (.cells #[.int .i64 n] 94)).frozen? ⟨b, 0, none⟩ = false := by rw [frozen?_alloc_cells]; exact hz
  have hc2 : (w.alloc (.cells #[.int .i64 n] 94)).cell? ⟨b, 0, none⟩ = some (.int .i64 m) := by rw [World.cell?_alloc_past _ _ _ hp]; exact hc
  refine callsD_of_wpS Tryd.func61 rfl fun c₀ cs hu => ?_
  apply wpS_seq
  apply wpS_region
  simp [wpOpsS, go_sem, recoverD, hu, Tryd.ntmps61, Exit.thenS]
  refine wpS_of_wp ?_
  simp only [Array.replicate_succ, Array.replicate_zero, List.push_toArray, List.append_toArray, List.nil_append, List.cons_append, List.setIfInBounds_toArray, List.set_cons_succ, List.set_cons_zero]
  go_wp2
  cases c₀
  simp_all [bodyPostS, results, Tryd.results61]
theorem catch_text (p : Addr) (x : Value) (older : List PanicEntry) (w : World) :
    CallsD Tryd.prog 61 #[.pointer (some p)] (.panicking ({ v := .iface 9 x, recovered := false } :: older)) w fun e u' w' =>
      e = .panicked [{ v := .iface 9 x, recovered := false }] ∧ u' = .panicking ({ v := .iface 9 x, recovered := true } :: older) ∧ w' = w.alloc (.cells #[.int .i64 0] 94) := by
  have ta := assert_text
  refine callsD_of_wpS Tryd.func61 rfl fun c₀ cs hu => ?_
  apply wpS_seq
  apply wpS_region
  simp [wpOpsS, go_sem, recoverD, hu, Tryd.ntmps61, Exit.thenS]
  refine wpS_of_wp ?_
  simp only [Array.replicate_succ, Array.replicate_zero, List.push_toArray, List.append_toArray, List.nil_append, List.cons_append, List.setIfInBounds_toArray, List.set_cons_succ, List.set_cons_zero]
  go_wp2
  cases c₀
  simp_all [bodyPostS]
/-- The block that holds what a try comes to is still there, and holds nothing yet. -/
def Alive (w w1 : World) : Prop := w1.cell? ⟨w.heap.size, 0, none⟩ = some (.int .i64 0) ∧ w1.frozen? ⟨w.heap.size, 0, none⟩ = false ∧ w.heap.size < w1.heap.size
/-- But for new blocks and the block b all is as it was. -/
def Aside (b : Nat) (w w' : World) : Prop := w'.os = w.os ∧ w'.tape = w.tape ∧ w'.output = w.output ∧ w.heap.size ≤ w'.heap.size ∧ ∀ k, k < w.heap.size → k ≠ b → w'.heap[k]? = w.heap[k]?
/-- What a thing that is tried may come to: it returns, or throws. -/
def Comes1 (w : World) (Q : Int → World → Prop) (e : Ending) (w1 : World) : Prop :=
  Alive w w1 ∧ ((e = .returned (.tuple #[]) ∧ Q 0 w1) ∨ ∃ n, (n != 0) = true ∧ e = .panicked [{ v := .iface 94 (.agg #[.int .i64 n]), recovered := false }] ∧ Q n w1)
def Tried (w : World) (Q : Int → World → Prop) (e : Ending) (w' : World) : Prop := ∃ n w1, e = .returned (.int .i64 n) ∧ Q n w1 ∧ Aside w.heap.size w1 w'
theorem try_any (f : FuncId) (caps : Array Value) (w : World) (Q : Int → World → Prop) (he : ∀ w, (callFunc f caps).run Tryd.prog w = .ok (.enter f caps) w)
    (h : Calls Tryd.prog f caps (w.alloc (.cells #[.int .i64 0] 31)) (Comes1 w Q)) :
    Calls Tryd.prog 54 #[.func (.func f) #[] caps] w (Tried w Q) := by
  have hmf : ∀ (fn : Fn) (first cap : Array Value) (w : World), (Instr.makeFunc fn first cap).run Tryd.prog w = .ok (.func fn first cap) w := fun _ _ _ _ => rfl
  have H := Lib.hid h
  clear h
  go_enter_defers Tryd.func54, Tryd.ntmps54
  go_wp2_with fail
  refine H.out.mono ?_
  rintro e w1 ⟨⟨hc, hz, hs⟩, hq⟩
  have hsame : ∀ v, (w1.setCell ⟨w.heap.size, 0, none⟩ v).cell? ⟨w.heap.size, 0, none⟩ = some v := fun v => World.cell?_setCell_same' _ _ _ (by rw [hc]; rfl)
  rcases hq with ⟨rfl, hq⟩ | ⟨n, hn, rfl, hq⟩
  · go_wp2
    refine leaves_cons (f := 61) (args := #[.pointer (some ⟨w.heap.size, 0, none⟩)]) (by simp) (by simp [go_sem]) ?_
    refine (catch_idle _ _).mono ?_
    rintro e u' w'' ⟨rfl, rfl, rfl⟩
    simp only [Leaves, settle]
    refine ⟨.int .i64 0, by simp [results, Tryd.results54, go_sem, hsame], 0, w1, rfl, hq, rfl, rfl, rfl, ?_, ?_⟩
    · simp
    · intro k hk hne
      exact Below.heap_setCell _ _ _ _ hne
  · show Leaves Tryd.prog Tryd.f54 _ _ _ _ _
    refine leaves_cons (f := 61) (args := #[.pointer (some ⟨w.heap.size, 0, none⟩)]) (by simp) (by simp [go_sem]) ?_
    refine (catch_thrown w.heap.size n 0 [] w1 hc hz hs).mono ?_
    rintro e u' w'' ⟨rfl, rfl, rfl⟩
    have h2 : ((w1.setCell ⟨w.heap.size, 0, none⟩ (.int .i64 n)).alloc (.cells #[.int .i64 n] 94)).cell? ⟨w.heap.size, 0, none⟩ = some (.int .i64 n) := by
      rw [World.cell?_alloc_past _ _ _ (by simpa using hs)]; exact hsame _
    simp only [Leaves, settle, List.dropWhile]
    refine ⟨.int .i64 n, by simp [results, Tryd.results54, go_sem, h2], n, w1, rfl, hq, rfl, rfl, rfl, ?_, ?_⟩
    · simp
    · intro k hk hne
      rw [Below.heap_alloc _ _ _ (by simpa using hk)]
      exact Below.heap_setCell _ _ _ _ hne
theorem Aside.block {b : Nat} {w w' : World} (h : Aside b w w') {k : Nat} (hk : k < w.heap.size) (hne : k ≠ b) : w'.heap[k]? = w.heap[k]? := h.2.2.2.2 k hk hne
theorem Aside.cell {b : Nat} {w w' : World} (h : Aside b w w') {p : Addr} (hk : p.block < w.heap.size) (hne : p.block ≠ b) : w'.cell? p = w.cell? p := World.cell?_of_block (w := w) (h.block hk hne)
theorem Aside.frozen {b : Nat} {w w' : World} (h : Aside b w w') {p : Addr} (hk : p.block < w.heap.size) (hne : p.block ≠ b) : w'.frozen? p = w.frozen? p := World.frozen?_of_block (w := w) (h.block hk hne)
theorem Aside.size {b : Nat} {w w' : World} (h : Aside b w w') : w.heap.size ≤ w'.heap.size := h.2.2.2.1
theorem Aside.below {b B : Nat} {w w' : World} (h : Aside b w w') (hB : B ≤ b) (hs : B ≤ w.heap.size) : Below B w w' :=
  ⟨h.1, h.2.1, h.2.2.1, h.2.2.2.1, fun k hk => h.block (by omega) (by omega)⟩

theorem check_ok (n : Int) (w : World) : Calls Tryd.prog 47 #[.bool true, .int .i64 n] w fun e w' => e = .returned (.tuple #[]) ∧ w = w' := by
  go_enter Tryd.func47, Tryd.ntmps47
  go_wp2
  go_end0
  exact ⟨rfl, rfl⟩
theorem check_zero (w : World) : Calls Tryd.prog 47 #[.bool false, .int .i64 0] w fun e w' => e = .returned (.tuple #[]) ∧ w = w' := by
  go_enter Tryd.func47, Tryd.ntmps47
  go_wp2_with fail
  refine (throw_ok _).mono ?_
  rintro e w' ⟨rfl, rfl⟩
  go_wp2
  go_end0
  exact ⟨rfl, rfl⟩
theorem check_some (n : Int) (h : (n != 0) = true) (w : World) : Calls Tryd.prog 47 #[.bool false, .int .i64 n] w fun e w' => e = .panicked [{ v := .iface 94 (.agg #[.int .i64 n]), recovered := false }] ∧ w = w' := by
  go_enter Tryd.func47, Tryd.ntmps47
  go_wp2_with fail
  refine (throw_some n h _).mono ?_
  rintro e w' ⟨rfl, rfl⟩
  go_wp2
  exact ⟨rfl, rfl, rfl⟩
theorem alive_new (w : World) : Alive w (w.alloc (.cells #[.int .i64 0] 31)) := by
  refine ⟨by simp [go_sem], by simp [go_sem], by simp⟩
end Go.Proofs.YtelcaejiipibpaaDoor
