/-
  CONTRACTS OF the document's own Put of a number's bytes (corduroyref03.Put) and of corduroylaw03.awake, in any world. Conditions: at most 8 bytes.
-/
import Derived.Test.YtelcaejiipibpaaDoorCurPut16
import Derived.Test.YtelcaejiipibpaaDoorRefPut
import Derived.Test.YtelcaejiipibpaaDoorCurNext
import Derived.Deep.RegionHeldLaw
namespace Go.Proofs.YtelcaejiipibpaaDoor
open Go.RowKit
set_option linter.unusedVariables false
/-- What string(b) is, of bytes of one's own, as long as they lie. -/
theorem own_conv' {w : World} {base n : Nat} {v : Value} {xs : List Int} (h : w.ownsRow base 5 1 v n (cellsOf xs)) : ∃ a cap, v = .slice a n cap ∧ (∀ W, Below w.heap.size w W →
    (convert 27 9 (.slice a n cap)).run Tryd.prog W = .ok (.string (strOfNums xs)) W) := by
  have hl : xs.length = n := by have := h.1; simpa [cellsOf] using this
  obtain ⟨a, cap, rfl, hr, _, _, _⟩ := own_reads h
  refine ⟨a, cap, rfl, fun W hW => conv_list a n cap xs hl W ((hr.below hW).congr fun i hi => ?_)⟩
  simp [cellsOf, (by omega : i < xs.length)]
theorem RowOf.lit' (w : World) (cs : Array Value) (t : TypeId) (f : Nat → Value) (n : Nat) (hn : cs.size = n) (hf : ∀ i, i < n → cs[i]? = some (f i)) : RowOf (w.alloc (.cells cs t)) (some ⟨w.heap.size, 0, none⟩) n f :=
  .inr ⟨_, 0, rfl, fun i hi => by rw [Nat.zero_add, (Lies.new w t cs).cell i]; exact hf i hi⟩
theorem CursorAt.turned {w w' : World} {S : Nat → Prop} {bc n : Nat} {z : Nat → Int} {at_ : Nat} (h : CursorAt w bc n z at_) (k : Turned S w w') (hS : ∀ i, i ≤ bc → ¬ S i) : CursorAt w' bc n z at_ := by
  obtain ⟨a, cap, hl, hr, ha, hc⟩ := h
  refine ⟨a, cap, hl.turned k (hS bc (Nat.le_refl _)), hr.turned k (fun p hp hs => ?_), ha, hc⟩
  rcases ha with ⟨rfl, _⟩ | ⟨g, rfl, hg⟩
  · cases hp
  · injection hp with hp
    subst hp
    exact hS g (by omega) hs
theorem Aside.turned {b : Nat} {w w' : World} (h : Aside b w w') : Turned (· = b) w w' := ⟨h.1, h.2.1, h.2.2.1, h.2.2.2.1, h.2.2.2.2⟩
theorem conv_three (b cap : Nat) (w : World) (h0 : w.cell? ⟨b, 0, none⟩ = some (.int .u8 9)) (h1 : w.cell? ⟨b, 1, none⟩ = some (.int .u8 2)) (h2 : w.cell? ⟨b, 2, none⟩ = some (.int .u8 1)) :
    (convert 27 9 (.slice (some ⟨b, 0, none⟩) 3 cap)).run Tryd.prog w = .ok (.string ⟨#[9, 2, 1]⟩) w :=
  run_convert_bytes_arg w 27 5 Tryd.underlying27 Tryd.underlying5 b 0 3 cap [9, 2, 1] rfl (fun i hi => by
    match i, hi with
    | 0, _ => exact h0
    | 1, _ => exact h1
    | 2, _ => exact h2) 9 Tryd.underlying9
/-- A CONVERSION whose run is known, at a step of a region that draws its order. -/
theorem step_convert_ran {P : Program} (w w2 : World) {ops : Array Oper} {o : Oper} {a : Act} {K : Act → World → Prop} {Q : Exit → Act → World → Prop} {E : Prop} (hgd : o.guard = none) (src dst : TypeId) (x : Operand)
    (ho : o.op = .convert src dst x) (v vx : Value) (hx : a.eval x = vx) (hr : (convert src dst vx).run P w = .ok v w2) (h : K (a.put o.dst v) w2) : if Region.wanted o (yielded ops a.tmps) = true then Oper.wp P o a w K Q else E := by
  have hw : Region.wanted o (yielded ops a.tmps) = true := by simp [Region.wanted, hgd]
  rw [if_pos hw]
  unfold Oper.wp execOp
  simp only [ho, Sem.run_bind, Sem.run_pure, Result.andThen_ok, hx, hr]
  exact h
theorem addfact {P G : Prop} (h : P) (k : P → G) : G := k h
end Go.Proofs.YtelcaejiipibpaaDoor
