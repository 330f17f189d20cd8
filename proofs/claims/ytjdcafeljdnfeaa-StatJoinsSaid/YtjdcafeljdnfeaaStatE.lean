/-
  WHAT THE STATEMENTS OF LAYER 21 HAVE IN COMMON: loads of what is told, rows of reals. No condition.
-/
import Derived.Test.YtjdcafeljdnfeaaStatC
import Derived.Test.YtjdcafeljdnfeaaStatD
import Derived.Test.YtjdcafeljdnfeaaIsRow
import Derived.Deep.RegionHeld3
import Derived.Deep.DrawnRows
import Derived.Deep.MidRow
namespace Go.Proofs.Ytjdcafeljdnfeaa
open Go.ChangeShapes Go.WideShapes Go.ChangeAt Go.RowKit
set_option linter.unusedVariables false
theorem two_new (w W0 : World) (t1 t2 : TypeId) (z1 z2 : Array Value) (h : (w.alloc (.cells z1 t1)).alloc (.cells z2 t2) = W0) : Lies W0 w.heap.size t1 z1 ∧ Lies W0 (w.heap.size + 1) t2 z2 ∧ Below w.heap.size w W0 := by
  subst h
  refine ⟨(Lies.new _ _ _).alloc _, ?_, ((Below.refl _ _).alloc (Nat.le_refl _) _).alloc (by simp) _⟩
  have := Lies.new (w.alloc (.cells z1 t1)) t2 z2
  simpa using this
theorem lies_load {W : World} {g : Nat} {t ty : TypeId} {cs : Array Value} {d : TypeDesc} (h : Lies W g t cs) (hu : Try.prog.underlying ty = some d) (hd : d.isRow = true) (hi : (Try.prog.info? ty).map (·.size) = some cs.size) :
    (Instr.loadAt ty (.pointer (some ⟨g, 0, none⟩))).run Try.prog W = .ok (.agg cs) W := by
  have := run_loadAt_mid W g 0 ty cs.toList d (fun j v hv => by rw [Nat.zero_add, h.cell j]; simpa using hv) hu hd (by rw [hi]; simp)
  simpa using this
theorem load_stat {W : World} {g : Nat} {s : St} (h : Lies W g 81 (stV s)) : (Instr.loadAt 81 (.pointer (some ⟨g, 0, none⟩))).run Try.prog W = .ok (.agg (stV s)) W :=
  lies_load h Try.underlying81 rfl stat_info
theorem load_statR {W : World} {g : Nat} {s : St} (h : Lies W g 86 (stR s)) : (Instr.loadAt 86 (.pointer (some ⟨g, 0, none⟩))).run Try.prog W = .ok (.agg (stR s)) W :=
  lies_load h Try.underlying86 rfl stR_info
theorem lies_range {W : World} {g : Nat} {t : TypeId} {cl : List Value} (h : Lies W g t cl.toArray) : W.rangeAt g 0 cl := fun j v hv => by rw [Nat.zero_add, h.cell j]; simpa using hv
theorem isrow_u64 {w : World} {a : Option Addr} {len cap : Nat} {z : List Int} (h : IsRow .u64 w a len cap z) : RowOf w a len (fun i => .int .u64 ((z.getD i 0).toNat : Nat)) ∧ ∀ i, i < len → (z.getD i 0).toNat < 18446744073709551616 := by
  obtain ⟨hl, hm, hz, hw, h0⟩ := h
  have hb : ∀ i, i < len → 0 ≤ z.getD i 0 ∧ z.getD i 0 < 18446744073709551616 := fun i hi => by
    have hm : z.getD i 0 ∈ z := by simp [List.getD, (by omega : i < z.length)]
    have := bounds_u64 (hw _ hm)
    omega
  refine ⟨?_, fun i hi => by have := hb i hi; show (z.getD i 0).toNat < _; omega⟩
  rcases h0 with h0 | ⟨b, off, rfl, _, hc⟩
  · exact .inl (by omega)
  · exact .inr ⟨b, off, rfl, fun i hi => by rw [hc i (by omega)]; show some (Value.int .u64 _) = some (Value.int .u64 ((z.getD i 0).toNat : Int)); rw [Int.toNat_of_nonneg (hb i hi).1]⟩
/-- Reals of bits, as what Of takes. -/
theorem told_reals (a : Option Addr) (n cap : Nat) (l : Nat → Nat) (hn : n ≤ 500) (w : World) (h : RowOf w a n (fun i => .int .u64 (l i : Nat))) :
    Calls Try.prog 47 #[.slice a n cap] w fun e w' => ∃ a' c', e = .returned (.slice a' n c') ∧ RowOf w' a' n (fun i => .float .f64 (l i)) ∧ Below w.heap.size w w' :=
  (reals_any a n cap l hn w h).mono fun e w' ⟨v, he, ho, hb⟩ => by
    obtain ⟨a', c', rfl, hr, _⟩ := own_reads' ho
    exact ⟨a', c', he, hr, hb⟩
end Go.Proofs.Ytjdcafeljdnfeaa
