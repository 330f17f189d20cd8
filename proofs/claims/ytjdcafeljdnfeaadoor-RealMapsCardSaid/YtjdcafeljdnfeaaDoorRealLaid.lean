/-
  THE TABLE OF NAMES: what the row's list says of it, as cells; and a world for a witness. No condition.
-/
import Derived.Test.YtjdcafeljdnfeaaDoorRows
import Derived.WalkKit
import Derived.ProofKit
import Derived.OpenShut
import Derived.Deep.DeepHandedRow
import Derived.Lib.LaidTab
namespace Go.Proofs.YtjdcafeljdnfeaaDoor
open Go.ChangeShapes Go.WideShapes Go.ChangeAt Go.RowKit

/-- AN ARRAY OF STRINGS THAT READS AS THE TABLE HOLDS THE TABLE's TEXTS, CELL FOR CELL (the strings' twin of the library's lemma on integers). -/
theorem cells_of_strs {H : Type} {enc : TypeId × Value → H} {P : Program} {w : World} {base : Nat} {sp : Nat → Bool} {held : Bool} {fuel : Nat} {t e : TypeId} {n : Nat} {cs : List Value} {zs : List (List UInt8)} {p : List MemPlace}
    (ht : P.underlying t = some (.array n e)) (he : P.underlying e = some .string) (hce : P.cellsOf e = 1) (hct : P.cellsOf t = n)
    (h : DataW.trod enc P w base sp held fuel t cs = some (.agg (zs.map fun z => .lit (.string z)), p)) : cs = zs.map fun z => Value.string ⟨z.toArray⟩ := by
  cases fuel with
  | zero => simp [DataW.trod] at h
  | succ fuel =>
    simp only [DataW.trod, ht, hce, hct, Nat.mul_one] at h
    split at h
    · rename_i hl
      obtain ⟨xs, hm, hx⟩ := Option.map_eq_some_iff.1 h
      have hxs : xs.map (·.1) = zs.map fun z => (DataW.lit (.string z) : DataW H) := by
        have := congrArg Prod.fst hx
        simpa using this
      have hxl : xs.length = n := by simpa using Lib.mapM_length hm
      have hzl : zs.length = n := by
        have := congrArg List.length hxs
        simp at this
        omega
      apply List.ext_getElem?
      intro i
      by_cases hi : i < n
      · obtain ⟨b, hb, hf⟩ := Lib.mapM_at hm i i (by simp [hi])
        obtain ⟨z, hc, rfl, _⟩ := DataW.trod_string he hf
        have h1 : cs[i]? = some (.string z) := by
          have := congrArg (·[0]?) hc
          simpa [List.getElem?_take, List.getElem?_drop] using this
        have h2 : (xs.map (·.1))[i]? = some (DataW.lit (.string z.data.toList) : DataW H) := by simp [hb]
        rw [hxs] at h2
        simp only [List.getElem?_map, Option.map_eq_some_iff, DataW.lit.injEq, Lit.string.injEq] at h2
        obtain ⟨z', hz', rfl⟩ := h2
        simp [h1, hz']
      · rw [List.getElem?_eq_none (by omega), List.getElem?_eq_none (by simp; omega)]
    · cases h

theorem gNames : Tryd.prog.globalNamed "corduroy/real.names" = some 1 := by kernel_rfl
theorem gNamesType : (Tryd.prog.globals[1]?).map (·.type) = some 53 := by kernel_rfl
theorem cellsNames : Tryd.prog.cellsOf 53 = 9 := by kernel_rfl
theorem cellsString : Tryd.prog.cellsOf 9 = 1 := by kernel_rfl
/-- The nine names, as bytes. -/
def nine : List (List UInt8) := [[109, 105, 110, 117, 115, 32, 105, 110, 102], [109, 105, 110, 117, 115], [109, 105, 110, 117, 115, 32, 116, 105, 110, 121], [109, 105, 110, 117, 115, 32, 122, 101, 114, 111], [122, 101, 114, 111], [116, 105, 110, 121], [112, 108, 117, 115], [105, 110, 102], [110, 97, 110]]

theorem names_cells {W : World} (h : laidMetH Tryd.prog [("corduroy/real.names", Rows.laid_corduroy_real_names)] W) (i : Nat) :
    W.cell? ⟨1, i, none⟩ = (nine.map fun z => Value.string ⟨z.toArray⟩)[i]? := by
  obtain ⟨ps, ⟨g', t', cs, fuel, p, q, hg', ht', hvar, hd, _, _⟩, _⟩ := (show laidMet Tryd.prog [("corduroy/real.names", Rows.laid_corduroy_real_names)] W from h)
  obtain rfl := Option.some.inj (gNames.symm.trans hg')
  obtain rfl := Option.some.inj (gNamesType.symm.trans ht')
  have hcs := cells_of_strs (zs := nine) Tryd.underlying53 Tryd.underlying9 cellsString cellsNames hd
  rw [World.var?_cell gNames hvar i, ← hcs]
  simp

/-- A WORLD FOR THE WITNESS: the settled one, the table holding what its initialiser lays. -/
noncomputable def laidWorld (os : Os) : World :=
  { World.holding Tryd.prog os ⟨#[], #[], []⟩ with heap := (World.holding Tryd.prog os ⟨#[], #[], []⟩).heap.modify 1 fun
      | .cells _ t frozen => .cells #[.string ⟨#[109, 105, 110, 117, 115, 32, 105, 110, 102]⟩, .string ⟨#[109, 105, 110, 117, 115]⟩, .string ⟨#[109, 105, 110, 117, 115, 32, 116, 105, 110, 121]⟩, .string ⟨#[109, 105, 110, 117, 115, 32, 122, 101, 114, 111]⟩, .string ⟨#[122, 101, 114, 111]⟩, .string ⟨#[116, 105, 110, 121]⟩, .string ⟨#[112, 108, 117, 115]⟩, .string ⟨#[105, 110, 102]⟩, .string ⟨#[110, 97, 110]⟩] t frozen
      | o => o }
end Go.Proofs.YtjdcafeljdnfeaaDoor
