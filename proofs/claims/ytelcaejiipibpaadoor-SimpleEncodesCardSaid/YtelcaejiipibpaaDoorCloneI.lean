/-
  CONTRACT OF slices.Clone over bytes, in any world. Conditions: at most 100000 bytes.
-/
import Derived.Test.YtelcaejiipibpaaDoorWordsB
import Derived.WalkKit
import Derived.WalkLawsBesides
import Derived.WalkSpells
import Derived.ProofKit
import Derived.Deep.QuietTactic
import Derived.BigQuiet
import Derived.Deep.DeepMust
import Derived.IntWalk
import Derived.Lib.SliceRun
import Derived.Outline
import Derived.Lib.Hide
namespace Go.Proofs.YtelcaejiipibpaaDoor
open Go.RowKit
set_option linter.unusedVariables false
theorem longInfo : (Tryd.prog.info? 2).map (fun i => (i.zero, i.size, i.bytes)) = some (some (.int .i64 0), 1, 8) := by kernel_rfl
/-- Clone's contract, parted as the walk goes. -/
theorem clonei_nil (cap : Nat) (w : World) :
    Calls Tryd.prog 46 #[.slice none 0 cap] w fun e w' => e = .returned (.slice none 0 0) ∧ w = w' := by
  have hn := Lib.run_eql_slice_nil (P := Tryd.prog) w 22 2 none 0 cap 0 0 Tryd.underlying22
  go_enter Tryd.func46, Tryd.ntmps46
  go_wp2
  go_ret
  exact ⟨rfl, rfl⟩
set_option maxRecDepth 100000 in
set_option maxHeartbeats 1000000 in
theorem clonei_some (a : Addr) (len cap : Nat) (z : Nat → Int) (hlen : len ≤ 100000) (w : World) (h : RowOf w (some a) len (fun i => .int .i64 (z i))) :
    Calls Tryd.prog 46 #[.slice (some a) len cap] w fun e w' => ∃ v, e = .returned v ∧ w'.ownsRow w.heap.size 2 1 v len (rowV (fun i => .int .i64 (z i)) len) ∧ Below w.heap.size w w' := by
  obtain ⟨i0, hi, hz0, hz1, hz2⟩ := info_parts longInfo
  have hw : (w.alloc (.cells #[] 2)).ownsRow w.heap.size 2 1 (.slice (some ⟨w.heap.size, 0, none⟩) 0 0) 0 [] := World.ownsRow_lit w #[] 0 (Nat.le_refl _) (by decide) rfl
  have hnews : ∀ j u, (rowV (fun i => Value.int .i64 (z i)) len)[j]? = some u → (w.alloc (.cells #[] 2)).cell? (a.add j) = some u := by
    intro j u hu
    have hj : j < len := by
      rcases Nat.lt_or_ge j len with h1 | h1
      · exact h1
      · rw [List.getElem?_eq_none (by simp [rowV]; omega)] at hu; cases hu
    rw [rowV_get _ hj] at hu
    obtain ⟨b, off, ha, hb, hc⟩ := h.at_ hj
    have ha : a = ⟨b, off, none⟩ := by injection ha
    subst ha
    have hadd : (⟨b, off, none⟩ : Addr).add j = ⟨b, off + j, none⟩ := by unfold Addr.add; split <;> simp_all
    rw [hadd, World.cell?_alloc_lt w _ _ (by exact hb), hc j hj]
    exact hu
  have hone : ∀ u ∈ rowV (fun i => Value.int .i64 (z i)) len, u.oneCell' = true := by
    intro u hu
    obtain ⟨i, _, rfl⟩ := List.mem_map.mp hu
    rfl
  have HW := Lib.hid hw
  have HN := Lib.hid hnews
  have HO := Lib.hid hone
  have HR := Lib.hid (rowV_length (fun i => Value.int .i64 (z i)) len)
  have hn := Lib.run_eql_slice_nil (P := Tryd.prog) w 22 2 (some a) len cap 0 0 Tryd.underlying22
  clear hw hnews hone h
  generalize rowV (fun i => Value.int .i64 (z i)) len = xs at *
  go_enter Tryd.func46, Tryd.ntmps46
  go_wp2_with (at_builtin; go_must (refine wpList_append_own_at _ rfl _ _ 22 rfl w.heap.size 2 i0 (.int .i64 0) 1 8 Tryd.underlying22 hi hz0 hz1 hz2 rfl (by decide) _ _ _ rfl HW.out a len cap xs rfl (by rw [HR.out]; simp) HN.out HO.out (by unfold maxLen; omega) (by omega) (by simp) ?_); intro v' w2 hown hgrow _ _; rw [Nat.zero_add, List.nil_append] at hown; have HO2 := Lib.hid hown; have HG2 := Lib.hid hgrow; clear hown hgrow)
  go_ret
  exact ⟨v', rfl, HO2.out, ((Below.refl _ w).alloc (Nat.le_refl _) _).grown HG2.out (by simp) (fun k hk => Nat.le_of_eq (Option.some.inj hk))⟩
theorem clonei_any (a : Option Addr) (len cap : Nat) (z : Nat → Int) (hlen : len ≤ 100000) (w : World) (h : RowOf w a len (fun i => .int .i64 (z i))) :
    Calls Tryd.prog 46 #[.slice a len cap] w fun e w' => ∃ v, e = .returned v ∧ w'.ownsRow w.heap.size 2 1 v len (rowV (fun i => .int .i64 (z i)) len) ∧ Below w.heap.size w w' := by
  cases a with
  | none =>
    have h0 : len = 0 := by
      rcases h with h | ⟨b, off, h, _⟩
      · exact h
      · cases h
    subst h0
    exact (clonei_nil cap w).mono fun e w' ⟨he, hw⟩ => by subst hw; exact ⟨_, he, World.ownsRow_nil _ _ _ _, Below.refl _ _⟩
  | some a => exact clonei_some a len cap z hlen w h
end Go.Proofs.YtelcaejiipibpaaDoor
