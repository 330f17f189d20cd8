/-
  CONTRACTS OF slices.Clone over bytes, and of bits.NewWriter, Len, Bytes, NewReader, Left, in any world. Conditions: at most 100000 bytes or bits.
-/
import Derived.Test.YtmfcopfcebacdaaBitsRows
import Derived.Test.YtmfcopfcebacdaaBitsSmall
import Derived.WalkKit
import Derived.WalkLawsBesides
import Derived.WalkSpells
import Derived.ProofKit
import Derived.Deep.QuietTactic
import Derived.BigQuiet
import Derived.Deep.DeepMust
import Derived.IntWalk
import Derived.Lib.SliceRun
import Derived.Outline
import Derived.Lib.Hide
namespace Go.Proofs.Ytmfcopfcebacdaa
open Go.RowKit
set_option linter.unusedVariables false
/-- Clone's contract, parted as the walk goes. -/
theorem clone_nil (cap : Nat) (w : World) :
    Calls Try.prog 59 #[.slice none 0 cap] w fun e w' => e = .returned (.slice none 0 0) ∧ w = w' := by
  have hn := Lib.run_eql_slice_nil (P := Try.prog) w 34 5 none 0 cap 0 0 Try.underlying34
  go_enter Try.func59, Try.ntmps59
  go_wp2
  go_ret
  exact ⟨rfl, rfl⟩
set_option maxRecDepth 100000 in
set_option maxHeartbeats 1000000 in
theorem clone_some (a : Addr) (len cap : Nat) (z : Nat → Int) (hlen : len ≤ 100000) (w : World) (h : RowOf w (some a) len (fun i => .int .u8 (z i))) :
    Calls Try.prog 59 #[.slice (some a) len cap] w fun e w' => ∃ v, e = .returned v ∧ w'.ownsRow w.heap.size 5 1 v len (rowV (fun i => .int .u8 (z i)) len) ∧ Below w.heap.size w w' := by
  obtain ⟨i0, hi, hz0, hz1, hz2⟩ := info_parts byteInfo
  have hw : (w.alloc (.cells #[] 5)).ownsRow w.heap.size 5 1 (.slice (some ⟨w.heap.size, 0, none⟩) 0 0) 0 [] := World.ownsRow_lit w #[] 0 (Nat.le_refl _) (by decide) rfl
  have hnews : ∀ j u, (rowV (fun i => Value.int .u8 (z i)) len)[j]? = some u → (w.alloc (.cells #[] 5)).cell? (a.add j) = some u := by
    intro j u hu
    have hj : j < len := by
      rcases Nat.lt_or_ge j len with h1 | h1
      · exact h1
      · rw [List.getElem?_eq_none (by simp [rowV]; omega)] at hu; cases hu
    rw [rowV_get _ hj] at hu
    obtain ⟨b, off, ha, hb, hc⟩ := h.at_ hj
    have ha : a = ⟨b, off, none⟩ := by injection ha
    subst ha
    have hadd : (⟨b, off, none⟩ : Addr).add j = ⟨b, off + j, none⟩ := by unfold Addr.add; split <;> simp_all
    rw [hadd, World.cell?_alloc_lt w _ _ (by exact hb), hc j hj]
    exact hu
  have hone : ∀ u ∈ rowV (fun i => Value.int .u8 (z i)) len, u.oneCell' = true := by
    intro u hu
    obtain ⟨i, _, rfl⟩ := List.mem_map.mp hu
    rfl
  have HW := Lib.hid hw
  have HN := Lib.hid hnews
  have HO := Lib.hid hone
  have HR := Lib.hid (rowV_length (fun i => Value.int .u8 (z i)) len)
  have hn := Lib.run_eql_slice_nil (P := Try.prog) w 34 5 (some a) len cap 0 0 Try.underlying34
  clear hw hnews hone h
  generalize rowV (fun i => Value.int .u8 (z i)) len = xs at *
  go_enter Try.func59, Try.ntmps59
  go_wp2_with (at_builtin; go_must (refine wpList_append_own_at _ rfl _ _ 34 rfl w.heap.size 5 i0 (.int .u8 0) 1 1 Try.underlying34 hi hz0 hz1 hz2 rfl (by decide) _ _ _ rfl HW.out a len cap xs rfl (by rw [HR.out]; simp) HN.out HO.out (by unfold maxLen; omega) (by omega) (by simp) ?_); intro v' w2 hown hgrow _ _; rw [Nat.zero_add, List.nil_append] at hown; have HO2 := Lib.hid hown; have HG2 := Lib.hid hgrow; clear hown hgrow)
  go_ret
  exact ⟨v', rfl, HO2.out, ((Below.refl _ w).alloc (Nat.le_refl _) _).grown HG2.out (by simp) (fun k hk => Nat.le_of_eq (Option.some.inj hk))⟩
theorem clone_any (a : Option Addr) (len cap : Nat) (z : Nat → Int) (hlen : len ≤ 100000) (w : World) (h : RowOf w a len (fun i => .int .u8 (z i))) :
    Calls Try.prog 59 #[.slice a len cap] w fun e w' => ∃ v, e = .returned v ∧ w'.ownsRow w.heap.size 5 1 v len (rowV (fun i => .int .u8 (z i)) len) ∧ Below w.heap.size w w' := by
  cases a with
  | none =>
    have h0 : len = 0 := by
      rcases h with h | ⟨b, off, h, _⟩
      · exact h
      · cases h
    subst h0
    exact (clone_nil cap w).mono fun e w' ⟨he, hw⟩ => by subst hw; exact ⟨_, he, World.ownsRow_nil _ _ _ _, Below.refl _ _⟩
  | some a => exact clone_some a len cap z hlen w h
theorem newWriter_any (w : World) :
    Calls Try.prog 15 #[] w fun e w' => e = .returned (.pointer (some ⟨w.heap.size, 0, none⟩)) ∧ WriterAt w' w.heap.size (.slice none 0 0) 0 0 ∧ Below w.heap.size w w' := by
  go_enter Try.func15, Try.ntmps15
  go_wp2
  go_ret
  exact ⟨rfl, ⟨Lies.new _ _ _, World.ownsRow_nil _ _ _ _, by decide⟩, (Below.refl _ _).alloc (Nat.le_refl _) _⟩
theorem len_any (bw : Nat) (v : Value) (N c : Nat) (w : World) (h : WriterAt w bw v N c) :
    Calls Try.prog 20 #[.pointer (some ⟨bw, 0, none⟩)] w fun e w' => e = .returned (.int .i64 c) ∧ w = w' := by
  have c1 : w.cell? ⟨bw, 1, none⟩ = some (.int .i64 c) := h.1.cell 1
  clear h
  go_enter Try.func20, Try.ntmps20
  go_wp2
  go_ret
  exact ⟨rfl, rfl⟩
theorem wbytes_any (bw : Nat) (v : Value) (N c : Nat) (hc : c ≤ 100000) (w : World) (h : WriterAt w bw v N c) :
    Calls Try.prog 21 #[.pointer (some ⟨bw, 0, none⟩)] w fun e w' => ∃ v', e = .returned v' ∧ w'.ownsRow w.heap.size 5 1 v' ((c + 7) / 8) (cellsOf (bytesOf ((c + 7) / 8) N)) ∧ Below w.heap.size w w' := by
  obtain ⟨hl, ho, _⟩ := h
  have c0 := hl.cell 0
  obtain ⟨a, cap, rfl, hr, _, _, _⟩ := own_reads ho
  have hr : RowOf w a ((c + 7) / 8) (fun i => .int .u8 ((bytesOf ((c + 7) / 8) N).getD i 0)) := hr.congr fun i hi => by
    simp [cellsOf, bytesOf, hi]
  have hv := rowV_cells (bytesOf ((c + 7) / 8) N)
  rw [bytesOf_length] at hv
  have CL := Lib.hid (clone_any a ((c + 7) / 8) cap (fun i => (bytesOf ((c + 7) / 8) N).getD i 0) (by omega) w hr)
  rw [hv] at CL
  clear hl ho hr hv hc
  go_enter Try.func21, Try.ntmps21
  go_wp2_with (go_at_call 59; refine CL.out.mono ?_; rintro e w' ⟨v', rfl, hx, hb⟩; have HX := Lib.hid hx; have HB := Lib.hid hb; clear hx hb)
  go_ret
  exact ⟨_, rfl, HX.out, HB.out⟩
/-- A reader of n bytes that is at a bit. -/
def ReaderAt (w : World) (br n : Nat) (z : Nat → Int) (at_ : Nat) : Prop :=
  ∃ a cap, Lies w br 97 #[.slice a n cap, .int .i64 at_] ∧ RowOf w a n (fun i => .int .u8 (z i)) ∧ ∀ p, a = some p → p.block < br
theorem newReader_any (a : Option Addr) (len cap : Nat) (z : Nat → Int) (hlen : len ≤ 100000) (w : World) (h : RowOf w a len (fun i => .int .u8 (z i))) :
    Calls Try.prog 24 #[.slice a len cap] w fun e w' => ∃ br, e = .returned (.pointer (some ⟨br, 0, none⟩)) ∧ ReaderAt w' br len z 0 ∧ w.heap.size ≤ br ∧ Below w.heap.size w w' := by
  have CL := Lib.hid (clone_any a len cap z hlen w h)
  clear h
  go_enter Try.func24, Try.ntmps24
  go_wp2_with (go_at_call 59; refine CL.out.mono ?_; rintro e w' ⟨v', rfl, hx, hb⟩; obtain ⟨a', cap', rfl, hr, hab⟩ := own_reads' hx; have HX := Lib.hid hx; have HB := Lib.hid hb; have HR := Lib.hid hr; have HA := Lib.hid hab; clear hx hb hr hab)
  go_ret
  exact ⟨_, rfl, ⟨a', cap', Lies.new _ _ _, HR.out.below ((Below.refl _ _).alloc (Nat.le_refl _) _), fun p hp => (HA.out p hp).2⟩, HB.out.size, HB.out.alloc HB.out.size _⟩
theorem left_any (br n : Nat) (z : Nat → Int) (at_ : Nat) (hn : n ≤ 100000) (hat : at_ ≤ 8 * n) (w : World) (h : ReaderAt w br n z at_) :
    Calls Try.prog 27 #[.pointer (some ⟨br, 0, none⟩)] w fun e w' => e = .returned (.int .i64 (8 * n - at_ : Nat)) ∧ ∃ k, w' = w.drewN k := by
  obtain ⟨a, cap, hl, _, _⟩ := h
  have c0 := hl.cell 0
  have c1 : w.cell? ⟨br, 1, none⟩ = some (.int .i64 at_) := hl.cell 1
  have he : 8 * (n : Int) - at_ = (8 * n - at_ : Nat) := by omega
  have HE := Lib.hid he
  have h1 : (at_ : Int) ≤ 8 * n := by omega
  clear hl he
  go_enter Try.func27, Try.ntmps27
  go_wp2
  go_quiet (fail)
  go_wp2
  go_ret
  exact ⟨ret_int HE.out, _, rfl⟩
end Go.Proofs.Ytmfcopfcebacdaa
