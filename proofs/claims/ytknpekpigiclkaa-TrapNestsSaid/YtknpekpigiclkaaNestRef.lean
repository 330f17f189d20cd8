/-
  CONTRACT OF the document's own Run (corduroyref02), in any world where the steps lie: the notes and the error. Conditions: at most 60 steps.
-/
import Derived.Test.YtknpekpigiclkaaNestA
import Derived.WalkLawsBesides
import Derived.WalkSpells
import Derived.ProofKit
import Derived.IntWalk
import Derived.Deep.DeepMust
import Derived.LoopTactic
import Derived.Lib.Hide
namespace Go.Proofs.Ytknpekpigiclkaa
open Go.RowKit
set_option linter.unusedVariables false
theorem Steps.turned {w w' : World} {S : Nat → Prop} {a : Option Addr} {bn L : Nat} {t : Nat → Bool} {E : Nat → Int} (h : Steps w a bn L t E) (k : Turned S w w') (hs : ∀ i, i < bn → ¬ S i) (hbn : bn ≤ w.heap.size) : Steps w' a bn L t E := by
  rcases h with h | ⟨b, off, rfl, hb, hc⟩
  · exact .inl h
  · exact .inr ⟨b, off, rfl, hb, fun i hi => ⟨(k.cell (p := ⟨b, off + i * 2, none⟩) (by show b < _; omega) (hs b hb)).trans (hc i hi).1, (k.cell (p := ⟨b, off + i * 2 + 1, none⟩) (by show b < _; omega) (hs b hb)).trans (hc i hi).2⟩⟩
theorem Steps.below {w w' : World} {B : Nat} {a : Option Addr} {bn L : Nat} {t : Nat → Bool} {E : Nat → Int} (h : Steps w a bn L t E) (k : Below B w w') (hB : bn ≤ B) (hbn : bn ≤ w.heap.size) : Steps w' a bn L t E :=
  h.turned (S := fun i => B ≤ i) (Turned.of_below k (fun i _ hi => by omega)) (fun i hi => by omega) hbn
theorem Steps.at_ {w : World} {a : Option Addr} {bn L : Nat} {t : Nat → Bool} {E : Nat → Int} (h : Steps w a bn L t E) {j : Nat} (hj : j < L) :
    ∃ b off, a = some ⟨b, off, none⟩ ∧ b < bn ∧ w.cell? ⟨b, off + j * 2, none⟩ = some (.bool (t j)) ∧ w.cell? ⟨b, off + j * 2 + 1, none⟩ = some (.int .i64 (E j)) := by
  rcases h with h | ⟨b, off, rfl, hb, hc⟩
  · omega
  · exact ⟨b, off, rfl, hb, hc j hj⟩
/-- The first k numbers. -/
def upTo (k : Nat) : List Int := (List.range' 0 k).map (fun i => ((i : Nat) : Int))
theorem upTo_succ (k : Nat) : upTo (k + 1) = upTo k ++ [(k : Int)] := by
  unfold upTo
  rw [List.range'_1_concat, List.map_append]
  simp
theorem upTo_length (k : Nat) : (upTo k).length = k := by simp [upTo]
theorem nwrap64_eq (n : Int) : IntKind.i64.wrap n = wrap64 n := by
  simp [IntKind.wrap, IntKind.bits, IntKind.signed, wrap64]
  split <;> omega
theorem tl_try {t : Nat → Bool} {E : Nat → Int} {L n j : Nat} (hj : L - (n + 1) = j) (h : t j = true) : tl t E L (n + 1) = tl t E L n ++ [IntKind.i64.wrap (100 + er t E L n)] := by simp [tl, hj, h]
theorem tl_plain {t : Nat → Bool} {E : Nat → Int} {L n j : Nat} (hj : L - (n + 1) = j) (h : t j = false) : tl t E L (n + 1) = tl t E L n := by simp [tl, hj, h]
theorem tl_length (t : Nat → Bool) (E : Nat → Int) (L : Nat) : ∀ n, (tl t E L n).length ≤ n
  | 0 => by simp [tl]
  | n + 1 => by
    have := tl_length t E L n
    simp only [tl, List.length_append]
    split <;> simp <;> omega
set_option maxRecDepth 100000 in
set_option maxHeartbeats 2000000 in
theorem run_any (a : Option Addr) (L cap bn : Nat) (t : Nat → Bool) (E : Nat → Int) (hL : L ≤ 60) (w : World) (h : Steps w a bn L t E) (hbn : bn ≤ w.heap.size) :
    Calls Try.prog 18 #[.slice a L cap] w fun e w' => ∃ v, e = .returned (.tuple #[v, .int .i64 (er t E L L)]) ∧ w'.ownsRow w.heap.size 3 1 v (upTo L ++ tl t E L L).length ((upTo L ++ tl t E L L).map (Value.int .i64)) ∧ Below w.heap.size w w' := by
  obtain ⟨i0, hi, hz0, hz1, hz2⟩ := info_parts nintInfo
  have H := Lib.hid h
  clear h
  go_enter Try.func18, Try.ntmps18
  go_wp2
  go_loopw [4, 6] (fun v i wr => ∃ k : Nat, k ≤ L ∧ i = .int .i64 k ∧ wr.ownsRow w.heap.size 3 1 v k ((upTo k).map (Value.int .i64)) ∧ Below w.heap.size w wr) (fun _ i _ => L - (intOf i).toNat)
  case atStart => exact ⟨0, by omega, rfl, World.ownsRow_nil _ _ _ _, Below.refl _ _⟩
  case round =>
    obtain ⟨k, hk, rfl, ho, hb⟩ := hrel
    have hsz := hb.size
    by_cases hkn : k < L
    · have k1 : (k : Int) < L := by omega
      have RS := Lib.hid (upTo_succ k)
      have HOW := Lib.hid ho
      have HBW := Lib.hid hb
      clear ho hb
      go_wp2_with (first | (at_builtin; go_must (refine wpList_append_own_at _ rfl _ _ 24 rfl w.heap.size 3 i0 (.int .i64 0) 1 8 Try.underlying24 hi hz0 hz1 hz2 rfl (by decide) _ _ _ rfl (HOW.out.alloc _) ⟨wr.heap.size, 0, none⟩ 1 1 [.int .i64 k] rfl rfl (cell_one_new _ _ _) (by simp [Value.oneCell']) (by unfold maxLen; omega) (by omega) (by simp; omega) ?_); intro v2 w2 hown2 hgrow2 _ _; have HO2 := Lib.hid hown2; have HG2 := Lib.hid hgrow2; clear hown2 hgrow2))
      go_roundw
      case rel => exact ⟨k + 1, by omega, by go_num, by rw [RS.out, List.map_append]; exact HO2.out, (HBW.out.alloc hsz _).grown HG2.out (by simp; omega) (fun j hj => (HOW.out.lt j hj).1)⟩
      case measure => simp [intOf]; omega
    · obtain rfl : k = L := by omega
      have HOW := Lib.hid ho
      have HBW := Lib.hid hb
      clear ho hb
      go_wp2
      obtain ⟨W0, hW0⟩ : ∃ W0, wr = W0 := ⟨_, rfl⟩
      rw [hW0] at HOW HBW hsz ⊢
      clear hW0
      go_loopw [4, 5, 7] (fun v x i wr => ∃ m : Nat, m ≤ k ∧ i = .int .i64 ((k : Int) - 1 - m) ∧ x = .int .i64 (er t E k m) ∧ wr.ownsRow w.heap.size 3 1 v (upTo k ++ tl t E k m).length ((upTo k ++ tl t E k m).map (Value.int .i64)) ∧ Below w.heap.size w wr) (fun _ _ i _ => (intOf i + 1).toNat)
      case atStart => exact ⟨0, by omega, by go_num, rfl, by simpa [tl, upTo_length] using HOW.out, HBW.out⟩
      case round =>
        obtain ⟨m, hm, rfl, rfl, ho, hb⟩ := hrel
        have hsz := hb.size
        by_cases hml : m < k
        · obtain ⟨j, hj⟩ : ∃ j, k - (m + 1) = j := ⟨_, rfl⟩
          obtain ⟨I, hI⟩ : ∃ I : Int, (k : Int) - 1 - m = I := ⟨_, rfl⟩
          rw [hI]
          obtain rfl : I = (j : Int) := by omega
          clear hI
          have j0 : (0 : Int) ≤ j := by omega
          have j1 : (j : Int) < k := by omega
          obtain ⟨b, off, rfl, hblt, s0, s1⟩ := (H.out.below hb hbn hbn).at_ (show j < k by omega)
          have HJ := Lib.hid hj
          have HOW := Lib.hid ho
          have HBW := Lib.hid hb
          have HLN := Lib.hid (show (upTo k ++ tl t E k m).length ≤ 120 by have := tl_length t E k m; rw [List.length_append, upTo_length]; omega)
          clear ho hb hj
          obtain ⟨tj, htj⟩ : ∃ tj, t j = tj := ⟨_, rfl⟩
          rw [htj] at s0
          have HTJ := Lib.hid htj
          clear htj
          cases tj
          · have TLL := Lib.hid (tl_plain HJ.out HTJ.out (E := E))
            have ERR := Lib.hid (er_plain HJ.out HTJ.out (E := E))
            clear HTJ
            by_cases hz : er t E k m = 0
            · have ERR := Lib.hid (ERR.out.trans (if_pos hz))
              rw [hz]
              have hz := Lib.hid hz
              go_wp2
              go_roundw
              case rel => exact ⟨m + 1, by omega, by have := HJ.out; go_num, by rw [ERR.out], by rw [TLL.out]; exact HOW.out, HBW.out⟩
              case measure => simp [intOf]
            · have ERR := Lib.hid (ERR.out.trans (if_neg hz))
              have hz2 : (er t E k m == 0) = false := by simpa using hz
              clear hz
              generalize er t E k m = m0 at *
              go_wp2
              go_roundw
              case rel => exact ⟨m + 1, by omega, by have := HJ.out; go_num, by rw [ERR.out], by rw [TLL.out]; exact HOW.out, HBW.out⟩
              case measure => simp [intOf]
          · have TLL := Lib.hid (tl_try HJ.out HTJ.out (E := E))
            have ERR := Lib.hid (er_try HJ.out HTJ.out (E := E))
            clear HTJ
            generalize er t E k m = m0 at *
            generalize tl t E k m = ls at *
            have s0w : ∀ o, (wr.alloc o).cell? ⟨b, off + j * 2, none⟩ = some (.bool true) := fun o => (((Turned.refl (fun _ => False) wr).alloc o).cell (p := ⟨b, off + j * 2, none⟩) (by show b < _; omega) (fun e => e)).trans s0
            go_wp2_with (first | (at_builtin; go_must (refine wpList_append_own_at _ rfl _ _ 24 rfl w.heap.size 3 i0 (.int .i64 0) 1 8 Try.underlying24 hi hz0 hz1 hz2 rfl (by decide) _ _ _ rfl (HOW.out.alloc _) ⟨wr.heap.size, 0, none⟩ 1 1 [.int .i64 (wrap64 (100 + m0))] rfl rfl (cell_one_new _ _ _) (by simp [Value.oneCell']) (by have := HLN.out; unfold maxLen; omega) (by have := HLN.out; omega) (by simp; omega) ?_); intro v2 w2 hown2 hgrow2 _ _; have hb2 := (HBW.out.alloc hsz (.cells #[.int .i64 (wrap64 (100 + m0))] 3)).grown hgrow2 (by simp; omega) (fun j hj => (HOW.out.lt j hj).1); have s2 := (H.out.below hb2 hbn hbn).at_ (show j < k by omega); obtain ⟨b', off', e', _, _, s2⟩ := s2; injection e' with e'; injection e' with e1 e2; subst e1 e2; have HO2 := Lib.hid hown2; have HB2 := Lib.hid hb2; clear hown2 hgrow2 hb2))
            go_roundw
            case rel => exact ⟨m + 1, by omega, by have := HJ.out; go_num, by rw [ERR.out], by rw [TLL.out, nwrap64_eq, ← List.append_assoc, List.length_append, List.map_append]; exact HO2.out, HB2.out⟩
            case measure => simp [intOf]
        · obtain rfl : m = k := by omega
          have HOW := Lib.hid ho
          have HBW := Lib.hid hb
          clear ho hb
          have hI : ((m : Int) - 1 - m) = -1 := by omega
          rw [hI]
          go_wp2
          go_ret2
          exact ⟨_, rfl, HOW.out, HBW.out⟩
end Go.Proofs.Ytknpekpigiclkaa
