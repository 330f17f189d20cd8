/-
  THE STATEMENT corduroylaw02.TrapBehind: for every row of errors the call returns true and leaves its argument as it was. No condition.
-/
import Derived.Test.YtbabldkkbiojbaaTrapLaw
import Derived.Test.YtbabldkkbiojbaaIsRow
import Derived.LoopTactic
namespace Go.Proofs.Ytbabldkkbiojbaa.trapBehind
open Go.ChangeShapes Go.WideShapes Go.ChangeAt Go.RowKit
set_option linter.unusedVariables false

/-- kf is the place of the first error that is none of OK, or the row's length. -/
def IsFirst (z : Nat → Int) (len kf : Nat) : Prop := kf ≤ len ∧ (∀ i, i < kf → z i = 0) ∧ (kf < len → z kf ≠ 0)
/-- A row of numbers in memory. -/
def RowAt (w : World) (b off : Nat) (len : Nat) (z : Nat → Int) : Prop := ∀ i, i < len → w.cell? ⟨b, off + i, none⟩ = some (.int .i64 (z i))

/-- But for the cell block c all is as it was. -/
structure KeptBut1 (c : Nat) (w w' : World) : Prop where
  block : ∀ k, k ≠ c → w'.heap[k]? = w.heap[k]?
  size : w'.heap.size = w.heap.size
  os : w'.os = w.os
  tape : w'.tape = w.tape
  output : w'.output = w.output
  frozen : ∀ q, w'.frozen? q = w.frozen? q
theorem KeptBut1.refl (c : Nat) (w : World) : KeptBut1 c w w := ⟨fun _ _ => rfl, rfl, rfl, rfl, rfl, fun _ => rfl⟩
theorem KeptBut1.set {c : Nat} {w w' : World} (h : KeptBut1 c w w') (v : Value) : KeptBut1 c w (w'.setCell ⟨c, 0, none⟩ v) :=
  ⟨fun k hk => (Below.heap_setCell _ _ _ _ hk).trans (h.block k hk), by simpa using h.size, h.os, h.tape, h.output, fun q => by rw [World.frozen?_setCell]; exact h.frozen q⟩
theorem KeptBut1.cell {c : Nat} {w w' : World} (h : KeptBut1 c w w') {p : Addr} (hp : p.block ≠ c) : w'.cell? p = w.cell? p := World.cell?_of_block (w := w) (h.block _ hp)
/-- What the closure comes to: it throws the first error, or ends; the count of rounds is laid. -/
def Ran (c : Nat) (z : Nat → Int) (len kf : Nat) (w : World) (e : Ending) (w' : World) : Prop :=
  w'.cell? ⟨c, 0, none⟩ = some (.int .i64 kf) ∧ KeptBut1 c w w' ∧
  ((kf = len ∧ e = .returned (.tuple #[])) ∨ (kf < len ∧ e = .panicked [{ v := .iface 88 (.agg #[.int .i64 (z kf)]), recovered := false }]))
theorem closure (a c b off len cap kf : Nat) (v : Option Addr) (z : Nat → Int) (hf : IsFirst z len kf) (w : World) (hm : len ≤ 9223372036854775807) (hv : len = 0 ∨ v = some ⟨b, off, none⟩)
    (ha : w.cell? ⟨a, 0, none⟩ = some (.slice v len cap)) (hr : RowAt w b off len z) (hc : w.cell? ⟨c, 0, none⟩ = some (.int .i64 0)) (hz : w.frozen? ⟨c, 0, none⟩ = false) (hac : a ≠ c) (hbc : len = 0 ∨ b ≠ c) :
    Calls Try.prog 50 #[.pointer (some ⟨a, 0, none⟩), .pointer (some ⟨c, 0, none⟩)] w (Ran c z len kf w) := by
  have HF := Lib.hid hf
  have HA := Lib.hid ha
  have HR := Lib.hid hr
  have HC := Lib.hid hc
  have HZ := Lib.hid hz
  have hkl := hf.1
  clear hf ha hr hc hz
  go_enter Try.func50, Try.ntmps50
  go_wp2
  go_loopw [2] (fun i wr => ∃ k : Nat, k ≤ kf ∧ i = .int .i64 k ∧ wr.cell? ⟨c, 0, none⟩ = some (.int .i64 k) ∧ KeptBut1 c w wr) (fun i _ => len - (intOf i).toNat)
  case atStart => exact ⟨0, by omega, rfl, HC.out, KeptBut1.refl _ _⟩
  case round =>
    obtain ⟨k, hk, rfl, hck, hkept⟩ := hrel
    have ha' : wr.cell? ⟨a, 0, none⟩ = some (.slice v len cap) := (hkept.cell (p := ⟨a, 0, none⟩) hac).trans HA.out
    have hz' : wr.frozen? ⟨c, 0, none⟩ = false := (hkept.frozen _).trans HZ.out
    have HK := Lib.hid hkept
    clear hkept
    by_cases hlt : k < len
    · obtain rfl : v = some ⟨b, off, none⟩ := hv.resolve_left (by omega)
      clear hv
      have hcell : wr.cell? ⟨b, off + k, none⟩ = some (.int .i64 (z k)) := (HK.out.cell (p := ⟨b, off + k, none⟩) (hbc.resolve_left (by omega))).trans (HR.out k hlt)
      by_cases hkf : k < kf
      · rw [HF.out.2.1 k hkf] at hcell
        go_wp2_with fail
        refine (throw_ok _).mono ?_
        rintro e w' ⟨rfl, rfl⟩
        go_wp2
        go_roundw
        case rel => exact ⟨k + 1, by omega, by go_num, World.cell?_setCell_same' _ _ _ (by rw [hck]; rfl), HK.out.set _⟩
        case measure => simp [intOf]; omega
      · have hke : k = kf := by omega
        have hne := HF.out.2.2 (by omega)
        rw [← hke] at hne
        have hn : (z k != 0) = true := by simpa using hne
        have HN := Lib.hid hn
        clear hn hne
        have HE := Lib.hid hke
        clear hke
        go_wp2_with fail
        refine (throw_some _ HN.out _).mono ?_
        rintro e w' ⟨rfl, rfl⟩
        go_wp2
        refine ⟨rfl, ?_⟩
        have := HE.out
        subst this
        exact ⟨hck, HK.out, .inr ⟨hlt, rfl⟩⟩
    · have hke : k = len := by omega
      have hkf : kf = len := by omega
      go_wp2
      go_end0
      refine ⟨?_, HK.out, .inl ⟨hkf, rfl⟩⟩
      rw [hck, hkf, hke]
theorem behind_long (v : Option Addr) (len cap : Nat) (h : 60 < len) (w : World) :
    Calls Try.prog 14 #[.slice v len cap] w fun e w' => e = .returned (.bool true) ∧ Below w.heap.size w w' := by
  have h' : (60 : Int) < len := by omega
  go_enter Try.func14, Try.ntmps14
  go_wp2
  go_ret
  exact ⟨rfl, (Below.refl _ _).alloc (Nat.le_refl _) _⟩
theorem behind_row (b off len cap kf : Nat) (z : Nat → Int) (hf : IsFirst z len kf) (h : len ≤ 60) (w : World) (hr : RowAt w b off len z) (hb : len = 0 ∨ b < w.heap.size) (v : Option Addr) (hv : len = 0 ∨ v = some ⟨b, off, none⟩) :
    Calls Try.prog 14 #[.slice v len cap] w fun e w' => e = .returned (.bool true) ∧ Below w.heap.size w w' := by
  have hmf : ∀ (fn : Fn) (first cap : Array Value) (w : World), (Instr.makeFunc fn first cap).run Try.prog w = .ok (.func fn first cap) w := fun _ _ _ _ => rfl
  have h' : ¬ (60 : Int) < len := by omega
  have e1 : Below w.heap.size w ((w.alloc (.cells #[.slice v len cap] 23)).alloc (.cells #[.int .i64 0] 3)) := ((Below.refl _ w).alloc (Nat.le_refl _) _).alloc (by simp) _
  have e2 : ((w.alloc (.cells #[.slice v len cap] 23)).alloc (.cells #[.int .i64 0] 3)).cell? ⟨w.heap.size, 0, none⟩ = some (.slice v len cap) := by simp [go_sem]
  have e3 : ((w.alloc (.cells #[.slice v len cap] 23)).alloc (.cells #[.int .i64 0] 3)).cell? ⟨w.heap.size + 1, 0, none⟩ = some (.int .i64 0) := by simp [go_sem]
  have e4 : ((w.alloc (.cells #[.slice v len cap] 23)).alloc (.cells #[.int .i64 0] 3)).frozen? ⟨w.heap.size + 1, 0, none⟩ = false := by simp [go_sem]
  have e5 : ((w.alloc (.cells #[.slice v len cap] 23)).alloc (.cells #[.int .i64 0] 3)).heap.size = w.heap.size + 2 := by simp
  have E1 := Lib.hid e1
  have E2 := Lib.hid e2
  have E3 := Lib.hid e3
  have E4 := Lib.hid e4
  have E5 := Lib.hid e5
  have HF := Lib.hid hf
  have HR := Lib.hid hr
  have HV := Lib.hid hv
  have HB := Lib.hid hb
  have hkl := hf.1
  clear e1 e2 e3 e4 e5 hf hr hv hb
  go_enter Try.func14, Try.ntmps14
  go_wp2
  generalize ((w.alloc (.cells #[.slice v len cap] 23)).alloc (.cells #[.int .i64 0] 3)) = W at *
  have hrow : RowAt W b off len z := fun i hi => (E1.out.cell (p := ⟨b, off + i, none⟩) (HB.out.resolve_left (by omega))).trans (HR.out i hi)
  have HW := Lib.hid hrow
  clear hrow
  have ca := E2.out
  go_loop [4, 5] (fun q i => ∃ k : Nat, i = .int .i64 k ∧ ((k ≤ kf ∧ q = .int .i64 0) ∨ (k = kf + 1 ∧ kf < len ∧ q = .int .i64 (z kf)))) (fun _ i => 61 - (intOf i).toNat)
  case atStart => exact ⟨0, rfl, .inl ⟨by omega, rfl⟩⟩
  case round =>
    obtain ⟨k, rfl, hq⟩ := hrel
    rcases hq with ⟨hk, rfl⟩ | ⟨hk, hlt, rfl⟩
    · by_cases hlt : k < len
      · obtain rfl : v = some ⟨b, off, none⟩ := HV.out.resolve_left (by omega)
        have hcell : W.cell? ⟨b, off + k, none⟩ = some (.int .i64 (z k)) := HW.out k hlt
        by_cases hkf : k < kf
        · rw [HF.out.2.1 k hkf] at hcell
          go_wp2
          go_round
          case rel => exact ⟨k + 1, by go_num, .inl ⟨by omega, rfl⟩⟩
          case measure => simp [intOf]; omega
        · have hke : k = kf := by omega
          have HE := Lib.hid hke
          clear hke
          go_wp2
          go_round
          case rel => exact ⟨k + 1, by go_num, .inr ⟨by rw [HE.out], by omega, by rw [HE.out]⟩⟩
          case measure => simp [intOf]; omega
      · have hkf : kf = len := by omega
        have HKF := Lib.hid hkf
        clear hkf
        go_wp2_with fail
        refine (try_any 50 _ W (fun n w1 => n = 0 ∧ w1.cell? ⟨w.heap.size + 1, 0, none⟩ = some (.int .i64 kf) ∧ KeptBut1 (w.heap.size + 1) (W.alloc (.cells #[.int .i64 0] 27)) w1) (fun _ => by simp [go_sem]) ((closure w.heap.size (w.heap.size + 1) b off len cap kf v z HF.out (W.alloc (.cells #[.int .i64 0] 27)) (by omega) HV.out ?_ ?_ ?_ ?_ (by omega) ?_).mono ?_)).mono ?_
        · rw [World.cell?_alloc_past _ _ _ (by have := E5.out; omega)]; exact E2.out
        · intro i hi
          rw [World.cell?_alloc_past _ _ _ (by have := E5.out; have := HB.out; omega)]; exact HW.out i hi
        · rw [World.cell?_alloc_past _ _ _ (by have := E5.out; omega)]; exact E3.out
        · rw [frozen?_alloc_cells]; exact E4.out
        · have := HB.out; omega
        · rintro e w1 ⟨hc1, hk1, hend⟩
          have hA := alive_new W
          refine ⟨⟨(hk1.cell (by have := E5.out; simp; omega)).trans hA.1, (hk1.frozen _).trans hA.2.1, by rw [hk1.size]; exact hA.2.2⟩, ?_⟩
          rcases hend with ⟨h1, rfl⟩ | ⟨h1, rfl⟩
          · exact .inl ⟨rfl, rfl, hc1, hk1⟩
          · exact absurd h1 (by omega)
        rintro e w' ⟨n, w1, rfl, ⟨rfl, hc1, hk1⟩, hd⟩
        have hsz := hd.size
        have hs1 := hk1.size
        have hs2 : (W.alloc (.cells #[.int .i64 0] 27)).heap.size = w.heap.size + 3 := by have := E5.out; simp; omega
        have c1 := (hd.cell (p := ⟨w.heap.size + 1, 0, none⟩) (by simp; omega) (by have := E5.out; simp; omega)).trans hc1
        have c2 := (hd.cell (p := ⟨w.heap.size, 0, none⟩) (by simp; omega) (by have := E5.out; simp; omega)).trans ((hk1.cell (p := ⟨w.heap.size, 0, none⟩) (by simp)).trans ((World.cell?_alloc_past _ _ _ (by have := E5.out; omega)).trans E2.out))
        have hbel : Below w.heap.size w w' := ⟨hd.1.trans (hk1.os.trans E1.out.os), hd.2.1.trans (hk1.tape.trans E1.out.tape), hd.2.2.1.trans (hk1.output.trans E1.out.output), by omega, fun k hk => (hd.block (by omega) (by have := E5.out; omega)).trans ((hk1.block k (by omega)).trans ((Below.heap_alloc _ _ _ (by have := E5.out; omega)).trans (E1.out.block k hk)))⟩
        have hrow : RowAt w' b off len z := fun i hi => (hbel.cell (p := ⟨b, off + i, none⟩) (HB.out.resolve_left (by omega))).trans (HR.out i hi)
        have HX := Lib.hid hrow
        have HL := Lib.hid hbel
        clear hrow hbel hc1 hk1 hd hsz hs1 hs2 ca
        go_wp2
        go_loop [7] (fun i => ∃ k : Nat, i = .int .i64 k ∧ k ≤ kf) (fun i => 61 - (intOf i).toNat)
        case atStart => exact ⟨0, rfl, by omega⟩
        case round =>
          obtain ⟨j, rfl, hj⟩ := hrel
          by_cases hjk : j < kf
          · obtain rfl : v = some ⟨b, off, none⟩ := HV.out.resolve_left (by omega)
            have hcell : w'.cell? ⟨b, off + j, none⟩ = some (.int .i64 (z j)) := HX.out j (by omega)
            rw [HF.out.2.1 j hjk] at hcell
            have hjl : j < len := by omega
            go_wp2
            go_round
            case rel => exact ⟨j + 1, by go_num, by omega⟩
            case measure => simp [intOf]; omega
          · obtain rfl : j = kf := by omega
            have hjl : ¬ j < len := by omega
            go_wp2_with fail
            refine (awake_any _).mono ?_
            rintro e w3 ⟨rfl, hb3⟩
            have hfin := HL.out.trans (hb3.mono (by have := HL.out.size; omega))
            clear hb3
            go_wp2
            go_ret
            exact ⟨rfl, hfin⟩
    · have hn : (z kf == 0) = false := by simpa using HF.out.2.2 hlt
      have hne : (z kf != 0) = true := by simpa using HF.out.2.2 hlt
      have HNe := Lib.hid hne
      clear hne
      subst hk
      by_cases hk2 : kf + 1 < len
      · skip
        go_wp2_with fail
        refine (try_any 50 _ W (fun n w1 => n = z kf ∧ w1.cell? ⟨w.heap.size + 1, 0, none⟩ = some (.int .i64 kf) ∧ KeptBut1 (w.heap.size + 1) (W.alloc (.cells #[.int .i64 0] 27)) w1) (fun _ => by simp [go_sem]) ((closure w.heap.size (w.heap.size + 1) b off len cap kf v z HF.out (W.alloc (.cells #[.int .i64 0] 27)) (by omega) HV.out ?_ ?_ ?_ ?_ (by omega) ?_).mono ?_)).mono ?_
        · rw [World.cell?_alloc_past _ _ _ (by have := E5.out; omega)]; exact E2.out
        · intro i hi
          rw [World.cell?_alloc_past _ _ _ (by have := E5.out; have := HB.out; omega)]; exact HW.out i hi
        · rw [World.cell?_alloc_past _ _ _ (by have := E5.out; omega)]; exact E3.out
        · rw [frozen?_alloc_cells]; exact E4.out
        · have := HB.out; omega
        · rintro e w1 ⟨hc1, hk1, hend⟩
          have hA := alive_new W
          refine ⟨⟨(hk1.cell (by have := E5.out; simp; omega)).trans hA.1, (hk1.frozen _).trans hA.2.1, by rw [hk1.size]; exact hA.2.2⟩, ?_⟩
          rcases hend with ⟨h1, rfl⟩ | ⟨h1, rfl⟩
          · exact absurd h1 (by omega)
          · exact .inr ⟨_, HNe.out, rfl, rfl, hc1, hk1⟩
        rintro e w' ⟨n, w1, rfl, ⟨rfl, hc1, hk1⟩, hd⟩
        have hsz := hd.size
        have hs1 := hk1.size
        have hs2 : (W.alloc (.cells #[.int .i64 0] 27)).heap.size = w.heap.size + 3 := by have := E5.out; simp; omega
        have c1 := (hd.cell (p := ⟨w.heap.size + 1, 0, none⟩) (by simp; omega) (by have := E5.out; simp; omega)).trans hc1
        have c2 := (hd.cell (p := ⟨w.heap.size, 0, none⟩) (by simp; omega) (by have := E5.out; simp; omega)).trans ((hk1.cell (p := ⟨w.heap.size, 0, none⟩) (by simp)).trans ((World.cell?_alloc_past _ _ _ (by have := E5.out; omega)).trans E2.out))
        have hbel : Below w.heap.size w w' := ⟨hd.1.trans (hk1.os.trans E1.out.os), hd.2.1.trans (hk1.tape.trans E1.out.tape), hd.2.2.1.trans (hk1.output.trans E1.out.output), by omega, fun k hk => (hd.block (by omega) (by have := E5.out; omega)).trans ((hk1.block k (by omega)).trans ((Below.heap_alloc _ _ _ (by have := E5.out; omega)).trans (E1.out.block k hk)))⟩
        have hrow : RowAt w' b off len z := fun i hi => (hbel.cell (p := ⟨b, off + i, none⟩) (HB.out.resolve_left (by omega))).trans (HR.out i hi)
        have HX := Lib.hid hrow
        have HL := Lib.hid hbel
        clear hrow hbel hc1 hk1 hd hsz hs1 hs2 ca
        go_wp2
        go_loop [7] (fun i => ∃ k : Nat, i = .int .i64 k ∧ k ≤ kf) (fun i => 61 - (intOf i).toNat)
        case atStart => exact ⟨0, rfl, by omega⟩
        case round =>
          obtain ⟨j, rfl, hj⟩ := hrel
          by_cases hjk : j < kf
          · obtain rfl : v = some ⟨b, off, none⟩ := HV.out.resolve_left (by omega)
            have hcell : w'.cell? ⟨b, off + j, none⟩ = some (.int .i64 (z j)) := HX.out j (by omega)
            rw [HF.out.2.1 j hjk] at hcell
            have hjl : j < len := by omega
            go_wp2
            go_round
            case rel => exact ⟨j + 1, by go_num, by omega⟩
            case measure => simp [intOf]; omega
          · obtain rfl : j = kf := by omega
            obtain rfl : v = some ⟨b, off, none⟩ := HV.out.resolve_left (by omega)
            have hcell : w'.cell? ⟨b, off + j, none⟩ = some (.int .i64 (z j)) := HX.out j hlt
            go_wp2_with fail
            refine (awake_any _).mono ?_
            rintro e w3 ⟨rfl, hb3⟩
            have hfin := HL.out.trans (hb3.mono (by have := HL.out.size; omega))
            clear hb3
            go_wp2
            go_ret
            exact ⟨rfl, hfin⟩
      · skip
        go_wp2_with fail
        refine (try_any 50 _ W (fun n w1 => n = z kf ∧ w1.cell? ⟨w.heap.size + 1, 0, none⟩ = some (.int .i64 kf) ∧ KeptBut1 (w.heap.size + 1) (W.alloc (.cells #[.int .i64 0] 27)) w1) (fun _ => by simp [go_sem]) ((closure w.heap.size (w.heap.size + 1) b off len cap kf v z HF.out (W.alloc (.cells #[.int .i64 0] 27)) (by omega) HV.out ?_ ?_ ?_ ?_ (by omega) ?_).mono ?_)).mono ?_
        · rw [World.cell?_alloc_past _ _ _ (by have := E5.out; omega)]; exact E2.out
        · intro i hi
          rw [World.cell?_alloc_past _ _ _ (by have := E5.out; have := HB.out; omega)]; exact HW.out i hi
        · rw [World.cell?_alloc_past _ _ _ (by have := E5.out; omega)]; exact E3.out
        · rw [frozen?_alloc_cells]; exact E4.out
        · have := HB.out; omega
        · rintro e w1 ⟨hc1, hk1, hend⟩
          have hA := alive_new W
          refine ⟨⟨(hk1.cell (by have := E5.out; simp; omega)).trans hA.1, (hk1.frozen _).trans hA.2.1, by rw [hk1.size]; exact hA.2.2⟩, ?_⟩
          rcases hend with ⟨h1, rfl⟩ | ⟨h1, rfl⟩
          · exact absurd h1 (by omega)
          · exact .inr ⟨_, HNe.out, rfl, rfl, hc1, hk1⟩
        rintro e w' ⟨n, w1, rfl, ⟨rfl, hc1, hk1⟩, hd⟩
        have hsz := hd.size
        have hs1 := hk1.size
        have hs2 : (W.alloc (.cells #[.int .i64 0] 27)).heap.size = w.heap.size + 3 := by have := E5.out; simp; omega
        have c1 := (hd.cell (p := ⟨w.heap.size + 1, 0, none⟩) (by simp; omega) (by have := E5.out; simp; omega)).trans hc1
        have c2 := (hd.cell (p := ⟨w.heap.size, 0, none⟩) (by simp; omega) (by have := E5.out; simp; omega)).trans ((hk1.cell (p := ⟨w.heap.size, 0, none⟩) (by simp)).trans ((World.cell?_alloc_past _ _ _ (by have := E5.out; omega)).trans E2.out))
        have hbel : Below w.heap.size w w' := ⟨hd.1.trans (hk1.os.trans E1.out.os), hd.2.1.trans (hk1.tape.trans E1.out.tape), hd.2.2.1.trans (hk1.output.trans E1.out.output), by omega, fun k hk => (hd.block (by omega) (by have := E5.out; omega)).trans ((hk1.block k (by omega)).trans ((Below.heap_alloc _ _ _ (by have := E5.out; omega)).trans (E1.out.block k hk)))⟩
        have hrow : RowAt w' b off len z := fun i hi => (hbel.cell (p := ⟨b, off + i, none⟩) (HB.out.resolve_left (by omega))).trans (HR.out i hi)
        have HX := Lib.hid hrow
        have HL := Lib.hid hbel
        clear hrow hbel hc1 hk1 hd hsz hs1 hs2 ca
        go_wp2
        go_loop [7] (fun i => ∃ k : Nat, i = .int .i64 k ∧ k ≤ kf) (fun i => 61 - (intOf i).toNat)
        case atStart => exact ⟨0, rfl, by omega⟩
        case round =>
          obtain ⟨j, rfl, hj⟩ := hrel
          by_cases hjk : j < kf
          · obtain rfl : v = some ⟨b, off, none⟩ := HV.out.resolve_left (by omega)
            have hcell : w'.cell? ⟨b, off + j, none⟩ = some (.int .i64 (z j)) := HX.out j (by omega)
            rw [HF.out.2.1 j hjk] at hcell
            have hjl : j < len := by omega
            go_wp2
            go_round
            case rel => exact ⟨j + 1, by go_num, by omega⟩
            case measure => simp [intOf]; omega
          · obtain rfl : j = kf := by omega
            obtain rfl : v = some ⟨b, off, none⟩ := HV.out.resolve_left (by omega)
            have hcell : w'.cell? ⟨b, off + j, none⟩ = some (.int .i64 (z j)) := HX.out j hlt
            go_wp2_with fail
            refine (awake_any _).mono ?_
            rintro e w3 ⟨rfl, hb3⟩
            have hfin := HL.out.trans (hb3.mono (by have := HL.out.size; omega))
            clear hb3
            go_wp2
            go_ret
            exact ⟨rfl, hfin⟩
theorem first_of (z : Nat → Int) : ∀ len, ∃ kf, IsFirst z len kf := by
  intro len
  induction len with
  | zero => exact ⟨0, Nat.le_refl _, fun i hi => by omega, fun h => by omega⟩
  | succ n ih =>
    obtain ⟨k, h1, h2, h3⟩ := ih
    by_cases hk : k < n
    · exact ⟨k, by omega, h2, fun _ => h3 hk⟩
    · obtain rfl : k = n := by omega
      by_cases hz : z k = 0
      · exact ⟨k + 1, Nat.le_refl _, fun i hi => by
          by_cases e : i = k
          · rw [e]; exact hz
          · exact h2 i (by omega), fun h => by omega⟩
      · exact ⟨k, by omega, h2, fun _ => hz⟩
theorem walk (a0 : Option Addr) (len0 cap0 : Nat) (z0 : List Int) (w : World) (b0 : IsRow .i64 w a0 len0 cap0 z0) :
    Calls Try.prog 14 #[.slice a0 len0 cap0] w fun e w' => e = .returned (.bool true) ∧ Below w.heap.size w w' := by
  by_cases h : 60 < len0
  · exact behind_long a0 len0 cap0 h w
  · obtain ⟨kf, hf⟩ := first_of (fun i => z0.getD i 0) len0
    obtain ⟨hl, hm, hz, hwf, h0 | ⟨b, off, rfl, hb, hc⟩⟩ := b0
    · exact behind_row 0 0 len0 cap0 kf _ hf (by omega) w (fun i hi => by omega) (.inl (by omega)) a0 (.inl (by omega))
    · exact behind_row b off len0 cap0 kf _ hf (by omega) w (fun i hi => hc i (by omega)) (.inr hb) _ (.inr rfl)
theorem own : ownKnob Try.prog.godebug = none := by kernel_rfl
theorem contract (H : Type) (enc : TypeId × Value → H) (W : World) (base : Nat) (args : Array Value) (ds gs : List (DataW H)) (before : List MemPlace)
    (hval : ∀ (j : Nat) t v, Try.f14.params[j]? = some t → args[j]? = some v → Value.okWide Try.prog W .any base t v)
    (hW : DataW.Whole enc Try.prog Try.f14.params.toList Rows.trapBehindSpec.vars false W args.toList ds gs before) :
    Calls Try.prog 14 args W fun e W' => ∃ v, e = .returned v ∧ Rows.trapBehindSpec.post enc Try.prog Try.f14 false true false false W args v W' := by
  have hW' := hW
  obtain ⟨p, q, hA0, hV, rfl, hfz, hnd⟩ := hW
  have hA : DataW.TrodAll enc Try.prog W 0 (fun _ => true) true Try.f14.params.toList args.toList ds p := hA0
  rw [Try.params14] at hA hval
  obtain ⟨v0, vs0, d0, ds0, p0, q0, hargs, rfl, rfl, h0, r0⟩ := trodAll_cons hA
  obtain ⟨rfl, rfl, rfl⟩ := trodAll_nil r0
  obtain rfl : args = #[v0] := by cases args; simp_all
  obtain ⟨rfl, rfl⟩ := trodVars_none hV
  have hWhole := hW'
  obtain ⟨a0, len0, cap0, rfl⟩ := okWide_slice Try.underlying23 (hval 0 23 v0 rfl rfl)
  have k0 := h0
  have lt0 : ∀ x ∈ p0, x.block < W.heap.size := by obtain ⟨m, hm⟩ := k0; exact DataW.trod_lt m _ _ _ hm
  obtain ⟨z0, b0⟩ : ∃ zs, IsRow .i64 W a0 len0 cap0 zs := by
    obtain ⟨fuel, hf⟩ := h0
    rcases open_ints Try.underlying23 Try.underlying3 (by kernel_rfl) hf with ⟨hcs, _⟩ | ⟨x, l, c, zs, hcs, _, hl, hm, hz, _, hcell, hwz⟩
    · simp [Value.cells] at hcs
      obtain ⟨rfl, rfl, rfl⟩ := hcs
      exact ⟨[], isRow_nil _ _⟩
    · simp [Value.cells] at hcs
      obtain ⟨rfl, rfl, rfl⟩ := hcs
      exact ⟨zs, isRow_of hl hm (by simpa using hz) hcell hwz⟩
  clear hA0
  refine (walk a0 len0 cap0 z0 W b0).mono fun e W' ⟨he, hg⟩ => ?_
  subst he
  exact ⟨_, rfl, _, _, _, [], _, [], hW', trodAll_mk1 (shut_bool Try.underlying4 _), (trodAll_cons_mk (Below.trod laidOut (by kernel_rfl) (of_decide_eq_true (by kernel_rfl)) k0 hg lt0) trodAll_mk0), rfl, hg.frame _, fun h => by cases h⟩

set_option maxRecDepth 100000 in
theorem lifted (os : Os) (started : os.Started) (H : Type) (enc : TypeId × Value → H) :
    ReturnsInHanded {} Try.checked os 14 .any (Rows.trapBehindSpec.pre6 enc Try.prog Try.f14 Rows.trapBehindRow.domain false) (Rows.trapBehindSpec.post enc Try.prog Try.f14 false true false false) := by
  refine returnsInHanded_of_change (C := Try.checked) own started (by kernel_rfl) Try.func14
    (ChangeSpec.witness6 (enc := enc) (C := Try.checked) false ⟨#[], #[.slice none 0 0], []⟩ 8 (by kernel_rfl) (by kernel_rfl) (by kernel_rfl) (by kernel_rfl)) ?_
  intro W base args ds gs before hval hW _ _
  exact contract H enc W base args ds gs before hval hW

/-- ████ THE STATEMENT ████ -/
theorem proved : Rows.TrapBehindSaid :=
  OpenClaim.holds_of_wide 14 Try.f14 rfl rfl rfl rfl rfl rfl rfl ⟨rfl, rfl, rfl, rfl, rfl⟩ rfl rfl rfl rfl rfl (by kernel_rfl) Try.func14 (by kernel_rfl)
    (of_decide_eq_true (by kernel_rfl)) (by unfold Func.isWrapper; first | (rw [if_pos (by decide +kernel)]; kernel_rfl) | (rw [if_neg (by decide +kernel)]; exact ⟨rfl, rfl⟩))
    (fun os started H enc _ => lifted os started H enc)
end Go.Proofs.Ytbabldkkbiojbaa.trapBehind
