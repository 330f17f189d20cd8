/-
  CONTRACTS OF the document's own Put of a number's bytes (corduroyref03.Put) and of corduroylaw03.awake, in any world. Conditions: at most 8 bytes.
-/
import Derived.Test.YtknpekpigiclkaaCurPut16
import Derived.Test.YtknpekpigiclkaaRefPut
import Derived.Test.YtknpekpigiclkaaCurNext
import Derived.Deep.RegionHeldLaw
namespace Go.Proofs.Ytknpekpigiclkaa
open Go.RowKit
set_option linter.unusedVariables false
/-- What string(b) is, of bytes of one's own, as long as they lie. -/
theorem own_conv' {w : World} {base n : Nat} {v : Value} {xs : List Int} (h : w.ownsRow base 5 1 v n (cellsOf xs)) : ∃ a cap, v = .slice a n cap ∧ (∀ W, Below w.heap.size w W →
    (convert 34 9 (.slice a n cap)).run Try.prog W = .ok (.string (strOfNums xs)) W) := by
  have hl : xs.length = n := by have := h.1; simpa [cellsOf] using this
  obtain ⟨a, cap, rfl, hr, _, _, _⟩ := own_reads h
  refine ⟨a, cap, rfl, fun W hW => conv_list a n cap xs hl W ((hr.below hW).congr fun i hi => ?_)⟩
  simp [cellsOf, (by omega : i < xs.length)]
theorem RowOf.lit' (w : World) (cs : Array Value) (t : TypeId) (f : Nat → Value) (n : Nat) (hn : cs.size = n) (hf : ∀ i, i < n → cs[i]? = some (f i)) : RowOf (w.alloc (.cells cs t)) (some ⟨w.heap.size, 0, none⟩) n f :=
  .inr ⟨_, 0, rfl, fun i hi => by rw [Nat.zero_add, (Lies.new w t cs).cell i]; exact hf i hi⟩
/-- The closure that awake tries: it throws, the cursor lying with one byte left. -/
theorem awake1_throws (bp bc : Nat) (z : Nat → Int) (w : World) (hp : w.cell? ⟨bp, 0, none⟩ = some (.pointer (some ⟨bc, 0, none⟩))) (h : CursorAt w bc 3 z 2) :
    Calls Try.prog 69 #[.pointer (some ⟨bp, 0, none⟩)] w fun e w' => e = .panicked [{ v := .iface 89 (.agg #[.int .i64 1]), recovered := false }] ∧ ∃ k, w' = w.drewN k := by
  have US := Lib.hid (u16_short bc 3 z 2 (by decide) (by decide) (by decide) w h)
  clear h
  go_enter Try.func69, Try.ntmps69
  go_wp2_with (go_at_call 65; refine US.out.mono ?_; rintro e w1 ⟨rfl, j, rfl⟩)
  exact ⟨rfl, rfl, _, rfl⟩
theorem CursorAt.turned {w w' : World} {S : Nat → Prop} {bc n : Nat} {z : Nat → Int} {at_ : Nat} (h : CursorAt w bc n z at_) (k : Turned S w w') (hS : ∀ i, i ≤ bc → ¬ S i) : CursorAt w' bc n z at_ := by
  obtain ⟨a, cap, hl, hr, ha, hc⟩ := h
  refine ⟨a, cap, hl.turned k (hS bc (Nat.le_refl _)), hr.turned k (fun p hp hs => ?_), ha, hc⟩
  rcases ha with ⟨rfl, _⟩ | ⟨g, rfl, hg⟩
  · cases hp
  · injection hp with hp
    subst hp
    exact hS g (by omega) hs
theorem Aside.turned {b : Nat} {w w' : World} (h : Aside b w w') : Turned (· = b) w w' := ⟨h.1, h.2.1, h.2.2.1, h.2.2.2.1, h.2.2.2.2⟩
theorem conv_three (b cap : Nat) (w : World) (h0 : w.cell? ⟨b, 0, none⟩ = some (.int .u8 9)) (h1 : w.cell? ⟨b, 1, none⟩ = some (.int .u8 2)) (h2 : w.cell? ⟨b, 2, none⟩ = some (.int .u8 1)) :
    (convert 34 9 (.slice (some ⟨b, 0, none⟩) 3 cap)).run Try.prog w = .ok (.string ⟨#[9, 2, 1]⟩) w :=
  run_convert_bytes_arg w 34 5 Try.underlying34 Try.underlying5 b 0 3 cap [9, 2, 1] rfl (fun i hi => by
    match i, hi with
    | 0, _ => exact h0
    | 1, _ => exact h1
    | 2, _ => exact h2) 9 Try.underlying9
/-- A CONVERSION whose run is known, at a step of a region that draws its order. -/
theorem step_convert_ran {P : Program} (w w2 : World) {ops : Array Oper} {o : Oper} {a : Act} {K : Act → World → Prop} {Q : Exit → Act → World → Prop} {E : Prop} (hgd : o.guard = none) (src dst : TypeId) (x : Operand)
    (ho : o.op = .convert src dst x) (v vx : Value) (hx : a.eval x = vx) (hr : (convert src dst vx).run P w = .ok v w2) (h : K (a.put o.dst v) w2) : if Region.wanted o (yielded ops a.tmps) = true then Oper.wp P o a w K Q else E := by
  have hw : Region.wanted o (yielded ops a.tmps) = true := by simp [Region.wanted, hgd]
  rw [if_pos hw]
  unfold Oper.wp execOp
  simp only [ho, Sem.run_bind, Sem.run_pure, Result.andThen_ok, hx, hr]
  exact h
theorem addfact {P G : Prop} (h : P) (k : P → G) : G := k h
theorem put258 (B cap : Nat) (w : World) (h : w.cell? ⟨B, 0, none⟩ = some (.int .u8 9)) :
    Calls Try.prog 70 #[.slice (some ⟨B, 0, none⟩) 1 cap, .int .u16 258] w fun e w' => ∃ g c, e = .returned (.slice (some ⟨g, 0, none⟩) 3 c) ∧ w.heap.size ≤ g ∧ g < w'.heap.size ∧ w'.cell? ⟨g, 0, none⟩ = some (.int .u8 9) ∧ w'.cell? ⟨g, 1, none⟩ = some (.int .u8 2) ∧ w'.cell? ⟨g, 2, none⟩ = some (.int .u8 1) ∧ Below w.heap.size w w' := by
  have hp := Put16_any (some ⟨B, 0, none⟩) 1 cap (fun _ => 9) 258 (by decide) (by decide) w (.inr ⟨B, 0, rfl, fun i hi => by obtain rfl : i = 0 := (by omega); exact h⟩)
  rw [show ((258 : Nat) : Int) = 258 from rfl] at hp
  refine hp.mono ?_
  rintro e w' ⟨v, rfl, ho, hb⟩
  have hl : (List.range 1).map (fun _ => (9 : Int)) ++ bytesOf 2 258 = [9, 2, 1] := by decide
  rw [hl] at ho
  obtain ⟨g, c, rfl, hg1, hg2⟩ := ho.form (by decide)
  exact ⟨g, c, rfl, hg1, hg2, ho.cellAt 0 (by decide), ho.cellAt 1 (by decide), ho.cellAt 2 (by decide), hb⟩
set_option maxRecDepth 100000 in
set_option maxHeartbeats 2000000 in
theorem awake3_any (w : World) :
    Calls Try.prog 26 #[] w fun e w' => e = .returned (.bool true) ∧ Below w.heap.size w w' := by
  have zz : ∀ i, i < 3 → 0 ≤ [(1 : Int), 0, 7].getD i 0 ∧ [(1 : Int), 0, 7].getD i 0 ≤ 255 := by
    intro i hi
    match i, hi with
    | 0, _ => decide
    | 1, _ => decide
    | 2, _ => decide
  have C1 := Lib.hid (fun W : World => cnew_any (some ⟨W.heap.size, 0, none⟩) 3 3 (fun i => [(1 : Int), 0, 7].getD i 0) (by decide) (W.alloc (.cells #[.int .u8 1, .int .u8 0, .int .u8 7] 5)) (RowOf.lit' W _ _ _ 3 rfl (by intro i hi; match i, hi with | 0, _ => rfl | 1, _ => rfl | 2, _ => rfl)))
  have HZ := Lib.hid zz
  clear zz
  go_enter Try.func26, Try.ntmps26
  go_wp2_with fail
  refine (C1.out _).mono ?_
  rintro e w1 ⟨bc, rfl, hc, hbc, hb⟩
  have HB1 : Below w.heap.size w w1 := ((Below.refl _ w).alloc (Nat.le_refl _) _).trans (hb.mono (by simp))
  have HB1 := Lib.hid HB1
  have HC := Lib.hid hc
  have HBC := Lib.hid hbc
  clear hc hb hbc
  have hbc := HC.out.lt
  have HC2 := Lib.hid (u16_ok bc 3 _ 0 HZ.out (by decide) (by decide) _ (HC.out.below ((Below.refl w1.heap.size w1).alloc (Nat.le_refl _) (.cells #[.pointer (some ⟨bc, 0, none⟩)] 36)) hbc))
  rw [show num (fun i => (fun i => [(1 : Int), 0, 7].getD i 0) (0 + i)) 2 = 1 from by decide] at HC2
  have HBA := Lib.hid ((Below.refl w1.heap.size w1).alloc (Nat.le_refl _) (.cells #[.pointer (some ⟨bc, 0, none⟩)] 36))
  go_wp2_with fail
  refine HC2.out.mono ?_
  rintro e w2 ⟨rfl, hc2, ht2⟩
  have hp2 : Lies w2 w1.heap.size 36 #[.pointer (some ⟨bc, 0, none⟩)] := (Lies.new w1 _ _).turned ht2 (fun e => by omega)
  have hs2 : w1.heap.size < w2.heap.size := hp2.lt
  have HP2 := Lib.hid hp2
  have HCC := Lib.hid hc2
  have HB2 : Below w.heap.size w w2 := (HB1.out.trans (HBA.out.mono HB1.out.size)).trans (ht2.below fun i hi => ⟨by have := HB1.out.size; have := HBA.out.size; omega, fun (e : i = bc) => by have := HBC.out; simp at this; omega⟩)
  have HB2 := Lib.hid HB2
  have TR := Lib.hid (try_any 69 #[.pointer (some ⟨w1.heap.size, 0, none⟩)] w2 (fun n w' => n = 1 ∧ ∃ k, w' = (w2.alloc (.cells #[.int .i64 0] 27)).drewN k) (fun _ => by simp [go_sem])
    ((awake1_throws w1.heap.size bc _ _ ((hp2.alloc _).cell 0) (hc2.below ((Below.refl w2.heap.size w2).alloc (Nat.le_refl _) _) hc2.lt)).mono (by
      rintro e w' ⟨rfl, k, rfl⟩
      exact ⟨alive_new w2, .inr ⟨1, by decide, rfl, rfl, k, rfl⟩⟩)))
  clear hp2 hc2 ht2
  generalize hbp : w1.heap.size = bp at *
  clear hbp
  go_wp2_with fail
  refine TR.out.mono ?_
  rintro e w3 ⟨n, w4, rfl, ⟨rfl, k, rfl⟩, ha⟩
  have ht3 : Turned (· = w2.heap.size) w2 w3 := (((Turned.refl (· = w2.heap.size) w2).alloc _).drewN k).trans' ha.turned (fun i _ h => h)
  have HP3 := Lib.hid (HP2.out.turned ht3 (fun e => by omega))
  have HC3 := Lib.hid (HCC.out.turned ht3 (fun i hi (e : i = w2.heap.size) => by have := HCC.out.lt; omega))
  have HB3 := Lib.hid (HB2.out.trans (ht3.below fun i hi => ⟨by have := HB2.out.size; omega, fun (e : i = w2.heap.size) => by have := HB2.out.size; omega⟩))
  clear ha ht3
  have c0 : w3.cell? ⟨bp, 0, none⟩ = some (.pointer (some ⟨bc, 0, none⟩)) := HP3.out.cell 0
  have hs3 := HP3.out.lt
  have hcv := conv_three
  go_wp2
  go_region_held_law (fun w' => w'.cell? ⟨bp, 0, none⟩ = some (.pointer (some ⟨bc, 0, none⟩))) (first | (exact q0) | (exact q1) | (exact q2) | go_keep)
    (first
      | (go_at_call 70; refine (put258 _ _ _ (by simp [go_sem])).mono ?_; rintro e w5 ⟨g, c, rfl, g1, g2, g3, g4, g5, g6⟩; have k0 := fun h => g6.cell (p := ⟨w3.heap.size, 0, none⟩) h; have k1 := fun h => g6.cell (p := ⟨w3.heap.size, 1, none⟩) h; have k2 := fun h => g6.cell (p := ⟨w3.heap.size, 2, none⟩) h; have k3 := fun h => g6.cell (p := ⟨w3.heap.size + 1, 0, none⟩) h; have k4 := fun h => g6.cell (p := ⟨w3.heap.size + 1, 1, none⟩) h; have k5 := fun h => g6.cell (p := ⟨w3.heap.size + 1, 2, none⟩) h; go_loud (have q1 := (g6.cell (p := ⟨bp, 0, none⟩) (by simp; omega)).trans ((Below.cell (B := w3.heap.size) (w := w3) (by repeat (first | exact Below.refl _ _ | refine Below.drew ?_ | refine Below.alloc ?_ (by simp) _)) (p := ⟨bp, 0, none⟩) hs3).trans c0)); go_loud (have HBW := Lib.hid (Below.trans (a := w3) (by repeat (first | exact Below.refl _ _ | refine Below.drew ?_ | refine Below.alloc ?_ (by simp) _)) (g6.mono (B' := w3.heap.size) (by simp <;> omega)))); have hs5 := HBW.out.size; try (refine addfact (conv_three w3.heap.size 3 w5 ?_ ?_ ?_) ?_; (· simp [go_sem, k0]; done); (· simp [go_sem, k1]; done); (· simp [go_sem, k2]; done); intro cv0); try (refine addfact (conv_three (w3.heap.size + 1) 3 w5 ?_ ?_ ?_) ?_; (· simp [go_sem, k3]; done); (· simp [go_sem, k4]; done); (· simp [go_sem, k5]; done); intro cv1); have G6 := Lib.hid g6; clear g6)
      | (go_at_call 23; go_loud (refine (cat_any bc 3 _ 2 _ (HC3.out.below (B := w3.heap.size) (by repeat (first | exact HBW.out | refine Below.drew ?_ | refine Below.alloc ?_ (by first | omega | (simp; omega)) _)) HC3.out.lt)).mono ?_); rintro e w6 ⟨rfl, rfl⟩))
  all_goals
    go_wp2
    go_ret
    refine ⟨rfl, ?_⟩
    refine HB3.out.trans (Below.mono (B := w3.heap.size) ?_ HB3.out.size)
    repeat (first | exact HBW.out | refine Below.drew ?_ | refine Below.alloc ?_ (by first | omega | (simp; omega)) _)
end Go.Proofs.Ytknpekpigiclkaa
