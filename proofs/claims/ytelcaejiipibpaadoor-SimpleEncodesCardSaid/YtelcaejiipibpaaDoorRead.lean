/-
  CONTRACT OF plain.Read, of whatever may read and answers numbers or throws, in any world. Conditions: at most 20000 bytes, which lie in memory as told; a block's numbers.
-/
import Derived.Test.YtelcaejiipibpaaDoorCloneI
import Derived.Test.YtelcaejiipibpaaDoorGetI
import Derived.Test.YtelcaejiipibpaaDoorCurAwake
import Derived.Test.YtelcaejiipibpaaDoorPlainA
namespace Go.Proofs.YtelcaejiipibpaaDoor
open Go.ChangeShapes Go.WideShapes Go.ChangeAt Go.RowKit
set_option linter.unusedVariables false
/-- How a reading ends: with numbers, or it throws. -/
def DoEnd (bc nb : Nat) (z : Nat → Int) (m : Int) (xs : List Int) (at1 : Nat) (W1 : World) (e : Ending) (w' : World) : Prop :=
  Turned (· = bc) W1 w' ∧ ((m = 0 ∧ ∃ a c, e = .returned (.slice a xs.length c) ∧ RowOf w' a xs.length (fun i => .int .i64 (xs.getD i 0)) ∧ CursorAt w' bc nb z at1) ∨
    ((m != 0) = true ∧ e = .panicked [{ v := .iface 94 (.agg #[.int .i64 m]), recovered := false }]))
/-- What Read tells of it. -/
def rerr (m : Int) (at1 nb : Nat) : Int := if m = 0 then (if at1 < nb then 2 else 0) else m
set_option maxHeartbeats 1000000 in
theorem read1_any (f : FuncId) (caps : Array Value) (pb pd nb cap : Nat) (a : Option Addr) (z : Nat → Int) (m : Int) (xs : List Int) (at1 : Nat) (hnb : nb ≤ 100000) (hxs : xs.length ≤ 100000) (w : World)
    (hb : w.cell? ⟨pb, 0, none⟩ = some (.slice a nb cap)) (hd : w.cell? ⟨pd, 0, none⟩ = some (.func (.func f) #[] caps)) (hrow : RowOf w a nb (fun i => .int .u8 (z i)))
    (hcf : ∀ bc w, (callFunc f (#[.pointer (some ⟨bc, 0, none⟩)] ++ caps)).run Tryd.prog w = .ok (.enter f (#[.pointer (some ⟨bc, 0, none⟩)] ++ caps)) w)
    (hdo : ∀ W1 bc, Below w.heap.size w W1 → w.heap.size ≤ bc → CursorAt W1 bc nb z 0 → Calls Tryd.prog f (#[.pointer (some ⟨bc, 0, none⟩)] ++ caps) W1 (DoEnd bc nb z m xs at1 W1)) :
    Calls Tryd.prog 43 #[.pointer (some ⟨pb, 0, none⟩), .pointer (some ⟨pd, 0, none⟩)] w fun e w' => Below w.heap.size w w' ∧
      ((rerr m at1 nb = 0 ∧ ∃ a c, e = .returned (.slice a xs.length c) ∧ RowOf w' a xs.length (fun i => .int .i64 (xs.getD i 0)) ∧ ∀ p, a = some p → w.heap.size ≤ p.block ∧ p.block < w'.heap.size) ∨
        ((rerr m at1 nb != 0) = true ∧ e = .panicked [{ v := .iface 94 (.agg #[.int .i64 (rerr m at1 nb)]), recovered := false }])) := by
  have CN := Lib.hid (cnew_any a nb cap z hnb w hrow)
  have DO := Lib.hid hdo
  have hdl := World.block_lt_of_cell? w _ hd
  obtain ⟨r, hr⟩ : ∃ r, rerr m at1 nb = r := ⟨_, rfl⟩
  rw [hr]
  have HRR := Lib.hid hr
  clear hdo hrow hr
  go_enter Tryd.func43, Tryd.ntmps43
  go_wp2_with fail
  refine CN.out.mono ?_
  rintro e w1 ⟨bc, rfl, hc1, hbc, hb1⟩
  have d1 := (hb1.cell (p := ⟨pd, 0, none⟩) hdl).trans hd
  have D1 := Lib.hid (DO.out w1 bc hb1 hbc hc1)
  have HB1 := Lib.hid hb1
  have HC1 := Lib.hid hc1
  have HBC := Lib.hid hbc
  clear hb1 hc1 hbc
  go_wp2_with fail
  refine D1.out.mono ?_
  rintro e w2 ⟨ht2, hq⟩
  have hb2 : Below w.heap.size w w2 := HB1.out.trans (ht2.below fun i hi => ⟨by have := HB1.out.size; omega, fun (e : i = bc) => by have := HBC.out; omega⟩)
  have HB2 := Lib.hid hb2
  rcases hq with ⟨rfl, a2, c2, rfl, hr2, hc2⟩ | ⟨hm, rfl⟩
  · have HR2 := Lib.hid hr2
    by_cases hat : at1 < nb
    · obtain rfl : 2 = r := by have := HRR.out; simpa [rerr, hat] using this
      have EN := Lib.hid (cend_long bc nb z at1 hnb hat w2 hc2)
      clear hb2 ht2 hr2 hc2 hat D1 DO HRR
      go_wp2_with (go_at_call 45; refine EN.out.mono ?_; rintro e w3 ⟨rfl, j, rfl⟩)
      exact ⟨rfl, ⟨HB2.out.os, HB2.out.tape, HB2.out.output, HB2.out.size, HB2.out.block⟩, .inr ⟨by decide, rfl⟩⟩
    · have HR0 := Lib.hid (show r = 0 from by have := HRR.out; simp [rerr, hat] at this; exact this.symm)
      obtain rfl : at1 = nb := by have := hc2.le; omega
      have EN := Lib.hid (cend_ok bc at1 z hnb w2 hc2)
      have CL := Lib.hid (fun j => clonei_any a2 xs.length c2 (fun i => xs.getD i 0) hxs (w2.drewN j) (hr2.drewN j))
      clear hb2 ht2 hr2 hc2 hat D1 DO HRR
      go_wp2_with (first
        | (go_at_call 45; refine EN.out.mono ?_; rintro e w3 ⟨rfl, j, rfl⟩)
        | (go_at_call 46; refine (CL.out _).mono ?_; rintro e w4 ⟨v4, rfl, ho4, hb4⟩; obtain ⟨a4, c4, rfl, hr4, hab4⟩ := own_reads' ho4; have HR4 := Lib.hid hr4; have HAB4 := Lib.hid hab4; have HB4 := Lib.hid (show Below w2.heap.size w2 w4 from ⟨hb4.os, hb4.tape, hb4.output, hb4.size, hb4.block⟩); clear ho4 hb4 hr4 hab4))
      go_ret
      exact ⟨HB2.out.trans (HB4.out.mono HB2.out.size), .inl ⟨HR0.out, a4, c4, rfl, HR4.out, fun p hp => ⟨by have := (HAB4.out p hp).1; have := HB2.out.size; simp at *; omega, (HAB4.out p hp).2⟩⟩⟩
  · obtain rfl : m = r := by
      have := HRR.out
      unfold rerr at this
      rw [if_neg (by simpa using hm)] at this
      exact this
    clear hb2 ht2 D1 DO
    go_wp2
    exact ⟨rfl, HB2.out, .inr ⟨hm, rfl⟩⟩
/-- The numbers that Read tells. -/
def rnums (m : Int) (at1 nb : Nat) (xs : List Int) : List Int := if rerr m at1 nb = 0 then xs else []
set_option maxHeartbeats 1000000 in
theorem read_any (f : FuncId) (caps : Array Value) (n : Int) (nb cap : Nat) (a : Option Addr) (z : Nat → Int) (m : Int) (xs : List Int) (at1 : Nat) (hn : blk n = true) (hnb : nb ≤ 100000) (hxs : xs.length ≤ 100000) (w : World)
    (hrow : RowOf w a nb (fun i => .int .u8 (z i)))
    (hcf : ∀ bc w, (callFunc f (#[.pointer (some ⟨bc, 0, none⟩)] ++ caps)).run Tryd.prog w = .ok (.enter f (#[.pointer (some ⟨bc, 0, none⟩)] ++ caps)) w)
    (hdo : ∀ W1 bc, Below w.heap.size w W1 → w.heap.size ≤ bc → CursorAt W1 bc nb z 0 → Calls Tryd.prog f (#[.pointer (some ⟨bc, 0, none⟩)] ++ caps) W1 (DoEnd bc nb z m xs at1 W1)) :
    Calls Tryd.prog 28 #[.slice a nb cap, .int .i64 n, .func (.func f) #[] caps] w fun e w' => ∃ a c, e = .returned (.tuple #[.slice a (rnums m at1 nb xs).length c, .int .i64 (rerr m at1 nb)]) ∧
      RowOf w' a (rnums m at1 nb xs).length (fun i => .int .i64 ((rnums m at1 nb xs).getD i 0)) ∧ Below w.heap.size w w' := by
  have hmf : ∀ (fn : Fn) (first cap : Array Value) (w : World), (Instr.makeFunc fn first cap).run Tryd.prog w = .ok (.func fn first cap) w := fun _ _ _ _ => rfl
  obtain ⟨s, hs⟩ : ∃ s, w.heap.size = s := ⟨_, rfl⟩
  obtain ⟨W2, hW2⟩ : ∃ W2, (w.alloc (.cells #[.slice a nb cap] 27)).alloc (.cells #[.func (.func f) #[] caps] 61) = W2 := ⟨_, rfl⟩
  have hb2 : Below s w W2 := by rw [← hW2, ← hs]; exact ((Below.refl _ w).alloc (Nat.le_refl _) _).alloc (by simp) _
  have hsz : W2.heap.size = s + 2 := by rw [← hW2, ← hs]; simp
  have l0 : Lies W2 s 27 #[.slice a nb cap] := by rw [← hW2, ← hs]; exact (Lies.new w _ _).alloc _
  have l1 : Lies W2 (s + 1) 61 #[.func (.func f) #[] caps] := by
    have := Lies.new (w.alloc (.cells #[.slice a nb cap] 27)) 61 #[.func (.func f) #[] caps]
    rw [← hW2, ← hs]
    simpa using this
  obtain ⟨fv, hfv⟩ : ∃ fv : Value, Value.func (.func 43) #[] #[.pointer (some ⟨s, 0, none⟩), .pointer (some ⟨s + 1, 0, none⟩)] = fv := ⟨_, rfl⟩
  have hg := GetIW_below fv W2
  have hgs := GetIW_size fv W2
  have hbg : Below w.heap.size w (GetIW fv W2) := by rw [hs]; exact hb2.trans (hg.mono (by omega))
  have R1 := read1_any f caps s (s + 1) nb cap a z m xs at1 hnb hxs (GetIW fv W2) ((hg.cell (p := ⟨s, 0, none⟩) l0.lt).trans (l0.cell 0)) ((hg.cell (p := ⟨s + 1, 0, none⟩) l1.lt).trans (l1.cell 0)) (hrow.below hbg) hcf
    (fun W1 bc hb1 hbc hc => hdo W1 bc (hbg.trans (hb1.mono hbg.size)) (Nat.le_trans hbg.size hbc) hc)
  obtain ⟨r, hr⟩ : ∃ r, rerr m at1 nb = r := ⟨_, rfl⟩
  unfold rnums
  rw [hr] at R1 ⊢
  have GT := getI_any 43 #[.pointer (some ⟨s, 0, none⟩), .pointer (some ⟨s + 1, 0, none⟩)] (fun k v w1 => k = r ∧ ∃ a c, v = .slice a (if r = 0 then xs else []).length c ∧ RowOf w1 a (if r = 0 then xs else []).length (fun i => .int .i64 ((if r = 0 then xs else []).getD i 0)) ∧ (∀ p, a = some p → s + 5 ≤ p.block ∧ p.block < w1.heap.size)) (fun _ => False) W2 (fun _ => by simp [go_sem]) (fun i e => e.elim)
    (by
      rw [hfv]
      refine R1.mono ?_
      rintro e w1 ⟨hb, hq⟩
      refine ⟨?_, Turned.of_below hb (fun i hi _ => hi)⟩
      rcases hq with ⟨h0, a, c, rfl, hr, hp⟩ | ⟨hne, rfl⟩
      · exact .inl ⟨a, _, c, rfl, h0.symm, a, c, by rw [if_pos h0], by rw [if_pos h0]; exact hr, fun p e => ⟨by have := (hp p e).1; omega, (hp p e).2⟩⟩
      · have h0 : ¬ r = 0 := by simpa using hne
        exact .inr ⟨r, hne, rfl, rfl, none, 0, by rw [if_neg h0]; rfl, by rw [if_neg h0]; exact .inl rfl, fun p e => (by cases e)⟩)
  have GT := Lib.hid GT
  have HB2 := Lib.hid hb2
  have HS := Lib.hid hs
  have HSZ := Lib.hid hsz
  have BK := block_any n
  rw [hn] at BK
  have BK := Lib.hid BK
  clear l0 l1 R1 hb2 hs hsz hg hgs hfv hbg hr hdo hrow hcf hn
  generalize (if r = 0 then xs else []) = ys at *
  go_enter Tryd.func28, Tryd.ntmps28
  go_wp2_with (first
    | (go_at_call 39; refine (BK.out _).mono ?_; rintro e w1 ⟨rfl, rfl⟩)
    | (go_at_call 42; (try rw [hW2]); rw [HS.out]; refine GT.out.mono ?_; rintro e w' ⟨k, a1, k1, c1, w1, rfl, ⟨rfl, a2, c2, hv, hr2, hp2⟩, ht, hl, hT⟩; injection hv with e1 e2 e3; subst e1 e2 e3; have HR := Lib.hid (hr2.turned ht (fun p e => by have := hp2 p e; have := HSZ.out; omega)); have HT := Lib.hid hT; clear hr2 hp2 ht hl hT))
  go_ret2
  exact ⟨a1, c1, rfl, HR.out, by rw [HS.out]; exact HB2.out.trans (HT.out.below fun i hi => ⟨by have := HSZ.out; omega, fun e => e⟩)⟩
theorem read_out (f : FuncId) (caps : Array Value) (n : Int) (nb cap : Nat) (a : Option Addr) (hn : blk n = false) (w : World) :
    Calls Tryd.prog 28 #[.slice a nb cap, .int .i64 n, .func (.func f) #[] caps] w fun e w' => e = .returned (.tuple #[.slice none 0 0, .int .i64 7]) ∧ Below w.heap.size w w' := by
  have BK := block_any n
  rw [hn] at BK
  have BK := Lib.hid BK
  have HB := Lib.hid (((Below.refl w.heap.size w).alloc (Nat.le_refl _) (.cells #[.slice a nb cap] 27)).alloc (by simp) (.cells #[.func (.func f) #[] caps] 61))
  clear hn
  go_enter Tryd.func28, Tryd.ntmps28
  go_wp2_with (go_at_call 39; refine (BK.out _).mono ?_; rintro e w1 ⟨rfl, rfl⟩)
  go_ret2
  exact ⟨rfl, HB.out⟩
end Go.Proofs.YtelcaejiipibpaaDoor
