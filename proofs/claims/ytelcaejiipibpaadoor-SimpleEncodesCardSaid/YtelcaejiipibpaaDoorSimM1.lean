/-
  TEXTS OF THIS PROOF, one behind the other: XSimpleC XSimpleD.
-/
import Derived.Test.YtelcaejiipibpaaDoorSimpleB
import Derived.Test.YtelcaejiipibpaaDoorSimpleF
import Derived.RangeFuncNested
/-
  CONTRACT OF Simple's Size, in any world where the table of shapes lies. Conditions: at most 1100 numbers, which lie in memory as told.
-/
namespace Go.Proofs.YtelcaejiipibpaaDoor
open Go.RowKit Go.Shelf
set_option linter.unusedVariables false
attribute [local go_sem] Oper.semAt_some wide_fns
/-- How many words a block has. -/
theorem words_of (x : Nat → Int) (n : Nat) (h : sOk x n = true) : ∃ P, P ≤ n ∧ sAt (hz x) n P = n ∧ ∀ k, k < P → sAt (hz x) n k < n := s_words ((sOk_iff x n).1 h)
set_option maxRecDepth 100000 in
set_option maxHeartbeats 2000000 in
theorem ssize_in (a : Option Addr) (n cap P : Nat) (x : Nat → Int) (hx : ∀ i, i < n → -9223372036854775808 ≤ x i ∧ x i ≤ 9223372036854775807) (hbk : blk n = true) (hok : sOk x n = true) (hPn : P ≤ n) (hP : sAt (hz x) n P = n) (hPl : ∀ k, k < P → sAt (hz x) n k < n)
    (w : World) (h : RowOf w a n (fun i => .int .i64 (x i))) (hT : SW w) :
    Calls Tryd.prog 19 #[.agg #[], .slice a n cap] w fun e w' => e = .returned (.int .i64 (8 * P : Nat)) ∧ Below w.heap.size w w' := by
  have hn : 1 ≤ n ∧ n ≤ 1024 := by have := of_decide_eq_true hbk; omega
  obtain ⟨hn1, hn2⟩ := hn
  have TK := stakes_any a n cap x hx
  rw [hbk, hok] at TK
  have TK := Lib.hid (fun (W : World) (hW : Below w.heap.size w W) => TK W (h.below hW))
  have ZI := Lib.hid (fun (W : World) (hW : Below w.heap.size w W) => zigs_any a n cap x hn2 hx W (h.below hW))
  have hz60 := (sOk_iff x n).1 hok
  have HB := Lib.hid ((Below.refl w.heap.size w).alloc (Nat.le_refl _) (.cells #[] 25))
  have HT := Lib.hid hT
  clear hbk h hT hok hx
  generalize hz x = z at *
  refine (callsIn_wide (n := 3)).1 ?_
  refine callsIn_of_wp_marks Tryd.func19 rfl trivial ?_ rfl
  simp only [Tryd.ntmps19, List.size_toArray, List.length_cons, List.length_nil, Nat.reduceAdd, Nat.reduceSub, Array.replicate_succ, Array.replicate_zero, List.push_toArray, List.append_toArray, List.nil_append, List.cons_append]
  gi_wp2_with (first
    | (gi_at_call 18; refine (callsIn_wide.2 (TK.out _ HB.out)).mono ?_; rintro e w1 ⟨rfl, hb⟩; have HB1 := Lib.hid ((HB.out.trans (hb.mono HB.out.size)).alloc (Nat.le_trans HB.out.size hb.size) (.cells #[.int .i64 0] 3)); have HS1 := Lib.hid (Nat.le_trans HB.out.size hb.size); clear hb)
    | (gi_at_call 36; refine (callsIn_wide.2 (ZI.out _ HB1.out)).mono ?_; rintro e w2 ⟨rfl, ho, hb⟩; have HO2 := Lib.hid ho; have HB2 := Lib.hid hb; clear ho hb)
    | (gi_at_call 35; refine (parts_in _ _ _ _ _).mono ?_; rintro e w' ⟨rfl, rfl⟩))
  have hgl := (HO2.out.lt _ rfl).2
  have hs1 := HS1.out
  obtain ⟨S, hS⟩ : ∃ S, w1.heap.size = S := ⟨_, rfl⟩
  have HO3 := HO2.out
  have hB2 := HB2.out
  have hB1 := HB1.out
  rw [World.size_alloc, hS] at HO3 hgl hB2
  rw [hS] at hs1
  have hu1 : Boxed (w1.alloc (.cells #[.int .i64 0] 3)) S 3 (.int .i64 0) := by have := Boxed.new w1 3 (.int .i64 0); rwa [hS] at this
  have hu2 : Boxed w2 S 3 (.int .i64 0) := (hB2.block S (by omega)).trans hu1
  have hw2 : S + 1 ≤ w2.heap.size := by have := hB2.size; rw [World.size_alloc, hS] at this; exact this
  have hb2 : Below w.heap.size w w2 := hB1.trans (hB2.mono (by omega))
  obtain ⟨W3, hW3⟩ : ∃ W3, w2.alloc (.cells #[.slice (some ⟨S + 1, 0, none⟩) n n] 57) = W3 := ⟨_, rfl⟩
  have c1 : Boxed W3 w2.heap.size 57 (.slice (some ⟨S + 1, 0, none⟩) n n) := by rw [← hW3]; exact Boxed.new w2 _ _
  have hu3 : Boxed W3 S 3 (.int .i64 0) := by rw [← hW3]; exact hu2.alloc _
  have hb23 : Below w2.heap.size w2 W3 := by rw [← hW3]; exact (Below.refl _ w2).alloc (Nat.le_refl _) _
  have hb3 : Below w.heap.size w W3 := hb2.trans (hb23.mono hb2.size)
  have hs3 : W3.heap.size = w2.heap.size + 1 := by rw [← hW3]; simp
  have hT3 : SW W3 := HT.out.below hb3
  have hg0 := HT.out.lt
  obtain ⟨cur, hcur⟩ : ∃ cur, w2.heap[S + 1]? = some (.cells cur 48 (0, 0)) := by
    rcases HO3.2 with ⟨h0, _⟩ | ⟨g', cap', cur, he, _, hg, _⟩
    · cases h0
    · cases he; exact ⟨cur, hg⟩
  have hcur3 : W3.heap[S + 1]? = some (.cells cur 48 (0, 0)) := (hb23.block _ hgl).trans hcur
  have hrow3 : RowOf W3 (some ⟨S + 1, 0, none⟩) n (fun i => .int .u64 (z i : Nat)) := by
    obtain ⟨a5, c5, he, hr5, _⟩ := own_reads' HO3
    injection he with e1 e2 e3
    subst e1
    exact hr5.below hb23
  rw [hS, hW3]
  clear hW3 HO2 HB2 HB1 HS1 hu1 hB2 HO3 hcur
  refine wpIn_rangeFunc_ownG rfl (by decide) (gf := 50) (lb := #[.pointer (some ⟨w2.heap.size, 0, none⟩)]) rfl trivial (enters_of Tryd.func50 (by kernel_rfl) rfl)
    (parts_stops 2 (by decide) w2.heap.size (S + 1) n n P cur (0, 0) z hn2 (Nat.le_refl _) (by unfold maxLen; omega) hz60 hP hPl W3 hT3 c1 hcur3 hrow3) (fun h k => KS.trans h k) (fun W l o o' hl h hc _ => KS.put h hc (by omega)) (Below.refl _ _) (fun _ => rfl)
    (fun pre W => Boxed W S 3 (.int .i64 (8 * pre.length : Nat)) ∧ Below w.heap.size w W ∧ W3.heap.size ≤ W.heap.size ∧ pre.length ≤ P)
    (fun _ _ _ => False)
    (fun s W W' row hs hg hr => ⟨hs.1.kept hg (fun e => by have := (hr _ e.symm).1; omega), hs.2.1.grown hg (by have := hs.2.1.size; omega) (fun k e => by have := (hr _ e).1; omega), Nat.le_trans hs.2.2.1 hg.size, hs.2.2.2⟩)
    (fun _ _ _ _ _ hs _ _ => hs)
    ⟨hu3, hb3, Nat.le_refl _, Nat.zero_le _⟩
    (fun x => { tmps := #[.agg #[], .slice a n cap, .pointer (some ⟨w.heap.size, 0, none⟩), undef, .int .i64 0, .pointer (some ⟨S, 0, none⟩), .agg #[], .slice a n cap, .bool true, .bool false, .slice a n cap, .slice (some ⟨S + 1, 0, none⟩) n n, .func (.func 50) #[] #[.pointer (some ⟨w2.heap.size, 0, none⟩)], .int .i64 (sOf z n (ck P x) : Nat), .slice (some ⟨S + 1, sAt z n (ck P x), none⟩) (sMany (sOf z n (ck P x))) (n - sAt z n (ck P x)), undef, undef, undef], defers := [] }) ?assign ?body ?done ?stop
  case assign =>
    intro l x W K hK
    unfold wv
    gi_wp2
    first | exact hK | simpa using hK
  case body =>
    rintro l pre x W ⟨hu, hB3, hs, hl⟩ hlt
    have hc := hu.cell
    have hf := hu.frozen
    have hlw : ((8 * pre.length : Nat) : Int) + 8 = ((8 * (pre.length + 1) : Nat) : Int) := by omega
    gi_wp2
    refine ⟨(KeepsOthers.setCell W _ _).from _, ?_, ?_, ?_, ?_, ?_⟩
    · exact ⟨by simp, fun i cs t fr h1 ht => by
        rw [Below.heap_setCell _ _ _ i (fun e => ?_)]
        · exact h1
        · have e : i = S := e
          rw [e, show W.heap[S]? = _ from hu] at h1
          cases h1
          rcases ht with h | h <;> exact absurd h (by decide), Below.heap_setCell _ _ _ _ (by show 0 ≠ S; omega)⟩
    · rw [show (8 : Int) * ((pre ++ [x]).length : Nat) = 8 * (pre.length : Int) + 8 from by simp; omega]
      exact hu.set _
    · exact hB3.grown (grownBy_setCell' W _ _) (by have := hB3.size; omega) (fun k e => by cases e; omega)
    · simp; omega
    · simp; omega
  case done =>
    rintro D ys W hD rfl ⟨hu, hB3, hs, hl⟩ hK
    have hc := hu.cell
    gi_wp2
    refine ⟨by simp, .inl ⟨_, _, rfl, run_takeDeferred hK, ?_⟩⟩
    refine ⟨_, results_tmp rfl _ _ _, ?_, ?_⟩
    · simp
    · exact hB3.grown (grownBy_putObj' W D _) (by have := hB3.size; omega) (fun k e => by cases e; omega)
  case stop =>
    rintro D c pre W _ _ h _
    exact h.elim
end Go.Proofs.YtelcaejiipibpaaDoor


/-
  CONTRACTS OF Simple's Name, and of its Size and Encode of blocks that aren't taken, and of plain.Wrong. Condition: the numbers lie in memory as told.
-/
namespace Go.Proofs.YtelcaejiipibpaaDoor
open Go.RowKit
set_option linter.unusedVariables false
/-- The error of a block. -/
def sErr (x : Nat → Int) (n : Nat) : Int := if blk n then (if sOk x n then 0 else 10) else 7
theorem sname_any (w : World) : Calls Tryd.prog 11 #[.agg #[]] w fun e w' => e = .returned (.string ⟨#[115, 105, 109, 112, 108, 101]⟩) ∧ Below w.heap.size w w' := by
  have HB := Lib.hid ((Below.refl w.heap.size w).alloc (Nat.le_refl _) (.cells #[] 25))
  go_enter Tryd.func11, Tryd.ntmps11
  go_wp2
  go_ret
  exact ⟨rfl, HB.out⟩
theorem sm_takes (k : Nat) (w : World) : (method (k + 1) 25 (.agg #[]) "Takes").run Tryd.prog w = .ok (18, .agg #[]) w := by kernel_rfl
theorem sm_size (k : Nat) (w : World) : (method (k + 1) 25 (.agg #[]) "Size").run Tryd.prog w = .ok (19, .agg #[]) w := by kernel_rfl
theorem sm_encode (k : Nat) (w : World) : (method (k + 1) 25 (.agg #[]) "Encode").run Tryd.prog w = .ok (17, .agg #[]) w := by kernel_rfl
theorem sm_decode (k : Nat) (w : World) : (method (k + 1) 25 (.agg #[]) "Decode").run Tryd.prog w = .ok (13, .agg #[]) w := by kernel_rfl
set_option maxRecDepth 100000 in
theorem swrong_any (a : Option Addr) (n cap : Nat) (x : Nat → Int) (hx : ∀ i, i < n → -9223372036854775808 ≤ x i ∧ x i ≤ 9223372036854775807) (w : World) (h : RowOf w a n (fun i => .int .i64 (x i))) :
    Calls Tryd.prog 21 #[.iface 25 (.agg #[]), .slice a n cap] w fun e w' => e = .returned (.int .i64 (sErr x n)) ∧ Below w.heap.size w w' := by
  have BK := Lib.hid (fun W => block_any n W)
  have TK := Lib.hid (stakes_any a n cap x hx w h)
  have mt := sm_takes
  unfold sErr
  clear h hx
  generalize sOk x n = u at *
  generalize blk n = t at *
  cases t
  · have hv : (if false = true then (if u = true then (0 : Int) else 10) else 7) = 7 := rfl
    rw [hv]
    go_enter Tryd.func21, Tryd.ntmps21
    go_wp2_with (go_at_call 39; refine (BK.out _).mono ?_; rintro e w1 ⟨rfl, rfl⟩)
    go_ret
    exact ⟨rfl, Below.refl _ _⟩
  · cases u
    · have hv : (if true = true then (if false = true then (0 : Int) else 10) else 7) = 10 := rfl
      rw [hv]
      go_enter Tryd.func21, Tryd.ntmps21
      go_wp2_with (first | (go_at_call 39; refine (BK.out _).mono ?_; rintro e w1 ⟨rfl, rfl⟩) | (go_at_call 18; refine TK.out.mono ?_; rintro e w1 ⟨rfl, hb⟩; have HB1 := Lib.hid hb; clear hb))
      go_ret
      exact ⟨rfl, HB1.out⟩
    · have hv : (if true = true then (if true = true then (0 : Int) else 10) else 7) = 0 := rfl
      rw [hv]
      go_enter Tryd.func21, Tryd.ntmps21
      go_wp2_with (first | (go_at_call 39; refine (BK.out _).mono ?_; rintro e w1 ⟨rfl, rfl⟩) | (go_at_call 18; refine TK.out.mono ?_; rintro e w1 ⟨rfl, hb⟩; have HB1 := Lib.hid hb; clear hb))
      go_ret
      exact ⟨rfl, HB1.out⟩
set_option maxRecDepth 100000 in
theorem sencode_out (a : Option Addr) (n cap : Nat) (x : Nat → Int) (hx : ∀ i, i < n → -9223372036854775808 ≤ x i ∧ x i ≤ 9223372036854775807) (hb : (blk n && sOk x n) = false) (w : World) (h : RowOf w a n (fun i => .int .i64 (x i))) :
    Calls Tryd.prog 17 #[.agg #[], .slice a n cap] w fun e w' => e = .returned (.tuple #[.slice none 0 0, .int .i64 (sErr x n)]) ∧ Below w.heap.size w w' := by
  have WR := Lib.hid (fun (W : World) (hW : Below w.heap.size w W) => swrong_any a n cap x hx W (h.below hW))
  have HB := Lib.hid ((Below.refl w.heap.size w).alloc (Nat.le_refl _) (.cells #[] 25))
  have hE : (sErr x n == 0) = false := by
    unfold sErr
    generalize sOk x n = u at *
    generalize blk n = t at *
    cases t <;> cases u <;> simp at hb ⊢
  clear hb h hx
  generalize sErr x n = E at *
  go_enter Tryd.func17, Tryd.ntmps17
  go_wp2_with (go_at_call 21; refine (WR.out _ HB.out).mono ?_; rintro e w1 ⟨rfl, hb⟩; have HB1 := Lib.hid hb; clear hb)
  go_ret2
  exact ⟨rfl, HB.out.trans (HB1.out.mono (by simp))⟩
set_option maxRecDepth 100000 in
theorem ssize_out (a : Option Addr) (n cap : Nat) (x : Nat → Int) (hx : ∀ i, i < n → -9223372036854775808 ≤ x i ∧ x i ≤ 9223372036854775807) (hb : (blk n && sOk x n) = false) (w : World) (h : RowOf w a n (fun i => .int .i64 (x i))) :
    Calls Tryd.prog 19 #[.agg #[], .slice a n cap] w fun e w' => e = .returned (.int .i64 0) ∧ Below w.heap.size w w' := by
  have TK := Lib.hid (fun (W : World) (hW : Below w.heap.size w W) => stakes_any a n cap x hx W (h.below hW))
  have HB := Lib.hid ((Below.refl w.heap.size w).alloc (Nat.le_refl _) (.cells #[] 25))
  rw [hb] at TK
  clear hb h hx
  go_enter Tryd.func19, Tryd.ntmps19
  go_wp2_with (go_at_call 18; refine (TK.out _ HB.out).mono ?_; rintro e w1 ⟨rfl, hb⟩; have HB1 := Lib.hid hb; clear hb)
  go_ret
  exact ⟨rfl, HB.out.trans (HB1.out.mono (by simp))⟩
end Go.Proofs.YtelcaejiipibpaaDoor

