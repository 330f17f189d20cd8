/-
  CONTRACT OF Simple's Encode, in any world where the table of shapes lies. Conditions: at most 1024 numbers, which lie in memory as told, and whose zigzags are below 2^60.
-/
import Derived.Test.YtelcaejiipibpaaDoorSimM1
import Derived.Test.YtelcaejiipibpaaDoorBoxApp
import Derived.Test.YtelcaejiipibpaaDoorWordsI
namespace Go.Proofs.YtelcaejiipibpaaDoor
open Go.RowKit Go.Shelf Go.BigFrame
set_option linter.unusedVariables false
theorem box_append_gen (W w4 : World) (n₀ B : Nat) (v v4 : Value) (xs ys : List Int) (hv : Boxed W B 27 v) (hrow : W.ownsRow n₀ 5 1 v xs.length (cellsOf xs)) (hx : 1 ≤ ys.length) (hn₀ : n₀ ≤ W.heap.size) (hB : n₀ ≤ B)
    (h4 : w4.ownsRow W.heap.size 5 1 v4 ys.length (cellsOf ys)) (hb4 : Below W.heap.size W w4) (hlen : xs.length + ys.length ≤ 100000000) :
    ∃ a4 c4 g5 c5 w5, v4 = .slice a4 ys.length c4 ∧ (Builtin.append_ #[27, 27] 27 #[v, v4]).run Tryd.prog w4 = .ok (.slice (some ⟨g5, 0, none⟩) (xs ++ ys).length c5) w5 ∧ w4.cell? ⟨B, 0, none⟩ = some v ∧ w5.cell? ⟨B, 0, none⟩ = some v ∧ w5.frozen? ⟨B, 0, none⟩ = false ∧
      Boxed (w5.setCell ⟨B, 0, none⟩ (.slice (some ⟨g5, 0, none⟩) (xs ++ ys).length c5)) B 27 (.slice (some ⟨g5, 0, none⟩) (xs ++ ys).length c5) ∧ (w5.setCell ⟨B, 0, none⟩ (.slice (some ⟨g5, 0, none⟩) (xs ++ ys).length c5)).ownsRow n₀ 5 1 (.slice (some ⟨g5, 0, none⟩) (xs ++ ys).length c5) (xs ++ ys).length (cellsOf (xs ++ ys)) ∧
      KeepsOthers W (w5.setCell ⟨B, 0, none⟩ (.slice (some ⟨g5, 0, none⟩) (xs ++ ys).length c5)) ∧ Below n₀ W (w5.setCell ⟨B, 0, none⟩ (.slice (some ⟨g5, 0, none⟩) (xs ++ ys).length c5)) ∧
      (∀ (b : Nat) cs t fr, W.heap[b]? = some (.cells cs t fr) → b ≠ B → t ≠ 5 → (w5.setCell ⟨B, 0, none⟩ (.slice (some ⟨g5, 0, none⟩) (xs ++ ys).length c5)).heap[b]? = some (.cells cs t fr)) := by
  obtain ⟨a4, c4, a5, c5, w5, rfl, hrun, ho5, hg5, hrow4⟩ := row_append W w4 n₀ _ v4 xs ys hrow hn₀ h4 hb4 hlen
  have hte : (27 : Nat) ≠ 5 := by decide
  have hv4 : Boxed w4 B 27 _ := (hb4.block B hv.lt).trans hv
  have hv5 := hv4.kept hg5 (hv4.not_row hte hrow4)
  obtain ⟨k, hk⟩ : ∃ k, (xs ++ ys).length = k + 1 := ⟨(xs ++ ys).length - 1, by simp; omega⟩
  rw [hk] at ho5 hrun
  obtain ⟨g5, c6, he⟩ := ownsRow_succ ho5
  cases he
  rw [hk]
  refine ⟨a4, c4, g5, c5, w5, rfl, hrun, hv4.cell, hv5.cell, hv5.frozen, hv5.set _, ho5.kept (grownBy_setCell' w5 B _) (.inr (hv5.not_row hte ho5).symm), ?_, ?_, ?_⟩
  · refine ((keeps_below hb4).trans (KeepsOthers.of_grownBy hg5 fun j o ej hj => ?_)).trans (KeepsOthers.setCell _ _ _)
    rcases hrow4.2 with ⟨h0, _⟩ | ⟨g, cap, cur, h0, _, hgb, _⟩
    · rw [h0] at ej; simp [Value.ownBlock] at ej
    · rw [h0] at ej
      obtain rfl : g = j := by simpa [Value.ownBlock] using ej
      rw [hgb] at hj; cases hj; rfl
  · exact ((hb4.mono hn₀).grown hg5 (Nat.le_trans hn₀ hb4.size) (fun j hj => (hrow.lt j hj).1)).setCell (p := ⟨B, 0, none⟩) hB _
  · intro b cs t fr hb hne htn
    have h4 : w4.heap[b]? = some (.cells cs t fr) := (hb4.block b (Array.getElem?_eq_some_iff.1 hb).1).trans hb
    have hlt := (Array.getElem?_eq_some_iff.1 h4).1
    have h5 : w5.heap[b]? = some (.cells cs t fr) := (hg5.block b hlt (by
      rcases hrow4.2 with ⟨h0, _⟩ | ⟨g', cap, cur, h0, _, hgb, _⟩
      · rw [h0]; simp [Value.ownBlock]
      · rw [h0]
        intro e
        obtain rfl : b = g' := by simpa [Value.ownBlock] using e
        rw [h4] at hgb
        have := Option.some.inj hgb
        simp at this
        exact htn this.2.1)).trans h4
    exact ((grownBy_setCell' w5 B _).block b (Array.getElem?_eq_some_iff.1 h5).1 (by simpa using hne)).trans h5
/-- The bytes of words. -/
def sB (z : Nat → Nat) (n P : Nat) (ks : List Nat) : List Int := ks.flatMap fun k => bytesOf 8 (sWord z n (ck P k))
theorem sB_more (z : Nat → Nat) (n P k : Nat) (ks : List Nat) : sB z n P (ks ++ [k]) = sB z n P ks ++ bytesOf 8 (sWord z n (ck P k)) := by simp [sB]
theorem bytes8_length (u : Nat) : (bytesOf 8 u).length = 8 := by simp [bytesOf]
theorem sB_length (z : Nat → Nat) (n P : Nat) : ∀ ks : List Nat, (sB z n P ks).length = 8 * ks.length
  | [] => rfl
  | k :: ks => by
    have := sB_length z n P ks
    simp only [sB, List.flatMap_cons, List.length_append, List.length_cons, bytes8_length] at this ⊢
    omega
theorem sB_all {z : Nat → Nat} {n P : Nat} (hz : ∀ i, i < n → z i < 2 ^ 60) (hl : ∀ k, k < P → sAt z n k < n) : ∀ m, m ≤ P → sB z n P (List.range m) = sF z n m
  | 0, _ => rfl
  | m + 1, h => by
    have hw := (sWord_parts hz (hl m h)).1
    rw [List.range_succ, sB_more, sB_all hz hl m (by omega), show ck P m = m by unfold ck; rw [if_pos (show m < P from h)]]
    show _ = sF z n m ++ bytesOf 8 (un ((sWord z n m : Nat) : Int))
    rw [show un ((sWord z n m : Nat) : Int) = sWord z n m by unfold un; omega]
theorem ks_of {A C : World} {B N : Nat} (hs : A.heap.size ≤ C.heap.size) (h : ∀ (b : Nat) cs t fr, A.heap[b]? = some (.cells cs t fr) → b ≠ B → t ≠ 5 → C.heap[b]? = some (.cells cs t fr)) (hB : ∃ v, Boxed A B 27 v) (hb : Below N A C) (hN : 0 < N) : KS A C := by
  refine ⟨hs, fun i cs t fr h1 h2 => h i cs t fr h1 (fun e => ?_) (fun e => ?_), hb.block _ hN⟩
  · subst e
    obtain ⟨v, hv⟩ := hB
    rw [show A.heap[i]? = _ from hv] at h1
    have := Option.some.inj h1
    simp at this
    rcases h2 with h2 | h2 <;> · rw [← this.2.1] at h2; revert h2; decide
  · subst e; revert h2; decide
theorem wide_fe (f : FuncId) : Fence.wide.fn f = True := rfl
attribute [local go_sem] Oper.semAt_some wide_fe
set_option maxRecDepth 100000 in
set_option maxHeartbeats 2000000 in
theorem sencode_in (a : Option Addr) (n cap P : Nat) (x : Nat → Int) (hx : ∀ i, i < n → -9223372036854775808 ≤ x i ∧ x i ≤ 9223372036854775807) (hbk : blk n = true) (hok : sOk x n = true) (hPn : P ≤ n) (hP : sAt (hz x) n P = n) (hPl : ∀ k, k < P → sAt (hz x) n k < n)
    (w : World) (h : RowOf w a n (fun i => .int .i64 (x i))) (hT : SW w) :
    Calls Tryd.prog 17 #[.agg #[], .slice a n cap] w fun e w' => ∃ v, e = .returned (.tuple #[v, .int .i64 0]) ∧ w'.ownsRow w.heap.size 5 1 v (8 * P) (cellsOf (sF (hz x) n P)) ∧ Below w.heap.size w w' := by
  have hn : 1 ≤ n ∧ n ≤ 1024 := by have := of_decide_eq_true hbk; omega
  obtain ⟨hn1, hn2⟩ := hn
  have WR := fun (W : World) (hW : Below w.heap.size w W) => swrong_any a n cap x hx W (h.below hW)
  rw [show sErr x n = 0 by simp [sErr, hbk, hok]] at WR
  have WR := Lib.hid WR
  have ZI := Lib.hid (fun (W : World) (hW : Below w.heap.size w W) => zigs_any a n cap x hn2 hx W (h.below hW))
  have hz60 := (sOk_iff x n).1 hok
  have HB := Lib.hid ((Below.refl w.heap.size w).alloc (Nat.le_refl _) (.cells #[] 25))
  have HT := Lib.hid hT
  clear hbk h hT hok hx
  generalize hz x = z at *
  have HF := Lib.hid (sB_all hz60 hPl P (Nat.le_refl _))
  refine (callsIn_wide (n := 3)).1 ?_
  refine callsIn_of_wp_marks Tryd.func17 rfl trivial ?_ rfl
  simp only [Tryd.ntmps17, List.size_toArray, List.length_cons, List.length_nil, Nat.reduceAdd, Nat.reduceSub, Array.replicate_succ, Array.replicate_zero, List.push_toArray, List.append_toArray, List.nil_append, List.cons_append]
  gi_wp2_with (first
    | (gi_at_call 21; refine (callsIn_wide.2 (WR.out _ HB.out)).mono ?_; rintro e w1 ⟨rfl, hb⟩; have HB1 := Lib.hid ((HB.out.trans (hb.mono HB.out.size)).alloc (Nat.le_trans HB.out.size hb.size) (.cells #[.slice none 0 0] 27)); have HS1 := Lib.hid (Nat.le_trans HB.out.size hb.size); clear hb)
    | (gi_at_call 36; refine (callsIn_wide.2 (ZI.out _ HB1.out)).mono ?_; rintro e w2 ⟨rfl, ho, hb⟩; have HO2 := Lib.hid ho; have HB2 := Lib.hid hb; clear ho hb)
    | (gi_at_call 35; refine (parts_in _ _ _ _ _).mono ?_; rintro e w' ⟨rfl, rfl⟩))
  have hgl := (HO2.out.lt _ rfl).2
  have hs1 := HS1.out
  obtain ⟨S, hS⟩ : ∃ S, w1.heap.size = S := ⟨_, rfl⟩
  have HO3 := HO2.out
  have hB2 := HB2.out
  have hB1 := HB1.out
  rw [World.size_alloc, hS] at HO3 hgl hB2
  rw [hS] at hs1
  have hu1 : Boxed (w1.alloc (.cells #[.slice none 0 0] 27)) S 27 (.slice none 0 0) := by have := Boxed.new w1 27 (.slice none 0 0); rwa [hS] at this
  have hu2 : Boxed w2 S 27 (.slice none 0 0) := (hB2.block S (by omega)).trans hu1
  have hw2 : S + 1 ≤ w2.heap.size := by have := hB2.size; rw [World.size_alloc, hS] at this; exact this
  have hb2 : Below w.heap.size w w2 := hB1.trans (hB2.mono (by omega))
  obtain ⟨W3, hW3⟩ : ∃ W3, w2.alloc (.cells #[.slice (some ⟨S + 1, 0, none⟩) n n] 57) = W3 := ⟨_, rfl⟩
  have c1 : Boxed W3 w2.heap.size 57 (.slice (some ⟨S + 1, 0, none⟩) n n) := by rw [← hW3]; exact Boxed.new w2 _ _
  have hu3 : Boxed W3 S 27 (.slice none 0 0) := by rw [← hW3]; exact hu2.alloc _
  have hb23 : Below w2.heap.size w2 W3 := by rw [← hW3]; exact (Below.refl _ w2).alloc (Nat.le_refl _) _
  have hb3 : Below w.heap.size w W3 := hb2.trans (hb23.mono hb2.size)
  have hs3 : W3.heap.size = w2.heap.size + 1 := by rw [← hW3]; simp
  have hT3 : SW W3 := HT.out.below hb3
  have hg0 := HT.out.lt
  obtain ⟨cur, hcur⟩ : ∃ cur, w2.heap[S + 1]? = some (.cells cur 48 (0, 0)) := by
    rcases HO3.2 with ⟨h0, _⟩ | ⟨g', cap', cur, he, _, hg, _⟩
    · cases h0
    · cases he; exact ⟨cur, hg⟩
  have hcur3 : W3.heap[S + 1]? = some (.cells cur 48 (0, 0)) := (hb23.block _ hgl).trans hcur
  have hrow3 : RowOf W3 (some ⟨S + 1, 0, none⟩) n (fun i => .int .u64 (z i : Nat)) := by
    obtain ⟨a5, c5, he, hr5, _⟩ := own_reads' HO3
    injection he with e1 e2 e3
    subst e1
    exact hr5.below hb23
  rw [hS, hW3]
  clear hW3 HO2 HB2 HB1 HS1 hu1 hB2 HO3 hcur
  have hr0 : W3.ownsRow w.heap.size 5 1 (.slice none 0 0) (sB z n P []).length (cellsOf (sB z n P [])) := World.ownsRow_nil W3 _ _ _
  refine wpIn_rangeFunc_ownG rfl (by decide) (gf := 50) (lb := #[.pointer (some ⟨w2.heap.size, 0, none⟩)]) rfl trivial (enters_of Tryd.func50 (by kernel_rfl) rfl)
    (parts_stops 2 (by decide) w2.heap.size (S + 1) n n P cur (0, 0) z hn2 (Nat.le_refl _) (by unfold maxLen; omega) hz60 hP hPl W3 hT3 c1 hcur3 hrow3) (fun h k => KS.trans h k) (fun W l o o' hl h hc _ => KS.put h hc (by omega)) (Below.refl _ _) (fun _ => rfl)
    (fun pre W => ((∃ v, Boxed W S 27 v ∧ W.ownsRow w.heap.size 5 1 v (sB z n P pre).length (cellsOf (sB z n P pre)) ∧ True) ∧ W.heap[S + 1]? = some (.cells cur 48 (0, 0))) ∧ Below w.heap.size w W ∧ W3.heap.size ≤ W.heap.size ∧ pre.length ≤ P)
    (fun _ _ _ => False)
    (fun s W W' row hs hg hr => ⟨⟨holdsRow_own w.heap.size S 27 5 1 (fun pre => (sB z n P pre).length) (fun pre => cellsOf (sB z n P pre)) (fun _ _ => True) s W W' row hs.1.1 hg (fun r e => (hr r e).2), (hg.block (S + 1) (Array.getElem?_eq_some_iff.1 hs.1.2).1 (fun e => by
      obtain ⟨o, ho, hc⟩ := (hr _ e.symm).2
      rw [hs.1.2] at ho
      cases ho; cases hc)).trans hs.1.2⟩, hs.2.1.grown hg (by have := hs.2.1.size; omega) (fun k e => by have := (hr _ e).1; omega), Nat.le_trans hs.2.2.1 hg.size, hs.2.2.2⟩)
    (fun _ _ _ _ _ hs _ _ => hs)
    ⟨⟨⟨_, hu3, hr0, trivial⟩, hcur3⟩, hb3, Nat.le_refl _, Nat.zero_le _⟩
    (fun x => { tmps := #[.agg #[], .slice a n cap, .pointer (some ⟨w.heap.size, 0, none⟩), undef, .slice none 0 0, .int .i64 0, .int .i64 0, .pointer (some ⟨S, 0, none⟩), .int .i64 (sOf z n (ck P x) : Nat), .slice (some ⟨S + 1, sAt z n (ck P x), none⟩) (sMany (sOf z n (ck P x))) (n - sAt z n (ck P x)), .agg #[], .iface 25 (.agg #[]), .slice a n cap, .int .i64 0, .int .i64 0, .bool false, undef, .slice a n cap, .slice (some ⟨S + 1, 0, none⟩) n n, .func (.func 50) #[] #[.pointer (some ⟨w2.heap.size, 0, none⟩)], .int .i64 (sOf z n (ck P x) : Nat), .slice (some ⟨S + 1, sAt z n (ck P x), none⟩) (sMany (sOf z n (ck P x))) (n - sAt z n (ck P x)), undef, undef, undef, undef, undef, undef, undef], defers := [] }) ?assign ?body ?done ?stop
  case assign =>
    intro l x W K hK
    unfold wv
    gi_wp2
    first | exact hK | simpa using hK
  case body =>
    rintro l pre x W ⟨⟨⟨v, hv, hrow, _⟩, hcw⟩, hB3, hs, hl⟩ hlt
    have hmx : Tryd.prog.follows .mixedOrders = true := by kernel_rfl
    obtain ⟨k, hk⟩ : ∃ k, ck P x = k := ⟨_, rfl⟩
    have hkP : k < P := by rw [← hk]; unfold ck; split <;> omega
    obtain ⟨o1, o2, o3, o4, _⟩ := sOf_spec hz60 (hPl k hkP)
    have hwl := (sWord_parts hz60 (hPl k hkP)).1
    have hrW : RowOf W (some ⟨S + 1, 0, none⟩) n (fun i => .int .u64 (z i : Nat)) := row_blocks hrow3 (hcw.trans hcur3.symm)
    have hrk := row_froms hrW (sAt z n k) (hPl k hkP)
    have hrs : RowOf W (some ⟨S + 1, sAt z n k, none⟩) (sMany (sOf z n k)) (fun i => .int .u64 ((fun j => z (sAt z n k + j)) i : Nat)) := by
      obtain ⟨b', o', he, _, hc⟩ := hrk.at_ (i := 0) (by omega)
      cases he
      exact .inr ⟨S + 1, sAt z n k, rfl, fun i hi => hc i (by omega)⟩
    have WD := Lib.hid (fun (V : World) (hV : V = W.drew) => (show Calls Tryd.prog 38 #[.int .i64 (sOf z n k : Nat), .slice (some ⟨S + 1, sAt z n k, none⟩) (sMany (sOf z n k)) (n - sAt z n k)] V fun e w' => e = .returned (.int .u64 ((sWord z n k : Nat) : Int)) ∧ V = w' from by
      subst hV
      exact sword_any (sOf z n k) (sMany (sOf z n k)) (n - sAt z n k) (some ⟨S + 1, sAt z n k, none⟩) (fun j => z (sAt z n k + j)) (by omega) rfl o4 W.drew hrs (HT.out.below hB3.drew)))
    have hmm := sB_more z n P x pre
    have hXl := sB_length z n P pre
    rw [hk] at hmm ⊢
    have PT := fun V => Put64_any none 0 0 (fun _ => 0) (sWord z n k) hwl (by decide) V (.inl rfl)
    simp only [Nat.zero_add, List.range_zero, List.map_nil, List.nil_append] at PT
    have hdl := bytes8_length (sWord z n k)
    obtain ⟨X, hX⟩ : ∃ X, sB z n P pre = X := ⟨_, rfl⟩
    rw [hX] at hrow hmm hXl
    have HMM := Lib.hid hmm
    have HRB := Lib.hid hg0
    clear hmm hX
    generalize bytesOf 8 (sWord z n k) = dG at *
    rw [← hdl] at PT
    have PT := Lib.hid PT
    have hX1 : X.length ≤ 9000000 := by omega
    have hd1 : 1 ≤ dG.length := by omega
    have hd9 : dG.length ≤ 8 := by omega
    have hvc := hv.cell
    have hsW := hB3.size
    have hl2 : (pre ++ [x]).length ≤ P := by simp; omega
    clear hdl hXl hl hlt hk hkP o1 o2 o3 o4 hwl hrW hrk hrs
    generalize sWord z n k = wd at *
    generalize sOf z n k = so at *
    generalize sAt z n k = sa at *
    generalize sMany so = sm at *
    gi_wp2
    refine wpIn_region_any hmx ?_
    (try (change wpAnyIn _ _ _ _ _ _ _ _ _ (World.drew _)))
    refine wpAnyIn_ready (rs := [0, 1, 2]) (by kernel_rfl) (by simp) ?_
    refine AllReadyIn.cons rfl (fun K hK => ?_) ?_
    · go_simp
      refine hK _ _ ?_
      clear hK K
      refine wpAnyIn_ready (rs := [1, 2]) (by kernel_rfl) (by simp) ?_
      refine AllReadyIn.cons rfl (fun K hK => ?_) ?_
      · go_simp
        refine hK _ _ ?_
        clear hK K
        refine wpAnyIn_ready (rs := [2]) (by kernel_rfl) (by simp) ?_
        refine AllReadyIn.cons rfl (fun K hK => ?_) ?_
        · go_simp
          refine hK _ _ ?_
          clear hK K
          refine wpAnyIn_ready (rs := [3]) (by kernel_rfl) (by simp) ?_
          refine AllReadyIn.cons rfl (fun K hK => ?_) ?_
          · go_simp
            refine (CallsIn.inRound l (callsIn_wide.2 (WD.out _ rfl))).mono ?_
            rintro e w8 ⟨rfl, rfl⟩
            (try dsimp only)
            refine hK _ _ ?_
            clear hK K
            refine wpAnyIn_ready (rs := [4]) (by kernel_rfl) (by simp) ?_
            refine AllReadyIn.cons rfl (fun K hK => ?_) ?_
            · go_simp
              refine (CallsIn.inRound l (callsIn_wide.2 (PT.out _))).mono ?_
              rintro e w9 ⟨v9, rfl, ho9, hb9⟩
              obtain ⟨a4, c4, g5, c5, w10, rfl, hrun, hcB, hc5, hf5, hv6, hrow6, hk6, hbel, hoth⟩ := box_append_gen W.drew w9 w.heap.size S v v9 X dG hv hrow.drew hd1 hsW hs1 ho9 hb9 (by omega)
              (try dsimp only)
              refine hK _ _ ?_
              clear hK K
              refine wpAnyIn_ready (rs := [5]) (by kernel_rfl) (by simp) ?_
              refine AllReadyIn.cons rfl (fun K hK => ?_) ?_
              · refine stepIn_append_ran _ _ rfl _ _ 27 rfl _ _ _ rfl rfl hrun ?_
                refine hK _ _ ?_
                clear hK K
                refine wpAnyIn_ready (rs := [6]) (by kernel_rfl) (by simp) ?_
                refine AllReadyIn.cons rfl (fun K hK => ?_) ?_
                · go_simp
                  refine hK _ _ ?_
                  clear hK K
                  refine wpAnyIn_done (by kernel_rfl) ?_ _
                  gi_wp2
                  rw [show X.length + dG.length = (X ++ dG).length from List.length_append.symm]
                  have hcw6 := hoth _ _ _ _ hcw (by omega) (by decide)
                  have hsz : W.heap.size ≤ (w10.setCell ⟨S, 0, none⟩ (.slice (some ⟨g5, 0, none⟩) (X ++ dG).length c5)).heap.size := hbel.size
                  refine ⟨((KeepsOthers.drew W).trans hk6).from _, ks_of hsz hoth ⟨_, hv⟩ ((Below.refl w.heap.size W).drew.trans hbel) HRB.out, ⟨⟨_, hv6, ?_, trivial⟩, hcw6⟩, hB3.drew.trans hbel, Nat.le_trans hs hsz, hl2⟩
                  rw [HMM.out]
                  exact hrow6
                exact AllReadyIn.nil
              exact AllReadyIn.nil
            exact AllReadyIn.nil
          exact AllReadyIn.nil
        exact AllReadyIn.nil
      refine AllReadyIn.cons rfl (fun K hK => ?_) ?_
      · go_simp
        refine hK _ _ ?_
        clear hK K
        refine wpAnyIn_ready (rs := [1]) (by kernel_rfl) (by simp) ?_
        refine AllReadyIn.cons rfl (fun K hK => ?_) ?_
        · go_simp
          refine hK _ _ ?_
          clear hK K
          refine wpAnyIn_ready (rs := [3]) (by kernel_rfl) (by simp) ?_
          refine AllReadyIn.cons rfl (fun K hK => ?_) ?_
          · go_simp
            refine (CallsIn.inRound l (callsIn_wide.2 (WD.out _ rfl))).mono ?_
            rintro e w8 ⟨rfl, rfl⟩
            (try dsimp only)
            refine hK _ _ ?_
            clear hK K
            refine wpAnyIn_ready (rs := [4]) (by kernel_rfl) (by simp) ?_
            refine AllReadyIn.cons rfl (fun K hK => ?_) ?_
            · go_simp
              refine (CallsIn.inRound l (callsIn_wide.2 (PT.out _))).mono ?_
              rintro e w9 ⟨v9, rfl, ho9, hb9⟩
              obtain ⟨a4, c4, g5, c5, w10, rfl, hrun, hcB, hc5, hf5, hv6, hrow6, hk6, hbel, hoth⟩ := box_append_gen W.drew w9 w.heap.size S v v9 X dG hv hrow.drew hd1 hsW hs1 ho9 hb9 (by omega)
              (try dsimp only)
              refine hK _ _ ?_
              clear hK K
              refine wpAnyIn_ready (rs := [5]) (by kernel_rfl) (by simp) ?_
              refine AllReadyIn.cons rfl (fun K hK => ?_) ?_
              · refine stepIn_append_ran _ _ rfl _ _ 27 rfl _ _ _ rfl rfl hrun ?_
                refine hK _ _ ?_
                clear hK K
                refine wpAnyIn_ready (rs := [6]) (by kernel_rfl) (by simp) ?_
                refine AllReadyIn.cons rfl (fun K hK => ?_) ?_
                · go_simp
                  refine hK _ _ ?_
                  clear hK K
                  refine wpAnyIn_done (by kernel_rfl) ?_ _
                  gi_wp2
                  rw [show X.length + dG.length = (X ++ dG).length from List.length_append.symm]
                  have hcw6 := hoth _ _ _ _ hcw (by omega) (by decide)
                  have hsz : W.heap.size ≤ (w10.setCell ⟨S, 0, none⟩ (.slice (some ⟨g5, 0, none⟩) (X ++ dG).length c5)).heap.size := hbel.size
                  refine ⟨((KeepsOthers.drew W).trans hk6).from _, ks_of hsz hoth ⟨_, hv⟩ ((Below.refl w.heap.size W).drew.trans hbel) HRB.out, ⟨⟨_, hv6, ?_, trivial⟩, hcw6⟩, hB3.drew.trans hbel, Nat.le_trans hs hsz, hl2⟩
                  rw [HMM.out]
                  exact hrow6
                exact AllReadyIn.nil
              exact AllReadyIn.nil
            exact AllReadyIn.nil
          exact AllReadyIn.nil
        exact AllReadyIn.nil
      exact AllReadyIn.nil
    refine AllReadyIn.cons rfl (fun K hK => ?_) ?_
    · go_simp
      refine hK _ _ ?_
      clear hK K
      refine wpAnyIn_ready (rs := [0, 2]) (by kernel_rfl) (by simp) ?_
      refine AllReadyIn.cons rfl (fun K hK => ?_) ?_
      · go_simp
        refine hK _ _ ?_
        clear hK K
        refine wpAnyIn_ready (rs := [2]) (by kernel_rfl) (by simp) ?_
        refine AllReadyIn.cons rfl (fun K hK => ?_) ?_
        · go_simp
          refine hK _ _ ?_
          clear hK K
          refine wpAnyIn_ready (rs := [3]) (by kernel_rfl) (by simp) ?_
          refine AllReadyIn.cons rfl (fun K hK => ?_) ?_
          · go_simp
            refine (CallsIn.inRound l (callsIn_wide.2 (WD.out _ rfl))).mono ?_
            rintro e w8 ⟨rfl, rfl⟩
            (try dsimp only)
            refine hK _ _ ?_
            clear hK K
            refine wpAnyIn_ready (rs := [4]) (by kernel_rfl) (by simp) ?_
            refine AllReadyIn.cons rfl (fun K hK => ?_) ?_
            · go_simp
              refine (CallsIn.inRound l (callsIn_wide.2 (PT.out _))).mono ?_
              rintro e w9 ⟨v9, rfl, ho9, hb9⟩
              obtain ⟨a4, c4, g5, c5, w10, rfl, hrun, hcB, hc5, hf5, hv6, hrow6, hk6, hbel, hoth⟩ := box_append_gen W.drew w9 w.heap.size S v v9 X dG hv hrow.drew hd1 hsW hs1 ho9 hb9 (by omega)
              (try dsimp only)
              refine hK _ _ ?_
              clear hK K
              refine wpAnyIn_ready (rs := [5]) (by kernel_rfl) (by simp) ?_
              refine AllReadyIn.cons rfl (fun K hK => ?_) ?_
              · refine stepIn_append_ran _ _ rfl _ _ 27 rfl _ _ _ rfl rfl hrun ?_
                refine hK _ _ ?_
                clear hK K
                refine wpAnyIn_ready (rs := [6]) (by kernel_rfl) (by simp) ?_
                refine AllReadyIn.cons rfl (fun K hK => ?_) ?_
                · go_simp
                  refine hK _ _ ?_
                  clear hK K
                  refine wpAnyIn_done (by kernel_rfl) ?_ _
                  gi_wp2
                  rw [show X.length + dG.length = (X ++ dG).length from List.length_append.symm]
                  have hcw6 := hoth _ _ _ _ hcw (by omega) (by decide)
                  have hsz : W.heap.size ≤ (w10.setCell ⟨S, 0, none⟩ (.slice (some ⟨g5, 0, none⟩) (X ++ dG).length c5)).heap.size := hbel.size
                  refine ⟨((KeepsOthers.drew W).trans hk6).from _, ks_of hsz hoth ⟨_, hv⟩ ((Below.refl w.heap.size W).drew.trans hbel) HRB.out, ⟨⟨_, hv6, ?_, trivial⟩, hcw6⟩, hB3.drew.trans hbel, Nat.le_trans hs hsz, hl2⟩
                  rw [HMM.out]
                  exact hrow6
                exact AllReadyIn.nil
              exact AllReadyIn.nil
            exact AllReadyIn.nil
          exact AllReadyIn.nil
        exact AllReadyIn.nil
      refine AllReadyIn.cons rfl (fun K hK => ?_) ?_
      · go_simp
        refine hK _ _ ?_
        clear hK K
        refine wpAnyIn_ready (rs := [0, 3]) (by kernel_rfl) (by simp) ?_
        refine AllReadyIn.cons rfl (fun K hK => ?_) ?_
        · go_simp
          refine hK _ _ ?_
          clear hK K
          refine wpAnyIn_ready (rs := [3]) (by kernel_rfl) (by simp) ?_
          refine AllReadyIn.cons rfl (fun K hK => ?_) ?_
          · go_simp
            refine (CallsIn.inRound l (callsIn_wide.2 (WD.out _ rfl))).mono ?_
            rintro e w8 ⟨rfl, rfl⟩
            (try dsimp only)
            refine hK _ _ ?_
            clear hK K
            refine wpAnyIn_ready (rs := [4]) (by kernel_rfl) (by simp) ?_
            refine AllReadyIn.cons rfl (fun K hK => ?_) ?_
            · go_simp
              refine (CallsIn.inRound l (callsIn_wide.2 (PT.out _))).mono ?_
              rintro e w9 ⟨v9, rfl, ho9, hb9⟩
              obtain ⟨a4, c4, g5, c5, w10, rfl, hrun, hcB, hc5, hf5, hv6, hrow6, hk6, hbel, hoth⟩ := box_append_gen W.drew w9 w.heap.size S v v9 X dG hv hrow.drew hd1 hsW hs1 ho9 hb9 (by omega)
              (try dsimp only)
              refine hK _ _ ?_
              clear hK K
              refine wpAnyIn_ready (rs := [5]) (by kernel_rfl) (by simp) ?_
              refine AllReadyIn.cons rfl (fun K hK => ?_) ?_
              · refine stepIn_append_ran _ _ rfl _ _ 27 rfl _ _ _ rfl rfl hrun ?_
                refine hK _ _ ?_
                clear hK K
                refine wpAnyIn_ready (rs := [6]) (by kernel_rfl) (by simp) ?_
                refine AllReadyIn.cons rfl (fun K hK => ?_) ?_
                · go_simp
                  refine hK _ _ ?_
                  clear hK K
                  refine wpAnyIn_done (by kernel_rfl) ?_ _
                  gi_wp2
                  rw [show X.length + dG.length = (X ++ dG).length from List.length_append.symm]
                  have hcw6 := hoth _ _ _ _ hcw (by omega) (by decide)
                  have hsz : W.heap.size ≤ (w10.setCell ⟨S, 0, none⟩ (.slice (some ⟨g5, 0, none⟩) (X ++ dG).length c5)).heap.size := hbel.size
                  refine ⟨((KeepsOthers.drew W).trans hk6).from _, ks_of hsz hoth ⟨_, hv⟩ ((Below.refl w.heap.size W).drew.trans hbel) HRB.out, ⟨⟨_, hv6, ?_, trivial⟩, hcw6⟩, hB3.drew.trans hbel, Nat.le_trans hs hsz, hl2⟩
                  rw [HMM.out]
                  exact hrow6
                exact AllReadyIn.nil
              exact AllReadyIn.nil
            exact AllReadyIn.nil
          exact AllReadyIn.nil
        refine AllReadyIn.cons rfl (fun K hK => ?_) ?_
        · go_simp
          refine (CallsIn.inRound l (callsIn_wide.2 (WD.out _ rfl))).mono ?_
          rintro e w8 ⟨rfl, rfl⟩
          (try dsimp only)
          refine hK _ _ ?_
          clear hK K
          refine wpAnyIn_ready (rs := [0, 4]) (by kernel_rfl) (by simp) ?_
          refine AllReadyIn.cons rfl (fun K hK => ?_) ?_
          · go_simp
            refine hK _ _ ?_
            clear hK K
            refine wpAnyIn_ready (rs := [4]) (by kernel_rfl) (by simp) ?_
            refine AllReadyIn.cons rfl (fun K hK => ?_) ?_
            · go_simp
              refine (CallsIn.inRound l (callsIn_wide.2 (PT.out _))).mono ?_
              rintro e w9 ⟨v9, rfl, ho9, hb9⟩
              obtain ⟨a4, c4, g5, c5, w10, rfl, hrun, hcB, hc5, hf5, hv6, hrow6, hk6, hbel, hoth⟩ := box_append_gen W.drew w9 w.heap.size S v v9 X dG hv hrow.drew hd1 hsW hs1 ho9 hb9 (by omega)
              (try dsimp only)
              refine hK _ _ ?_
              clear hK K
              refine wpAnyIn_ready (rs := [5]) (by kernel_rfl) (by simp) ?_
              refine AllReadyIn.cons rfl (fun K hK => ?_) ?_
              · refine stepIn_append_ran _ _ rfl _ _ 27 rfl _ _ _ rfl rfl hrun ?_
                refine hK _ _ ?_
                clear hK K
                refine wpAnyIn_ready (rs := [6]) (by kernel_rfl) (by simp) ?_
                refine AllReadyIn.cons rfl (fun K hK => ?_) ?_
                · go_simp
                  refine hK _ _ ?_
                  clear hK K
                  refine wpAnyIn_done (by kernel_rfl) ?_ _
                  gi_wp2
                  rw [show X.length + dG.length = (X ++ dG).length from List.length_append.symm]
                  have hcw6 := hoth _ _ _ _ hcw (by omega) (by decide)
                  have hsz : W.heap.size ≤ (w10.setCell ⟨S, 0, none⟩ (.slice (some ⟨g5, 0, none⟩) (X ++ dG).length c5)).heap.size := hbel.size
                  refine ⟨((KeepsOthers.drew W).trans hk6).from _, ks_of hsz hoth ⟨_, hv⟩ ((Below.refl w.heap.size W).drew.trans hbel) HRB.out, ⟨⟨_, hv6, ?_, trivial⟩, hcw6⟩, hB3.drew.trans hbel, Nat.le_trans hs hsz, hl2⟩
                  rw [HMM.out]
                  exact hrow6
                exact AllReadyIn.nil
              exact AllReadyIn.nil
            exact AllReadyIn.nil
          refine AllReadyIn.cons rfl (fun K hK => ?_) ?_
          · go_simp
            refine (CallsIn.inRound l (callsIn_wide.2 (PT.out _))).mono ?_
            rintro e w9 ⟨v9, rfl, ho9, hb9⟩
            obtain ⟨a4, c4, g5, c5, w10, rfl, hrun, hcB, hc5, hf5, hv6, hrow6, hk6, hbel, hoth⟩ := box_append_gen W.drew w9 w.heap.size S v v9 X dG hv hrow.drew hd1 hsW hs1 ho9 hb9 (by omega)
            (try dsimp only)
            refine hK _ _ ?_
            clear hK K
            refine wpAnyIn_ready (rs := [0]) (by kernel_rfl) (by simp) ?_
            refine AllReadyIn.cons rfl (fun K hK => ?_) ?_
            · go_simp
              refine hK _ _ ?_
              clear hK K
              refine wpAnyIn_ready (rs := [5]) (by kernel_rfl) (by simp) ?_
              refine AllReadyIn.cons rfl (fun K hK => ?_) ?_
              · refine stepIn_append_ran _ _ rfl _ _ 27 rfl _ _ _ rfl rfl hrun ?_
                refine hK _ _ ?_
                clear hK K
                refine wpAnyIn_ready (rs := [6]) (by kernel_rfl) (by simp) ?_
                refine AllReadyIn.cons rfl (fun K hK => ?_) ?_
                · go_simp
                  refine hK _ _ ?_
                  clear hK K
                  refine wpAnyIn_done (by kernel_rfl) ?_ _
                  gi_wp2
                  rw [show X.length + dG.length = (X ++ dG).length from List.length_append.symm]
                  have hcw6 := hoth _ _ _ _ hcw (by omega) (by decide)
                  have hsz : W.heap.size ≤ (w10.setCell ⟨S, 0, none⟩ (.slice (some ⟨g5, 0, none⟩) (X ++ dG).length c5)).heap.size := hbel.size
                  refine ⟨((KeepsOthers.drew W).trans hk6).from _, ks_of hsz hoth ⟨_, hv⟩ ((Below.refl w.heap.size W).drew.trans hbel) HRB.out, ⟨⟨_, hv6, ?_, trivial⟩, hcw6⟩, hB3.drew.trans hbel, Nat.le_trans hs hsz, hl2⟩
                  rw [HMM.out]
                  exact hrow6
                exact AllReadyIn.nil
              exact AllReadyIn.nil
            exact AllReadyIn.nil
          exact AllReadyIn.nil
        exact AllReadyIn.nil
      exact AllReadyIn.nil
    refine AllReadyIn.cons rfl (fun K hK => ?_) ?_
    · go_simp
      refine hK _ _ ?_
      clear hK K
      refine wpAnyIn_ready (rs := [0, 1]) (by kernel_rfl) (by simp) ?_
      refine AllReadyIn.cons rfl (fun K hK => ?_) ?_
      · go_simp
        refine hK _ _ ?_
        clear hK K
        refine wpAnyIn_ready (rs := [1]) (by kernel_rfl) (by simp) ?_
        refine AllReadyIn.cons rfl (fun K hK => ?_) ?_
        · go_simp
          refine hK _ _ ?_
          clear hK K
          refine wpAnyIn_ready (rs := [3]) (by kernel_rfl) (by simp) ?_
          refine AllReadyIn.cons rfl (fun K hK => ?_) ?_
          · go_simp
            refine (CallsIn.inRound l (callsIn_wide.2 (WD.out _ rfl))).mono ?_
            rintro e w8 ⟨rfl, rfl⟩
            (try dsimp only)
            refine hK _ _ ?_
            clear hK K
            refine wpAnyIn_ready (rs := [4]) (by kernel_rfl) (by simp) ?_
            refine AllReadyIn.cons rfl (fun K hK => ?_) ?_
            · go_simp
              refine (CallsIn.inRound l (callsIn_wide.2 (PT.out _))).mono ?_
              rintro e w9 ⟨v9, rfl, ho9, hb9⟩
              obtain ⟨a4, c4, g5, c5, w10, rfl, hrun, hcB, hc5, hf5, hv6, hrow6, hk6, hbel, hoth⟩ := box_append_gen W.drew w9 w.heap.size S v v9 X dG hv hrow.drew hd1 hsW hs1 ho9 hb9 (by omega)
              (try dsimp only)
              refine hK _ _ ?_
              clear hK K
              refine wpAnyIn_ready (rs := [5]) (by kernel_rfl) (by simp) ?_
              refine AllReadyIn.cons rfl (fun K hK => ?_) ?_
              · refine stepIn_append_ran _ _ rfl _ _ 27 rfl _ _ _ rfl rfl hrun ?_
                refine hK _ _ ?_
                clear hK K
                refine wpAnyIn_ready (rs := [6]) (by kernel_rfl) (by simp) ?_
                refine AllReadyIn.cons rfl (fun K hK => ?_) ?_
                · go_simp
                  refine hK _ _ ?_
                  clear hK K
                  refine wpAnyIn_done (by kernel_rfl) ?_ _
                  gi_wp2
                  rw [show X.length + dG.length = (X ++ dG).length from List.length_append.symm]
                  have hcw6 := hoth _ _ _ _ hcw (by omega) (by decide)
                  have hsz : W.heap.size ≤ (w10.setCell ⟨S, 0, none⟩ (.slice (some ⟨g5, 0, none⟩) (X ++ dG).length c5)).heap.size := hbel.size
                  refine ⟨((KeepsOthers.drew W).trans hk6).from _, ks_of hsz hoth ⟨_, hv⟩ ((Below.refl w.heap.size W).drew.trans hbel) HRB.out, ⟨⟨_, hv6, ?_, trivial⟩, hcw6⟩, hB3.drew.trans hbel, Nat.le_trans hs hsz, hl2⟩
                  rw [HMM.out]
                  exact hrow6
                exact AllReadyIn.nil
              exact AllReadyIn.nil
            exact AllReadyIn.nil
          exact AllReadyIn.nil
        exact AllReadyIn.nil
      refine AllReadyIn.cons rfl (fun K hK => ?_) ?_
      · go_simp
        refine hK _ _ ?_
        clear hK K
        refine wpAnyIn_ready (rs := [0, 3]) (by kernel_rfl) (by simp) ?_
        refine AllReadyIn.cons rfl (fun K hK => ?_) ?_
        · go_simp
          refine hK _ _ ?_
          clear hK K
          refine wpAnyIn_ready (rs := [3]) (by kernel_rfl) (by simp) ?_
          refine AllReadyIn.cons rfl (fun K hK => ?_) ?_
          · go_simp
            refine (CallsIn.inRound l (callsIn_wide.2 (WD.out _ rfl))).mono ?_
            rintro e w8 ⟨rfl, rfl⟩
            (try dsimp only)
            refine hK _ _ ?_
            clear hK K
            refine wpAnyIn_ready (rs := [4]) (by kernel_rfl) (by simp) ?_
            refine AllReadyIn.cons rfl (fun K hK => ?_) ?_
            · go_simp
              refine (CallsIn.inRound l (callsIn_wide.2 (PT.out _))).mono ?_
              rintro e w9 ⟨v9, rfl, ho9, hb9⟩
              obtain ⟨a4, c4, g5, c5, w10, rfl, hrun, hcB, hc5, hf5, hv6, hrow6, hk6, hbel, hoth⟩ := box_append_gen W.drew w9 w.heap.size S v v9 X dG hv hrow.drew hd1 hsW hs1 ho9 hb9 (by omega)
              (try dsimp only)
              refine hK _ _ ?_
              clear hK K
              refine wpAnyIn_ready (rs := [5]) (by kernel_rfl) (by simp) ?_
              refine AllReadyIn.cons rfl (fun K hK => ?_) ?_
              · refine stepIn_append_ran _ _ rfl _ _ 27 rfl _ _ _ rfl rfl hrun ?_
                refine hK _ _ ?_
                clear hK K
                refine wpAnyIn_ready (rs := [6]) (by kernel_rfl) (by simp) ?_
                refine AllReadyIn.cons rfl (fun K hK => ?_) ?_
                · go_simp
                  refine hK _ _ ?_
                  clear hK K
                  refine wpAnyIn_done (by kernel_rfl) ?_ _
                  gi_wp2
                  rw [show X.length + dG.length = (X ++ dG).length from List.length_append.symm]
                  have hcw6 := hoth _ _ _ _ hcw (by omega) (by decide)
                  have hsz : W.heap.size ≤ (w10.setCell ⟨S, 0, none⟩ (.slice (some ⟨g5, 0, none⟩) (X ++ dG).length c5)).heap.size := hbel.size
                  refine ⟨((KeepsOthers.drew W).trans hk6).from _, ks_of hsz hoth ⟨_, hv⟩ ((Below.refl w.heap.size W).drew.trans hbel) HRB.out, ⟨⟨_, hv6, ?_, trivial⟩, hcw6⟩, hB3.drew.trans hbel, Nat.le_trans hs hsz, hl2⟩
                  rw [HMM.out]
                  exact hrow6
                exact AllReadyIn.nil
              exact AllReadyIn.nil
            exact AllReadyIn.nil
          exact AllReadyIn.nil
        refine AllReadyIn.cons rfl (fun K hK => ?_) ?_
        · go_simp
          refine (CallsIn.inRound l (callsIn_wide.2 (WD.out _ rfl))).mono ?_
          rintro e w8 ⟨rfl, rfl⟩
          (try dsimp only)
          refine hK _ _ ?_
          clear hK K
          refine wpAnyIn_ready (rs := [0, 4]) (by kernel_rfl) (by simp) ?_
          refine AllReadyIn.cons rfl (fun K hK => ?_) ?_
          · go_simp
            refine hK _ _ ?_
            clear hK K
            refine wpAnyIn_ready (rs := [4]) (by kernel_rfl) (by simp) ?_
            refine AllReadyIn.cons rfl (fun K hK => ?_) ?_
            · go_simp
              refine (CallsIn.inRound l (callsIn_wide.2 (PT.out _))).mono ?_
              rintro e w9 ⟨v9, rfl, ho9, hb9⟩
              obtain ⟨a4, c4, g5, c5, w10, rfl, hrun, hcB, hc5, hf5, hv6, hrow6, hk6, hbel, hoth⟩ := box_append_gen W.drew w9 w.heap.size S v v9 X dG hv hrow.drew hd1 hsW hs1 ho9 hb9 (by omega)
              (try dsimp only)
              refine hK _ _ ?_
              clear hK K
              refine wpAnyIn_ready (rs := [5]) (by kernel_rfl) (by simp) ?_
              refine AllReadyIn.cons rfl (fun K hK => ?_) ?_
              · refine stepIn_append_ran _ _ rfl _ _ 27 rfl _ _ _ rfl rfl hrun ?_
                refine hK _ _ ?_
                clear hK K
                refine wpAnyIn_ready (rs := [6]) (by kernel_rfl) (by simp) ?_
                refine AllReadyIn.cons rfl (fun K hK => ?_) ?_
                · go_simp
                  refine hK _ _ ?_
                  clear hK K
                  refine wpAnyIn_done (by kernel_rfl) ?_ _
                  gi_wp2
                  rw [show X.length + dG.length = (X ++ dG).length from List.length_append.symm]
                  have hcw6 := hoth _ _ _ _ hcw (by omega) (by decide)
                  have hsz : W.heap.size ≤ (w10.setCell ⟨S, 0, none⟩ (.slice (some ⟨g5, 0, none⟩) (X ++ dG).length c5)).heap.size := hbel.size
                  refine ⟨((KeepsOthers.drew W).trans hk6).from _, ks_of hsz hoth ⟨_, hv⟩ ((Below.refl w.heap.size W).drew.trans hbel) HRB.out, ⟨⟨_, hv6, ?_, trivial⟩, hcw6⟩, hB3.drew.trans hbel, Nat.le_trans hs hsz, hl2⟩
                  rw [HMM.out]
                  exact hrow6
                exact AllReadyIn.nil
              exact AllReadyIn.nil
            exact AllReadyIn.nil
          refine AllReadyIn.cons rfl (fun K hK => ?_) ?_
          · go_simp
            refine (CallsIn.inRound l (callsIn_wide.2 (PT.out _))).mono ?_
            rintro e w9 ⟨v9, rfl, ho9, hb9⟩
            obtain ⟨a4, c4, g5, c5, w10, rfl, hrun, hcB, hc5, hf5, hv6, hrow6, hk6, hbel, hoth⟩ := box_append_gen W.drew w9 w.heap.size S v v9 X dG hv hrow.drew hd1 hsW hs1 ho9 hb9 (by omega)
            (try dsimp only)
            refine hK _ _ ?_
            clear hK K
            refine wpAnyIn_ready (rs := [0]) (by kernel_rfl) (by simp) ?_
            refine AllReadyIn.cons rfl (fun K hK => ?_) ?_
            · go_simp
              refine hK _ _ ?_
              clear hK K
              refine wpAnyIn_ready (rs := [5]) (by kernel_rfl) (by simp) ?_
              refine AllReadyIn.cons rfl (fun K hK => ?_) ?_
              · refine stepIn_append_ran _ _ rfl _ _ 27 rfl _ _ _ rfl rfl hrun ?_
                refine hK _ _ ?_
                clear hK K
                refine wpAnyIn_ready (rs := [6]) (by kernel_rfl) (by simp) ?_
                refine AllReadyIn.cons rfl (fun K hK => ?_) ?_
                · go_simp
                  refine hK _ _ ?_
                  clear hK K
                  refine wpAnyIn_done (by kernel_rfl) ?_ _
                  gi_wp2
                  rw [show X.length + dG.length = (X ++ dG).length from List.length_append.symm]
                  have hcw6 := hoth _ _ _ _ hcw (by omega) (by decide)
                  have hsz : W.heap.size ≤ (w10.setCell ⟨S, 0, none⟩ (.slice (some ⟨g5, 0, none⟩) (X ++ dG).length c5)).heap.size := hbel.size
                  refine ⟨((KeepsOthers.drew W).trans hk6).from _, ks_of hsz hoth ⟨_, hv⟩ ((Below.refl w.heap.size W).drew.trans hbel) HRB.out, ⟨⟨_, hv6, ?_, trivial⟩, hcw6⟩, hB3.drew.trans hbel, Nat.le_trans hs hsz, hl2⟩
                  rw [HMM.out]
                  exact hrow6
                exact AllReadyIn.nil
              exact AllReadyIn.nil
            exact AllReadyIn.nil
          exact AllReadyIn.nil
        exact AllReadyIn.nil
      exact AllReadyIn.nil
    exact AllReadyIn.nil
  case done =>
    rintro D ys W hD rfl ⟨⟨⟨v, hv, hrow, _⟩, hcw⟩, hB3, hs, hl⟩ hK
    rw [HF.out] at hrow
    rw [sF_length] at hrow
    have hc := hv.cell
    gi_wp2
    refine ⟨by simp, .inl ⟨_, _, rfl, run_takeDeferred hK, ?_⟩⟩
    refine ⟨_, results_tmp2 rfl _ _ _, _, rfl, ?_, hB3.grown (grownBy_putObj' W D _) (by have := hB3.size; omega) (fun k e => by cases e; omega)⟩
    exact ownsRow_putObj hrow _ hK rfl
  case stop =>
    rintro D c pre W _ _ h _
    exact h.elim
end Go.Proofs.YtelcaejiipibpaaDoor
