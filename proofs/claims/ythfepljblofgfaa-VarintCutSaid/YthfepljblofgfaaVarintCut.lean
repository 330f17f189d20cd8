/-
  THE STATEMENT corduroylaw04.VarintCut: for every number and every cut the call returns true and leaves its arguments as they were. No condition.
-/
import Derived.Test.YthfepljblofgfaaVarAwake
import Derived.Test.YthfepljblofgfaaIsRow
import Derived.Test.YthfepljblofgfaaVarBackArith
import Derived.Test.YthfepljblofgfaaVarAppend
import Derived.Deep.RegionHeld3
import Derived.Deep.AppendLies
import Derived.Deep.DrawnRows
import Derived.Laws.BytesArg
namespace Go.Proofs.Ythfepljblofgfaa.varintCut
open Go.ChangeShapes Go.WideShapes Go.ChangeAt Go.RowKit
set_option linter.unusedVariables false

/-- An empty slice of one's own, new. -/
theorem owns_empty (W : World) (B : Nat) (hB : B ≤ W.heap.size) : (W.alloc (.cells #[] 5)).ownsRow B 5 1 (.slice (some ⟨W.heap.size, 0, none⟩) 0 0) 0 [] :=
  ⟨rfl, .inr ⟨W.heap.size, 0, #[], rfl, hB, (by show (W.heap.push (Obj.cells #[] 5))[W.heap.size]? = _; rw [Array.getElem?_push_size]), Nat.le_refl _, Nat.zero_le _, rfl, rfl⟩⟩

attribute [local go_sem ↓] Go.wp_at_zero Go.wp_at_succ
/-- A step of a drawing region: an append whose run is known. -/
theorem step_append_ran {P : Program} (w w2 : World) {ops : Array Oper} {o : Oper} {a : Act} {K : Act → World → Prop} {Q : Exit → Act → World → Prop} {E : Prop} (hgd : o.guard = none) (s x : Operand) (t : TypeId)
    (ho : o.op = .call { callee := .builtin .append, args := #[s, x], argTypes := #[t, t] }) (v vs vx : Value) (hs : a.eval s = vs) (hx : a.eval x = vx)
    (hr : (Builtin.append_ #[t, t] o.type #[vs, vx]).run P w = .ok v w2) (h : K (a.put o.dst v) w2) : if Region.wanted o (yielded ops a.tmps) = true then Oper.wp P o a w K Q else E := by
  have hw : Region.wanted o (yielded ops a.tmps) = true := by simp [Region.wanted, hgd]
  rw [if_pos hw]
  exact wp_append_ran w w2 s x t ho v vs vx hs hx hr h
theorem cells_news {W : World} {g m : Nat} {z : Nat → Int} (hz : BytesAt W g 0 m z) : ∀ (j : Nat) (u : Value), (cellsOf (rowOf z m))[j]? = some u → W.cell? ((⟨g, 0, none⟩ : Addr).add j) = some u := fun j u hj => by
  have hjl : j < m := by
    rcases Nat.lt_or_ge j m with h | h
    · exact h
    · rw [List.getElem?_eq_none (by simpa [cellsOf, rowOf] using h)] at hj; cases hj
  have := hz j hjl
  simp [cellsOf, rowOf, hjl] at hj
  subst hj
  by_cases h1 : j = 0
  · subst h1; simpa [Addr.add] using this
  · simpa [Addr.add, h1] using this
/-- A step of a drawing region: a row of bytes behind nothing. -/
theorem step_append_first {W : World} {ops : Array Oper} {o : Oper} {a : Act} {K : Act → World → Prop} {Q : Exit → Act → World → Prop} {E : Prop} (hgd : o.guard = none) (s x : Operand)
    (ho : o.op = .call { callee := .builtin .append, args := #[s, x], argTypes := #[22, 22] }) (hty : o.type = 22) (B A g m cc : Nat) (z : Nat → Int) (hm : m ≤ 100)
    (hs : a.eval s = .slice (some ⟨A, 0, none⟩) 0 0) (hx : a.eval x = .slice (some ⟨g, 0, none⟩) m cc)
    (hown : W.ownsRow B 5 1 (.slice (some ⟨A, 0, none⟩) 0 0) 0 []) (hz : BytesAt W g 0 m z) (hB : B ≤ W.heap.size)
    (h : ∀ g' c' W', W'.ownsRow B 5 1 (.slice (some ⟨g', 0, none⟩) m c') m (cellsOf (rowOf z m)) → W.grownBy W' (some A) → Below B W W' → K (a.put o.dst (.slice (some ⟨g', 0, none⟩) m c')) W') :
    if Region.wanted o (yielded ops a.tmps) = true then Oper.wp Try.prog o a W K Q else E := by
  by_cases h0 : m = 0
  · subst h0
    refine step_append_ran W W hgd s x 22 ho _ _ _ hs hx (by rw [hty]; exact append_zero' (some ⟨g, 0, none⟩) A 0 0 cc (Nat.le_refl _) (Nat.zero_le _) W) ?_
    exact h A 0 W (by simpa [rowOf, cellsOf] using hown) (World.grownBy.refl _ _) (Below.refl _ _)
  · obtain ⟨i0, hi, hz0, hz1, hz2⟩ := info_parts byteInfo
    obtain ⟨v', w', hr, ho', hg, hnil⟩ := run_append_own (P := Try.prog) W B 22 22 5 i0 (.int .u8 0) 1 1 Try.underlying22 hi hz0 hz1 hz2 rfl (by decide) (.slice (some ⟨A, 0, none⟩) 0 0) 0 [] hown ⟨g, 0, none⟩ m cc (cellsOf (rowOf z m)) (by simp [cellsOf, rowOf])
      (cells_news hz) (by intro u hu; obtain ⟨x, _, rfl⟩ := List.mem_map.mp hu; rfl) (by unfold maxLen; omega) (by omega) hB
    rw [Nat.zero_add, List.nil_append] at ho'
    obtain ⟨n, rfl⟩ : ∃ n, m = n + 1 := ⟨m - 1, by omega⟩
    obtain ⟨g', c', rfl⟩ := ownsRow_succ ho'
    exact step_append_ran W w' hgd s x 22 ho _ _ _ hs hx (by rw [hty]; exact hr) (h g' c' w' ho' hg ((Below.refl B W).grown hg hB (fun k hk => (hown.lt k hk).1)))
/-- A step of a drawing region: two bytes behind a row of one's own. -/
theorem step_append_second {W : World} {ops : Array Oper} {o : Oper} {a : Act} {K : Act → World → Prop} {Q : Exit → Act → World → Prop} {E : Prop} (hgd : o.guard = none) (s x : Operand)
    (ho : o.op = .call { callee := .builtin .append, args := #[s, x], argTypes := #[22, 22] }) (hty : o.type = 22) (B g m c T : Nat) (xs : List Int) (p q : Int) (hm : m ≤ 100)
    (hs : a.eval s = .slice (some ⟨g, 0, none⟩) m c) (hx : a.eval x = .slice (some ⟨T, 0, none⟩) 2 2)
    (hown : W.ownsRow B 5 1 (.slice (some ⟨g, 0, none⟩) m c) m (cellsOf xs)) (h0 : W.cell? ⟨T, 0, none⟩ = some (.int .u8 p)) (h1 : W.cell? ⟨T, 1, none⟩ = some (.int .u8 q)) (hB : B ≤ W.heap.size)
    (h : ∀ g' c' W', W'.ownsRow B 5 1 (.slice (some ⟨g', 0, none⟩) (m + 1 + 1) c') (m + 1 + 1) (cellsOf (xs ++ [p, q])) → Below B W W' → K (a.put o.dst (.slice (some ⟨g', 0, none⟩) (m + 1 + 1) c')) W') :
    if Region.wanted o (yielded ops a.tmps) = true then Oper.wp Try.prog o a W K Q else E := by
  obtain ⟨i0, hi, hz0, hz1, hz2⟩ := info_parts byteInfo
  obtain ⟨v', w', hr, ho', hg, hnil⟩ := run_append_own (P := Try.prog) W B 22 22 5 i0 (.int .u8 0) 1 1 Try.underlying22 hi hz0 hz1 hz2 rfl (by decide) (.slice (some ⟨g, 0, none⟩) m c) m (cellsOf xs) hown ⟨T, 0, none⟩ 2 2 [.int .u8 p, .int .u8 q] rfl
    (fun j u hj => by
      match j, hj with
      | 0, hj => simp at hj; subst hj; simpa [Addr.add] using h0
      | 1, hj => simp at hj; subst hj; simpa [Addr.add] using h1
      | j + 2, hj => simp at hj)
    (by intro u hu; simp at hu; rcases hu with rfl | rfl <;> rfl) (by unfold maxLen; omega) (by omega) hB
  have e : m + 2 = m + 1 + 1 := rfl
  rw [e] at ho'
  obtain ⟨g', c', rfl⟩ := ownsRow_succ ho'
  exact step_append_ran W w' hgd s x 22 ho _ _ _ hs hx (by rw [hty]; exact hr) (h g' c' w' (by rw [cellsOf, List.map_append]; exact ho') ((Below.refl B W).grown hg hB (fun k hk => (hown.lt k hk).1)))
theorem or_small (d : Int) (h0 : 0 ≤ d) (h1 : d < 128) : Go.bits .or .u8 d 128 = d + 128 := by
  obtain ⟨r, rfl⟩ : ∃ r : Nat, d = r := ⟨d.toNat, by omega⟩
  have := or128 r
  rw [show (r : Int) % 256 = r by omega] at this
  rw [this]; omega
theorem cut_row (zd : Nat → Int) (m : Nat) (hm : m ≤ 9) (H3 : ∀ i, i < m → 128 ≤ zd i ∧ zd i ≤ 255) (d : Int) (d0 : 0 ≤ d) (d1 : d < 128) :
    (∀ i, 0 ≤ (rowOf zd m ++ [d + 128, 0]).getD i 0 ∧ (rowOf zd m ++ [d + 128, 0]).getD i 0 ≤ 255) ∧
      ∃ f, IsLast (fun i => (rowOf zd m ++ [d + 128, 0]).getD i 0) (min (m + 1 + 1) 10) f ∧ got (fun i => (rowOf zd m ++ [d + 128, 0]).getD i 0) (m + 1 + 1) f = (0, 0, 9) := by
  have hl : (rowOf zd m).length = m := by simp [rowOf]
  have e1 : ∀ i, i < m → (rowOf zd m ++ [d + 128, 0]).getD i 0 = zd i := fun i hi => by
    rw [List.getD_eq_getElem?_getD, List.getElem?_append_left (by omega)]; simp [rowOf, hi]
  have e2 : (rowOf zd m ++ [d + 128, 0]).getD m 0 = d + 128 := by
    rw [List.getD_eq_getElem?_getD, List.getElem?_append_right (by omega), hl, Nat.sub_self]; rfl
  have e3 : (rowOf zd m ++ [d + 128, 0]).getD (m + 1) 0 = 0 := by
    rw [List.getD_eq_getElem?_getD, List.getElem?_append_right (by omega), hl, show m + 1 - m = 1 by omega]; rfl
  have e4 : ∀ i, m + 2 ≤ i → (rowOf zd m ++ [d + 128, 0]).getD i 0 = 0 := fun i hi => by
    rw [List.getD_eq_getElem?_getD, List.getElem?_eq_none (by simp [hl]; omega)]; rfl
  have hlow : ∀ i, i < m + 1 → ¬ (rowOf zd m ++ [d + 128, 0]).getD i 0 < 128 := fun i hi => by
    by_cases h : i < m
    · rw [e1 i h]; have := H3 i h; omega
    · obtain rfl : i = m := by omega
      rw [e2]; omega
  refine ⟨fun i => ?_, ?_⟩
  · by_cases h : i < m
    · rw [e1 i h]; have := H3 i h; omega
    · by_cases h' : i = m
      · rw [h', e2]; omega
      · by_cases h2 : i = m + 1
        · rw [h2, e3]; omega
        · rw [e4 i (by omega)]; omega
  · by_cases h9 : m = 9
    · subst h9
      refine ⟨10, ⟨by omega, fun i hi => hlow i hi, fun h => by omega⟩, ?_⟩
      unfold got; rw [if_pos (by omega), if_neg (by omega)]
    · refine ⟨m + 1, ⟨by omega, fun i hi => hlow i hi, fun _ => by show List.getD _ _ _ < 128; rw [e3]; omega⟩, ?_⟩
      have hn : ¬ (m + 1 = 9 ∧ 1 < (rowOf zd m ++ [d + 128, 0]).getD 9 0) := by
        rintro ⟨h8, h⟩
        rw [← h8, e3] at h
        omega
      unfold got
      rw [if_neg (by omega), if_neg hn, if_pos ⟨by omega, e3⟩]
theorem wrap_small (m : Nat) (hm : m ≤ 100) : IntKind.i64.wrap (m : Int) = m := by
  rw [IntKind.wrap_i64]; omega
set_option maxHeartbeats 4000000 in
theorem cut_walk (v : Nat) (hv : v < 18446744073709551616) (c : Nat) (hc : c < 256) (w : World) (m : Nat) (ds : List Int) (hm : m ≤ 9)
    (P0 : Hid (Calls Try.prog 32 #[.slice none 0 0, .int .u64 v] w fun e W' => ∃ x, e = .returned x ∧ W'.ownsRow w.heap.size 5 1 x ds.length (cellsOf ds) ∧ Below w.heap.size w W'))
    (HL : Hid (ds.length = m + 1)) (H3 : Hid (∀ i, i < m → 128 ≤ ds.getD i 0 ∧ ds.getD i 0 ≤ 255)) (HBB : Hid (∀ i, 0 ≤ ds.getD i 0 ∧ ds.getD i 0 ≤ 255)) (d : Int) (hd : ds.getD m 0 = d) (d0 : 0 ≤ d) (d1 : d < 128) :
    Calls Try.prog 10 #[.int .u64 v, .int .u8 c] w fun e w' => e = .returned (.bool true) ∧ Below w.heap.size w w' := by
  have HD := Lib.hid hd
  clear hd
  have hne : ((m : Int) + 1 == 0) = false := by simp; omega
  obtain ⟨k, hk⟩ : ∃ k : Nat, c % (m + 1) = k := ⟨_, rfl⟩
  have hkm : k ≤ m := by have := Nat.mod_lt c (by omega : 0 < m + 1); omega
  have hki : (c : Int) % ((m : Int) + 1) = k := by rw [← hk]; simp
  have hor : Go.bits .or .u8 d 128 = d + 128 := or_small d d0 d1
  have hwr := wrap_small m (by omega)
  obtain ⟨i0, hi0, hz0, hz1, hz2⟩ := info_parts byteInfo
  clear hk
  go_enter Try.func10, Try.ntmps10
  go_wp2_with fail
  refine P0.out.mono ?_
  rintro e w1 ⟨x, rfl, hrow, hb1⟩
  rw [HL.out] at hrow
  obtain ⟨g, cc, rfl, k1, k2, k3, k4, k5, k6⟩ := own_bytes hrow
  have K6 := Lib.hid k6
  have HB1 := Lib.hid hb1
  clear hrow k6 hb1
  go_wp2_with fail
  have GK := get_any (some ⟨g, 0, none⟩) g 0 k cc k _ HBB.out (by omega) (by unfold maxLen at k4; omega) ⟨by omega, fun i hi => by have := H3.out i (by omega); show ¬ ds.getD i 0 < 128; omega, fun h => by omega⟩ w1 (.inr rfl) (fun i hi => K6.out i (by omega))
  have eg : got (fun i => ds.getD i 0) k k = (0, 0, 1) := by unfold got; rw [if_pos (by omega), if_pos (by omega)]
  rw [eg] at GK
  refine GK.mono ?_
  clear GK eg
  rintro e w' ⟨rfl, rfl⟩
  have j1 : (0 : Int) ≤ (m : Int) := by omega
  have j2 : (m : Int) < (m : Int) + 1 := by omega
  have j3 : (m : Int) ≤ (cc : Int) := by omega
  have hS : w1.cell? ⟨g, m, none⟩ = some (.int .u8 d) := by
    have := K6.out m (by omega)
    rw [Nat.zero_add] at this
    simp only [HD.out] at this
    exact this
  go_wp2_with fail
  go_region_held3 (fun w' => w'.cell? ⟨g, m, none⟩ = some (.int .u8 d)) (first | go_keep | (rw [hbel.cell (p := ⟨g, m, none⟩) k2]; assumption))
    (first
      | (refine step_append_first (by rfl) _ _ (by rfl) (by rfl) w1.heap.size w1.heap.size g m cc (fun i => ds.getD i 0) (by omega) (by rfl) (by rfl) (owns_empty w1 _ (Nat.le_refl _)).drew (fun i hi => (((Below.refl w1.heap.size w1).alloc (Nat.le_refl _) _).drew.cell (p := ⟨g, 0 + i, none⟩) k2).trans (K6.out i (by omega))) (by first | (simp; done) | (simp; omega)) ?_; intro g1 c1 w2 hown2 hgrow hbel; have hs2 := hbel.size; simp at hs2; have hb12 := (((Below.refl w1.heap.size w1).alloc (Nat.le_refl _) _).drew).trans hbel)
      | (refine step_append_first (by rfl) _ _ (by rfl) (by rfl) w1.heap.size w1.heap.size g m cc (fun i => ds.getD i 0) (by omega) (by rfl) (by rfl) ((owns_empty w1 _ (Nat.le_refl _)).alloc _).drew (fun i hi => ((((Below.refl w1.heap.size w1).alloc (Nat.le_refl _) _).alloc (by first | (simp; done) | (simp; omega)) _).drew.cell (p := ⟨g, 0 + i, none⟩) k2).trans (K6.out i (by omega))) (by first | (simp; done) | (simp; omega)) ?_; intro g1 c1 w2 hown2 hgrow hbel; have hs2 := hbel.size; simp at hs2; have hb12 := ((((Below.refl w1.heap.size w1).alloc (Nat.le_refl _) _).alloc (by first | (simp; done) | (simp; omega)) _).drew).trans hbel; go_loud (have t0 := (hgrow.cell_far (⟨w1.heap.size + 1, 0, none⟩ : Addr) (by first | (simp; done) | (simp; omega)) (by first | (simp; done) | (simp; omega))).trans (show _ = some (Value.int .u8 (d + 128)) by simp [go_sem]); have t1 := (hgrow.cell_far (⟨w1.heap.size + 1, 1, none⟩ : Addr) (by first | (simp; done) | (simp; omega)) (by first | (simp; done) | (simp; omega))).trans (show _ = some (Value.int .u8 0) by simp [go_sem])))
      | (refine step_append_first (by rfl) _ _ (by rfl) (by rfl) w1.heap.size (w1.heap.size + 1) g m cc (fun i => ds.getD i 0) (by omega) (by rfl) (by rfl) (by simpa using (owns_empty (w1.alloc (.cells #[.int .u8 (d + 128), .int .u8 0] 5)) w1.heap.size (by first | (simp; done) | (simp; omega))).drew) (fun i hi => ((((Below.refl w1.heap.size w1).alloc (Nat.le_refl _) _).alloc (by first | (simp; done) | (simp; omega)) _).drew.cell (p := ⟨g, 0 + i, none⟩) k2).trans (K6.out i (by omega))) (by first | (simp; done) | (simp; omega)) ?_; intro g1 c1 w2 hown2 hgrow hbel; have hs2 := hbel.size; simp at hs2; have hb12 := ((((Below.refl w1.heap.size w1).alloc (Nat.le_refl _) _).alloc (by first | (simp; done) | (simp; omega)) _).drew).trans hbel; go_loud (have t0 := (hgrow.cell_far (⟨w1.heap.size, 0, none⟩ : Addr) (by first | (simp; done) | (simp; omega)) (by first | (simp; done) | (simp; omega))).trans (show _ = some (Value.int .u8 (d + 128)) by simp [go_sem]); have t1 := (hgrow.cell_far (⟨w1.heap.size, 1, none⟩ : Addr) (by first | (simp; done) | (simp; omega)) (by first | (simp; done) | (simp; omega))).trans (show _ = some (Value.int .u8 0) by simp [go_sem])))
      | (refine step_append_second (by rfl) _ _ (by rfl) (by rfl) w1.heap.size g1 m c1 w2.heap.size (rowOf (fun i => ds.getD i 0) m) (d + 128) 0 (by omega) (by rfl) (by rfl) (hown2.alloc _) (by simp [go_sem]) (by simp [go_sem]) (by first | (simp; done) | (simp; omega)) ?_; intro g3 c3 w3 hown3 hbel; have hb13 := (hb12.alloc hb12.size _).trans hbel)
      | (refine step_append_second (by rfl) _ _ (by rfl) (by rfl) w1.heap.size g1 m c1 _ (rowOf (fun i => ds.getD i 0) m) (d + 128) 0 (by omega) (by rfl) (by rfl) hown2 t0 t1 (by omega) ?_; intro g3 c3 w3 hown3 hbel; have hb13 := hb12.trans hbel))
  all_goals
    have hb3 := HB1.out.trans (hb13.mono HB1.out.size)
    have HB3 := Lib.hid hb3
    obtain ⟨r1, f, r2, r3⟩ := cut_row (fun i => ds.getD i 0) m hm H3.out d d0 d1
    obtain ⟨g4, c4, e4, q1, q2, q3, q4, q5, q6⟩ := own_bytes hown3
    cases e4
    have G3 := get_any (some ⟨g3, 0, none⟩) g3 0 (m + 1 + 1) c3 f _ r1 q3 (by unfold maxLen at q4; omega) r2 w3 (.inr rfl) q6
    rw [r3] at G3
    have G3 := Lib.hid G3
    clear r1 r2 r3 q6 hown3 hb3 hb13 hb12 hbel hown2
    go_wp2_with fail
    refine G3.out.mono ?_
    rintro e w' ⟨rfl, rfl⟩
    go_wp2_with fail
    refine (awake_any _).mono ?_
    rintro e w' ⟨rfl, hb⟩
    go_wp2
    go_ret
    exact ⟨rfl, HB3.out.trans (hb.mono HB3.out.size)⟩
theorem walk (v c : Int) (b0 : 0 ≤ v ∧ v ≤ 18446744073709551615) (b1 : 0 ≤ c ∧ c ≤ 255) (w : World) :
    Calls Try.prog 10 #[.int .u64 v, .int .u8 c] w fun e w' => e = .returned (.bool true) ∧ Below w.heap.size w w' := by
  obtain ⟨n, rfl⟩ : ∃ n : Nat, v = n := ⟨v.toNat, by omega⟩
  obtain ⟨k, rfl⟩ : ∃ k : Nat, c = k := ⟨c.toNat, by omega⟩
  have hn : n < 18446744073709551616 := by omega
  obtain ⟨m, d1, d2, d3, d4, d5, d6, d7⟩ := digs_told 9 n (by have : (128 : Nat) ^ 10 = 1180591620717411303424 := by decide
                                                              omega)
  refine cut_walk n hn k (by omega) w m (digs 9 n) d2 (Lib.hid (put_none n hn w)) (Lib.hid d1) (Lib.hid d3) (Lib.hid fun i => ?_) _ rfl d4 d5
  rcases Nat.lt_or_ge i (m + 1) with h | h
  · rcases Nat.lt_or_ge i m with h' | h'
    · have := d3 i h'; omega
    · obtain rfl : i = m := by omega
      omega
  · rw [List.getD_eq_getElem?_getD, List.getElem?_eq_none (by omega)]; simp
theorem own : ownKnob Try.prog.godebug = none := by kernel_rfl
theorem contract (H : Type) (enc : TypeId × Value → H) (W : World) (base : Nat) (args : Array Value) (ds gs : List (DataW H)) (before : List MemPlace)
    (hval : ∀ (j : Nat) t v, Try.f10.params[j]? = some t → args[j]? = some v → Value.okWide Try.prog W .any base t v)
    (hW : DataW.Whole enc Try.prog Try.f10.params.toList Rows.varintCutSpec.vars false W args.toList ds gs before) :
    Calls Try.prog 10 args W fun e W' => ∃ v, e = .returned v ∧ Rows.varintCutSpec.post enc Try.prog Try.f10 false true false false W args v W' := by
  have hW' := hW
  obtain ⟨p, q, hA0, hV, rfl, hfz, hnd⟩ := hW
  have hA : DataW.TrodAll enc Try.prog W 0 (fun _ => true) true Try.f10.params.toList args.toList ds p := hA0
  rw [Try.params10] at hA hval
  obtain ⟨v0, vs0, d0, ds0, p0, q0, hargs, rfl, rfl, h0, r0⟩ := trodAll_cons hA
  obtain ⟨v1, vs1, d1, ds1, p1, q1, rfl, rfl, rfl, h1, r1⟩ := trodAll_cons r0
  obtain ⟨rfl, rfl, rfl⟩ := trodAll_nil r1
  obtain rfl : args = #[v0, v1] := by cases args; simp_all
  obtain ⟨rfl, rfl⟩ := trodVars_none hV
  obtain ⟨a0, rfl, rfl, rfl, w0⟩ := open_int Try.underlying40 (hval 0 40 v0 rfl rfl) h0
  have b0 := bounds_u64 w0
  obtain ⟨a1, rfl, rfl, rfl, w1⟩ := open_int Try.underlying5 (hval 1 5 v1 rfl rfl) h1
  have b1 := bounds_u8 w1
  clear hA0
  simp only [List.append_nil] at hW'
  refine (walk a0 a1 b0 b1 W).mono fun e W' ⟨he, hg⟩ => ?_
  subst he
  exact ⟨_, rfl, _, _, _, [], [], [], hW', trodAll_mk1 (shut_bool Try.underlying4 _), (trodAll_cons_mk (shut_int Try.underlying40 w0) (trodAll_cons_mk (shut_int Try.underlying5 w1) trodAll_mk0)), rfl, hg.frame _, fun h => by cases h⟩

set_option maxRecDepth 100000 in
theorem lifted (os : Os) (started : os.Started) (H : Type) (enc : TypeId × Value → H) :
    ReturnsInHanded {} Try.checked os 10 .any (Rows.varintCutSpec.pre6 enc Try.prog Try.f10 Rows.varintCutRow.domain false) (Rows.varintCutSpec.post enc Try.prog Try.f10 false true false false) := by
  refine returnsInHanded_of_change (C := Try.checked) own started (by kernel_rfl) Try.func10
    (ChangeSpec.witness6 (enc := enc) (C := Try.checked) false ⟨#[], #[.int .u64 0, .int .u8 0], []⟩ 8 (by kernel_rfl) (by kernel_rfl) (by kernel_rfl) (by kernel_rfl)) ?_
  intro W base args ds gs before hval hW _ _
  exact contract H enc W base args ds gs before hval hW

/-- ████ THE STATEMENT ████ -/
theorem proved : Rows.VarintCutSaid :=
  OpenClaim.holds_of_wide 10 Try.f10 rfl rfl rfl rfl rfl rfl rfl ⟨rfl, rfl, rfl, rfl, rfl⟩ rfl rfl rfl rfl rfl (by kernel_rfl) Try.func10 (by kernel_rfl)
    (of_decide_eq_true (by kernel_rfl)) (by unfold Func.isWrapper; first | (rw [if_pos (by decide +kernel)]; kernel_rfl) | (rw [if_neg (by decide +kernel)]; exact ⟨rfl, rfl⟩))
    (fun os started H enc _ => lifted os started H enc)
end Go.Proofs.Ythfepljblofgfaa.varintCut
