/-
  CONTRACT OF xor.write, in any world, under the condition that the library's table for trailing noughts lies as its initialiser laid it. Conditions: at most 99900 bits were written.
-/
import Derived.Test.YtejiboinkapkcaaDoorXorA
namespace Go.Proofs.YtejiboinkapkcaaDoor
open Go.RowKit
set_option linter.unusedVariables false
set_option linter.unusedSimpArgs false
/-- A writer, as it came to be from one that stood in an earlier world. -/
def WS (w0 : World) (bw : Nat) (v0 : Value) (wk : World) (vk : Value) (N c : Nat) : Prop :=
  WriterAt wk bw vk N c ∧ Turned (fun i => i = bw ∨ v0.ownBlock = some i) w0 wk ∧ ∀ i, vk.ownBlock = some i → v0.ownBlock = some i ∨ w0.heap.size ≤ i
theorem WS.put {w0 wk w' : World} {bw : Nat} {v0 vk v' : Value} {N c N' c' : Nat} (h : WS w0 bw v0 wk vk N c) (h1 : WriterAt w' bw v' N' c') (h2 : Turned (fun i => i = bw ∨ vk.ownBlock = some i) wk w') (h3 : ∀ i, v'.ownBlock = some i → vk.ownBlock = some i ∨ wk.heap.size ≤ i) : WS w0 bw v0 w' v' N' c' :=
  ⟨h1, h.2.1.trans' h2 (fun i hi e => by
    rcases e with e | e
    · exact .inl e
    · rcases h.2.2 i e with e | e
      · exact .inr e
      · omega), fun i e => by
    rcases h3 i e with e | e
    · exact h.2.2 i e
    · have := h.2.1.size; omega⟩
theorem WS.lt {w0 wk : World} {bw : Nat} {v0 vk : Value} {N c : Nat} (h : WS w0 bw v0 wk vk N c) : bw < wk.heap.size ∧ ∀ i, vk.ownBlock = some i → bw < i ∧ i < wk.heap.size :=
  ⟨h.1.1.lt, fun i e => by have := h.1.2.1.lt i e; omega⟩
theorem WS.turned {w0 wk w' : World} {bw : Nat} {v0 vk : Value} {N c : Nat} {S : Nat → Prop} (h : WS w0 bw v0 wk vk N c) (ht : Turned S wk w') (h1 : ¬ S bw) (h2 : ∀ i, vk.ownBlock = some i → ¬ S i) (h3 : ∀ i, i < w0.heap.size → ¬ S i) : WS w0 bw v0 w' vk N c :=
  ⟨⟨h.1.1.turned ht h1, owns_turned h.1.2.1 ht h2, h.1.2.2⟩, h.2.1.trans' ht (fun i hi e => absurd e (h3 i hi)), h.2.2⟩
theorem WS.below {w0 wk w' : World} {bw : Nat} {v0 vk : Value} {N c : Nat} (h : WS w0 bw v0 wk vk N c) (hb : Below wk.heap.size wk w') : WS w0 bw v0 w' vk N c :=
  h.turned (Turned.of_below (S := fun i => wk.heap.size ≤ i) hb (fun i hi _ => hi)) (by have := h.lt.1; omega) (fun i e => by have := (h.lt.2 i e).2; omega) (fun i hi => by have := h.2.1.size; omega)
theorem WS.tab {w0 wk : World} {bw : Nat} {v0 vk : Value} {N c N0 c0 : Nat} (h : WS w0 bw v0 wk vk N c) (hT : Tab w0) (hg : 1 < bw) (h0 : WriterAt w0 bw v0 N0 c0) : Tab wk := fun j hj => by
  have h1 := hT j hj
  exact (h.2.1.cell (p := ⟨1, j, none⟩) (World.block_lt_of_cell? w0 _ h1) (fun e => by
    rcases e with e | e
    · simp only at e; omega
    · have := (h0.2.1.lt _ e).1; simp only at this; omega)).trans h1
/-- A block that is none of the writer's own. -/
def Far (vk : Value) (bw g : Nat) : Prop := g ≠ bw ∧ ∀ i, vk.ownBlock = some i → i ≠ g
theorem far_put {w w' : World} {bw g : Nat} {v v' : Value} {T : TypeId} {cs : Array Value} (hl : Lies w g T cs) (hf : Far v bw g) (ht : Turned (fun i => i = bw ∨ v.ownBlock = some i) w w') (hn : ∀ i, v'.ownBlock = some i → v.ownBlock = some i ∨ w.heap.size ≤ i) : Lies w' g T cs ∧ Far v' bw g :=
  ⟨hl.turned ht (fun e => by
    rcases e with e | e
    · exact hf.1 e
    · exact hf.2 _ e rfl), hf.1, fun i e => by
    rcases hn i e with e | e
    · exact hf.2 i e
    · have := hl.lt; omega⟩
theorem WS.set2 {w0 wk : World} {bw g : Nat} {v0 vk : Value} {N c : Nat} (h : WS w0 bw v0 wk vk N c) (hg : w0.heap.size ≤ g) (hf : Far vk bw g) (a b : Value) : WS w0 bw v0 ((wk.setCell ⟨g, 0, none⟩ a).setCell ⟨g, 1, none⟩ b) vk N c :=
  h.turned (((Turned.refl (· = g) wk).setCell (p := ⟨g, 0, none⟩) (.inl rfl) a).setCell (p := ⟨g, 1, none⟩) (.inl rfl) b) (fun e => hf.1 e.symm) (fun i e h => hf.2 i e h) (fun i hi (e : i = g) => by omega)
theorem lz_any (x : Nat) (hx : x < 18446744073709551616) (w : World) :
    Calls Tryd.prog 41 #[.int .u64 x] w fun r w' => r = .returned (.int .i64 (xlz x : Nat)) ∧ w = w' :=
  (Tryd.bits_LeadingZeros64 (x : Int) w (by omega) (by omega)).mono fun r w' ⟨h1, h2⟩ => by
    refine ⟨h1.trans (ret_int ?_), h2.symm⟩
    unfold xlz
    by_cases h0 : x = 0
    · subst h0; rfl
    · have := (xbl h0 hx).2.2.2
      rw [Int.toNat_natCast]
      omega
/-- What Put of a bit more tells. -/
def PutTold (bw : Nat) (v : Value) (N c u k : Nat) (w : World) (e : Ending) (w' : World) : Prop :=
  e = .returned (.int .i64 0) ∧ ∃ v', WriterAt w' bw v' (N + u * 2 ^ c) (c + k) ∧ Turned (fun i => i = bw ∨ v.ownBlock = some i) w w' ∧ (∀ i, v'.ownBlock = some i → v.ownBlock = some i ∨ w.heap.size ≤ i)
theorem put0 (bw : Nat) (v : Value) (N c : Nat) (hc : c + 1 ≤ 100000) (w : World) (h : WriterAt w bw v N c) : Calls Tryd.prog 22 #[.pointer (some ⟨bw, 0, none⟩), .int .u64 0, .int .i64 1] w (PutTold bw v N c 0 1 w) := put_ok bw v N c 0 1 (by decide) (by decide) (by decide) hc w h
theorem put1 (bw : Nat) (v : Value) (N c : Nat) (hc : c + 1 ≤ 100000) (w : World) (h : WriterAt w bw v N c) : Calls Tryd.prog 22 #[.pointer (some ⟨bw, 0, none⟩), .int .u64 1, .int .i64 1] w (PutTold bw v N c 1 1 w) := put_ok bw v N c 1 1 (by decide) (by decide) (by decide) hc w h
theorem wlies {w : World} {g : Nat} {t e : Int} (h : Lies w g 52 (wV t e)) : w.cell? ⟨g, 0, none⟩ = some (.int .i64 t) ∧ w.cell? ⟨g, 1, none⟩ = some (.int .i64 e) ∧ w.frozen? ⟨g, 0, none⟩ = false ∧ w.frozen? ⟨g, 1, none⟩ = false := ⟨h.cell 0, h.cell 1, h.frozen 0, h.frozen 1⟩
theorem lies_win {W : World} {g : Nat} {t e : Int} (h : Lies W g 52 (wV t e)) : (Instr.loadAt 52 (.pointer (some ⟨g, 0, none⟩))).run Tryd.prog W = .ok (.agg #[.int .i64 t, .int .i64 e]) W := by
  have := run_loadAt_mid W g 0 52 [.int .i64 t, .int .i64 e] _ (fun j v hv => by
    match j, hv with
    | 0, hv => cases hv; exact h.cell 0
    | 1, hv => cases hv; exact h.cell 1) Tryd.underlying52 rfl win_info
  simpa using this
theorem exec_load {P : Program} {ev : Operand → Value} {o : Oper} {w : World} {v ptr : Value} (ty : TypeId) (x : Operand) (ho : o.op = .load ty x) (hx : ev x = ptr) (h : (Instr.loadAt ty ptr).run P w = .ok v w) : (execOp ev o).run P w = .ok (.value v) w := by
  unfold execOp
  simp only [ho, hx, Sem.run_bind, Sem.run_pure, h, Result.andThen_ok]
/-- The rest of a window's bits. -/
theorem put3 (bw x t e : Nat) (hx : x < 18446744073709551616) (h1 : x / 2 ^ e < 2 ^ (64 - t - e)) (v : Value) (N c : Nat) (hc : c + 64 ≤ 100000) (w : World) (h : WriterAt w bw v N c) : Calls Tryd.prog 22 #[.pointer (some ⟨bw, 0, none⟩), .int .u64 ((x : Int) / 2 ^ e), .int .i64 ((64 - t - e : Nat) : Int)] w (PutTold bw v N c (x / 2 ^ e) (64 - t - e) w) := by
  have h2 := put_ok bw v N c (x / 2 ^ e) (64 - t - e) (Nat.lt_of_le_of_lt (Nat.div_le_self _ _) hx) (by omega) h1 (by omega) w h
  rw [show ((x / 2 ^ e : Nat) : Int) = (x : Int) / 2 ^ e by simp] at h2
  exact h2
set_option maxRecDepth 100000 in
set_option maxHeartbeats 2000000 in
theorem write_any (bw : Nat) (v : Value) (s : XS) (x : Nat) (hx : x < 18446744073709551616) (hok : s.ok) (hc : s.c + 77 ≤ 100000) (w : World) (h : WriterAt w bw v s.N s.c) (hT : Tab w) (hg : 1 < bw) :
    Calls Tryd.prog 24 #[.pointer (some ⟨bw, 0, none⟩), .int .u64 x, .agg #[.int .i64 s.t, .int .i64 s.e]] w fun e w' => e = .returned (.agg #[.int .i64 (xstep s x).t, .int .i64 (xstep s x).e]) ∧
      ∃ v', WS w bw v w' v' (xstep s x).N (xstep s x).c := by
  obtain ⟨N, c, t, e⟩ := s
  simp only at hok hc h ⊢
  have hlt := h.1.lt
  have hvt : ∀ i, v.ownBlock = some i → bw < i ∧ i < w.heap.size := fun i e => by have := h.2.1.lt i e; omega
  have hb2 : Below w.heap.size w ((w.alloc (.cells (wV t e) 52)).alloc (.cells (wV 0 0) 52)) := ((Below.refl _ w).alloc (Nat.le_refl _) _).alloc (by simp) _
  have S0 : WS w bw v ((w.alloc (.cells (wV t e) 52)).alloc (.cells (wV 0 0) 52)) v N c := WS.below (wk := w) ⟨h, Turned.refl _ _, fun i e => .inl e⟩ hb2
  have L5 : Lies ((w.alloc (.cells (wV t e) 52)).alloc (.cells (wV 0 0) 52)) w.heap.size 52 (wV t e) := (Lies.new w 52 _).alloc _
  have L6 : Lies ((w.alloc (.cells (wV t e) 52)).alloc (.cells (wV 0 0) 52)) (w.heap.size + 1) 52 (wV 0 0) := by have := Lies.new (w.alloc (.cells (wV t e) 52)) 52 (wV 0 0); simpa using this
  have F5 : Far v bw w.heap.size := ⟨by omega, fun i e => by have := hvt i e; omega⟩
  have F6 : Far v bw (w.heap.size + 1) := ⟨by omega, fun i e => by have := hvt i e; omega⟩
  have TB := Lib.hid (fun wk vk N' c' (hs : WS w bw v wk vk N' c') => hs.tab hT hg h)
  have HS := Lib.hid S0
  have HL5 := Lib.hid (And.intro L5 F5)
  have HL6 := Lib.hid (And.intro L6 F6)
  clear hb2 S0 L5 L6 F5 F6 h hT hlt hvt
  unfold xstep
  by_cases hx0 : x = 0
  · subst hx0
    rw [if_pos rfl]
    go_enter Tryd.func24, Tryd.ntmps24
    go_wp2_with (go_at_call 22; refine (put0 bw v N c (by omega) _ HS.out.1).mono ?_; rintro r w1 ⟨rfl, v1, hw1, ht1, hn1⟩; have q5 := far_put HL5.out.1 HL5.out.2 ht1 hn1; have q6 := far_put HL6.out.1 HL6.out.2 ht1 hn1; have hs1 := HS.out.put hw1 ht1 hn1; obtain ⟨c50, c51, _, _⟩ := wlies q5.1; obtain ⟨c60, c61, f60, f61⟩ := wlies q6.1; have HS1 := Lib.hid hs1; have HQ6 := Lib.hid q6; clear q5 q6 hs1 hw1 ht1 hn1)
    exact bodyPost_ret (v := .agg (wV t e)) (results_cell_row (by rfl) _ _ (w.heap.size + 1) 52 (wV t e) (0, 0) _ (by rfl) ((HQ6.out.1.set_ 0 (.int .i64 t)).set_ 1 (.int .i64 e)) Tryd.underlying52 rfl win_info) rfl ⟨rfl, v1, HS1.out.set2 (by omega) HQ6.out.2 _ _⟩
  rw [if_neg hx0]
  have LZ := Lib.hid (fun W => lz_any x hx W)
  have TZ := Lib.hid (fun W (hT : Tab W) => tz_any x hx0 hx W hT)
  have hxi : ((x : Int) == 0) = false := by rw [beq_eq_false_iff_ne]; omega
  have HW := Lib.hid (fun t e => xwin (x := x) (t := t) (e := e) hx0 hx)
  have HTOP := Lib.hid (show min (xlz x) 31 = xtop x from rfl)
  have HTL := Lib.hid (xtop_le x)
  obtain ⟨z, hz⟩ : ∃ z, xlz x = z := ⟨_, rfl⟩
  rw [hz] at LZ HTOP HW HTL
  generalize xtop x = T at *
  have hmin : min (z : Int) 31 = (T : Int) := by have := HTOP.out; omega
  generalize xend x = E at *
  clear hz
  by_cases hin : t ≤ T ∧ e ≤ E
  · rw [if_pos hin]
    obtain ⟨i1, i2⟩ := hin
    have P1 := Lib.hid (fun v N c hc W h => put1 bw v N c hc W h)
    have P2 := Lib.hid (fun v N c hc W h => put0 bw v N c hc W h)
    have i1' : (t : Int) ≤ T := by omega
    have i2' : (e : Int) ≤ E := by omega
    go_enter Tryd.func24, Tryd.ntmps24
    go_wp2_with (first
      | (go_at_call 22; refine (P1.out _ _ _ (by omega) _ HS.out.1).mono ?_; clear P1; rintro r w1 ⟨rfl, v1, hw1, ht1, hn1⟩; have q5 := far_put HL5.out.1 HL5.out.2 ht1 hn1; have q6 := far_put HL6.out.1 HL6.out.2 ht1 hn1; have hs1 := HS.out.put hw1 ht1 hn1; clear HL5 HL6 HS; have HS := Lib.hid hs1; have HL5 := Lib.hid q5; have HL6 := Lib.hid q6; obtain ⟨c50, c51, f50, f51⟩ := wlies q5.1; clear q5 q6 hs1 hw1 ht1 hn1)
      | (go_at_call 22; refine (P2.out _ _ _ (by omega) _ HS.out.1).mono ?_; clear P2; rintro r w1 ⟨rfl, v1, hw1, ht1, hn1⟩; have q5 := far_put HL5.out.1 HL5.out.2 ht1 hn1; have q6 := far_put HL6.out.1 HL6.out.2 ht1 hn1; have q7 := far_put HL7.out.1 HL7.out.2 ht1 hn1; have hs1 := HS.out.put hw1 ht1 hn1; clear HL5 HL6 HS HL7; have HS := Lib.hid hs1; have HL5 := Lib.hid q5; have HL6 := Lib.hid q6; have HL7 := Lib.hid q7; obtain ⟨c50, c51, f50, f51⟩ := wlies q5.1; obtain ⟨c70, c71, f70, f71⟩ := wlies q7.1; clear q5 q6 hs1 hw1 ht1 hn1 q7)
      | (go_at_call 41; refine (LZ.out _).mono ?_; rintro r w2 ⟨rfl, rfl⟩)
      | (go_at_call 42; refine (TZ.out _ (TB.out _ _ _ _ HS.out)).mono ?_; rintro r w3 ⟨rfl, rfl⟩; have q5 := HL5.out.1.alloc (.cells (wV T E) 52); have q6 := HL6.out.1.alloc (.cells (wV T E) 52); have q7 := Lies.new w1 52 (wV T E); have g5 := HL5.out.2; have g6 := HL6.out.2; have g7 : Far v1 bw w1.heap.size := ⟨by have := HS.out.lt.1; omega, fun i e => by have := (HS.out.lt.2 i e).2; omega⟩; have hs1 := HS.out.below ((Below.refl _ _).alloc (Nat.le_refl _) (.cells (wV T E) 52)); clear HL5 HL6 HS; have HS := Lib.hid hs1; have HL5 := Lib.hid (And.intro q5 g5); have HL6 := Lib.hid (And.intro q6 g6); have HL7 := Lib.hid (And.intro q7 g7); obtain ⟨c50, c51, f50, f51⟩ := wlies q5; obtain ⟨c70, c71, f70, f71⟩ := wlies q7; clear q5 q6 q7 g5 g6 g7 hs1))
    have hte := HW.out t e (by have := HTL.out; omega) i2
    have hte1 : (0 : Int) ≤ e := by omega
    have hte2 : (e : Int) < 64 := by omega
    have P3 := Lib.hid (fun v N c hc W h => put3 bw x t e hx hte.2.1 v N c hc W h)
    have WD := Lib.hid (fun W => width_any t e (by omega) W)
    have HALL := Lib.hid (fun W (h : Lies W w.heap.size 52 (wV t e)) => (show (W.cell? ⟨w.heap.size, 0, none⟩ = some (.int .i64 t) ∧ W.cell? ⟨w.heap.size, 1, none⟩ = some (.int .i64 e)) ∧ (Instr.loadAt 52 (.pointer (some ⟨w.heap.size, 0, none⟩))).run Tryd.prog W = .ok (.agg #[.int .i64 t, .int .i64 e]) W from ⟨⟨h.cell 0, h.cell 1⟩, lies_win h⟩))
    refine wp_region_held_drew (S := (fun W : World => (W.cell? ⟨w.heap.size, 0, none⟩ = some (.int .i64 t) ∧ W.cell? ⟨w.heap.size, 1, none⟩ = some (.int .i64 e)) ∧ (Instr.loadAt 52 (.pointer (some ⟨w.heap.size, 0, none⟩))).run Tryd.prog W = .ok (.agg #[.int .i64 t, .int .i64 e]) W)) (by kernel_rfl) (HALL.out _ HL5.out.1.drew) (fun hHeld => ?_)
    refine wpAnyH_take (i := 0) (oi := ?oix17) (v := ?vx17) ?hix17 ?hsx17 ?hfx17 ?hrx17 ?hQx17 ?hyx17 ?hSx17 ?hx17
    case hix17 =>
      simp only [List.getElem?_toArray, List.getElem?_cons_zero]
      rfl
    case hsx17 => kernel_rfl
    case hfx17 => kernel_rfl
    case hrx17 => kernel_rfl
    case hyx17 =>
      refine Or.inl ⟨by rfl, ?_⟩
      intro w hSw
      (try dsimp only at hSw)
      go_simp
      try with_reducible rfl
    case hQx17 => exact fun _ _ _ h => h
    case hSx17 => assumption
    try simp only [Act.put, List.setIfInBounds_toArray, List.set_cons_zero, List.set_cons_succ]
    refine wpAnyH_take (i := 1) (oi := ?oix18) (v := ?vx18) ?hix18 ?hsx18 ?hfx18 ?hrx18 ?hQx18 ?hyx18 ?hSx18 ?hx18
    case hix18 =>
      simp only [List.getElem?_toArray, List.getElem?_cons_succ, List.getElem?_cons_zero]
      rfl
    case hsx18 => kernel_rfl
    case hfx18 => kernel_rfl
    case hrx18 => kernel_rfl
    case hyx18 =>
      refine Or.inl ⟨by rfl, ?_⟩
      intro w hSw
      (try dsimp only at hSw)
      go_simp
      try with_reducible rfl
    case hQx18 => exact fun _ _ _ h => h
    case hSx18 => assumption
    try simp only [Act.put, List.setIfInBounds_toArray, List.set_cons_zero, List.set_cons_succ]
    refine wpAnyH_take (i := 2) (oi := ?oix19) (v := ?vx19) ?hix19 ?hsx19 ?hfx19 ?hrx19 ?hQx19 ?hyx19 ?hSx19 ?hx19
    case hix19 =>
      simp only [List.getElem?_toArray, List.getElem?_cons_succ, List.getElem?_cons_zero]
      rfl
    case hsx19 => kernel_rfl
    case hfx19 => kernel_rfl
    case hrx19 => kernel_rfl
    case hyx19 =>
      refine Or.inl ⟨by rfl, ?_⟩
      intro w hSw
      (try dsimp only at hSw)
      go_simp
      try with_reducible rfl
    case hQx19 => exact fun _ _ _ h => h
    case hSx19 => assumption
    try simp only [Act.put, List.setIfInBounds_toArray, List.set_cons_zero, List.set_cons_succ]
    refine wpAnyH_take (i := 3) (oi := ?oix20) (v := ?vx20) ?hix20 ?hsx20 ?hfx20 ?hrx20 ?hQx20 ?hyx20 ?hSx20 ?hx20
    case hix20 =>
      simp only [List.getElem?_toArray, List.getElem?_cons_succ, List.getElem?_cons_zero]
      rfl
    case hsx20 => kernel_rfl
    case hfx20 => kernel_rfl
    case hrx20 => kernel_rfl
    case hyx20 =>
      refine Or.inl ⟨by rfl, ?_⟩
      intro w hSw
      (try dsimp only at hSw)
      go_simp
      try with_reducible rfl
    case hQx20 => exact fun _ _ _ h => h
    case hSx20 => assumption
    try simp only [Act.put, List.setIfInBounds_toArray, List.set_cons_zero, List.set_cons_succ]
    refine wpAnyH_take (i := 4) (oi := ?oix21) (v := ?vx21) ?hix21 ?hsx21 ?hfx21 ?hrx21 ?hQx21 ?hyx21 ?hSx21 ?hx21
    case hix21 =>
      simp only [List.getElem?_toArray, List.getElem?_cons_succ, List.getElem?_cons_zero]
      rfl
    case hsx21 => kernel_rfl
    case hfx21 => kernel_rfl
    case hrx21 => kernel_rfl
    case hyx21 =>
      refine Or.inl ⟨by rfl, ?_⟩
      intro w hSw
      (try dsimp only at hSw)
      go_simp
      try with_reducible rfl
    case hQx21 => exact fun _ _ _ h => h
    case hSx21 => assumption
    try simp only [Act.put, List.setIfInBounds_toArray, List.set_cons_zero, List.set_cons_succ]
    refine wpAnyH_take (i := 5) (oi := ?oix22) (v := (.agg #[.int .i64 t, .int .i64 e])) ?hix22 ?hsx22 ?hfx22 ?hrx22 ?hQx22 ?hyx22 ?hSx22 ?hx22
    case hix22 =>
      simp only [List.getElem?_toArray, List.getElem?_cons_succ, List.getElem?_cons_zero]
      rfl
    case hsx22 => kernel_rfl
    case hfx22 => kernel_rfl
    case hrx22 => kernel_rfl
    case hyx22 =>
      refine Or.inl ⟨by rfl, ?_⟩
      intro w hSw
      (try dsimp only at hSw)
      exact exec_load (ptr := .pointer (some ⟨_, 0, none⟩)) 52 (.tmp 5) rfl (by rfl) hSw.2
    case hQx22 => exact fun _ _ _ h => h
    case hSx22 => assumption
    try simp only [Act.put, List.setIfInBounds_toArray, List.set_cons_zero, List.set_cons_succ]
    refine wpAnyH_ready (rs := [6]) (by kernel_rfl) (by simp) ?_
    refine AllReadyH.cons (o := ?ox23) ?ix23 ?kx23 AllReadyH.nil
    case ix23 =>
      simp only [List.getElem?_toArray, List.getElem?_cons_succ, List.getElem?_cons_zero]
      rfl
    intro K hK
    go_simp
    go_at_call 43
    refine (WD.out _).mono ?_
    rintro r w5 ⟨rfl, hb5⟩
    have hb5 : Below w1.heap.size w1 w5 := ⟨hb5.os, hb5.tape, hb5.output, hb5.size, hb5.block⟩
    have q5 := And.intro (HL5.out.1.below hb5 HL5.out.1.lt) HL5.out.2
    have q6 := And.intro (HL6.out.1.below hb5 HL6.out.1.lt) HL6.out.2
    have hs5 := HS.out.below hb5
    clear HL5 HL6 HS hb5
    have HL5 := Lib.hid q5
    have HL6 := Lib.hid q6
    have HS := Lib.hid hs5
    clear q5 q6 hs5
    refine hK.out _ _ (HALL.out _ HL5.out.1) (fun hHeld => ?_)
    clear hK K
    try simp only [Act.put, List.setIfInBounds_toArray, List.set_cons_zero, List.set_cons_succ]
    refine wpAnyH_ready (rs := [7]) (by kernel_rfl) (by simp) ?_
    refine AllReadyH.cons (o := ?ox24) ?ix24 ?kx24 AllReadyH.nil
    case ix24 =>
      simp only [List.getElem?_toArray, List.getElem?_cons_succ, List.getElem?_cons_zero]
      rfl
    intro K hK
    go_simp
    go_at_call 22
    refine (P3.out _ _ _ (by omega) _ HS.out.1).mono ?_
    clear P3
    rintro r w6 ⟨rfl, v6, hw1, ht1, hn1⟩
    have q5 := far_put HL5.out.1 HL5.out.2 ht1 hn1
    have q6 := far_put HL6.out.1 HL6.out.2 ht1 hn1
    have hs1 := HS.out.put hw1 ht1 hn1
    clear HL5 HL6 HS
    have HS := Lib.hid hs1
    have HL5 := Lib.hid q5
    have HL6 := Lib.hid q6
    obtain ⟨c50, c51, f50, f51⟩ := wlies q5.1
    obtain ⟨c60, c61, f60, f61⟩ := wlies q6.1
    clear q5 q6 hs1 hw1 ht1 hn1
    refine hK.out _ _ (HALL.out _ HL5.out.1) (fun hHeld => ?_)
    clear hK K
    try simp only [Act.put, List.setIfInBounds_toArray, List.set_cons_zero, List.set_cons_succ]
    refine wpAnyH_done (by kernel_rfl) ?_ _
    go_wp2_with fail
    exact bodyPost_ret (v := .agg (wV t e)) (results_cell_row (by rfl) _ _ (w.heap.size + 1) 52 (wV t e) (0, 0) _ (by rfl) ((HL6.out.1.set_ 0 (.int .i64 t)).set_ 1 (.int .i64 e)) Tryd.underlying52 rfl win_info) rfl ⟨rfl, v6, HS.out.set2 (by omega) HL6.out.2 _ _⟩
  · rw [if_neg hin]
    have hte := HW.out T E HTL.out.2 (Nat.le_refl _)
    have hT31 := HTL.out.1
    have hte1 : (0 : Int) ≤ E := by omega
    have hte2 : (E : Int) < 64 := by omega
    have hT64 : (T : Int) % 18446744073709551616 = T := by omega
    have hW63 : ((64 - T - E : Nat) : Int) - 1 = ((63 - T - E : Nat) : Int) := by omega
    have hW64 : ((63 - T - E : Nat) : Int) % 18446744073709551616 = ((63 - T - E : Nat) : Int) := by omega
    have P1 := Lib.hid (fun v N c hc W h => put1 bw v N c hc W h)
    have P2 := Lib.hid (fun v N c hc W h => put1 bw v N c hc W h)
    have P4 := Lib.hid (fun v N c hc W h => put_ok bw v N c T 5 (by omega) (by omega) (by omega) hc W h)
    have P5 := Lib.hid (fun v N c hc W h => put_ok bw v N c (63 - T - E) 6 (by omega) (by omega) (by omega) hc W h)
    have P3 := Lib.hid (fun v N c hc W h => put3 bw x T E hx hte.2.1 v N c hc W h)
    have WD := Lib.hid (fun W => width_any T E (by omega) W)
    have HALL := Lib.hid (fun W (h : Lies W w.heap.size 52 (wV T E)) => (show (W.cell? ⟨w.heap.size, 0, none⟩ = some (.int .i64 T) ∧ W.cell? ⟨w.heap.size, 1, none⟩ = some (.int .i64 E)) ∧ (Instr.loadAt 52 (.pointer (some ⟨w.heap.size, 0, none⟩))).run Tryd.prog W = .ok (.agg #[.int .i64 T, .int .i64 E]) W from ⟨⟨h.cell 0, h.cell 1⟩, lies_win h⟩))
    by_cases i1 : t ≤ T
    · have i2 : ¬ e ≤ E := fun h => hin ⟨i1, h⟩
      have i1' : (t : Int) ≤ T := by omega
      have i2' : ¬ (e : Int) ≤ E := by omega
      go_enter Tryd.func24, Tryd.ntmps24
      go_wp2_with (first
        | (go_at_call 22; refine (P1.out _ _ _ (by omega) _ (HS.out).1).mono ?_; clear P1; rintro r w1 ⟨rfl, v1, hw1, ht1, hn1⟩; have q5 := far_put (HL5.out.1) HL5.out.2 ht1 hn1; have q6 := far_put (HL6.out.1) HL6.out.2 ht1 hn1; have hs1 := (HS.out).put hw1 ht1 hn1; clear HL5 HL6 HS; have HS := Lib.hid hs1; have HL5 := Lib.hid q5; have HL6 := Lib.hid q6; obtain ⟨c50, c51, f50, f51⟩ := wlies q5.1; clear q5 q6 hs1 hw1 ht1 hn1)
        | (go_at_call 41; refine (LZ.out _).mono ?_; rintro r w2 ⟨rfl, rfl⟩)
        | (go_at_call 42; refine (TZ.out _ (TB.out _ _ _ _ HS.out)).mono ?_; rintro r w3 ⟨rfl, rfl⟩; have q5 := HL5.out.1.alloc (.cells (wV T E) 52); have q6 := HL6.out.1.alloc (.cells (wV T E) 52); have q7 := Lies.new w1 52 (wV T E); have g5 := HL5.out.2; have g6 := HL6.out.2; have g7 : Far v1 bw w1.heap.size := ⟨by have := HS.out.lt.1; omega, fun i e => by have := (HS.out.lt.2 i e).2; omega⟩; have hs1 := HS.out.below ((Below.refl _ _).alloc (Nat.le_refl _) (.cells (wV T E) 52)); clear HL5 HL6 HS; have HS := Lib.hid hs1; have HL5 := Lib.hid (And.intro q5 g5); have HL6 := Lib.hid (And.intro q6 g6); have HL7 := Lib.hid (And.intro q7 g7); obtain ⟨c50, c51, f50, f51⟩ := wlies q5; obtain ⟨c70, c71, f70, f71⟩ := wlies q7; clear q5 q6 q7 g5 g6 g7 hs1)
        | (go_at_call 22; refine (P2.out _ _ _ (by omega) _ (HS.out.set2 (Nat.le_refl _) HL5.out.2 (.int .i64 T) (.int .i64 E)).1).mono ?_; clear P2; rintro r w1 ⟨rfl, v1, hw1, ht1, hn1⟩; have q5 := far_put (show Lies _ w.heap.size 52 (wV T E) from (HL5.out.1.set_ 0 (.int .i64 T)).set_ 1 (.int .i64 E)) HL5.out.2 ht1 hn1; have q6 := far_put ((HL6.out.1.far (p := ⟨w.heap.size, 0, none⟩) (by show w.heap.size + 1 ≠ w.heap.size; omega) (.int .i64 T)).far (p := ⟨w.heap.size, 1, none⟩) (by show w.heap.size + 1 ≠ w.heap.size; omega) (.int .i64 E)) HL6.out.2 ht1 hn1; have hs1 := (HS.out.set2 (Nat.le_refl _) HL5.out.2 (.int .i64 T) (.int .i64 E)).put hw1 ht1 hn1; clear HL5 HL6 HS HL7; have HS := Lib.hid hs1; have HL5 := Lib.hid q5; have HL6 := Lib.hid q6; obtain ⟨c50, c51, f50, f51⟩ := wlies q5.1; clear q5 q6 hs1 hw1 ht1 hn1)
        | (go_at_call 22; refine (P4.out _ _ _ (by omega) _ (HS.out).1).mono ?_; clear P4; rintro r w1 ⟨rfl, v1, hw1, ht1, hn1⟩; have q5 := far_put (HL5.out.1) HL5.out.2 ht1 hn1; have q6 := far_put (HL6.out.1) HL6.out.2 ht1 hn1; have hs1 := (HS.out).put hw1 ht1 hn1; clear HL5 HL6 HS; have HS := Lib.hid hs1; have HL5 := Lib.hid q5; have HL6 := Lib.hid q6; obtain ⟨c50, c51, f50, f51⟩ := wlies q5.1; clear q5 q6 hs1 hw1 ht1 hn1)
        | (go_at_call 43; refine (WD.out _).mono ?_; rintro r w5 ⟨rfl, hb5⟩; have q5 := And.intro (HL5.out.1.below hb5 HL5.out.1.lt) HL5.out.2; have q6 := And.intro (HL6.out.1.below hb5 HL6.out.1.lt) HL6.out.2; have hs5 := HS.out.below hb5; clear HL5 HL6 HS hb5; have HL5 := Lib.hid q5; have HL6 := Lib.hid q6; have HS := Lib.hid hs5; clear q5 q6 hs5)
        | (go_at_call 22; refine (P5.out _ _ _ (by omega) _ (HS.out).1).mono ?_; clear P5; rintro r w1 ⟨rfl, v1, hw1, ht1, hn1⟩; have q5 := far_put (HL5.out.1) HL5.out.2 ht1 hn1; have q6 := far_put (HL6.out.1) HL6.out.2 ht1 hn1; have hs1 := (HS.out).put hw1 ht1 hn1; clear HL5 HL6 HS; have HS := Lib.hid hs1; have HL5 := Lib.hid q5; have HL6 := Lib.hid q6; obtain ⟨c50, c51, f50, f51⟩ := wlies q5.1; clear q5 q6 hs1 hw1 ht1 hn1))
      refine wp_region_held_drew (S := (fun W : World => (W.cell? ⟨w.heap.size, 0, none⟩ = some (.int .i64 T) ∧ W.cell? ⟨w.heap.size, 1, none⟩ = some (.int .i64 E)) ∧ (Instr.loadAt 52 (.pointer (some ⟨w.heap.size, 0, none⟩))).run Tryd.prog W = .ok (.agg #[.int .i64 T, .int .i64 E]) W)) (by kernel_rfl) (HALL.out _ HL5.out.1.drew) (fun hHeld => ?_)
      refine wpAnyH_take (i := 0) (oi := ?oix1) (v := ?vx1) ?hix1 ?hsx1 ?hfx1 ?hrx1 ?hQx1 ?hyx1 ?hSx1 ?hx1
      case hix1 =>
        simp only [List.getElem?_toArray, List.getElem?_cons_zero]
        rfl
      case hsx1 => kernel_rfl
      case hfx1 => kernel_rfl
      case hrx1 => kernel_rfl
      case hyx1 =>
        refine Or.inl ⟨by rfl, ?_⟩
        intro w hSw
        (try dsimp only at hSw)
        go_simp
        try with_reducible rfl
      case hQx1 => exact fun _ _ _ h => h
      case hSx1 => assumption
      try simp only [Act.put, List.setIfInBounds_toArray, List.set_cons_zero, List.set_cons_succ]
      refine wpAnyH_take (i := 1) (oi := ?oix2) (v := ?vx2) ?hix2 ?hsx2 ?hfx2 ?hrx2 ?hQx2 ?hyx2 ?hSx2 ?hx2
      case hix2 =>
        simp only [List.getElem?_toArray, List.getElem?_cons_succ, List.getElem?_cons_zero]
        rfl
      case hsx2 => kernel_rfl
      case hfx2 => kernel_rfl
      case hrx2 => kernel_rfl
      case hyx2 =>
        refine Or.inl ⟨by rfl, ?_⟩
        intro w hSw
        (try dsimp only at hSw)
        go_simp
        try with_reducible rfl
      case hQx2 => exact fun _ _ _ h => h
      case hSx2 => assumption
      try simp only [Act.put, List.setIfInBounds_toArray, List.set_cons_zero, List.set_cons_succ]
      refine wpAnyH_take (i := 2) (oi := ?oix3) (v := ?vx3) ?hix3 ?hsx3 ?hfx3 ?hrx3 ?hQx3 ?hyx3 ?hSx3 ?hx3
      case hix3 =>
        simp only [List.getElem?_toArray, List.getElem?_cons_succ, List.getElem?_cons_zero]
        rfl
      case hsx3 => kernel_rfl
      case hfx3 => kernel_rfl
      case hrx3 => kernel_rfl
      case hyx3 =>
        refine Or.inl ⟨by rfl, ?_⟩
        intro w hSw
        (try dsimp only at hSw)
        go_simp
        try with_reducible rfl
      case hQx3 => exact fun _ _ _ h => h
      case hSx3 => assumption
      try simp only [Act.put, List.setIfInBounds_toArray, List.set_cons_zero, List.set_cons_succ]
      refine wpAnyH_take (i := 3) (oi := ?oix4) (v := ?vx4) ?hix4 ?hsx4 ?hfx4 ?hrx4 ?hQx4 ?hyx4 ?hSx4 ?hx4
      case hix4 =>
        simp only [List.getElem?_toArray, List.getElem?_cons_succ, List.getElem?_cons_zero]
        rfl
      case hsx4 => kernel_rfl
      case hfx4 => kernel_rfl
      case hrx4 => kernel_rfl
      case hyx4 =>
        refine Or.inl ⟨by rfl, ?_⟩
        intro w hSw
        (try dsimp only at hSw)
        go_simp
        try with_reducible rfl
      case hQx4 => exact fun _ _ _ h => h
      case hSx4 => assumption
      try simp only [Act.put, List.setIfInBounds_toArray, List.set_cons_zero, List.set_cons_succ]
      refine wpAnyH_take (i := 4) (oi := ?oix5) (v := ?vx5) ?hix5 ?hsx5 ?hfx5 ?hrx5 ?hQx5 ?hyx5 ?hSx5 ?hx5
      case hix5 =>
        simp only [List.getElem?_toArray, List.getElem?_cons_succ, List.getElem?_cons_zero]
        rfl
      case hsx5 => kernel_rfl
      case hfx5 => kernel_rfl
      case hrx5 => kernel_rfl
      case hyx5 =>
        refine Or.inl ⟨by rfl, ?_⟩
        intro w hSw
        (try dsimp only at hSw)
        go_simp
        try with_reducible rfl
      case hQx5 => exact fun _ _ _ h => h
      case hSx5 => assumption
      try simp only [Act.put, List.setIfInBounds_toArray, List.set_cons_zero, List.set_cons_succ]
      refine wpAnyH_take (i := 5) (oi := ?oix6) (v := (.agg #[.int .i64 T, .int .i64 E])) ?hix6 ?hsx6 ?hfx6 ?hrx6 ?hQx6 ?hyx6 ?hSx6 ?hx6
      case hix6 =>
        simp only [List.getElem?_toArray, List.getElem?_cons_succ, List.getElem?_cons_zero]
        rfl
      case hsx6 => kernel_rfl
      case hfx6 => kernel_rfl
      case hrx6 => kernel_rfl
      case hyx6 =>
        refine Or.inl ⟨by rfl, ?_⟩
        intro w hSw
        (try dsimp only at hSw)
        exact exec_load (ptr := .pointer (some ⟨_, 0, none⟩)) 52 (.tmp 5) rfl (by rfl) hSw.2
      case hQx6 => exact fun _ _ _ h => h
      case hSx6 => assumption
      try simp only [Act.put, List.setIfInBounds_toArray, List.set_cons_zero, List.set_cons_succ]
      refine wpAnyH_ready (rs := [6]) (by kernel_rfl) (by simp) ?_
      refine AllReadyH.cons (o := ?ox7) ?ix7 ?kx7 AllReadyH.nil
      case ix7 =>
        simp only [List.getElem?_toArray, List.getElem?_cons_succ, List.getElem?_cons_zero]
        rfl
      intro K hK
      go_simp
      go_at_call 43
      refine (WD.out _).mono ?_
      rintro r w5 ⟨rfl, hb5⟩
      have hb5 : Below w1.heap.size w1 w5 := ⟨hb5.os, hb5.tape, hb5.output, hb5.size, hb5.block⟩
      have q5 := And.intro (HL5.out.1.below hb5 HL5.out.1.lt) HL5.out.2
      have q6 := And.intro (HL6.out.1.below hb5 HL6.out.1.lt) HL6.out.2
      have hs5 := HS.out.below hb5
      clear HL5 HL6 HS hb5
      have HL5 := Lib.hid q5
      have HL6 := Lib.hid q6
      have HS := Lib.hid hs5
      clear q5 q6 hs5
      refine hK.out _ _ (HALL.out _ HL5.out.1) (fun hHeld => ?_)
      clear hK K
      try simp only [Act.put, List.setIfInBounds_toArray, List.set_cons_zero, List.set_cons_succ]
      refine wpAnyH_ready (rs := [7]) (by kernel_rfl) (by simp) ?_
      refine AllReadyH.cons (o := ?ox8) ?ix8 ?kx8 AllReadyH.nil
      case ix8 =>
        simp only [List.getElem?_toArray, List.getElem?_cons_succ, List.getElem?_cons_zero]
        rfl
      intro K hK
      go_simp
      go_at_call 22
      refine (P3.out _ _ _ (by omega) _ HS.out.1).mono ?_
      clear P3
      rintro r w6 ⟨rfl, v6, hw1, ht1, hn1⟩
      have q5 := far_put HL5.out.1 HL5.out.2 ht1 hn1
      have q6 := far_put HL6.out.1 HL6.out.2 ht1 hn1
      have hs1 := HS.out.put hw1 ht1 hn1
      clear HL5 HL6 HS
      have HS := Lib.hid hs1
      have HL5 := Lib.hid q5
      have HL6 := Lib.hid q6
      obtain ⟨c50, c51, f50, f51⟩ := wlies q5.1
      obtain ⟨c60, c61, f60, f61⟩ := wlies q6.1
      clear q5 q6 hs1 hw1 ht1 hn1
      refine hK.out _ _ (HALL.out _ HL5.out.1) (fun hHeld => ?_)
      clear hK K
      try simp only [Act.put, List.setIfInBounds_toArray, List.set_cons_zero, List.set_cons_succ]
      refine wpAnyH_done (by kernel_rfl) ?_ _
      go_wp2_with fail
      exact bodyPost_ret (v := .agg (wV T E)) (results_cell_row (by rfl) _ _ (w.heap.size + 1) 52 (wV T E) (0, 0) _ (by rfl) ((HL6.out.1.set_ 0 (.int .i64 T)).set_ 1 (.int .i64 E)) Tryd.underlying52 rfl win_info) rfl ⟨rfl, v6, HS.out.set2 (by omega) HL6.out.2 _ _⟩
    · have i1' : ¬ (t : Int) ≤ T := by omega
      go_enter Tryd.func24, Tryd.ntmps24
      go_wp2_with (first
        | (go_at_call 22; refine (P1.out _ _ _ (by omega) _ (HS.out).1).mono ?_; clear P1; rintro r w1 ⟨rfl, v1, hw1, ht1, hn1⟩; have q5 := far_put (HL5.out.1) HL5.out.2 ht1 hn1; have q6 := far_put (HL6.out.1) HL6.out.2 ht1 hn1; have hs1 := (HS.out).put hw1 ht1 hn1; clear HL5 HL6 HS; have HS := Lib.hid hs1; have HL5 := Lib.hid q5; have HL6 := Lib.hid q6; obtain ⟨c50, c51, f50, f51⟩ := wlies q5.1; clear q5 q6 hs1 hw1 ht1 hn1)
        | (go_at_call 41; refine (LZ.out _).mono ?_; rintro r w2 ⟨rfl, rfl⟩)
        | (go_at_call 42; refine (TZ.out _ (TB.out _ _ _ _ HS.out)).mono ?_; rintro r w3 ⟨rfl, rfl⟩; have q5 := HL5.out.1.alloc (.cells (wV T E) 52); have q6 := HL6.out.1.alloc (.cells (wV T E) 52); have q7 := Lies.new w1 52 (wV T E); have g5 := HL5.out.2; have g6 := HL6.out.2; have g7 : Far v1 bw w1.heap.size := ⟨by have := HS.out.lt.1; omega, fun i e => by have := (HS.out.lt.2 i e).2; omega⟩; have hs1 := HS.out.below ((Below.refl _ _).alloc (Nat.le_refl _) (.cells (wV T E) 52)); clear HL5 HL6 HS; have HS := Lib.hid hs1; have HL5 := Lib.hid (And.intro q5 g5); have HL6 := Lib.hid (And.intro q6 g6); have HL7 := Lib.hid (And.intro q7 g7); obtain ⟨c50, c51, f50, f51⟩ := wlies q5; obtain ⟨c70, c71, f70, f71⟩ := wlies q7; clear q5 q6 q7 g5 g6 g7 hs1)
        | (go_at_call 22; refine (P2.out _ _ _ (by omega) _ (HS.out.set2 (Nat.le_refl _) HL5.out.2 (.int .i64 T) (.int .i64 E)).1).mono ?_; clear P2; rintro r w1 ⟨rfl, v1, hw1, ht1, hn1⟩; have q5 := far_put (show Lies _ w.heap.size 52 (wV T E) from (HL5.out.1.set_ 0 (.int .i64 T)).set_ 1 (.int .i64 E)) HL5.out.2 ht1 hn1; have q6 := far_put ((HL6.out.1.far (p := ⟨w.heap.size, 0, none⟩) (by show w.heap.size + 1 ≠ w.heap.size; omega) (.int .i64 T)).far (p := ⟨w.heap.size, 1, none⟩) (by show w.heap.size + 1 ≠ w.heap.size; omega) (.int .i64 E)) HL6.out.2 ht1 hn1; have hs1 := (HS.out.set2 (Nat.le_refl _) HL5.out.2 (.int .i64 T) (.int .i64 E)).put hw1 ht1 hn1; clear HL5 HL6 HS HL7; have HS := Lib.hid hs1; have HL5 := Lib.hid q5; have HL6 := Lib.hid q6; obtain ⟨c50, c51, f50, f51⟩ := wlies q5.1; clear q5 q6 hs1 hw1 ht1 hn1)
        | (go_at_call 22; refine (P4.out _ _ _ (by omega) _ (HS.out).1).mono ?_; clear P4; rintro r w1 ⟨rfl, v1, hw1, ht1, hn1⟩; have q5 := far_put (HL5.out.1) HL5.out.2 ht1 hn1; have q6 := far_put (HL6.out.1) HL6.out.2 ht1 hn1; have hs1 := (HS.out).put hw1 ht1 hn1; clear HL5 HL6 HS; have HS := Lib.hid hs1; have HL5 := Lib.hid q5; have HL6 := Lib.hid q6; obtain ⟨c50, c51, f50, f51⟩ := wlies q5.1; clear q5 q6 hs1 hw1 ht1 hn1)
        | (go_at_call 43; refine (WD.out _).mono ?_; rintro r w5 ⟨rfl, hb5⟩; have q5 := And.intro (HL5.out.1.below hb5 HL5.out.1.lt) HL5.out.2; have q6 := And.intro (HL6.out.1.below hb5 HL6.out.1.lt) HL6.out.2; have hs5 := HS.out.below hb5; clear HL5 HL6 HS hb5; have HL5 := Lib.hid q5; have HL6 := Lib.hid q6; have HS := Lib.hid hs5; clear q5 q6 hs5)
        | (go_at_call 22; refine (P5.out _ _ _ (by omega) _ (HS.out).1).mono ?_; clear P5; rintro r w1 ⟨rfl, v1, hw1, ht1, hn1⟩; have q5 := far_put (HL5.out.1) HL5.out.2 ht1 hn1; have q6 := far_put (HL6.out.1) HL6.out.2 ht1 hn1; have hs1 := (HS.out).put hw1 ht1 hn1; clear HL5 HL6 HS; have HS := Lib.hid hs1; have HL5 := Lib.hid q5; have HL6 := Lib.hid q6; obtain ⟨c50, c51, f50, f51⟩ := wlies q5.1; clear q5 q6 hs1 hw1 ht1 hn1))
      refine wp_region_held_drew (S := (fun W : World => (W.cell? ⟨w.heap.size, 0, none⟩ = some (.int .i64 T) ∧ W.cell? ⟨w.heap.size, 1, none⟩ = some (.int .i64 E)) ∧ (Instr.loadAt 52 (.pointer (some ⟨w.heap.size, 0, none⟩))).run Tryd.prog W = .ok (.agg #[.int .i64 T, .int .i64 E]) W)) (by kernel_rfl) (HALL.out _ HL5.out.1.drew) (fun hHeld => ?_)
      refine wpAnyH_take (i := 0) (oi := ?oix9) (v := ?vx9) ?hix9 ?hsx9 ?hfx9 ?hrx9 ?hQx9 ?hyx9 ?hSx9 ?hx9
      case hix9 =>
        simp only [List.getElem?_toArray, List.getElem?_cons_zero]
        rfl
      case hsx9 => kernel_rfl
      case hfx9 => kernel_rfl
      case hrx9 => kernel_rfl
      case hyx9 =>
        refine Or.inl ⟨by rfl, ?_⟩
        intro w hSw
        (try dsimp only at hSw)
        go_simp
        try with_reducible rfl
      case hQx9 => exact fun _ _ _ h => h
      case hSx9 => assumption
      try simp only [Act.put, List.setIfInBounds_toArray, List.set_cons_zero, List.set_cons_succ]
      refine wpAnyH_take (i := 1) (oi := ?oix10) (v := ?vx10) ?hix10 ?hsx10 ?hfx10 ?hrx10 ?hQx10 ?hyx10 ?hSx10 ?hx10
      case hix10 =>
        simp only [List.getElem?_toArray, List.getElem?_cons_succ, List.getElem?_cons_zero]
        rfl
      case hsx10 => kernel_rfl
      case hfx10 => kernel_rfl
      case hrx10 => kernel_rfl
      case hyx10 =>
        refine Or.inl ⟨by rfl, ?_⟩
        intro w hSw
        (try dsimp only at hSw)
        go_simp
        try with_reducible rfl
      case hQx10 => exact fun _ _ _ h => h
      case hSx10 => assumption
      try simp only [Act.put, List.setIfInBounds_toArray, List.set_cons_zero, List.set_cons_succ]
      refine wpAnyH_take (i := 2) (oi := ?oix11) (v := ?vx11) ?hix11 ?hsx11 ?hfx11 ?hrx11 ?hQx11 ?hyx11 ?hSx11 ?hx11
      case hix11 =>
        simp only [List.getElem?_toArray, List.getElem?_cons_succ, List.getElem?_cons_zero]
        rfl
      case hsx11 => kernel_rfl
      case hfx11 => kernel_rfl
      case hrx11 => kernel_rfl
      case hyx11 =>
        refine Or.inl ⟨by rfl, ?_⟩
        intro w hSw
        (try dsimp only at hSw)
        go_simp
        try with_reducible rfl
      case hQx11 => exact fun _ _ _ h => h
      case hSx11 => assumption
      try simp only [Act.put, List.setIfInBounds_toArray, List.set_cons_zero, List.set_cons_succ]
      refine wpAnyH_take (i := 3) (oi := ?oix12) (v := ?vx12) ?hix12 ?hsx12 ?hfx12 ?hrx12 ?hQx12 ?hyx12 ?hSx12 ?hx12
      case hix12 =>
        simp only [List.getElem?_toArray, List.getElem?_cons_succ, List.getElem?_cons_zero]
        rfl
      case hsx12 => kernel_rfl
      case hfx12 => kernel_rfl
      case hrx12 => kernel_rfl
      case hyx12 =>
        refine Or.inl ⟨by rfl, ?_⟩
        intro w hSw
        (try dsimp only at hSw)
        go_simp
        try with_reducible rfl
      case hQx12 => exact fun _ _ _ h => h
      case hSx12 => assumption
      try simp only [Act.put, List.setIfInBounds_toArray, List.set_cons_zero, List.set_cons_succ]
      refine wpAnyH_take (i := 4) (oi := ?oix13) (v := ?vx13) ?hix13 ?hsx13 ?hfx13 ?hrx13 ?hQx13 ?hyx13 ?hSx13 ?hx13
      case hix13 =>
        simp only [List.getElem?_toArray, List.getElem?_cons_succ, List.getElem?_cons_zero]
        rfl
      case hsx13 => kernel_rfl
      case hfx13 => kernel_rfl
      case hrx13 => kernel_rfl
      case hyx13 =>
        refine Or.inl ⟨by rfl, ?_⟩
        intro w hSw
        (try dsimp only at hSw)
        go_simp
        try with_reducible rfl
      case hQx13 => exact fun _ _ _ h => h
      case hSx13 => assumption
      try simp only [Act.put, List.setIfInBounds_toArray, List.set_cons_zero, List.set_cons_succ]
      refine wpAnyH_take (i := 5) (oi := ?oix14) (v := (.agg #[.int .i64 T, .int .i64 E])) ?hix14 ?hsx14 ?hfx14 ?hrx14 ?hQx14 ?hyx14 ?hSx14 ?hx14
      case hix14 =>
        simp only [List.getElem?_toArray, List.getElem?_cons_succ, List.getElem?_cons_zero]
        rfl
      case hsx14 => kernel_rfl
      case hfx14 => kernel_rfl
      case hrx14 => kernel_rfl
      case hyx14 =>
        refine Or.inl ⟨by rfl, ?_⟩
        intro w hSw
        (try dsimp only at hSw)
        exact exec_load (ptr := .pointer (some ⟨_, 0, none⟩)) 52 (.tmp 5) rfl (by rfl) hSw.2
      case hQx14 => exact fun _ _ _ h => h
      case hSx14 => assumption
      try simp only [Act.put, List.setIfInBounds_toArray, List.set_cons_zero, List.set_cons_succ]
      refine wpAnyH_ready (rs := [6]) (by kernel_rfl) (by simp) ?_
      refine AllReadyH.cons (o := ?ox15) ?ix15 ?kx15 AllReadyH.nil
      case ix15 =>
        simp only [List.getElem?_toArray, List.getElem?_cons_succ, List.getElem?_cons_zero]
        rfl
      intro K hK
      go_simp
      go_at_call 43
      refine (WD.out _).mono ?_
      rintro r w5 ⟨rfl, hb5⟩
      have hb5 : Below w1.heap.size w1 w5 := ⟨hb5.os, hb5.tape, hb5.output, hb5.size, hb5.block⟩
      have q5 := And.intro (HL5.out.1.below hb5 HL5.out.1.lt) HL5.out.2
      have q6 := And.intro (HL6.out.1.below hb5 HL6.out.1.lt) HL6.out.2
      have hs5 := HS.out.below hb5
      clear HL5 HL6 HS hb5
      have HL5 := Lib.hid q5
      have HL6 := Lib.hid q6
      have HS := Lib.hid hs5
      clear q5 q6 hs5
      refine hK.out _ _ (HALL.out _ HL5.out.1) (fun hHeld => ?_)
      clear hK K
      try simp only [Act.put, List.setIfInBounds_toArray, List.set_cons_zero, List.set_cons_succ]
      refine wpAnyH_ready (rs := [7]) (by kernel_rfl) (by simp) ?_
      refine AllReadyH.cons (o := ?ox16) ?ix16 ?kx16 AllReadyH.nil
      case ix16 =>
        simp only [List.getElem?_toArray, List.getElem?_cons_succ, List.getElem?_cons_zero]
        rfl
      intro K hK
      go_simp
      go_at_call 22
      refine (P3.out _ _ _ (by omega) _ HS.out.1).mono ?_
      clear P3
      rintro r w6 ⟨rfl, v6, hw1, ht1, hn1⟩
      have q5 := far_put HL5.out.1 HL5.out.2 ht1 hn1
      have q6 := far_put HL6.out.1 HL6.out.2 ht1 hn1
      have hs1 := HS.out.put hw1 ht1 hn1
      clear HL5 HL6 HS
      have HS := Lib.hid hs1
      have HL5 := Lib.hid q5
      have HL6 := Lib.hid q6
      obtain ⟨c50, c51, f50, f51⟩ := wlies q5.1
      obtain ⟨c60, c61, f60, f61⟩ := wlies q6.1
      clear q5 q6 hs1 hw1 ht1 hn1
      refine hK.out _ _ (HALL.out _ HL5.out.1) (fun hHeld => ?_)
      clear hK K
      try simp only [Act.put, List.setIfInBounds_toArray, List.set_cons_zero, List.set_cons_succ]
      refine wpAnyH_done (by kernel_rfl) ?_ _
      go_wp2_with fail
      exact bodyPost_ret (v := .agg (wV T E)) (results_cell_row (by rfl) _ _ (w.heap.size + 1) 52 (wV T E) (0, 0) _ (by rfl) ((HL6.out.1.set_ 0 (.int .i64 T)).set_ 1 (.int .i64 E)) Tryd.underlying52 rfl win_info) rfl ⟨rfl, v6, HS.out.set2 (by omega) HL6.out.2 _ _⟩
end Go.Proofs.YtejiboinkapkcaaDoor
