/-
  CONTRACT OF xor's source's next, in any world. Conditions: at most 10000 bytes, which lie in memory as told.
-/
import Derived.Test.YtejiboinkapkcaaDoorXorG
import Derived.BigRegion
import Derived.Deep.RegionHeld3
import Derived.Deep.DeepMust
import Derived.Outline
import Derived.Lib.Hide
namespace Go.Proofs.YtejiboinkapkcaaDoor
open Go.RowKit
set_option linter.unusedVariables false
set_option linter.unusedSimpArgs false
theorem exec_load {P : Program} {ev : Operand → Value} {o : Oper} {w : World} {v ptr : Value} (ty : TypeId) (x : Operand) (ho : o.op = .load ty x) (hx : ev x = ptr) (h : (Instr.loadAt ty ptr).run P w = .ok v w) : (execOp ev o).run P w = .ok (.value v) w := by
  unfold execOp
  simp only [ho, hx, Sem.run_bind, Sem.run_pure, h, Result.andThen_ok]
theorem wpAnyH_ready1 : True := trivial
theorem SrcAt.drew {w : World} {bs br n : Nat} {z : Nat → Int} {s : DS} (h : SrcAt w bs br n z s) : SrcAt w.drew bs br n z s := h
theorem SrcAt.below {w w' : World} {bs br n : Nat} {z : Nat → Int} {s : DS} (h : SrcAt w bs br n z s) (hb : Below w.heap.size w w') : SrcAt w' bs br n z s :=
  ⟨h.1.below hb h.1.lt, h.2.1.below hb h.2.1.lt, h.2.2⟩
theorem nextEnd_err {M B bs br n : Nat} {z : Nat → Int} {s s' : DS} {m : Int} {x : Nat} {w w' : World} (hd : dnext M B s = (m, x, s')) (hm : (m != 0) = true) (ht : Turned (fun i => i = bs ∨ i = br) w w') : NextEnd M B bs br n z s w (thrown1 m) w' :=
  ⟨ht, .inr ⟨by rw [hd]; exact hm, by rw [hd]⟩⟩
theorem nextEnd_ok {M B bs br n : Nat} {z : Nat → Int} {s s' : DS} {x : Nat} {w w' : World} (hd : dnext M B s = (0, x, s')) (ht : Turned (fun i => i = bs ∨ i = br) w w') (hs : SrcAt w' bs br n z s') : NextEnd M B bs br n z s w (.returned (.int .u64 (x : Nat))) w' :=
  ⟨ht, .inl ⟨by rw [hd], by rw [hd], by rw [hd]; exact hs⟩⟩
theorem shl_in (V t e : Nat) (h : V < 2 ^ (64 - t - e)) (hte : t + e ≤ 63) : IntKind.u64.wrap ((V : Int) * 2 ^ e) = ((V * 2 ^ e : Nat) : Int) := by
  have h1 : V * 2 ^ e < 2 ^ (64 - t - e) * 2 ^ e := Nat.mul_lt_mul_of_pos_right h (Nat.pow_pos (by decide))
  rw [← Nat.pow_add] at h1
  have h2 : (2 : Nat) ^ (64 - t - e + e) ≤ 2 ^ 64 := Nat.pow_le_pow_right (by decide) (by omega)
  have h3 : (2 : Nat) ^ 64 = 18446744073709551616 := by decide
  have e1 : (V : Int) * 2 ^ e = ((V * 2 ^ e : Nat) : Int) := by simp
  rw [e1, u64w]
  omega
theorem turned_br {bs br : Nat} {w w' : World} (h : Turned (· = br) w w') : Turned (fun i => i = bs ∨ i = br) w w' := h.mono (fun i _ e => .inr e)
set_option maxRecDepth 100000 in
set_option maxHeartbeats 4000000 in
theorem next_any (bs br n : Nat) (z : Nat → Int) (s : DS) (hz : ∀ i, i < n → 0 ≤ z i ∧ z i ≤ 255) (hn : n ≤ 10000) (hat : s.at_ ≤ 8 * n) (hwin : (s.t = 64 ∧ s.e = 0) ∨ s.t + s.e ≤ 63) (w : World) (h : SrcAt w bs br n z s) :
    Calls Tryd.prog 33 #[.pointer (some ⟨bs, 0, none⟩)] w (NextEnd (num z n) (8 * n) bs br n z s w) := by
  obtain ⟨at_, t, e⟩ := s
  simp only at hat hwin
  have HZ := Lib.hid hz
  have NO := Lib.hid (fun W => none_any W)
  have CT := Lib.hid (fun n W => check_ok n W)
  have CF3 := Lib.hid (fun W => check_some 3 (by decide) W)
  have HS0 := Lib.hid h
  have hc0 := (src_cells h).1
  clear h
  by_cases s1 : 8 * n < at_ + 1
  · have HD := Lib.hid (show dnext (num z n) (8 * n) ⟨at_, t, e⟩ = (1, 0, ⟨at_, t, e⟩) from by unfold dnext; rw [if_pos s1])
    have N1 := Lib.hid (number_short bs br n z at_ 1 hn (by decide) hat s1 w hc0 HS0.out.2.1 1 rfl)
    clear hc0
    go_enter Tryd.func33, Tryd.ntmps33
    go_wp2_with (go_at_call 31; refine N1.out.mono ?_; rintro r w1 ⟨rfl, j, rfl⟩)
    exact ⟨rfl, nextEnd_err HD.out (by decide) ((Turned.refl _ w).drewN j)⟩
  have hb1 : num z n / 2 ^ at_ % 2 ^ 1 < 2 := Nat.mod_lt _ (by decide)
  have N1 := Lib.hid (number_ok bs br n z at_ 1 hz hn (by decide) (by omega) w hc0 HS0.out.2.1 1 rfl)
  by_cases z1 : num z n / 2 ^ at_ % 2 = 0
  · have HD := Lib.hid (show dnext (num z n) (8 * n) ⟨at_, t, e⟩ = (0, 0, ⟨at_ + 1, t, e⟩) from by unfold dnext; rw [if_neg s1, if_pos z1])
    rw [Nat.pow_one, z1] at N1
    clear hc0 hb1
    go_enter Tryd.func33, Tryd.ntmps33
    go_wp2_with (go_at_call 31; refine N1.out.mono ?_; rintro r w1 ⟨rfl, hr1, ht1⟩; have HS1 := Lib.hid (HS0.out.read hr1 ht1); have HT1 := Lib.hid (turned_br (bs := bs) ht1); clear hr1 ht1)
    go_ret
    exact nextEnd_ok HD.out HT1.out HS1.out
  have z1' : num z n / 2 ^ at_ % 2 ^ 1 = 1 := by rw [Nat.pow_one] at hb1 ⊢; omega
  rw [z1'] at N1
  by_cases s2 : 8 * n < at_ + 1 + 1
  · have HD := Lib.hid (show dnext (num z n) (8 * n) ⟨at_, t, e⟩ = (1, 0, ⟨at_, t, e⟩) from by unfold dnext; rw [if_neg s1, if_neg z1, if_pos s2])
    have N2 := Lib.hid (fun W hc hr => number_short bs br n z (at_ + 1) 1 hn (by decide) (by omega) s2 W hc hr 1 rfl)
    clear hc0 hb1
    go_enter Tryd.func33, Tryd.ntmps33
    go_wp2_with (first
      | (go_at_call 31; refine N1.out.mono ?_; clear N1; rintro r w1 ⟨rfl, hr1, ht1⟩; have HS1 := Lib.hid (HS0.out.read hr1 ht1); have HT1 := Lib.hid (turned_br (bs := bs) ht1); have N3 := Lib.hid (N2.out _ (src_cells HS1.out).1 HS1.out.2.1); clear hr1 ht1)
      | (go_at_call 31; refine N3.out.mono ?_; rintro r w2 ⟨rfl, j, rfl⟩))
    exact ⟨rfl, nextEnd_err HD.out (by decide) (HT1.out.drewN j)⟩
  have hb2 : num z n / 2 ^ (at_ + 1) % 2 ^ 1 < 2 := Nat.mod_lt _ (by decide)
  have N2 := fun W hc hr => number_ok bs br n z (at_ + 1) 1 hz hn (by decide) (by omega) W hc hr 1 rfl
  by_cases z2 : num z n / 2 ^ (at_ + 1) % 2 = 0
  · have HD := Lib.hid (show dnext (num z n) (8 * n) ⟨at_, t, e⟩ = dtail (num z n) (8 * n) ⟨at_ + 1 + 1, t, e⟩ from by unfold dnext; rw [if_neg s1, if_neg z1, if_neg s2, if_pos z2])
    rw [Nat.pow_one, z2] at N2
    have N2 := Lib.hid N2
    clear hc0 hb1 hb2
    have TO2 : True := trivial
    by_cases hnone : t = 64 ∧ e = 0
    · obtain ⟨rfl, rfl⟩ := hnone
      have HD := Lib.hid (HD.out.trans (show dtail (num z n) (8 * n) ⟨at_ + 1 + 1, 64, 0⟩ = (3, 0, ⟨at_ + 1 + 1, 64, 0⟩) from by unfold dtail; rw [if_pos ⟨rfl, rfl⟩]))
      go_enter Tryd.func33, Tryd.ntmps33
      go_wp2_with (first
        | (go_at_call 31; refine N1.out.mono ?_; clear N1; rintro r w1 ⟨rfl, hr1, ht1⟩; have HS1 := Lib.hid (HS0.out.read hr1 ht1); have HT1 := Lib.hid (turned_br (bs := bs) ht1); have N3 := Lib.hid (N2.out _ (src_cells HS1.out).1 HS1.out.2.1); clear hr1 ht1)
        | (go_at_call 31; refine N3.out.mono ?_; clear N3; rintro r wk ⟨rfl, hr2, ht2⟩; have HS := Lib.hid (HS1.out.read hr2 ht2); have HT := Lib.hid (HT1.out.trans (turned_br (bs := bs) ht2)); clear hr2 ht2))
      refine wp_region_held_drew (S := (fun W : World => W.cell? ⟨bs, 0, none⟩ = some (.pointer (some ⟨br, 0, none⟩)) ∧ (W.cell? ⟨bs, 1, none⟩ = some (.int .i64 64) ∧ W.cell? ⟨bs, 2, none⟩ = some (.int .i64 0)) ∧ (Instr.loadAt 52 (.pointer (some ⟨bs, 1, none⟩))).run Tryd.prog W = .ok (.agg #[.int .i64 64, .int .i64 0]) W)) (by kernel_rfl) (src_cells HS.out.drew) (fun hHeld => ?_)
      refine wpAnyH_take (i := 0) (oi := ?oix1) (v := ?vx1) ?hix1 ?hsx1 ?hfx1 ?hrx1 ?hQx1 ?hyx1 ?hSx1 ?hx1
      case hix1 =>
        simp only [List.getElem?_toArray, List.getElem?_cons_zero]
        rfl
      case hsx1 => kernel_rfl
      case hfx1 => kernel_rfl
      case hrx1 => kernel_rfl
      case hyx1 =>
        refine Or.inl ⟨by rfl, ?_⟩
        intro w hSw
        (try dsimp only at hSw)
        go_simp
        try with_reducible rfl
      case hQx1 => exact fun _ _ _ h => h
      case hSx1 => assumption
      try simp only [Act.put, List.setIfInBounds_toArray, List.set_cons_zero, List.set_cons_succ]
      refine wpAnyH_take (i := 1) (oi := ?oix2) (v := ?vx2) ?hix2 ?hsx2 ?hfx2 ?hrx2 ?hQx2 ?hyx2 ?hSx2 ?hx2
      case hix2 =>
        simp only [List.getElem?_toArray, List.getElem?_cons_succ, List.getElem?_cons_zero]
        rfl
      case hsx2 => kernel_rfl
      case hfx2 => kernel_rfl
      case hrx2 => kernel_rfl
      case hyx2 =>
        refine Or.inl ⟨by rfl, ?_⟩
        intro w hSw
        (try dsimp only at hSw)
        go_simp
        try with_reducible rfl
      case hQx2 => exact fun _ _ _ h => h
      case hSx2 => assumption
      try simp only [Act.put, List.setIfInBounds_toArray, List.set_cons_zero, List.set_cons_succ]
      refine wpAnyH_take (i := 2) (oi := ?oix3) (v := ?vx3) ?hix3 ?hsx3 ?hfx3 ?hrx3 ?hQx3 ?hyx3 ?hSx3 ?hx3
      case hix3 =>
        simp only [List.getElem?_toArray, List.getElem?_cons_succ, List.getElem?_cons_zero]
        rfl
      case hsx3 => kernel_rfl
      case hfx3 => kernel_rfl
      case hrx3 => kernel_rfl
      case hyx3 =>
        refine Or.inl ⟨by rfl, ?_⟩
        intro w hSw
        (try dsimp only at hSw)
        go_simp
        try with_reducible rfl
      case hQx3 => exact fun _ _ _ h => h
      case hSx3 => assumption
      try simp only [Act.put, List.setIfInBounds_toArray, List.set_cons_zero, List.set_cons_succ]
      refine wpAnyH_take (i := 3) (oi := ?oix4) (v := (.agg #[.int .i64 64, .int .i64 0])) ?hix4 ?hsx4 ?hfx4 ?hrx4 ?hQx4 ?hyx4 ?hSx4 ?hx4
      case hix4 =>
        simp only [List.getElem?_toArray, List.getElem?_cons_succ, List.getElem?_cons_zero]
        rfl
      case hsx4 => kernel_rfl
      case hfx4 => kernel_rfl
      case hrx4 => kernel_rfl
      case hyx4 =>
        refine Or.inl ⟨by rfl, ?_⟩
        intro w hSw
        (try dsimp only at hSw)
        exact exec_load (ptr := .pointer (some ⟨bs, 1, none⟩)) 52 (.tmp 16) rfl (by rfl) hSw.2.2
      case hQx4 => exact fun _ _ _ h => h
      case hSx4 => assumption
      try simp only [Act.put, List.setIfInBounds_toArray, List.set_cons_zero, List.set_cons_succ]
      refine wpAnyH_ready (rs := [4]) (by kernel_rfl) (by simp) ?_
      refine AllReadyH.cons (o := ?ox5) ?ix5 ?kx5 AllReadyH.nil
      case ix5 =>
        simp only [List.getElem?_toArray, List.getElem?_cons_succ, List.getElem?_cons_zero]
        rfl
      intro K hK
      go_simp
      go_at_call 23
      refine (NO.out _).mono ?_
      rintro r w8 ⟨rfl, hb8⟩
      have hb8 : Below wk.heap.size wk w8 := ⟨hb8.os, hb8.tape, hb8.output, hb8.size, hb8.block⟩
      have hs8 := HS.out.below hb8
      have ht8 := HT.out.trans (Turned.of_below (S := fun i => i = bs ∨ i = br) hb8 (fun i hi _ => hi))
      clear HS HT hb8
      have HS := Lib.hid hs8
      have HT := Lib.hid ht8
      clear hs8 ht8
      refine hK.out _ _ (src_cells HS.out) (fun hHeld => ?_)
      clear hK K
      try simp only [Act.put, List.setIfInBounds_toArray, List.set_cons_zero, List.set_cons_succ]
      refine wpAnyH_take (i := 5) (oi := ?oix6) (v := ?vx6) ?hix6 ?hsx6 ?hfx6 ?hrx6 ?hQx6 ?hyx6 ?hSx6 ?hx6
      case hix6 =>
        simp only [List.getElem?_toArray, List.getElem?_cons_succ, List.getElem?_cons_zero]
        rfl
      case hsx6 => kernel_rfl
      case hfx6 => kernel_rfl
      case hrx6 => kernel_rfl
      case hyx6 =>
        refine Or.inl ⟨by rfl, ?_⟩
        intro w hSw
        (try dsimp only at hSw)
        go_simp
        try with_reducible rfl
      case hQx6 => exact fun _ _ _ h => h
      case hSx6 => assumption
      try simp only [Act.put, List.setIfInBounds_toArray, List.set_cons_zero, List.set_cons_succ]
      refine wpAnyH_ready (rs := [6]) (by kernel_rfl) (by simp) ?_
      refine AllReadyH.cons (o := ?ox7) ?ix7 ?kx7 AllReadyH.nil
      case ix7 =>
        simp only [List.getElem?_toArray, List.getElem?_cons_succ, List.getElem?_cons_zero]
        rfl
      intro K hK
      go_simp
      go_at_call 34
      refine (CF3.out _).mono ?_
      rintro r w9 ⟨rfl, rfl⟩
      exact ⟨rfl, nextEnd_err HD.out (by decide) HT.out⟩
    · have hte : t + e ≤ 63 := by omega
      have hte1 : (0 : Int) ≤ e := by omega
      have hte2 : (e : Int) < 64 := by omega
      have WD := Lib.hid (fun W => width_any t e (by omega) W)
      obtain ⟨V, hV⟩ : ∃ V, num z n / 2 ^ (at_ + 1 + 1) % 2 ^ (64 - t - e) = V := ⟨_, rfl⟩
      have NS := Lib.hid (fun s3 W hc hr => number_short bs br n z (at_ + 1 + 1) (64 - t - e) hn (by omega) (by omega) s3 W hc hr _ rfl)
      have NB := fun (s3 : ¬ 8 * n < at_ + 1 + 1 + (64 - t - e)) W hc hr => number_ok bs br n z (at_ + 1 + 1) (64 - t - e) HZ.out hn (by omega) (by omega) W hc hr _ rfl
      have hVl : V < 2 ^ (64 - t - e) := by rw [← hV]; exact Nat.mod_lt _ (Nat.pow_pos (by decide))
      rw [hV] at NB
      have HSH := Lib.hid (fun (_ : ¬ 8 * n < at_ + 1 + 1 + (64 - t - e)) => shl_in V t e hVl (by omega))
      have NB := Lib.hid NB
      have HV := Lib.hid hV
      clear hV hVl
      go_enter Tryd.func33, Tryd.ntmps33
      go_wp2_with (first
        | (go_at_call 31; refine N1.out.mono ?_; clear N1; rintro r w1 ⟨rfl, hr1, ht1⟩; have HS1 := Lib.hid (HS0.out.read hr1 ht1); have HT1 := Lib.hid (turned_br (bs := bs) ht1); have N3 := Lib.hid (N2.out _ (src_cells HS1.out).1 HS1.out.2.1); clear hr1 ht1)
        | (go_at_call 31; refine N3.out.mono ?_; clear N3; rintro r wk ⟨rfl, hr2, ht2⟩; have HS := Lib.hid (HS1.out.read hr2 ht2); have HT := Lib.hid (HT1.out.trans (turned_br (bs := bs) ht2)); clear hr2 ht2))
      refine wp_region_held_drew (S := (fun W : World => W.cell? ⟨bs, 0, none⟩ = some (.pointer (some ⟨br, 0, none⟩)) ∧ (W.cell? ⟨bs, 1, none⟩ = some (.int .i64 t) ∧ W.cell? ⟨bs, 2, none⟩ = some (.int .i64 e)) ∧ (Instr.loadAt 52 (.pointer (some ⟨bs, 1, none⟩))).run Tryd.prog W = .ok (.agg #[.int .i64 t, .int .i64 e]) W)) (by kernel_rfl) (src_cells HS.out.drew) (fun hHeld => ?_)
      refine wpAnyH_take (i := 0) (oi := ?oix8) (v := ?vx8) ?hix8 ?hsx8 ?hfx8 ?hrx8 ?hQx8 ?hyx8 ?hSx8 ?hx8
      case hix8 =>
        simp only [List.getElem?_toArray, List.getElem?_cons_zero]
        rfl
      case hsx8 => kernel_rfl
      case hfx8 => kernel_rfl
      case hrx8 => kernel_rfl
      case hyx8 =>
        refine Or.inl ⟨by rfl, ?_⟩
        intro w hSw
        (try dsimp only at hSw)
        go_simp
        try with_reducible rfl
      case hQx8 => exact fun _ _ _ h => h
      case hSx8 => assumption
      try simp only [Act.put, List.setIfInBounds_toArray, List.set_cons_zero, List.set_cons_succ]
      refine wpAnyH_take (i := 1) (oi := ?oix9) (v := ?vx9) ?hix9 ?hsx9 ?hfx9 ?hrx9 ?hQx9 ?hyx9 ?hSx9 ?hx9
      case hix9 =>
        simp only [List.getElem?_toArray, List.getElem?_cons_succ, List.getElem?_cons_zero]
        rfl
      case hsx9 => kernel_rfl
      case hfx9 => kernel_rfl
      case hrx9 => kernel_rfl
      case hyx9 =>
        refine Or.inl ⟨by rfl, ?_⟩
        intro w hSw
        (try dsimp only at hSw)
        go_simp
        try with_reducible rfl
      case hQx9 => exact fun _ _ _ h => h
      case hSx9 => assumption
      try simp only [Act.put, List.setIfInBounds_toArray, List.set_cons_zero, List.set_cons_succ]
      refine wpAnyH_take (i := 2) (oi := ?oix10) (v := ?vx10) ?hix10 ?hsx10 ?hfx10 ?hrx10 ?hQx10 ?hyx10 ?hSx10 ?hx10
      case hix10 =>
        simp only [List.getElem?_toArray, List.getElem?_cons_succ, List.getElem?_cons_zero]
        rfl
      case hsx10 => kernel_rfl
      case hfx10 => kernel_rfl
      case hrx10 => kernel_rfl
      case hyx10 =>
        refine Or.inl ⟨by rfl, ?_⟩
        intro w hSw
        (try dsimp only at hSw)
        go_simp
        try with_reducible rfl
      case hQx10 => exact fun _ _ _ h => h
      case hSx10 => assumption
      try simp only [Act.put, List.setIfInBounds_toArray, List.set_cons_zero, List.set_cons_succ]
      refine wpAnyH_take (i := 3) (oi := ?oix11) (v := (.agg #[.int .i64 t, .int .i64 e])) ?hix11 ?hsx11 ?hfx11 ?hrx11 ?hQx11 ?hyx11 ?hSx11 ?hx11
      case hix11 =>
        simp only [List.getElem?_toArray, List.getElem?_cons_succ, List.getElem?_cons_zero]
        rfl
      case hsx11 => kernel_rfl
      case hfx11 => kernel_rfl
      case hrx11 => kernel_rfl
      case hyx11 =>
        refine Or.inl ⟨by rfl, ?_⟩
        intro w hSw
        (try dsimp only at hSw)
        exact exec_load (ptr := .pointer (some ⟨bs, 1, none⟩)) 52 (.tmp 16) rfl (by rfl) hSw.2.2
      case hQx11 => exact fun _ _ _ h => h
      case hSx11 => assumption
      try simp only [Act.put, List.setIfInBounds_toArray, List.set_cons_zero, List.set_cons_succ]
      refine wpAnyH_ready (rs := [4]) (by kernel_rfl) (by simp) ?_
      refine AllReadyH.cons (o := ?ox12) ?ix12 ?kx12 AllReadyH.nil
      case ix12 =>
        simp only [List.getElem?_toArray, List.getElem?_cons_succ, List.getElem?_cons_zero]
        rfl
      intro K hK
      go_simp
      go_at_call 23
      refine (NO.out _).mono ?_
      rintro r w8 ⟨rfl, hb8⟩
      have hb8 : Below wk.heap.size wk w8 := ⟨hb8.os, hb8.tape, hb8.output, hb8.size, hb8.block⟩
      have hs8 := HS.out.below hb8
      have ht8 := HT.out.trans (Turned.of_below (S := fun i => i = bs ∨ i = br) hb8 (fun i hi _ => hi))
      clear HS HT hb8
      have HS := Lib.hid hs8
      have HT := Lib.hid ht8
      clear hs8 ht8
      refine hK.out _ _ (src_cells HS.out) (fun hHeld => ?_)
      clear hK K
      try simp only [Act.put, List.setIfInBounds_toArray, List.set_cons_zero, List.set_cons_succ]
      refine wpAnyH_take (i := 5) (oi := ?oix13) (v := (.bool true)) ?hix13 ?hsx13 ?hfx13 ?hrx13 ?hQx13 ?hyx13 ?hSx13 ?hx13
      case hix13 =>
        simp only [List.getElem?_toArray, List.getElem?_cons_succ, List.getElem?_cons_zero]
        rfl
      case hsx13 => kernel_rfl
      case hfx13 => kernel_rfl
      case hrx13 => kernel_rfl
      case hyx13 =>
        refine Or.inl ⟨by rfl, ?_⟩
        intro w hSw
        (try dsimp only at hSw)
        go_simp
        intro h6 h7
        exact hnone ⟨by omega, h7⟩
      case hQx13 => exact fun _ _ _ h => h
      case hSx13 => assumption
      try simp only [Act.put, List.setIfInBounds_toArray, List.set_cons_zero, List.set_cons_succ]
      refine wpAnyH_ready (rs := [6]) (by kernel_rfl) (by simp) ?_
      refine AllReadyH.cons (o := ?ox14) ?ix14 ?kx14 AllReadyH.nil
      case ix14 =>
        simp only [List.getElem?_toArray, List.getElem?_cons_succ, List.getElem?_cons_zero]
        rfl
      intro K hK
      go_simp
      go_at_call 34
      refine (CT.out _ _).mono ?_
      rintro r w9 ⟨rfl, rfl⟩
      refine hK.out _ _ (src_cells HS.out) (fun hHeld => ?_)
      clear hK K
      try simp only [Act.put, List.setIfInBounds_toArray, List.set_cons_zero, List.set_cons_succ]
      refine wpAnyH_done (by kernel_rfl) ?_ _
      go_wp2_with fail
      refine wp_region_held_drew (S := (fun W : World => W.cell? ⟨bs, 0, none⟩ = some (.pointer (some ⟨br, 0, none⟩)) ∧ (W.cell? ⟨bs, 1, none⟩ = some (.int .i64 t) ∧ W.cell? ⟨bs, 2, none⟩ = some (.int .i64 e)) ∧ (Instr.loadAt 52 (.pointer (some ⟨bs, 1, none⟩))).run Tryd.prog W = .ok (.agg #[.int .i64 t, .int .i64 e]) W)) (by kernel_rfl) (src_cells HS.out.drew) (fun hHeld => ?_)
      refine wpAnyH_take (i := 0) (oi := ?oix15) (v := ?vx15) ?hix15 ?hsx15 ?hfx15 ?hrx15 ?hQx15 ?hyx15 ?hSx15 ?hx15
      case hix15 =>
        simp only [List.getElem?_toArray, List.getElem?_cons_zero]
        rfl
      case hsx15 => kernel_rfl
      case hfx15 => kernel_rfl
      case hrx15 => kernel_rfl
      case hyx15 =>
        refine Or.inl ⟨by rfl, ?_⟩
        intro w hSw
        (try dsimp only at hSw)
        go_simp
        try with_reducible rfl
      case hQx15 => exact fun _ _ _ h => h
      case hSx15 => assumption
      try simp only [Act.put, List.setIfInBounds_toArray, List.set_cons_zero, List.set_cons_succ]
      refine wpAnyH_take (i := 1) (oi := ?oix16) (v := ?vx16) ?hix16 ?hsx16 ?hfx16 ?hrx16 ?hQx16 ?hyx16 ?hSx16 ?hx16
      case hix16 =>
        simp only [List.getElem?_toArray, List.getElem?_cons_succ, List.getElem?_cons_zero]
        rfl
      case hsx16 => kernel_rfl
      case hfx16 => kernel_rfl
      case hrx16 => kernel_rfl
      case hyx16 =>
        refine Or.inl ⟨by rfl, ?_⟩
        intro w hSw
        (try dsimp only at hSw)
        go_simp
        try with_reducible rfl
      case hQx16 => exact fun _ _ _ h => h
      case hSx16 => assumption
      try simp only [Act.put, List.setIfInBounds_toArray, List.set_cons_zero, List.set_cons_succ]
      refine wpAnyH_take (i := 2) (oi := ?oix17) (v := ?vx17) ?hix17 ?hsx17 ?hfx17 ?hrx17 ?hQx17 ?hyx17 ?hSx17 ?hx17
      case hix17 =>
        simp only [List.getElem?_toArray, List.getElem?_cons_succ, List.getElem?_cons_zero]
        rfl
      case hsx17 => kernel_rfl
      case hfx17 => kernel_rfl
      case hrx17 => kernel_rfl
      case hyx17 =>
        refine Or.inl ⟨by rfl, ?_⟩
        intro w hSw
        (try dsimp only at hSw)
        go_simp
        try with_reducible rfl
      case hQx17 => exact fun _ _ _ h => h
      case hSx17 => assumption
      try simp only [Act.put, List.setIfInBounds_toArray, List.set_cons_zero, List.set_cons_succ]
      refine wpAnyH_take (i := 3) (oi := ?oix18) (v := ?vx18) ?hix18 ?hsx18 ?hfx18 ?hrx18 ?hQx18 ?hyx18 ?hSx18 ?hx18
      case hix18 =>
        simp only [List.getElem?_toArray, List.getElem?_cons_succ, List.getElem?_cons_zero]
        rfl
      case hsx18 => kernel_rfl
      case hfx18 => kernel_rfl
      case hrx18 => kernel_rfl
      case hyx18 =>
        refine Or.inl ⟨by rfl, ?_⟩
        intro w hSw
        (try dsimp only at hSw)
        go_simp
        try with_reducible rfl
      case hQx18 => exact fun _ _ _ h => h
      case hSx18 => assumption
      try simp only [Act.put, List.setIfInBounds_toArray, List.set_cons_zero, List.set_cons_succ]
      refine wpAnyH_take (i := 4) (oi := ?oix19) (v := (.agg #[.int .i64 t, .int .i64 e])) ?hix19 ?hsx19 ?hfx19 ?hrx19 ?hQx19 ?hyx19 ?hSx19 ?hx19
      case hix19 =>
        simp only [List.getElem?_toArray, List.getElem?_cons_succ, List.getElem?_cons_zero]
        rfl
      case hsx19 => kernel_rfl
      case hfx19 => kernel_rfl
      case hrx19 => kernel_rfl
      case hyx19 =>
        refine Or.inl ⟨by rfl, ?_⟩
        intro w hSw
        (try dsimp only at hSw)
        exact exec_load (ptr := .pointer (some ⟨bs, 1, none⟩)) 52 (.tmp 24) rfl (by rfl) hSw.2.2
      case hQx19 => exact fun _ _ _ h => h
      case hSx19 => assumption
      try simp only [Act.put, List.setIfInBounds_toArray, List.set_cons_zero, List.set_cons_succ]
      refine wpAnyH_take (i := 7) (oi := ?oix20) (v := ?vx20) ?hix20 ?hsx20 ?hfx20 ?hrx20 ?hQx20 ?hyx20 ?hSx20 ?hx20
      case hix20 =>
        simp only [List.getElem?_toArray, List.getElem?_cons_succ, List.getElem?_cons_zero]
        rfl
      case hsx20 => kernel_rfl
      case hfx20 => kernel_rfl
      case hrx20 => kernel_rfl
      case hyx20 =>
        refine Or.inl ⟨by rfl, ?_⟩
        intro w hSw
        (try dsimp only at hSw)
        go_simp
        try with_reducible rfl
      case hQx20 => exact fun _ _ _ h => h
      case hSx20 => assumption
      try simp only [Act.put, List.setIfInBounds_toArray, List.set_cons_zero, List.set_cons_succ]
      refine wpAnyH_take (i := 8) (oi := ?oix21) (v := ?vx21) ?hix21 ?hsx21 ?hfx21 ?hrx21 ?hQx21 ?hyx21 ?hSx21 ?hx21
      case hix21 =>
        simp only [List.getElem?_toArray, List.getElem?_cons_succ, List.getElem?_cons_zero]
        rfl
      case hsx21 => kernel_rfl
      case hfx21 => kernel_rfl
      case hrx21 => kernel_rfl
      case hyx21 =>
        refine Or.inl ⟨by rfl, ?_⟩
        intro w hSw
        (try dsimp only at hSw)
        go_simp
        try with_reducible rfl
      case hQx21 => exact fun _ _ _ h => h
      case hSx21 => assumption
      try simp only [Act.put, List.setIfInBounds_toArray, List.set_cons_zero, List.set_cons_succ]
      refine wpAnyH_take (i := 9) (oi := ?oix22) (v := ?vx22) ?hix22 ?hsx22 ?hfx22 ?hrx22 ?hQx22 ?hyx22 ?hSx22 ?hx22
      case hix22 =>
        simp only [List.getElem?_toArray, List.getElem?_cons_succ, List.getElem?_cons_zero]
        rfl
      case hsx22 => kernel_rfl
      case hfx22 => kernel_rfl
      case hrx22 => kernel_rfl
      case hyx22 =>
        refine Or.inl ⟨by rfl, ?_⟩
        intro w hSw
        (try dsimp only at hSw)
        go_simp
        try with_reducible rfl
      case hQx22 => exact fun _ _ _ h => h
      case hSx22 => assumption
      try simp only [Act.put, List.setIfInBounds_toArray, List.set_cons_zero, List.set_cons_succ]
      refine wpAnyH_take (i := 10) (oi := ?oix23) (v := ?vx23) ?hix23 ?hsx23 ?hfx23 ?hrx23 ?hQx23 ?hyx23 ?hSx23 ?hx23
      case hix23 =>
        simp only [List.getElem?_toArray, List.getElem?_cons_succ, List.getElem?_cons_zero]
        rfl
      case hsx23 => kernel_rfl
      case hfx23 => kernel_rfl
      case hrx23 => kernel_rfl
      case hyx23 =>
        refine Or.inl ⟨by rfl, ?_⟩
        intro w hSw
        (try dsimp only at hSw)
        go_simp
        try with_reducible rfl
      case hQx23 => exact fun _ _ _ h => h
      case hSx23 => assumption
      try simp only [Act.put, List.setIfInBounds_toArray, List.set_cons_zero, List.set_cons_succ]
      refine wpAnyH_take (i := 11) (oi := ?oix24) (v := ?vx24) ?hix24 ?hsx24 ?hfx24 ?hrx24 ?hQx24 ?hyx24 ?hSx24 ?hx24
      case hix24 =>
        simp only [List.getElem?_toArray, List.getElem?_cons_succ, List.getElem?_cons_zero]
        rfl
      case hsx24 => kernel_rfl
      case hfx24 => kernel_rfl
      case hrx24 => kernel_rfl
      case hyx24 =>
        refine Or.inl ⟨by rfl, ?_⟩
        intro w hSw
        (try dsimp only at hSw)
        go_simp
        try with_reducible rfl
      case hQx24 => exact fun _ _ _ h => h
      case hSx24 => assumption
      try simp only [Act.put, List.setIfInBounds_toArray, List.set_cons_zero, List.set_cons_succ]
      refine wpAnyH_ready (rs := [5]) (by kernel_rfl) (by simp) ?_
      refine AllReadyH.cons (o := ?ox25) ?ix25 ?kx25 AllReadyH.nil
      case ix25 =>
        simp only [List.getElem?_toArray, List.getElem?_cons_succ, List.getElem?_cons_zero]
        rfl
      intro K hK
      go_simp
      go_at_call 43
      refine (WD.out _).mono ?_
      rintro r wa ⟨rfl, hba⟩
      have hba : Below w8.heap.size w8 wa := ⟨hba.os, hba.tape, hba.output, hba.size, hba.block⟩
      have hsa := HS.out.below hba
      have hta := HT.out.trans (Turned.of_below (S := fun i => i = bs ∨ i = br) hba (fun i hi _ => hi))
      clear HS HT hba
      have HS := Lib.hid hsa
      have HT := Lib.hid hta
      clear hsa hta
      refine hK.out _ _ (src_cells HS.out) (fun hHeld => ?_)
      clear hK K
      try simp only [Act.put, List.setIfInBounds_toArray, List.set_cons_zero, List.set_cons_succ]
      by_cases s3 : 8 * n < at_ + 1 + 1 + (64 - t - e)
      · skip
        refine wpAnyH_ready (rs := [6]) (by kernel_rfl) (by simp) ?_
        refine AllReadyH.cons (o := ?ox26) ?ix26 ?kx26 AllReadyH.nil
        case ix26 =>
          simp only [List.getElem?_toArray, List.getElem?_cons_succ, List.getElem?_cons_zero]
          rfl
        intro K hK
        go_simp
        go_at_call 31
        refine (NS.out s3 _ (src_cells HS.out).1 HS.out.2.1).mono ?_
        rintro r wb ⟨rfl, j, rfl⟩
        exact ⟨rfl, nextEnd_err (HD.out.trans (show dtail _ _ _ = (1, 0, _) from by unfold dtail; rw [if_neg hnone, if_pos s3])) (by decide) (HT.out.drewN j)⟩
      · skip
        have hsh := HSH.out s3
        refine wpAnyH_ready (rs := [6]) (by kernel_rfl) (by simp) ?_
        refine AllReadyH.cons (o := ?ox27) ?ix27 ?kx27 AllReadyH.nil
        case ix27 =>
          simp only [List.getElem?_toArray, List.getElem?_cons_succ, List.getElem?_cons_zero]
          rfl
        intro K hK
        go_simp
        go_at_call 31
        refine (NB.out s3 _ (src_cells HS.out).1 HS.out.2.1).mono ?_
        rintro r wb ⟨rfl, hrb, htb⟩
        have hsb := HS.out.read hrb htb
        have htb2 := HT.out.trans (turned_br (bs := bs) htb)
        clear HS HT hrb htb
        have HS := Lib.hid hsb
        have HT := Lib.hid htb2
        clear hsb htb2
        refine hK.out _ _ (src_cells HS.out) (fun hHeld => ?_)
        clear hK K
        try simp only [Act.put, List.setIfInBounds_toArray, List.set_cons_zero, List.set_cons_succ]
        refine wpAnyH_take (i := 12) (oi := ?oix28) (v := ?vx28) ?hix28 ?hsx28 ?hfx28 ?hrx28 ?hQx28 ?hyx28 ?hSx28 ?hx28
        case hix28 =>
          simp only [List.getElem?_toArray, List.getElem?_cons_succ, List.getElem?_cons_zero]
          rfl
        case hsx28 => kernel_rfl
        case hfx28 => kernel_rfl
        case hrx28 => kernel_rfl
        case hyx28 =>
          refine Or.inl ⟨by rfl, ?_⟩
          intro w hSw
          (try dsimp only at hSw)
          go_simp
          try with_reducible rfl
        case hQx28 => exact fun _ _ _ h => h
        case hSx28 => assumption
        try simp only [Act.put, List.setIfInBounds_toArray, List.set_cons_zero, List.set_cons_succ]
        refine wpAnyH_take (i := 13) (oi := ?oix29) (v := ?vx29) ?hix29 ?hsx29 ?hfx29 ?hrx29 ?hQx29 ?hyx29 ?hSx29 ?hx29
        case hix29 =>
          simp only [List.getElem?_toArray, List.getElem?_cons_succ, List.getElem?_cons_zero]
          rfl
        case hsx29 => kernel_rfl
        case hfx29 => kernel_rfl
        case hrx29 => kernel_rfl
        case hyx29 =>
          refine Or.inl ⟨by rfl, ?_⟩
          intro w hSw
          (try dsimp only at hSw)
          go_simp
          try with_reducible rfl
        case hQx29 => exact fun _ _ _ h => h
        case hSx29 => assumption
        try simp only [Act.put, List.setIfInBounds_toArray, List.set_cons_zero, List.set_cons_succ]
        refine wpAnyH_done (by kernel_rfl) ?_ _
        go_wp2_with fail
        go_ret
        exact nextEnd_ok (HD.out.trans (show dtail _ _ _ = (0, _, _) from by unfold dtail; rw [if_neg hnone, if_neg s3, HV.out])) HT.out HS.out
  have z2' : num z n / 2 ^ (at_ + 1) % 2 ^ 1 = 1 := by rw [Nat.pow_one] at hb2 ⊢; omega
  rw [z2'] at N2
  have N2 := Lib.hid N2
  have RD := fun W hc hr => read_any bs br n z (at_ + 1 + 1) hz hn (by omega) (by have := HS0.out.2.2; omega) W hc hr
  have hN5 : num z n / 2 ^ (at_ + 1 + 1) % 2 ^ 5 < 32 := Nat.mod_lt _ (by decide)
  have hP6 : num z n / 2 ^ (at_ + 1 + 1 + 5) % 2 ^ 6 < 64 := Nat.mod_lt _ (by decide)
  unfold ReadEnd at RD
  obtain ⟨N, hN⟩ : ∃ N, num z n / 2 ^ (at_ + 1 + 1) % 2 ^ 5 = N := ⟨_, rfl⟩
  obtain ⟨P, hP⟩ : ∃ P, num z n / 2 ^ (at_ + 1 + 1 + 5) % 2 ^ 6 = P := ⟨_, rfl⟩
  rw [hN] at RD hN5
  rw [hP] at RD hP6
  have HNP := Lib.hid (And.intro hN hP)
  clear hc0 hb1 hb2 hN hP
  by_cases s3 : 8 * n < at_ + 1 + 1 + 5 + 6
  · have HD := Lib.hid (show dnext (num z n) (8 * n) ⟨at_, t, e⟩ = (1, 0, ⟨at_, t, e⟩) from by unfold dnext; rw [if_neg s1, if_neg z1, if_neg s2, if_neg z2, if_pos s3])
    have R1 := Lib.hid (fun W hc hr => (RD W hc hr).mono (R' := fun r w' => r = thrown1 1 ∧ Turned (· = br) W w') fun r w' ⟨ht, hq⟩ => by
      rcases hq with ⟨_, h⟩ | ⟨h, _⟩ | ⟨h, _⟩
      · exact ⟨h, ht⟩
      · omega
      · omega)
    clear RD
    go_enter Tryd.func33, Tryd.ntmps33
    go_wp2_with (first
      | (go_at_call 31; refine N1.out.mono ?_; clear N1; rintro r w1 ⟨rfl, hr1, ht1⟩; have HS1 := Lib.hid (HS0.out.read hr1 ht1); have HT1 := Lib.hid (turned_br (bs := bs) ht1); have N3 := Lib.hid (N2.out _ (src_cells HS1.out).1 HS1.out.2.1); clear hr1 ht1)
      | (go_at_call 31; refine N3.out.mono ?_; clear N3; rintro r wk ⟨rfl, hr2, ht2⟩; have HS := Lib.hid (HS1.out.read hr2 ht2); have HT := Lib.hid (HT1.out.trans (turned_br (bs := bs) ht2)); clear hr2 ht2)
      | (go_at_call 49; refine (R1.out _ (src_cells HS.out).1 HS.out.2.1).mono ?_; rintro r wq ⟨rfl, ht3⟩; have HT9 := Lib.hid (HT.out.trans (turned_br (bs := bs) ht3)); clear ht3))
    exact ⟨rfl, nextEnd_err HD.out (by decide) HT9.out⟩
  by_cases s4 : 64 < N + (P + 1)
  · have HD := Lib.hid (show dnext (num z n) (8 * n) ⟨at_, t, e⟩ = (4, 0, ⟨at_, t, e⟩) from by unfold dnext; rw [if_neg s1, if_neg z1, if_neg s2, if_neg z2, if_neg s3]; simp only; rw [HNP.out.1, HNP.out.2, if_pos s4])
    have R1 := Lib.hid (fun W hc hr => (RD W hc hr).mono (R' := fun r w' => r = thrown1 4 ∧ Turned (· = br) W w') fun r w' ⟨ht, hq⟩ => by
      rcases hq with ⟨h, _⟩ | ⟨_, _, h⟩ | ⟨_, h, _⟩
      · omega
      · exact ⟨h, ht⟩
      · omega)
    clear RD
    go_enter Tryd.func33, Tryd.ntmps33
    go_wp2_with (first
      | (go_at_call 31; refine N1.out.mono ?_; clear N1; rintro r w1 ⟨rfl, hr1, ht1⟩; have HS1 := Lib.hid (HS0.out.read hr1 ht1); have HT1 := Lib.hid (turned_br (bs := bs) ht1); have N3 := Lib.hid (N2.out _ (src_cells HS1.out).1 HS1.out.2.1); clear hr1 ht1)
      | (go_at_call 31; refine N3.out.mono ?_; clear N3; rintro r wk ⟨rfl, hr2, ht2⟩; have HS := Lib.hid (HS1.out.read hr2 ht2); have HT := Lib.hid (HT1.out.trans (turned_br (bs := bs) ht2)); clear hr2 ht2)
      | (go_at_call 49; refine (R1.out _ (src_cells HS.out).1 HS.out.2.1).mono ?_; rintro r wq ⟨rfl, ht3⟩; have HT9 := Lib.hid (HT.out.trans (turned_br (bs := bs) ht3)); clear ht3))
    exact ⟨rfl, nextEnd_err HD.out (by decide) HT9.out⟩
  have R1 := Lib.hid (fun W hc hr => (RD W hc hr).mono (R' := fun r w' => r = .returned (.agg #[.int .i64 N, .int .i64 ((64 - N - (P + 1) : Nat) : Int)]) ∧ ReaderAt w' br n z (at_ + 1 + 1 + 5 + 6) ∧ Turned (· = br) W w') fun r w' ⟨ht, hq⟩ => by
    rcases hq with ⟨h, _⟩ | ⟨_, h, _⟩ | ⟨_, _, h, h2⟩
    · omega
    · omega
    · exact ⟨h, h2, ht⟩)
  have HD := Lib.hid (show dnext (num z n) (8 * n) ⟨at_, t, e⟩ = dtail (num z n) (8 * n) ⟨at_ + 1 + 1 + 5 + 6, N, 64 - N - (P + 1)⟩ from by unfold dnext; rw [if_neg s1, if_neg z1, if_neg s2, if_neg z2, if_neg s3]; simp only; rw [HNP.out.1, HNP.out.2, if_neg s4])
  have hEE : N + (64 - N - (P + 1)) ≤ 63 := by omega
  have hnone : ¬ (N = 64 ∧ 64 - N - (P + 1) = 0) := by omega
  clear RD
  generalize 64 - N - (P + 1) = E at *
  have hte1 : (0 : Int) ≤ E := by omega
  have hte2 : (E : Int) < 64 := by omega
  have WD := Lib.hid (fun W => width_any N E (by omega) W)
  obtain ⟨V, hV⟩ : ∃ V, num z n / 2 ^ (at_ + 1 + 1 + 5 + 6) % 2 ^ (64 - N - E) = V := ⟨_, rfl⟩
  have NS := Lib.hid (fun s3 W hc hr => number_short bs br n z (at_ + 1 + 1 + 5 + 6) (64 - N - E) hn (by omega) (by omega) s3 W hc hr _ rfl)
  have NB := fun (s3 : ¬ 8 * n < at_ + 1 + 1 + 5 + 6 + (64 - N - E)) W hc hr => number_ok bs br n z (at_ + 1 + 1 + 5 + 6) (64 - N - E) HZ.out hn (by omega) (by omega) W hc hr _ rfl
  have hVl : V < 2 ^ (64 - N - E) := by rw [← hV]; exact Nat.mod_lt _ (Nat.pow_pos (by decide))
  rw [hV] at NB
  have HSH := Lib.hid (fun (_ : ¬ 8 * n < at_ + 1 + 1 + 5 + 6 + (64 - N - E)) => shl_in V N E hVl (by omega))
  have NB := Lib.hid NB
  have HV := Lib.hid hV
  clear hV hVl
  go_enter Tryd.func33, Tryd.ntmps33
  go_wp2_with (first
    | (go_at_call 31; refine N1.out.mono ?_; clear N1; rintro r w1 ⟨rfl, hr1, ht1⟩; have HS1 := Lib.hid (HS0.out.read hr1 ht1); have HT1 := Lib.hid (turned_br (bs := bs) ht1); have N3 := Lib.hid (N2.out _ (src_cells HS1.out).1 HS1.out.2.1); clear hr1 ht1)
    | (go_at_call 31; refine N3.out.mono ?_; clear N3; rintro r wk ⟨rfl, hr2, ht2⟩; have HS := Lib.hid (HS1.out.read hr2 ht2); have HT := Lib.hid (HT1.out.trans (turned_br (bs := bs) ht2)); clear hr2 ht2)
    | (go_at_call 49; refine (R1.out _ (src_cells HS.out).1 HS.out.2.1).mono ?_; rintro r wq ⟨rfl, hr3, ht3⟩; have l3 := HS.out.1.turned ht3 (fun e => by have := HS.out.2.2; omega); have c1 : wq.cell? ⟨bs, 1, none⟩ = some (.int .i64 t) := l3.cell 1; have c2 : wq.cell? ⟨bs, 2, none⟩ = some (.int .i64 e) := l3.cell 2; have f1 := l3.frozen 1; have f2 := l3.frozen 2; have HS9 := Lib.hid (show SrcAt ((wq.setCell ⟨bs, 1, none⟩ (.int .i64 N)).setCell ⟨bs, 2, none⟩ (.int .i64 E)) bs br n z ⟨at_ + 1 + 1 + 5 + 6, N, E⟩ from ⟨(l3.set_ 1 (.int .i64 N)).set_ 2 (.int .i64 E), hr3.below (B := bs) (((Below.refl bs wq).setCell (p := ⟨bs, 1, none⟩) (Nat.le_refl _) _).setCell (p := ⟨bs, 2, none⟩) (Nat.le_refl _) _) HS.out.2.2, HS.out.2.2⟩); have HT9 := Lib.hid (show Turned (fun i => i = bs ∨ i = br) w ((wq.setCell ⟨bs, 1, none⟩ (.int .i64 N)).setCell ⟨bs, 2, none⟩ (.int .i64 E)) from ((HT.out.trans (turned_br (bs := bs) ht3)).setCell (p := ⟨bs, 1, none⟩) (.inl (.inl rfl)) _).setCell (p := ⟨bs, 2, none⟩) (.inl (.inl rfl)) _); clear hr3 ht3 l3 HS HT))
  generalize (wq.setCell ⟨bs, 1, none⟩ (.int .i64 N)).setCell ⟨bs, 2, none⟩ (.int .i64 E) = wk9 at *
  clear c1 c2 f1 f2
  have HS := HS9
  have HT := HT9
  clear HS9 HT9
  refine wp_region_held_drew (S := (fun W : World => W.cell? ⟨bs, 0, none⟩ = some (.pointer (some ⟨br, 0, none⟩)) ∧ (W.cell? ⟨bs, 1, none⟩ = some (.int .i64 N) ∧ W.cell? ⟨bs, 2, none⟩ = some (.int .i64 E)) ∧ (Instr.loadAt 52 (.pointer (some ⟨bs, 1, none⟩))).run Tryd.prog W = .ok (.agg #[.int .i64 N, .int .i64 E]) W)) (by kernel_rfl) (src_cells HS.out.drew) (fun hHeld => ?_)
  refine wpAnyH_take (i := 0) (oi := ?oix30) (v := ?vx30) ?hix30 ?hsx30 ?hfx30 ?hrx30 ?hQx30 ?hyx30 ?hSx30 ?hx30
  case hix30 =>
    simp only [List.getElem?_toArray, List.getElem?_cons_zero]
    rfl
  case hsx30 => kernel_rfl
  case hfx30 => kernel_rfl
  case hrx30 => kernel_rfl
  case hyx30 =>
    refine Or.inl ⟨by rfl, ?_⟩
    intro w hSw
    (try dsimp only at hSw)
    go_simp
    try with_reducible rfl
  case hQx30 => exact fun _ _ _ h => h
  case hSx30 => assumption
  try simp only [Act.put, List.setIfInBounds_toArray, List.set_cons_zero, List.set_cons_succ]
  refine wpAnyH_take (i := 1) (oi := ?oix31) (v := ?vx31) ?hix31 ?hsx31 ?hfx31 ?hrx31 ?hQx31 ?hyx31 ?hSx31 ?hx31
  case hix31 =>
    simp only [List.getElem?_toArray, List.getElem?_cons_succ, List.getElem?_cons_zero]
    rfl
  case hsx31 => kernel_rfl
  case hfx31 => kernel_rfl
  case hrx31 => kernel_rfl
  case hyx31 =>
    refine Or.inl ⟨by rfl, ?_⟩
    intro w hSw
    (try dsimp only at hSw)
    go_simp
    try with_reducible rfl
  case hQx31 => exact fun _ _ _ h => h
  case hSx31 => assumption
  try simp only [Act.put, List.setIfInBounds_toArray, List.set_cons_zero, List.set_cons_succ]
  refine wpAnyH_take (i := 2) (oi := ?oix32) (v := ?vx32) ?hix32 ?hsx32 ?hfx32 ?hrx32 ?hQx32 ?hyx32 ?hSx32 ?hx32
  case hix32 =>
    simp only [List.getElem?_toArray, List.getElem?_cons_succ, List.getElem?_cons_zero]
    rfl
  case hsx32 => kernel_rfl
  case hfx32 => kernel_rfl
  case hrx32 => kernel_rfl
  case hyx32 =>
    refine Or.inl ⟨by rfl, ?_⟩
    intro w hSw
    (try dsimp only at hSw)
    go_simp
    try with_reducible rfl
  case hQx32 => exact fun _ _ _ h => h
  case hSx32 => assumption
  try simp only [Act.put, List.setIfInBounds_toArray, List.set_cons_zero, List.set_cons_succ]
  refine wpAnyH_take (i := 3) (oi := ?oix33) (v := (.agg #[.int .i64 N, .int .i64 E])) ?hix33 ?hsx33 ?hfx33 ?hrx33 ?hQx33 ?hyx33 ?hSx33 ?hx33
  case hix33 =>
    simp only [List.getElem?_toArray, List.getElem?_cons_succ, List.getElem?_cons_zero]
    rfl
  case hsx33 => kernel_rfl
  case hfx33 => kernel_rfl
  case hrx33 => kernel_rfl
  case hyx33 =>
    refine Or.inl ⟨by rfl, ?_⟩
    intro w hSw
    (try dsimp only at hSw)
    exact exec_load (ptr := .pointer (some ⟨bs, 1, none⟩)) 52 (.tmp 16) rfl (by rfl) hSw.2.2
  case hQx33 => exact fun _ _ _ h => h
  case hSx33 => assumption
  try simp only [Act.put, List.setIfInBounds_toArray, List.set_cons_zero, List.set_cons_succ]
  refine wpAnyH_ready (rs := [4]) (by kernel_rfl) (by simp) ?_
  refine AllReadyH.cons (o := ?ox34) ?ix34 ?kx34 AllReadyH.nil
  case ix34 =>
    simp only [List.getElem?_toArray, List.getElem?_cons_succ, List.getElem?_cons_zero]
    rfl
  intro K hK
  go_simp
  go_at_call 23
  refine (NO.out _).mono ?_
  rintro r w8 ⟨rfl, hb8⟩
  have hb8 : Below wk9.heap.size wk9 w8 := ⟨hb8.os, hb8.tape, hb8.output, hb8.size, hb8.block⟩
  have hs8 := HS.out.below hb8
  have ht8 := HT.out.trans (Turned.of_below (S := fun i => i = bs ∨ i = br) hb8 (fun i hi _ => hi))
  clear HS HT hb8
  have HS := Lib.hid hs8
  have HT := Lib.hid ht8
  clear hs8 ht8
  refine hK.out _ _ (src_cells HS.out) (fun hHeld => ?_)
  clear hK K
  try simp only [Act.put, List.setIfInBounds_toArray, List.set_cons_zero, List.set_cons_succ]
  refine wpAnyH_take (i := 5) (oi := ?oix35) (v := (.bool true)) ?hix35 ?hsx35 ?hfx35 ?hrx35 ?hQx35 ?hyx35 ?hSx35 ?hx35
  case hix35 =>
    simp only [List.getElem?_toArray, List.getElem?_cons_succ, List.getElem?_cons_zero]
    rfl
  case hsx35 => kernel_rfl
  case hfx35 => kernel_rfl
  case hrx35 => kernel_rfl
  case hyx35 =>
    refine Or.inl ⟨by rfl, ?_⟩
    intro w hSw
    (try dsimp only at hSw)
    go_simp
    intro h6 h7
    exact hnone ⟨by omega, h7⟩
  case hQx35 => exact fun _ _ _ h => h
  case hSx35 => assumption
  try simp only [Act.put, List.setIfInBounds_toArray, List.set_cons_zero, List.set_cons_succ]
  refine wpAnyH_ready (rs := [6]) (by kernel_rfl) (by simp) ?_
  refine AllReadyH.cons (o := ?ox36) ?ix36 ?kx36 AllReadyH.nil
  case ix36 =>
    simp only [List.getElem?_toArray, List.getElem?_cons_succ, List.getElem?_cons_zero]
    rfl
  intro K hK
  go_simp
  go_at_call 34
  refine (CT.out _ _).mono ?_
  rintro r w9 ⟨rfl, rfl⟩
  refine hK.out _ _ (src_cells HS.out) (fun hHeld => ?_)
  clear hK K
  try simp only [Act.put, List.setIfInBounds_toArray, List.set_cons_zero, List.set_cons_succ]
  refine wpAnyH_done (by kernel_rfl) ?_ _
  go_wp2_with fail
  refine wp_region_held_drew (S := (fun W : World => W.cell? ⟨bs, 0, none⟩ = some (.pointer (some ⟨br, 0, none⟩)) ∧ (W.cell? ⟨bs, 1, none⟩ = some (.int .i64 N) ∧ W.cell? ⟨bs, 2, none⟩ = some (.int .i64 E)) ∧ (Instr.loadAt 52 (.pointer (some ⟨bs, 1, none⟩))).run Tryd.prog W = .ok (.agg #[.int .i64 N, .int .i64 E]) W)) (by kernel_rfl) (src_cells HS.out.drew) (fun hHeld => ?_)
  refine wpAnyH_take (i := 0) (oi := ?oix37) (v := ?vx37) ?hix37 ?hsx37 ?hfx37 ?hrx37 ?hQx37 ?hyx37 ?hSx37 ?hx37
  case hix37 =>
    simp only [List.getElem?_toArray, List.getElem?_cons_zero]
    rfl
  case hsx37 => kernel_rfl
  case hfx37 => kernel_rfl
  case hrx37 => kernel_rfl
  case hyx37 =>
    refine Or.inl ⟨by rfl, ?_⟩
    intro w hSw
    (try dsimp only at hSw)
    go_simp
    try with_reducible rfl
  case hQx37 => exact fun _ _ _ h => h
  case hSx37 => assumption
  try simp only [Act.put, List.setIfInBounds_toArray, List.set_cons_zero, List.set_cons_succ]
  refine wpAnyH_take (i := 1) (oi := ?oix38) (v := ?vx38) ?hix38 ?hsx38 ?hfx38 ?hrx38 ?hQx38 ?hyx38 ?hSx38 ?hx38
  case hix38 =>
    simp only [List.getElem?_toArray, List.getElem?_cons_succ, List.getElem?_cons_zero]
    rfl
  case hsx38 => kernel_rfl
  case hfx38 => kernel_rfl
  case hrx38 => kernel_rfl
  case hyx38 =>
    refine Or.inl ⟨by rfl, ?_⟩
    intro w hSw
    (try dsimp only at hSw)
    go_simp
    try with_reducible rfl
  case hQx38 => exact fun _ _ _ h => h
  case hSx38 => assumption
  try simp only [Act.put, List.setIfInBounds_toArray, List.set_cons_zero, List.set_cons_succ]
  refine wpAnyH_take (i := 2) (oi := ?oix39) (v := ?vx39) ?hix39 ?hsx39 ?hfx39 ?hrx39 ?hQx39 ?hyx39 ?hSx39 ?hx39
  case hix39 =>
    simp only [List.getElem?_toArray, List.getElem?_cons_succ, List.getElem?_cons_zero]
    rfl
  case hsx39 => kernel_rfl
  case hfx39 => kernel_rfl
  case hrx39 => kernel_rfl
  case hyx39 =>
    refine Or.inl ⟨by rfl, ?_⟩
    intro w hSw
    (try dsimp only at hSw)
    go_simp
    try with_reducible rfl
  case hQx39 => exact fun _ _ _ h => h
  case hSx39 => assumption
  try simp only [Act.put, List.setIfInBounds_toArray, List.set_cons_zero, List.set_cons_succ]
  refine wpAnyH_take (i := 3) (oi := ?oix40) (v := ?vx40) ?hix40 ?hsx40 ?hfx40 ?hrx40 ?hQx40 ?hyx40 ?hSx40 ?hx40
  case hix40 =>
    simp only [List.getElem?_toArray, List.getElem?_cons_succ, List.getElem?_cons_zero]
    rfl
  case hsx40 => kernel_rfl
  case hfx40 => kernel_rfl
  case hrx40 => kernel_rfl
  case hyx40 =>
    refine Or.inl ⟨by rfl, ?_⟩
    intro w hSw
    (try dsimp only at hSw)
    go_simp
    try with_reducible rfl
  case hQx40 => exact fun _ _ _ h => h
  case hSx40 => assumption
  try simp only [Act.put, List.setIfInBounds_toArray, List.set_cons_zero, List.set_cons_succ]
  refine wpAnyH_take (i := 4) (oi := ?oix41) (v := (.agg #[.int .i64 N, .int .i64 E])) ?hix41 ?hsx41 ?hfx41 ?hrx41 ?hQx41 ?hyx41 ?hSx41 ?hx41
  case hix41 =>
    simp only [List.getElem?_toArray, List.getElem?_cons_succ, List.getElem?_cons_zero]
    rfl
  case hsx41 => kernel_rfl
  case hfx41 => kernel_rfl
  case hrx41 => kernel_rfl
  case hyx41 =>
    refine Or.inl ⟨by rfl, ?_⟩
    intro w hSw
    (try dsimp only at hSw)
    exact exec_load (ptr := .pointer (some ⟨bs, 1, none⟩)) 52 (.tmp 24) rfl (by rfl) hSw.2.2
  case hQx41 => exact fun _ _ _ h => h
  case hSx41 => assumption
  try simp only [Act.put, List.setIfInBounds_toArray, List.set_cons_zero, List.set_cons_succ]
  refine wpAnyH_take (i := 7) (oi := ?oix42) (v := ?vx42) ?hix42 ?hsx42 ?hfx42 ?hrx42 ?hQx42 ?hyx42 ?hSx42 ?hx42
  case hix42 =>
    simp only [List.getElem?_toArray, List.getElem?_cons_succ, List.getElem?_cons_zero]
    rfl
  case hsx42 => kernel_rfl
  case hfx42 => kernel_rfl
  case hrx42 => kernel_rfl
  case hyx42 =>
    refine Or.inl ⟨by rfl, ?_⟩
    intro w hSw
    (try dsimp only at hSw)
    go_simp
    try with_reducible rfl
  case hQx42 => exact fun _ _ _ h => h
  case hSx42 => assumption
  try simp only [Act.put, List.setIfInBounds_toArray, List.set_cons_zero, List.set_cons_succ]
  refine wpAnyH_take (i := 8) (oi := ?oix43) (v := ?vx43) ?hix43 ?hsx43 ?hfx43 ?hrx43 ?hQx43 ?hyx43 ?hSx43 ?hx43
  case hix43 =>
    simp only [List.getElem?_toArray, List.getElem?_cons_succ, List.getElem?_cons_zero]
    rfl
  case hsx43 => kernel_rfl
  case hfx43 => kernel_rfl
  case hrx43 => kernel_rfl
  case hyx43 =>
    refine Or.inl ⟨by rfl, ?_⟩
    intro w hSw
    (try dsimp only at hSw)
    go_simp
    try with_reducible rfl
  case hQx43 => exact fun _ _ _ h => h
  case hSx43 => assumption
  try simp only [Act.put, List.setIfInBounds_toArray, List.set_cons_zero, List.set_cons_succ]
  refine wpAnyH_take (i := 9) (oi := ?oix44) (v := ?vx44) ?hix44 ?hsx44 ?hfx44 ?hrx44 ?hQx44 ?hyx44 ?hSx44 ?hx44
  case hix44 =>
    simp only [List.getElem?_toArray, List.getElem?_cons_succ, List.getElem?_cons_zero]
    rfl
  case hsx44 => kernel_rfl
  case hfx44 => kernel_rfl
  case hrx44 => kernel_rfl
  case hyx44 =>
    refine Or.inl ⟨by rfl, ?_⟩
    intro w hSw
    (try dsimp only at hSw)
    go_simp
    try with_reducible rfl
  case hQx44 => exact fun _ _ _ h => h
  case hSx44 => assumption
  try simp only [Act.put, List.setIfInBounds_toArray, List.set_cons_zero, List.set_cons_succ]
  refine wpAnyH_take (i := 10) (oi := ?oix45) (v := ?vx45) ?hix45 ?hsx45 ?hfx45 ?hrx45 ?hQx45 ?hyx45 ?hSx45 ?hx45
  case hix45 =>
    simp only [List.getElem?_toArray, List.getElem?_cons_succ, List.getElem?_cons_zero]
    rfl
  case hsx45 => kernel_rfl
  case hfx45 => kernel_rfl
  case hrx45 => kernel_rfl
  case hyx45 =>
    refine Or.inl ⟨by rfl, ?_⟩
    intro w hSw
    (try dsimp only at hSw)
    go_simp
    try with_reducible rfl
  case hQx45 => exact fun _ _ _ h => h
  case hSx45 => assumption
  try simp only [Act.put, List.setIfInBounds_toArray, List.set_cons_zero, List.set_cons_succ]
  refine wpAnyH_take (i := 11) (oi := ?oix46) (v := ?vx46) ?hix46 ?hsx46 ?hfx46 ?hrx46 ?hQx46 ?hyx46 ?hSx46 ?hx46
  case hix46 =>
    simp only [List.getElem?_toArray, List.getElem?_cons_succ, List.getElem?_cons_zero]
    rfl
  case hsx46 => kernel_rfl
  case hfx46 => kernel_rfl
  case hrx46 => kernel_rfl
  case hyx46 =>
    refine Or.inl ⟨by rfl, ?_⟩
    intro w hSw
    (try dsimp only at hSw)
    go_simp
    try with_reducible rfl
  case hQx46 => exact fun _ _ _ h => h
  case hSx46 => assumption
  try simp only [Act.put, List.setIfInBounds_toArray, List.set_cons_zero, List.set_cons_succ]
  refine wpAnyH_ready (rs := [5]) (by kernel_rfl) (by simp) ?_
  refine AllReadyH.cons (o := ?ox47) ?ix47 ?kx47 AllReadyH.nil
  case ix47 =>
    simp only [List.getElem?_toArray, List.getElem?_cons_succ, List.getElem?_cons_zero]
    rfl
  intro K hK
  go_simp
  go_at_call 43
  refine (WD.out _).mono ?_
  rintro r wa ⟨rfl, hba⟩
  have hba : Below w8.heap.size w8 wa := ⟨hba.os, hba.tape, hba.output, hba.size, hba.block⟩
  have hsa := HS.out.below hba
  have hta := HT.out.trans (Turned.of_below (S := fun i => i = bs ∨ i = br) hba (fun i hi _ => hi))
  clear HS HT hba
  have HS := Lib.hid hsa
  have HT := Lib.hid hta
  clear hsa hta
  refine hK.out _ _ (src_cells HS.out) (fun hHeld => ?_)
  clear hK K
  try simp only [Act.put, List.setIfInBounds_toArray, List.set_cons_zero, List.set_cons_succ]
  by_cases s3 : 8 * n < at_ + 1 + 1 + 5 + 6 + (64 - N - E)
  · skip
    refine wpAnyH_ready (rs := [6]) (by kernel_rfl) (by simp) ?_
    refine AllReadyH.cons (o := ?ox48) ?ix48 ?kx48 AllReadyH.nil
    case ix48 =>
      simp only [List.getElem?_toArray, List.getElem?_cons_succ, List.getElem?_cons_zero]
      rfl
    intro K hK
    go_simp
    go_at_call 31
    refine (NS.out s3 _ (src_cells HS.out).1 HS.out.2.1).mono ?_
    rintro r wb ⟨rfl, j, rfl⟩
    exact ⟨rfl, nextEnd_err (HD.out.trans (show dtail _ _ _ = (1, 0, _) from by unfold dtail; rw [if_neg hnone, if_pos s3])) (by decide) (HT.out.drewN j)⟩
  · skip
    have hsh := HSH.out s3
    refine wpAnyH_ready (rs := [6]) (by kernel_rfl) (by simp) ?_
    refine AllReadyH.cons (o := ?ox49) ?ix49 ?kx49 AllReadyH.nil
    case ix49 =>
      simp only [List.getElem?_toArray, List.getElem?_cons_succ, List.getElem?_cons_zero]
      rfl
    intro K hK
    go_simp
    go_at_call 31
    refine (NB.out s3 _ (src_cells HS.out).1 HS.out.2.1).mono ?_
    rintro r wb ⟨rfl, hrb, htb⟩
    have hsb := HS.out.read hrb htb
    have htb2 := HT.out.trans (turned_br (bs := bs) htb)
    clear HS HT hrb htb
    have HS := Lib.hid hsb
    have HT := Lib.hid htb2
    clear hsb htb2
    refine hK.out _ _ (src_cells HS.out) (fun hHeld => ?_)
    clear hK K
    try simp only [Act.put, List.setIfInBounds_toArray, List.set_cons_zero, List.set_cons_succ]
    refine wpAnyH_take (i := 12) (oi := ?oix50) (v := ?vx50) ?hix50 ?hsx50 ?hfx50 ?hrx50 ?hQx50 ?hyx50 ?hSx50 ?hx50
    case hix50 =>
      simp only [List.getElem?_toArray, List.getElem?_cons_succ, List.getElem?_cons_zero]
      rfl
    case hsx50 => kernel_rfl
    case hfx50 => kernel_rfl
    case hrx50 => kernel_rfl
    case hyx50 =>
      refine Or.inl ⟨by rfl, ?_⟩
      intro w hSw
      (try dsimp only at hSw)
      go_simp
      try with_reducible rfl
    case hQx50 => exact fun _ _ _ h => h
    case hSx50 => assumption
    try simp only [Act.put, List.setIfInBounds_toArray, List.set_cons_zero, List.set_cons_succ]
    refine wpAnyH_take (i := 13) (oi := ?oix51) (v := ?vx51) ?hix51 ?hsx51 ?hfx51 ?hrx51 ?hQx51 ?hyx51 ?hSx51 ?hx51
    case hix51 =>
      simp only [List.getElem?_toArray, List.getElem?_cons_succ, List.getElem?_cons_zero]
      rfl
    case hsx51 => kernel_rfl
    case hfx51 => kernel_rfl
    case hrx51 => kernel_rfl
    case hyx51 =>
      refine Or.inl ⟨by rfl, ?_⟩
      intro w hSw
      (try dsimp only at hSw)
      go_simp
      try with_reducible rfl
    case hQx51 => exact fun _ _ _ h => h
    case hSx51 => assumption
    try simp only [Act.put, List.setIfInBounds_toArray, List.set_cons_zero, List.set_cons_succ]
    refine wpAnyH_done (by kernel_rfl) ?_ _
    go_wp2_with fail
    go_ret
    exact nextEnd_ok (HD.out.trans (show dtail _ _ _ = (0, _, _) from by unfold dtail; rw [if_neg hnone, if_neg s3, HV.out])) HT.out HS.out
end Go.Proofs.YtejiboinkapkcaaDoor
