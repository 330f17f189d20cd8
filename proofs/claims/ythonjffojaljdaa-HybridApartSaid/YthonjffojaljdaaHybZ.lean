/-
  CONTRACT OF corduroylaw07.Back of Hybrid, in any world. Conditions: at most 1100 numbers, which lie in memory as told.
-/
import Derived.Test.YthonjffojaljdaaHybY
import Derived.Test.YthonjffojaljdaaPlainF
import Derived.Test.YthonjffojaljdaaSameI
import Derived.Test.YthonjffojaljdaaAskRef
import Derived.Deep.RegionHeld3
import Derived.Laws.EntriesVeiled
namespace Go.Proofs.Ythonjffojaljdaa
open Go.ChangeShapes Go.WideShapes Go.ChangeAt Go.RowKit
set_option linter.unusedVariables false
theorem hnil_ahead (k : Nat) (w : World) : (nilAhead (k + 1) 25 (.agg #[]) "Decode").run Try.prog w = .ok (some false) w := by kernel_rfl
theorem digs_byteh : ∀ k v, v < 128 ^ (k + 1) → ∀ y ∈ digs k v, 0 ≤ y ∧ y ≤ 255
  | 0, v, h => by simp [digs]; omega
  | k + 1, v, h => by
    unfold digs
    split
    · simp; omega
    · intro y hy
      rcases List.mem_cons.1 hy with rfl | hy
      · omega
      · exact digs_byteh k (v / 128) (by rw [Nat.pow_succ] at h; omega) y hy
theorem bytesOf_mem (n N : Nat) : ∀ y ∈ bytesOf n N, 0 ≤ y ∧ y ≤ 255 := by
  intro y hy
  unfold bytesOf at hy
  obtain ⟨i, _, rfl⟩ := List.mem_map.1 hy
  omega
theorem chain_bd (zz : Nat → Nat) (n q : Nat) (hn : n ≤ 1024) (hq : q ≤ 64) : ∀ (l : List (Bool × Nat × Nat)) (p : Nat), (∀ r, r ∈ l → clr zz n r = r) → Chain zz n p l → (∀ y ∈ hB zz n q l, 0 ≤ y ∧ y ≤ 255) ∧ hW zz n q l ≤ 8 * lenS l + 66 * l.length
  | [], p, _, _ => ⟨fun y hy => (by cases hy), Nat.zero_le _⟩
  | r :: l, p, hc, hch => by
    obtain ⟨hp, hr, hch2⟩ := hch
    have ih := chain_bd zz n q hn hq l _ (fun y hy => hc y (List.mem_cons_of_mem _ hy)) hch2
    have hcr := hc r List.mem_cons_self
    have hhd : hd1 r ≤ 2048 := hd1_le r (by have := hr.2.1; omega)
    have hdl := digs_len 9 (hd1 r)
    have hb : bs1 q r ≤ 8 * r.2.2 + 56 := by
      unfold bs1
      have hg : 8 * grp r.2.2 * q ≤ 8 * grp r.2.2 * 64 := Nat.mul_le_mul_left _ hq
      have hg2 : grp r.2.2 = (r.2.2 + 7) / 8 := rfl
      split
      · unfold need; omega
      · unfold need; omega
    refine ⟨fun y hy => ?_, ?_⟩
    · rw [hB, hcr] at hy
      rcases List.mem_append.1 hy with hy | hy
      · rcases List.mem_append.1 hy with hy | hy
        · exact digs_byteh 9 (hd1 r) (by rw [pow128h]; omega) y hy
        · unfold bd1 at hy
          split at hy
          · exact bytesOf_mem _ _ y hy
          · exact bytesOf_mem _ _ y hy
      · exact ih.1 y hy
    · rw [hW, hcr]
      have := ih.2
      simp only [lenS, List.length_cons]
      omega
theorem hln_bd (x : Nat → Int) (n : Nat) (hn : n ≤ 1024) : 1 ≤ hln x n ∧ hln x n ≤ 76000 := by
  have he := hln_eq x n
  have hq64 : hq x n ≤ 64 := most_le (hz x) n
  have hch := runsF_chain (hz x) n n 0 (by omega) (by omega)
  have hb := (chain_bd (hz x) n (hq x n) hn hq64 (runsN (hz x) n) 0 (fun r hr => clr_eq _ _ _ hr) hch.1).2
  have hl : 0 + lenS (runsN (hz x) n) = n := hch.2
  have hrl := runsF_len (hz x) n n 0
  have hrl2 : (runsN (hz x) n).length ≤ n := by unfold runsN; omega
  omega
theorem hfm_byte (x : Nat → Int) (n : Nat) (hn : n ≤ 1024) (i : Nat) (hi : i < hln x n) : 0 ≤ (hfm x n).getD i 0 ∧ (hfm x n).getD i 0 ≤ 255 := by
  have hl : i < (hfm x n).length := hi
  rw [List.getD_eq_getElem?_getD, List.getElem?_eq_getElem hl]
  have hm : (hfm x n)[i] ∈ hfm x n := List.getElem_mem hl
  generalize (hfm x n)[i] = y at *
  have hq64 : hq x n ≤ 64 := most_le (hz x) n
  rcases List.mem_append.1 (show y ∈ [(hq x n : Int)] ++ hB (hz x) n (hq x n) (runsN (hz x) n) from hm) with h | h
  · rw [List.mem_singleton.1 h]
    show 0 ≤ (hq x n : Int) ∧ (hq x n : Int) ≤ 255
    omega
  · exact (chain_bd (hz x) n (hq x n) hn hq64 (runsN (hz x) n) 0 (fun r hr => clr_eq _ _ _ hr) (runsF_chain (hz x) n n 0 (by omega) (by omega)).1).1 y h
theorem hback_out (a : Option Addr) (n cap : Nat) (x : Nat → Int) (hx : ∀ i, i < n → -9223372036854775808 ≤ x i ∧ x i ≤ 9223372036854775807) (hb : blk n = false) (w : World) (h : RowOf w a n (fun i => .int .i64 (x i))) :
    Calls Try.prog 22 #[.iface 25 (.agg #[]), .slice a n cap] w fun e w' => e = .returned (.bool true) ∧ Below w.heap.size w w' := by
  have EN := Lib.hid (fun W => hencode_out a n cap hb W)
  have SZ := fun W hW => hsize_any a n cap x hx W hW
  simp only [hb] at SZ
  have SZ := Lib.hid SZ
  have H := Lib.hid h
  have m1 := hm_encode
  have m3 := hm_size
  clear hb h hx
  go_enter Try.func22, Try.ntmps22
  go_wp2_with (first
    | (go_at_call 23; refine (EN.out _).mono ?_; rintro e w1 ⟨rfl, hb⟩; have HB1 := Lib.hid hb; clear hb)
    | (go_at_call 20; refine (SZ.out _ (H.out.below HB1.out)).mono ?_; rintro e w4 ⟨rfl, hb⟩; have HB4 := Lib.hid hb; clear hb))
  go_ret
  exact ⟨rfl, HB1.out.trans (HB4.out.mono HB1.out.size)⟩
set_option maxRecDepth 100000 in
set_option maxHeartbeats 4000000 in
theorem hback_in (a : Option Addr) (n cap : Nat) (x : Nat → Int) (hb : blk n = true) (hx : ∀ i, i < n → -9223372036854775808 ≤ x i ∧ x i ≤ 9223372036854775807) (w : World) (h : RowOf w a n (fun i => .int .i64 (x i))) :
    Calls Try.prog 22 #[.iface 25 (.agg #[]), .slice a n cap] w fun e w' => e = .returned (.bool true) ∧ Below w.heap.size w w' := by
  have hmf : ∀ (fn : Fn) (first cap : Array Value) (w : World), (Instr.makeFunc fn first cap).run Try.prog w = .ok (.func fn first cap) w := fun _ _ _ _ => rfl
  obtain ⟨i0, hi, hz0, hz1, hz2⟩ := info_parts byteInfo
  have hn : 1 ≤ n ∧ n ≤ 1024 := by have := of_decide_eq_true hb; omega
  obtain ⟨hn1, hn2⟩ := hn
  have EN := Lib.hid (hencode_in a n cap x hx hb w h)
  have SZ := fun W hW => hsize_any a n cap x hx W hW
  simp only [hb, if_true] at SZ
  have hzl := hln_bd x n hn2
  have SZ := Lib.hid SZ
  have HPL := Lib.hid (show (hfm x n).length = hln x n from rfl)
  -- the three decodings
  have hget : ∀ i, i < hln x n → (fun i => (hfm x n).getD i 0) i = (hfm x n).getD i 0 := fun i hi => rfl
  have D1 := Lib.hid (fun (W : World) (a1 : Option Addr) (c1 : Nat) (hr : RowOf W a1 (hln x n) (fun i => .int .u8 ((hfm x n).getD i 0))) => (show Calls Try.prog 15 #[.agg #[], .slice a1 (hln x n) c1, .int .i64 n] W fun e w' => ∃ a2 c2, e = .returned (.tuple #[.slice a2 n c2, .int .i64 0]) ∧ RowOf w' a2 n (fun i => .int .i64 (x i)) ∧ Below W.heap.size W w' from by
    have hrun := hres_told x n (fun i => (hfm x n).getD i 0) (hln x n) hn1 hn2 hx (Nat.le_refl _) hget
    have hp : herr (fun i => (hfm x n).getD i 0) n (hln x n) = 0 := by unfold herr rerr; rw [hrun]; simp
    have hq : hnums (fun i => (hfm x n).getD i 0) n (hln x n) = (List.range n).map x := by unfold hnums rnums; rw [if_pos (show rerr _ _ _ = 0 from hp), hrun]
    have := hdecode_in a1 (hln x n) c1 n (fun i => (hfm x n).getD i 0) (fun i hi => hfm_byte x n hn2 i hi) (by omega) hb W hr
    rw [hp, hq] at this
    refine this.mono fun e w' ⟨a2, c2, he, hr2, hb2⟩ => ⟨a2, c2, by rw [he]; simp, ?_, hb2⟩
    have h3 : ((List.range n).map x).length = n := by simp
    rw [h3] at hr2
    exact hr2.congr fun i hi => by simp [hi]))
  have D2 := Lib.hid (fun (W : World) (a1 : Option Addr) (c1 : Nat) (hr : RowOf W a1 (hln x n) (fun i => .int .u8 ((hfm x n).getD i 0))) => (show Calls Try.prog 15 #[.agg #[], .slice a1 (hln x n - 1) c1, .int .i64 n] W fun e w' => ∃ a2 c2, e = .returned (.tuple #[.slice a2 0 c2, .int .i64 1]) ∧ Below W.heap.size W w' from by
    have hrun := hres_cut x n (fun i => (hfm x n).getD i 0) hn1 hn2 hx (fun i hi => rfl)
    have hp : herr (fun i => (hfm x n).getD i 0) n (hln x n - 1) = 1 := by unfold herr rerr; rw [if_neg (by rw [hrun]; decide), hrun]
    have hq : hnums (fun i => (hfm x n).getD i 0) n (hln x n - 1) = [] := by unfold hnums rnums; rw [if_neg (show ¬ rerr _ _ _ = 0 from fun e => by rw [show rerr _ _ _ = _ from hp] at e; cases e)]
    have hr1 : RowOf W a1 (hln x n - 1) (fun i => .int .u8 ((hfm x n).getD i 0)) := by
      obtain ⟨b, off, rfl, _, hc⟩ := hr.at_ (i := 0) (by omega)
      exact .inr ⟨b, off, rfl, fun i hi => hc i (by omega)⟩
    have := hdecode_in a1 (hln x n - 1) c1 n (fun i => (hfm x n).getD i 0) (fun i hi => hfm_byte x n hn2 i (by omega)) (by omega) hb W hr1
    rw [hp, hq] at this
    exact this.mono fun e w' ⟨a2, c2, he, hr2, hb2⟩ => ⟨a2, c2, he, hb2⟩))
  have D3 := Lib.hid (fun (W : World) (a1 : Option Addr) (c1 : Nat) (hr : RowOf W a1 (hln x n + 1) (fun i => .int .u8 ((hfm x n ++ [0]).getD i 0))) => (show Calls Try.prog 15 #[.agg #[], .slice a1 (hln x n + 1) c1, .int .i64 n] W fun e w' => ∃ a2 c2, e = .returned (.tuple #[.slice a2 0 c2, .int .i64 2]) ∧ Below W.heap.size W w' from by
    have hl := HPL.out
    have hrun := hres_told x n (fun i => (hfm x n ++ [0]).getD i 0) (hln x n + 1) hn1 hn2 hx (by omega) (fun i hi => by show (hfm x n ++ [0]).getD i 0 = _; rw [List.getD_eq_getElem?_getD, List.getElem?_append_left (by omega), ← List.getD_eq_getElem?_getD])
    have hp : herr (fun i => (hfm x n ++ [0]).getD i 0) n (hln x n + 1) = 2 := by unfold herr rerr; rw [hrun]; simp
    have hq : hnums (fun i => (hfm x n ++ [0]).getD i 0) n (hln x n + 1) = [] := by unfold hnums rnums; rw [if_neg (show ¬ rerr _ _ _ = 0 from fun e => by rw [show rerr _ _ _ = _ from hp] at e; cases e)]
    have := hdecode_in a1 (hln x n + 1) c1 n (fun i => (hfm x n ++ [0]).getD i 0) (fun i hi => by
      by_cases e : i < hln x n
      · have := hfm_byte x n hn2 i e
        rw [List.getD_eq_getElem?_getD, List.getElem?_append_left (by omega), ← List.getD_eq_getElem?_getD]; exact this
      · obtain rfl : i = hln x n := by omega
        rw [List.getD_eq_getElem?_getD, List.getElem?_append_right (by omega), hl, Nat.sub_self]; decide) (by omega) hb W hr
    rw [hp, hq] at this
    exact this.mono fun e w' ⟨a2, c2, he, hr2, hb2⟩ => ⟨a2, c2, he, hb2⟩))
  have SM := Lib.hid (fun (a1 : Option Addr) (c1 : Nat) W (h1 : RowOf W a1 n (fun i => .int .i64 (x i))) (h2 : RowOf W a n (fun i => .int .i64 (x i))) => samei a1 a n n c1 cap _ _ (by omega) W h1 h2 true (by simp))
  have H := Lib.hid h
  have m1 := hm_encode
  have m3 := hm_size
  have m4 := hm_decode
  have m5 := hnil_ahead
  have k1 : ¬ hln x n = 0 := by omega
  clear h hb hget
  obtain ⟨L, hL⟩ : ∃ L, hln x n = L := ⟨_, rfl⟩
  rw [hL] at EN SZ D1 D2 D3 HPL k1 hzl
  clear hx
  generalize hfm x n = bs at *
  have HL := Lib.hid hzl
  have l1 : (0 : Int) < (L : Int) := by omega
  have l2 : (L : Int) - 1 = ((L - 1 : Nat) : Int) := by omega
  have l3 : IntKind.i64.wrap ((L - 1 : Nat) : Int) = ((L - 1 : Nat) : Int) := IntWalk.i64_in _ (by omega)
  clear hL hzl
  go_enter Try.func22, Try.ntmps22
  go_wp2_with (first
    | (go_at_call 23; refine EN.out.mono ?_; rintro e w1 ⟨v1, rfl, ho, hb⟩; obtain ⟨a1, c1, rfl, hr1, hc1, hc2, _⟩ := own_bytes ho; have HR1 := Lib.hid hr1; have HB1 := Lib.hid hb; have HC1 := Lib.hid (And.intro hc1 hc2); clear hb ho hr1 hc1 hc2)
    | (go_at_call 15; refine (D1.out _ _ _ HR1.out).mono ?_; rintro e w2 ⟨a2, c2, rfl, hr2, hb⟩; have HR2 := Lib.hid hr2; have HB2 := Lib.hid hb; clear hb hr2)
    | (go_at_call 17; refine (SM.out _ _ _ HR2.out ((H.out.below HB1.out).below HB2.out)).mono ?_; rintro e w3 ⟨rfl, hb⟩; have HB3 := Lib.hid hb; clear hb)
    | (go_at_call 20; refine (SZ.out _ (((H.out.below HB1.out).below HB2.out).below HB3.out)).mono ?_; rintro e w4 ⟨rfl, hb⟩; have HB4 := Lib.hid hb; clear hb))
  have hb4 : Below w.heap.size w w4 := ((HB1.out.trans (HB2.out.mono HB1.out.size)).trans (HB3.out.mono (Nat.le_trans HB1.out.size HB2.out.size))).trans (HB4.out.mono (Nat.le_trans HB1.out.size (Nat.le_trans HB2.out.size HB3.out.size)))
  have hr4 : RowOf w4 a1 L (fun i => .int .u8 (bs.getD i 0)) := ((HR1.out.below HB2.out).below HB3.out).below HB4.out
  have HB4 := Lib.hid hb4
  have HR4 := Lib.hid hr4
  have c5 : (L : Int) ≤ c1 := by have := HC1.out.1; omega
  have c6 : (c1 : Int) ≤ 9223372036854775807 := by have := HC1.out.2; unfold maxLen at this; omega
  have c7 : ((L - 1 : Nat) : Int) ≤ c1 := by omega
  clear hb4 hr4 HR1 HB1 HR2 HB2 HB3 D1 EN SM
  refine wp_region_held_drew (S := (fun _ : World => True)) (by kernel_rfl) trivial (fun hHeld => ?_)
  refine wpAnyH_take (i := 0) (oi := ?oix37) (v := ?vx37) ?hix37 ?hsx37 ?hfx37 ?hrx37 ?hQx37 ?hyx37 ?hSx37 ?hx37
  case hix37 =>
    simp only [List.getElem?_toArray, List.getElem?_cons_zero]
    rfl
  case hsx37 => kernel_rfl
  case hfx37 => kernel_rfl
  case hrx37 => kernel_rfl
  case hyx37 =>
    refine Or.inl ⟨by rfl, ?_⟩
    intro w hSw
    (try dsimp only at hSw)
    go_simp
    try with_reducible rfl
  case hQx37 => exact fun _ _ _ h => h
  case hSx37 => trivial
  try simp only [Act.put, List.setIfInBounds_toArray, List.set_cons_zero, List.set_cons_succ]
  refine wpAnyH_take (i := 1) (oi := ?oix38) (v := ?vx38) ?hix38 ?hsx38 ?hfx38 ?hrx38 ?hQx38 ?hyx38 ?hSx38 ?hx38
  case hix38 =>
    simp only [List.getElem?_toArray, List.getElem?_cons_succ, List.getElem?_cons_zero]
    rfl
  case hsx38 => kernel_rfl
  case hfx38 => kernel_rfl
  case hrx38 => kernel_rfl
  case hyx38 =>
    refine Or.inl ⟨by rfl, ?_⟩
    intro w hSw
    (try dsimp only at hSw)
    go_simp
    try with_reducible rfl
  case hQx38 => exact fun _ _ _ h => h
  case hSx38 => trivial
  try simp only [Act.put, List.setIfInBounds_toArray, List.set_cons_zero, List.set_cons_succ]
  refine wpAnyH_take (i := 2) (oi := ?oix39) (v := ?vx39) ?hix39 ?hsx39 ?hfx39 ?hrx39 ?hQx39 ?hyx39 ?hSx39 ?hx39
  case hix39 =>
    simp only [List.getElem?_toArray, List.getElem?_cons_succ, List.getElem?_cons_zero]
    rfl
  case hsx39 => kernel_rfl
  case hfx39 => kernel_rfl
  case hrx39 => kernel_rfl
  case hyx39 =>
    refine Or.inl ⟨by rfl, ?_⟩
    intro w hSw
    (try dsimp only at hSw)
    go_simp
    try with_reducible rfl
  case hQx39 => exact fun _ _ _ h => h
  case hSx39 => trivial
  try simp only [Act.put, List.setIfInBounds_toArray, List.set_cons_zero, List.set_cons_succ]
  refine wpAnyH_take (i := 3) (oi := ?oix40) (v := ?vx40) ?hix40 ?hsx40 ?hfx40 ?hrx40 ?hQx40 ?hyx40 ?hSx40 ?hx40
  case hix40 =>
    simp only [List.getElem?_toArray, List.getElem?_cons_succ, List.getElem?_cons_zero]
    rfl
  case hsx40 => kernel_rfl
  case hfx40 => kernel_rfl
  case hrx40 => kernel_rfl
  case hyx40 =>
    refine Or.inl ⟨by rfl, ?_⟩
    intro w hSw
    (try dsimp only at hSw)
    go_simp
    try with_reducible rfl
  case hQx40 => exact fun _ _ _ h => h
  case hSx40 => trivial
  try simp only [Act.put, List.setIfInBounds_toArray, List.set_cons_zero, List.set_cons_succ]
  refine wpAnyH_take (i := 4) (oi := ?oix41) (v := ?vx41) ?hix41 ?hsx41 ?hfx41 ?hrx41 ?hQx41 ?hyx41 ?hSx41 ?hx41
  case hix41 =>
    simp only [List.getElem?_toArray, List.getElem?_cons_succ, List.getElem?_cons_zero]
    rfl
  case hsx41 => kernel_rfl
  case hfx41 => kernel_rfl
  case hrx41 => kernel_rfl
  case hyx41 =>
    refine Or.inl ⟨by rfl, ?_⟩
    intro w hSw
    (try dsimp only at hSw)
    go_simp
    try with_reducible rfl
  case hQx41 => exact fun _ _ _ h => h
  case hSx41 => trivial
  try simp only [Act.put, List.setIfInBounds_toArray, List.set_cons_zero, List.set_cons_succ]
  refine wpAnyH_take (i := 5) (oi := ?oix42) (v := ?vx42) ?hix42 ?hsx42 ?hfx42 ?hrx42 ?hQx42 ?hyx42 ?hSx42 ?hx42
  case hix42 =>
    simp only [List.getElem?_toArray, List.getElem?_cons_succ, List.getElem?_cons_zero]
    rfl
  case hsx42 => kernel_rfl
  case hfx42 => kernel_rfl
  case hrx42 => kernel_rfl
  case hyx42 =>
    refine Or.inl ⟨by rfl, ?_⟩
    intro w hSw
    (try dsimp only at hSw)
    go_simp
    try with_reducible rfl
  case hQx42 => exact fun _ _ _ h => h
  case hSx42 => trivial
  try simp only [Act.put, List.setIfInBounds_toArray, List.set_cons_zero, List.set_cons_succ]
  refine wpAnyH_take (i := 6) (oi := ?oix43) (v := ?vx43) ?hix43 ?hsx43 ?hfx43 ?hrx43 ?hQx43 ?hyx43 ?hSx43 ?hx43
  case hix43 =>
    simp only [List.getElem?_toArray, List.getElem?_cons_succ, List.getElem?_cons_zero]
    rfl
  case hsx43 => kernel_rfl
  case hfx43 => kernel_rfl
  case hrx43 => kernel_rfl
  case hyx43 =>
    refine Or.inl ⟨by rfl, ?_⟩
    intro w hSw
    (try dsimp only at hSw)
    go_simp
    try with_reducible rfl
  case hQx43 => exact fun _ _ _ h => h
  case hSx43 => trivial
  try simp only [Act.put, List.setIfInBounds_toArray, List.set_cons_zero, List.set_cons_succ]
  refine wpAnyH_take (i := 7) (oi := ?oix44) (v := ?vx44) ?hix44 ?hsx44 ?hfx44 ?hrx44 ?hQx44 ?hyx44 ?hSx44 ?hx44
  case hix44 =>
    simp only [List.getElem?_toArray, List.getElem?_cons_succ, List.getElem?_cons_zero]
    rfl
  case hsx44 => kernel_rfl
  case hfx44 => kernel_rfl
  case hrx44 => kernel_rfl
  case hyx44 =>
    refine Or.inl ⟨by rfl, ?_⟩
    intro w hSw
    (try dsimp only at hSw)
    go_simp
    try with_reducible rfl
  case hQx44 => exact fun _ _ _ h => h
  case hSx44 => trivial
  try simp only [Act.put, List.setIfInBounds_toArray, List.set_cons_zero, List.set_cons_succ]
  refine wpAnyH_take (i := 8) (oi := ?oix45) (v := ?vx45) ?hix45 ?hsx45 ?hfx45 ?hrx45 ?hQx45 ?hyx45 ?hSx45 ?hx45
  case hix45 =>
    simp only [List.getElem?_toArray, List.getElem?_cons_succ, List.getElem?_cons_zero]
    rfl
  case hsx45 => kernel_rfl
  case hfx45 => kernel_rfl
  case hrx45 => kernel_rfl
  case hyx45 =>
    refine Or.inl ⟨by rfl, ?_⟩
    intro w hSw
    (try dsimp only at hSw)
    go_simp
    try with_reducible rfl
  case hQx45 => exact fun _ _ _ h => h
  case hSx45 => trivial
  try simp only [Act.put, List.setIfInBounds_toArray, List.set_cons_zero, List.set_cons_succ]
  refine wpAnyH_take (i := 9) (oi := ?oix46) (v := ?vx46) ?hix46 ?hsx46 ?hfx46 ?hrx46 ?hQx46 ?hyx46 ?hSx46 ?hx46
  case hix46 =>
    simp only [List.getElem?_toArray, List.getElem?_cons_succ, List.getElem?_cons_zero]
    rfl
  case hsx46 => kernel_rfl
  case hfx46 => kernel_rfl
  case hrx46 => kernel_rfl
  case hyx46 =>
    refine Or.inl ⟨by rfl, ?_⟩
    intro w hSw
    (try dsimp only at hSw)
    go_simp
    try with_reducible rfl
  case hQx46 => exact fun _ _ _ h => h
  case hSx46 => trivial
  try simp only [Act.put, List.setIfInBounds_toArray, List.set_cons_zero, List.set_cons_succ]
  refine wpAnyH_take (i := 10) (oi := ?oix47) (v := ?vx47) ?hix47 ?hsx47 ?hfx47 ?hrx47 ?hQx47 ?hyx47 ?hSx47 ?hx47
  case hix47 =>
    simp only [List.getElem?_toArray, List.getElem?_cons_succ, List.getElem?_cons_zero]
    rfl
  case hsx47 => kernel_rfl
  case hfx47 => kernel_rfl
  case hrx47 => kernel_rfl
  case hyx47 =>
    refine Or.inl ⟨by rfl, ?_⟩
    intro w hSw
    (try dsimp only at hSw)
    go_simp
    try with_reducible rfl
  case hQx47 => exact fun _ _ _ h => h
  case hSx47 => trivial
  try simp only [Act.put, List.setIfInBounds_toArray, List.set_cons_zero, List.set_cons_succ]
  refine wpAnyH_ready (rs := [11]) (by kernel_rfl) (by simp) ?_
  refine AllReadyH.cons (o := ?ox48) ?ix48 ?kx48 AllReadyH.nil
  case ix48 =>
    simp only [List.getElem?_toArray, List.getElem?_cons_succ, List.getElem?_cons_zero]
    rfl
  intro K hK
  go_simp
  go_at_call 15
  refine (D2.out _ _ _ (HR4.out.below (Below.refl w4.heap.size w4).drew)).mono ?_
  rintro e w6 ⟨a6, c6, rfl, hb⟩
  have HB6 := Lib.hid (show Below w4.heap.size w4 w6 from ⟨hb.os, hb.tape, hb.output, hb.size, hb.block⟩)
  clear hb
  refine hK.out _ _ trivial (fun hHeld => ?_)
  clear hK K
  try simp only [Act.put, List.setIfInBounds_toArray, List.set_cons_zero, List.set_cons_succ]
  refine wpAnyH_take (i := 12) (oi := ?oix49) (v := ?vx49) ?hix49 ?hsx49 ?hfx49 ?hrx49 ?hQx49 ?hyx49 ?hSx49 ?hx49
  case hix49 =>
    simp only [List.getElem?_toArray, List.getElem?_cons_succ, List.getElem?_cons_zero]
    rfl
  case hsx49 => kernel_rfl
  case hfx49 => kernel_rfl
  case hrx49 => kernel_rfl
  case hyx49 =>
    refine Or.inl ⟨by rfl, ?_⟩
    intro w hSw
    (try dsimp only at hSw)
    go_simp
    try with_reducible rfl
  case hQx49 => exact fun _ _ _ h => h
  case hSx49 => trivial
  try simp only [Act.put, List.setIfInBounds_toArray, List.set_cons_zero, List.set_cons_succ]
  refine wpAnyH_take (i := 13) (oi := ?oix50) (v := ?vx50) ?hix50 ?hsx50 ?hfx50 ?hrx50 ?hQx50 ?hyx50 ?hSx50 ?hx50
  case hix50 =>
    simp only [List.getElem?_toArray, List.getElem?_cons_succ, List.getElem?_cons_zero]
    rfl
  case hsx50 => kernel_rfl
  case hfx50 => kernel_rfl
  case hrx50 => kernel_rfl
  case hyx50 =>
    refine Or.inl ⟨by rfl, ?_⟩
    intro w hSw
    (try dsimp only at hSw)
    go_simp
    try with_reducible rfl
  case hQx50 => exact fun _ _ _ h => h
  case hSx50 => trivial
  try simp only [Act.put, List.setIfInBounds_toArray, List.set_cons_zero, List.set_cons_succ]
  refine wpAnyH_take (i := 14) (oi := ?oix51) (v := ?vx51) ?hix51 ?hsx51 ?hfx51 ?hrx51 ?hQx51 ?hyx51 ?hSx51 ?hx51
  case hix51 =>
    simp only [List.getElem?_toArray, List.getElem?_cons_succ, List.getElem?_cons_zero]
    rfl
  case hsx51 => kernel_rfl
  case hfx51 => kernel_rfl
  case hrx51 => kernel_rfl
  case hyx51 =>
    refine Or.inl ⟨by rfl, ?_⟩
    intro w hSw
    (try dsimp only at hSw)
    go_simp
    try with_reducible rfl
  case hQx51 => exact fun _ _ _ h => h
  case hSx51 => trivial
  try simp only [Act.put, List.setIfInBounds_toArray, List.set_cons_zero, List.set_cons_succ]
  refine wpAnyH_take (i := 15) (oi := ?oix52) (v := ?vx52) ?hix52 ?hsx52 ?hfx52 ?hrx52 ?hQx52 ?hyx52 ?hSx52 ?hx52
  case hix52 =>
    simp only [List.getElem?_toArray, List.getElem?_cons_succ, List.getElem?_cons_zero]
    rfl
  case hsx52 => kernel_rfl
  case hfx52 => kernel_rfl
  case hrx52 => kernel_rfl
  case hyx52 =>
    refine Or.inl ⟨by rfl, ?_⟩
    intro w hSw
    (try dsimp only at hSw)
    go_simp
    try with_reducible rfl
  case hQx52 => exact fun _ _ _ h => h
  case hSx52 => trivial
  try simp only [Act.put, List.setIfInBounds_toArray, List.set_cons_zero, List.set_cons_succ]
  refine wpAnyH_take (i := 16) (oi := ?oix53) (v := ?vx53) ?hix53 ?hsx53 ?hfx53 ?hrx53 ?hQx53 ?hyx53 ?hSx53 ?hx53
  case hix53 =>
    simp only [List.getElem?_toArray, List.getElem?_cons_succ, List.getElem?_cons_zero]
    rfl
  case hsx53 => kernel_rfl
  case hfx53 => kernel_rfl
  case hrx53 => kernel_rfl
  case hyx53 =>
    refine Or.inl ⟨by rfl, ?_⟩
    intro w hSw
    (try dsimp only at hSw)
    go_simp
    try with_reducible rfl
  case hQx53 => exact fun _ _ _ h => h
  case hSx53 => trivial
  try simp only [Act.put, List.setIfInBounds_toArray, List.set_cons_zero, List.set_cons_succ]
  refine wpAnyH_done (by kernel_rfl) ?_ _
  go_wp2_with fail
  refine wp_region_held_drew (S := (fun _ : World => True)) (by kernel_rfl) trivial (fun hHeld => ?_)
  refine wpAnyH_take (i := 0) (oi := ?oix1) (v := ?vx1) ?hix1 ?hsx1 ?hfx1 ?hrx1 ?hQx1 ?hyx1 ?hSx1 ?hx1
  case hix1 =>
    simp only [List.getElem?_toArray, List.getElem?_cons_zero]
    rfl
  case hsx1 => kernel_rfl
  case hfx1 => kernel_rfl
  case hrx1 => kernel_rfl
  case hyx1 =>
    refine Or.inl ⟨by rfl, ?_⟩
    intro w hSw
    (try dsimp only at hSw)
    go_simp
    try with_reducible rfl
  case hQx1 => exact fun _ _ _ h => h
  case hSx1 => trivial
  try simp only [Act.put, List.setIfInBounds_toArray, List.set_cons_zero, List.set_cons_succ]
  refine wpAnyH_take (i := 2) (oi := ?oix2) (v := ?vx2) ?hix2 ?hsx2 ?hfx2 ?hrx2 ?hQx2 ?hyx2 ?hSx2 ?hx2
  case hix2 =>
    simp only [List.getElem?_toArray, List.getElem?_cons_succ, List.getElem?_cons_zero]
    rfl
  case hsx2 => kernel_rfl
  case hfx2 => kernel_rfl
  case hrx2 => kernel_rfl
  case hyx2 =>
    refine Or.inl ⟨by rfl, ?_⟩
    intro w hSw
    (try dsimp only at hSw)
    go_simp
    try with_reducible rfl
  case hQx2 => exact fun _ _ _ h => h
  case hSx2 => trivial
  try simp only [Act.put, List.setIfInBounds_toArray, List.set_cons_zero, List.set_cons_succ]
  refine wpAnyH_take (i := 6) (oi := ?oix3) (v := ?vx3) ?hix3 ?hsx3 ?hfx3 ?hrx3 ?hQx3 ?hyx3 ?hSx3 ?hx3
  case hix3 =>
    simp only [List.getElem?_toArray, List.getElem?_cons_succ, List.getElem?_cons_zero]
    rfl
  case hsx3 => kernel_rfl
  case hfx3 => kernel_rfl
  case hrx3 => kernel_rfl
  case hyx3 =>
    refine Or.inl ⟨by rfl, ?_⟩
    intro w hSw
    (try dsimp only at hSw)
    go_simp
    try with_reducible rfl
  case hQx3 => exact fun _ _ _ h => h
  case hSx3 => trivial
  try simp only [Act.put, List.setIfInBounds_toArray, List.set_cons_zero, List.set_cons_succ]
  refine wpAnyH_take (i := 7) (oi := ?oix4) (v := ?vx4) ?hix4 ?hsx4 ?hfx4 ?hrx4 ?hQx4 ?hyx4 ?hSx4 ?hx4
  case hix4 =>
    simp only [List.getElem?_toArray, List.getElem?_cons_succ, List.getElem?_cons_zero]
    rfl
  case hsx4 => kernel_rfl
  case hfx4 => kernel_rfl
  case hrx4 => kernel_rfl
  case hyx4 =>
    refine Or.inl ⟨by rfl, ?_⟩
    intro w hSw
    (try dsimp only at hSw)
    go_simp
    try with_reducible rfl
  case hQx4 => exact fun _ _ _ h => h
  case hSx4 => trivial
  try simp only [Act.put, List.setIfInBounds_toArray, List.set_cons_zero, List.set_cons_succ]
  refine wpAnyH_take (i := 8) (oi := ?oix5) (v := ?vx5) ?hix5 ?hsx5 ?hfx5 ?hrx5 ?hQx5 ?hyx5 ?hSx5 ?hx5
  case hix5 =>
    simp only [List.getElem?_toArray, List.getElem?_cons_succ, List.getElem?_cons_zero]
    rfl
  case hsx5 => kernel_rfl
  case hfx5 => kernel_rfl
  case hrx5 => kernel_rfl
  case hyx5 =>
    refine Or.inl ⟨by rfl, ?_⟩
    intro w hSw
    (try dsimp only at hSw)
    go_simp
    try with_reducible rfl
  case hQx5 => exact fun _ _ _ h => h
  case hSx5 => trivial
  try simp only [Act.put, List.setIfInBounds_toArray, List.set_cons_zero, List.set_cons_succ]
  refine wpAnyH_take (i := 9) (oi := ?oix6) (v := ?vx6) ?hix6 ?hsx6 ?hfx6 ?hrx6 ?hQx6 ?hyx6 ?hSx6 ?hx6
  case hix6 =>
    simp only [List.getElem?_toArray, List.getElem?_cons_succ, List.getElem?_cons_zero]
    rfl
  case hsx6 => kernel_rfl
  case hfx6 => kernel_rfl
  case hrx6 => kernel_rfl
  case hyx6 =>
    refine Or.inl ⟨by rfl, ?_⟩
    intro w hSw
    (try dsimp only at hSw)
    go_simp
    try with_reducible rfl
  case hQx6 => exact fun _ _ _ h => h
  case hSx6 => trivial
  try simp only [Act.put, List.setIfInBounds_toArray, List.set_cons_zero, List.set_cons_succ]
  refine wpAnyH_take (i := 10) (oi := ?oix7) (v := ?vx7) ?hix7 ?hsx7 ?hfx7 ?hrx7 ?hQx7 ?hyx7 ?hSx7 ?hx7
  case hix7 =>
    simp only [List.getElem?_toArray, List.getElem?_cons_succ, List.getElem?_cons_zero]
    rfl
  case hsx7 => kernel_rfl
  case hfx7 => kernel_rfl
  case hrx7 => kernel_rfl
  case hyx7 =>
    refine Or.inl ⟨by rfl, ?_⟩
    intro w hSw
    (try dsimp only at hSw)
    go_simp
    try with_reducible rfl
  case hQx7 => exact fun _ _ _ h => h
  case hSx7 => trivial
  try simp only [Act.put, List.setIfInBounds_toArray, List.set_cons_zero, List.set_cons_succ]
  refine wpAnyH_ready (rs := [1, 4]) (by kernel_rfl) (by simp) ?_
  refine AllReadyH.cons (o := ?ox35) ?ix35 ?kx35 ?mx35
  case ix35 =>
    simp only [List.getElem?_toArray, List.getElem?_cons_succ, List.getElem?_cons_zero]
    rfl
  case' mx35 =>
    refine AllReadyH.cons (o := ?ox36) ?ix36 ?kx36 AllReadyH.nil
    case ix36 =>
      simp only [List.getElem?_toArray, List.getElem?_cons_succ, List.getElem?_cons_zero]
      rfl
    intro K hK
    go_simp
    refine hK.out _ _ trivial (fun hHeld => ?_)
    clear hK K
    try simp only [Act.put, List.setIfInBounds_toArray, List.set_cons_zero, List.set_cons_succ]
    refine wpAnyH_ready (rs := [1]) (by kernel_rfl) (by simp) ?_
    refine AllReadyH.cons (o := ?ox24) ?ix24 ?kx24 AllReadyH.nil
    case ix24 =>
      simp only [List.getElem?_toArray, List.getElem?_cons_succ, List.getElem?_cons_zero]
      rfl
    intro K hK
    go_simp
    refine hK.out _ _ trivial (fun hHeld => ?_)
    clear hK K
    try simp only [Act.put, List.setIfInBounds_toArray, List.set_cons_zero, List.set_cons_succ]
    refine wpAnyH_ready (rs := [3]) (by kernel_rfl) (by simp) ?_
    refine AllReadyH.cons (o := ?ox25) ?ix25 ?kx25 AllReadyH.nil
    case ix25 =>
      simp only [List.getElem?_toArray, List.getElem?_cons_succ, List.getElem?_cons_zero]
      rfl
    intro K hK
    have hbA : Below w6.heap.size w6 ((w6.drew.alloc (.cells #[.int .u8 0] 5)).alloc (.cells #[] 5)) := (((Below.refl w6.heap.size w6).drew).alloc (Nat.le_refl _) _).alloc (by simp) _
    have hE : ((w6.drew.alloc (.cells #[.int .u8 0] 5)).alloc (.cells #[] 5)).ownsRow w6.heap.size 5 1 (.slice (some ⟨w6.heap.size + 1, 0, none⟩) 0 0) 0 [] := (by have := own_empty (w6.drew.alloc (.cells #[.int .u8 0] 5)) w6.heap.size (by simp); simpa using this)
    obtain ⟨v7, w7, hrun7, ho7, hg7, hat7⟩ := run_append_row (P := Try.prog) ((w6.drew.alloc (.cells #[.int .u8 0] 5)).alloc (.cells #[] 5)) w6.heap.size 26 26 5 i0 (.int .u8 0) 1 Try.underlying26 hi hz0 hz1 hz2 rfl _ 0 _ hE a1 L c1 _ ((HR4.out.below HB6.out).below hbA) (fun i _ => rfl) (by have := HL.out.2; unfold maxLen; omega) (by have := HL.out.2; omega) hbA.size
    rw [Nat.zero_add, List.nil_append] at ho7
    obtain ⟨g7, k7, rfl, hg7a, hg7b⟩ := ho7.form (by omega)
    have hb7 : Below w6.heap.size w6 w7 := hbA.grown hg7 hbA.size (fun j hj => (hE.lt j hj).1)
    refine step_append_ran _ _ (by rfl) _ _ 26 (by rfl) _ _ _ (by rfl) (by rfl) hrun7 ?_
    refine hK.out _ _ trivial (fun hHeld => ?_)
    clear hK K
    try simp only [Act.put, List.setIfInBounds_toArray, List.set_cons_zero, List.set_cons_succ]
    refine wpAnyH_ready (rs := [5]) (by kernel_rfl) (by simp) ?_
    refine AllReadyH.cons (o := ?ox26) ?ix26 ?kx26 AllReadyH.nil
    case ix26 =>
      simp only [List.getElem?_toArray, List.getElem?_cons_succ, List.getElem?_cons_zero]
      rfl
    intro K hK
    have hbB : Below w6.heap.size w6 (w7) := hb7
    have hO := ho7
    have hcz : (w7).cell? ⟨w6.heap.size, 0, none⟩ = some (.int .u8 0) := (grown_cell hg7 (p := ⟨w6.heap.size, 0, none⟩) (by first | (simp; done) | (simp; omega)) (by simp [Value.ownBlock])).trans (((Lies.new w6.drew 5 #[.int .u8 0]).alloc _).cell 0)
    obtain ⟨v8, w8, hrun8, ho8, hg8, hat8⟩ := run_append_row (P := Try.prog) (w7) w6.heap.size 26 26 5 i0 (.int .u8 0) 1 Try.underlying26 hi hz0 hz1 hz2 rfl _ L _ hO (some ⟨w6.heap.size, 0, none⟩) 1 1 (fun _ => .int .u8 0) (.inr ⟨_, _, rfl, fun i hi => by obtain rfl : i = 0 := (by omega); exact hcz⟩) (fun i _ => rfl) (by have := HL.out.2; unfold maxLen; omega) (by have := HL.out.2; omega) hbB.size
    obtain ⟨a8, k8, rfl, hr8, _⟩ := own_reads ho8
    have hr8 := hr8.congr (f' := fun i => .int .u8 ((bs ++ [0]).getD i 0)) (fun i hi => tail_row bs L HPL.out i hi)
    have hb8 : Below w6.heap.size w6 w8 := hbB.grown hg8 hbB.size (fun j hj => (hO.lt j hj).1)
    refine step_append_ran _ _ (by rfl) _ _ 26 (by rfl) _ _ _ (by rfl) (by rfl) hrun8 ?_
    refine hK.out _ _ trivial (fun hHeld => ?_)
    clear hK K
    try simp only [Act.put, List.setIfInBounds_toArray, List.set_cons_zero, List.set_cons_succ]
    refine wpAnyH_ready (rs := [11]) (by kernel_rfl) (by simp) ?_
    refine AllReadyH.cons (o := ?ox27) ?ix27 ?kx27 AllReadyH.nil
    case ix27 =>
      simp only [List.getElem?_toArray, List.getElem?_cons_succ, List.getElem?_cons_zero]
      rfl
    intro K hK
    go_simp
    go_at_call 15
    refine (D3.out _ _ _ hr8).mono ?_
    rintro e w9 ⟨a9, c9, rfl, hb9⟩
    have HB9 := Lib.hid (hb8.trans (hb9.mono hb8.size))
    clear hb9
    refine hK.out _ _ trivial (fun hHeld => ?_)
    clear hK K
    try simp only [Act.put, List.setIfInBounds_toArray, List.set_cons_zero, List.set_cons_succ]
    refine wpAnyH_take (i := 12) (oi := ?oix28) (v := ?vx28) ?hix28 ?hsx28 ?hfx28 ?hrx28 ?hQx28 ?hyx28 ?hSx28 ?hx28
    case hix28 =>
      simp only [List.getElem?_toArray, List.getElem?_cons_succ, List.getElem?_cons_zero]
      rfl
    case hsx28 => kernel_rfl
    case hfx28 => kernel_rfl
    case hrx28 => kernel_rfl
    case hyx28 =>
      refine Or.inl ⟨by rfl, ?_⟩
      intro w hSw
      (try dsimp only at hSw)
      go_simp
      try with_reducible rfl
    case hQx28 => exact fun _ _ _ h => h
    case hSx28 => trivial
    try simp only [Act.put, List.setIfInBounds_toArray, List.set_cons_zero, List.set_cons_succ]
    refine wpAnyH_take (i := 13) (oi := ?oix29) (v := ?vx29) ?hix29 ?hsx29 ?hfx29 ?hrx29 ?hQx29 ?hyx29 ?hSx29 ?hx29
    case hix29 =>
      simp only [List.getElem?_toArray, List.getElem?_cons_succ, List.getElem?_cons_zero]
      rfl
    case hsx29 => kernel_rfl
    case hfx29 => kernel_rfl
    case hrx29 => kernel_rfl
    case hyx29 =>
      refine Or.inl ⟨by rfl, ?_⟩
      intro w hSw
      (try dsimp only at hSw)
      go_simp
      try with_reducible rfl
    case hQx29 => exact fun _ _ _ h => h
    case hSx29 => trivial
    try simp only [Act.put, List.setIfInBounds_toArray, List.set_cons_zero, List.set_cons_succ]
    refine wpAnyH_take (i := 14) (oi := ?oix30) (v := ?vx30) ?hix30 ?hsx30 ?hfx30 ?hrx30 ?hQx30 ?hyx30 ?hSx30 ?hx30
    case hix30 =>
      simp only [List.getElem?_toArray, List.getElem?_cons_succ, List.getElem?_cons_zero]
      rfl
    case hsx30 => kernel_rfl
    case hfx30 => kernel_rfl
    case hrx30 => kernel_rfl
    case hyx30 =>
      refine Or.inl ⟨by rfl, ?_⟩
      intro w hSw
      (try dsimp only at hSw)
      go_simp
      try with_reducible rfl
    case hQx30 => exact fun _ _ _ h => h
    case hSx30 => trivial
    try simp only [Act.put, List.setIfInBounds_toArray, List.set_cons_zero, List.set_cons_succ]
    refine wpAnyH_take (i := 15) (oi := ?oix31) (v := ?vx31) ?hix31 ?hsx31 ?hfx31 ?hrx31 ?hQx31 ?hyx31 ?hSx31 ?hx31
    case hix31 =>
      simp only [List.getElem?_toArray, List.getElem?_cons_succ, List.getElem?_cons_zero]
      rfl
    case hsx31 => kernel_rfl
    case hfx31 => kernel_rfl
    case hrx31 => kernel_rfl
    case hyx31 =>
      refine Or.inl ⟨by rfl, ?_⟩
      intro w hSw
      (try dsimp only at hSw)
      go_simp
      try with_reducible rfl
    case hQx31 => exact fun _ _ _ h => h
    case hSx31 => trivial
    try simp only [Act.put, List.setIfInBounds_toArray, List.set_cons_zero, List.set_cons_succ]
    refine wpAnyH_take (i := 16) (oi := ?oix32) (v := ?vx32) ?hix32 ?hsx32 ?hfx32 ?hrx32 ?hQx32 ?hyx32 ?hSx32 ?hx32
    case hix32 =>
      simp only [List.getElem?_toArray, List.getElem?_cons_succ, List.getElem?_cons_zero]
      rfl
    case hsx32 => kernel_rfl
    case hfx32 => kernel_rfl
    case hrx32 => kernel_rfl
    case hyx32 =>
      refine Or.inl ⟨by rfl, ?_⟩
      intro w hSw
      (try dsimp only at hSw)
      go_simp
      try with_reducible rfl
    case hQx32 => exact fun _ _ _ h => h
    case hSx32 => trivial
    try simp only [Act.put, List.setIfInBounds_toArray, List.set_cons_zero, List.set_cons_succ]
    refine wpAnyH_done (by kernel_rfl) ?_ _
    clear hrun8 ho8 hg8 hat8 hr8 hb8 hcz hO hbB hrun7 ho7 hg7 hat7 hb7 hE hbA
    go_wp2
    go_ret
    exact ⟨rfl, HB4.out.trans ((HB6.out.trans (HB9.out.mono HB6.out.size)).mono HB4.out.size)⟩
  case' kx35 =>
    intro K hK
    go_simp
    refine hK.out _ _ trivial (fun hHeld => ?_)
    clear hK K
    try simp only [Act.put, List.setIfInBounds_toArray, List.set_cons_zero, List.set_cons_succ]
    refine wpAnyH_ready (rs := [3, 4]) (by kernel_rfl) (by simp) ?_
    refine AllReadyH.cons (o := ?ox33) ?ix33 ?kx33 ?mx33
    case ix33 =>
      simp only [List.getElem?_toArray, List.getElem?_cons_succ, List.getElem?_cons_zero]
      rfl
    case' mx33 =>
      refine AllReadyH.cons (o := ?ox34) ?ix34 ?kx34 AllReadyH.nil
      case ix34 =>
        simp only [List.getElem?_toArray, List.getElem?_cons_succ, List.getElem?_cons_zero]
        rfl
      intro K hK
      go_simp
      refine hK.out _ _ trivial (fun hHeld => ?_)
      clear hK K
      try simp only [Act.put, List.setIfInBounds_toArray, List.set_cons_zero, List.set_cons_succ]
      refine wpAnyH_ready (rs := [3]) (by kernel_rfl) (by simp) ?_
      refine AllReadyH.cons (o := ?ox16) ?ix16 ?kx16 AllReadyH.nil
      case ix16 =>
        simp only [List.getElem?_toArray, List.getElem?_cons_succ, List.getElem?_cons_zero]
        rfl
      intro K hK
      have hbA : Below w6.heap.size w6 ((w6.drew.alloc (.cells #[] 5)).alloc (.cells #[.int .u8 0] 5)) := (((Below.refl w6.heap.size w6).drew).alloc (Nat.le_refl _) _).alloc (by simp) _
      have hE : ((w6.drew.alloc (.cells #[] 5)).alloc (.cells #[.int .u8 0] 5)).ownsRow w6.heap.size 5 1 (.slice (some ⟨w6.heap.size, 0, none⟩) 0 0) 0 [] := (own_empty w6.drew w6.heap.size (Nat.le_refl _)).alloc _
      obtain ⟨v7, w7, hrun7, ho7, hg7, hat7⟩ := run_append_row (P := Try.prog) ((w6.drew.alloc (.cells #[] 5)).alloc (.cells #[.int .u8 0] 5)) w6.heap.size 26 26 5 i0 (.int .u8 0) 1 Try.underlying26 hi hz0 hz1 hz2 rfl _ 0 _ hE a1 L c1 _ ((HR4.out.below HB6.out).below hbA) (fun i _ => rfl) (by have := HL.out.2; unfold maxLen; omega) (by have := HL.out.2; omega) hbA.size
      rw [Nat.zero_add, List.nil_append] at ho7
      obtain ⟨g7, k7, rfl, hg7a, hg7b⟩ := ho7.form (by omega)
      have hb7 : Below w6.heap.size w6 w7 := hbA.grown hg7 hbA.size (fun j hj => (hE.lt j hj).1)
      refine step_append_ran _ _ (by rfl) _ _ 26 (by rfl) _ _ _ (by rfl) (by rfl) hrun7 ?_
      refine hK.out _ _ trivial (fun hHeld => ?_)
      clear hK K
      try simp only [Act.put, List.setIfInBounds_toArray, List.set_cons_zero, List.set_cons_succ]
      refine wpAnyH_ready (rs := [5]) (by kernel_rfl) (by simp) ?_
      refine AllReadyH.cons (o := ?ox17) ?ix17 ?kx17 AllReadyH.nil
      case ix17 =>
        simp only [List.getElem?_toArray, List.getElem?_cons_succ, List.getElem?_cons_zero]
        rfl
      intro K hK
      have hbB : Below w6.heap.size w6 (w7) := hb7
      have hO := ho7
      have hcz : (w7).cell? ⟨w6.heap.size + 1, 0, none⟩ = some (.int .u8 0) := (grown_cell hg7 (p := ⟨w6.heap.size + 1, 0, none⟩) (by first | (simp; done) | (simp; omega)) (by simp [Value.ownBlock])).trans (by have := (Lies.new (w6.drew.alloc (.cells #[] 5)) 5 #[.int .u8 0]).cell 0; simpa using this)
      obtain ⟨v8, w8, hrun8, ho8, hg8, hat8⟩ := run_append_row (P := Try.prog) (w7) w6.heap.size 26 26 5 i0 (.int .u8 0) 1 Try.underlying26 hi hz0 hz1 hz2 rfl _ L _ hO (some ⟨w6.heap.size + 1, 0, none⟩) 1 1 (fun _ => .int .u8 0) (.inr ⟨_, _, rfl, fun i hi => by obtain rfl : i = 0 := (by omega); exact hcz⟩) (fun i _ => rfl) (by have := HL.out.2; unfold maxLen; omega) (by have := HL.out.2; omega) hbB.size
      obtain ⟨a8, k8, rfl, hr8, _⟩ := own_reads ho8
      have hr8 := hr8.congr (f' := fun i => .int .u8 ((bs ++ [0]).getD i 0)) (fun i hi => tail_row bs L HPL.out i hi)
      have hb8 : Below w6.heap.size w6 w8 := hbB.grown hg8 hbB.size (fun j hj => (hO.lt j hj).1)
      refine step_append_ran _ _ (by rfl) _ _ 26 (by rfl) _ _ _ (by rfl) (by rfl) hrun8 ?_
      refine hK.out _ _ trivial (fun hHeld => ?_)
      clear hK K
      try simp only [Act.put, List.setIfInBounds_toArray, List.set_cons_zero, List.set_cons_succ]
      refine wpAnyH_ready (rs := [11]) (by kernel_rfl) (by simp) ?_
      refine AllReadyH.cons (o := ?ox18) ?ix18 ?kx18 AllReadyH.nil
      case ix18 =>
        simp only [List.getElem?_toArray, List.getElem?_cons_succ, List.getElem?_cons_zero]
        rfl
      intro K hK
      go_simp
      go_at_call 15
      refine (D3.out _ _ _ hr8).mono ?_
      rintro e w9 ⟨a9, c9, rfl, hb9⟩
      have HB9 := Lib.hid (hb8.trans (hb9.mono hb8.size))
      clear hb9
      refine hK.out _ _ trivial (fun hHeld => ?_)
      clear hK K
      try simp only [Act.put, List.setIfInBounds_toArray, List.set_cons_zero, List.set_cons_succ]
      refine wpAnyH_take (i := 12) (oi := ?oix19) (v := ?vx19) ?hix19 ?hsx19 ?hfx19 ?hrx19 ?hQx19 ?hyx19 ?hSx19 ?hx19
      case hix19 =>
        simp only [List.getElem?_toArray, List.getElem?_cons_succ, List.getElem?_cons_zero]
        rfl
      case hsx19 => kernel_rfl
      case hfx19 => kernel_rfl
      case hrx19 => kernel_rfl
      case hyx19 =>
        refine Or.inl ⟨by rfl, ?_⟩
        intro w hSw
        (try dsimp only at hSw)
        go_simp
        try with_reducible rfl
      case hQx19 => exact fun _ _ _ h => h
      case hSx19 => trivial
      try simp only [Act.put, List.setIfInBounds_toArray, List.set_cons_zero, List.set_cons_succ]
      refine wpAnyH_take (i := 13) (oi := ?oix20) (v := ?vx20) ?hix20 ?hsx20 ?hfx20 ?hrx20 ?hQx20 ?hyx20 ?hSx20 ?hx20
      case hix20 =>
        simp only [List.getElem?_toArray, List.getElem?_cons_succ, List.getElem?_cons_zero]
        rfl
      case hsx20 => kernel_rfl
      case hfx20 => kernel_rfl
      case hrx20 => kernel_rfl
      case hyx20 =>
        refine Or.inl ⟨by rfl, ?_⟩
        intro w hSw
        (try dsimp only at hSw)
        go_simp
        try with_reducible rfl
      case hQx20 => exact fun _ _ _ h => h
      case hSx20 => trivial
      try simp only [Act.put, List.setIfInBounds_toArray, List.set_cons_zero, List.set_cons_succ]
      refine wpAnyH_take (i := 14) (oi := ?oix21) (v := ?vx21) ?hix21 ?hsx21 ?hfx21 ?hrx21 ?hQx21 ?hyx21 ?hSx21 ?hx21
      case hix21 =>
        simp only [List.getElem?_toArray, List.getElem?_cons_succ, List.getElem?_cons_zero]
        rfl
      case hsx21 => kernel_rfl
      case hfx21 => kernel_rfl
      case hrx21 => kernel_rfl
      case hyx21 =>
        refine Or.inl ⟨by rfl, ?_⟩
        intro w hSw
        (try dsimp only at hSw)
        go_simp
        try with_reducible rfl
      case hQx21 => exact fun _ _ _ h => h
      case hSx21 => trivial
      try simp only [Act.put, List.setIfInBounds_toArray, List.set_cons_zero, List.set_cons_succ]
      refine wpAnyH_take (i := 15) (oi := ?oix22) (v := ?vx22) ?hix22 ?hsx22 ?hfx22 ?hrx22 ?hQx22 ?hyx22 ?hSx22 ?hx22
      case hix22 =>
        simp only [List.getElem?_toArray, List.getElem?_cons_succ, List.getElem?_cons_zero]
        rfl
      case hsx22 => kernel_rfl
      case hfx22 => kernel_rfl
      case hrx22 => kernel_rfl
      case hyx22 =>
        refine Or.inl ⟨by rfl, ?_⟩
        intro w hSw
        (try dsimp only at hSw)
        go_simp
        try with_reducible rfl
      case hQx22 => exact fun _ _ _ h => h
      case hSx22 => trivial
      try simp only [Act.put, List.setIfInBounds_toArray, List.set_cons_zero, List.set_cons_succ]
      refine wpAnyH_take (i := 16) (oi := ?oix23) (v := ?vx23) ?hix23 ?hsx23 ?hfx23 ?hrx23 ?hQx23 ?hyx23 ?hSx23 ?hx23
      case hix23 =>
        simp only [List.getElem?_toArray, List.getElem?_cons_succ, List.getElem?_cons_zero]
        rfl
      case hsx23 => kernel_rfl
      case hfx23 => kernel_rfl
      case hrx23 => kernel_rfl
      case hyx23 =>
        refine Or.inl ⟨by rfl, ?_⟩
        intro w hSw
        (try dsimp only at hSw)
        go_simp
        try with_reducible rfl
      case hQx23 => exact fun _ _ _ h => h
      case hSx23 => trivial
      try simp only [Act.put, List.setIfInBounds_toArray, List.set_cons_zero, List.set_cons_succ]
      refine wpAnyH_done (by kernel_rfl) ?_ _
      clear hrun8 ho8 hg8 hat8 hr8 hb8 hcz hO hbB hrun7 ho7 hg7 hat7 hb7 hE hbA
      go_wp2
      go_ret
      exact ⟨rfl, HB4.out.trans ((HB6.out.trans (HB9.out.mono HB6.out.size)).mono HB4.out.size)⟩
    case' kx33 =>
      intro K hK
      have hbA : Below w6.heap.size w6 (w6.drew.alloc (.cells #[] 5)) := ((Below.refl w6.heap.size w6).drew).alloc (Nat.le_refl _) _
      have hE : (w6.drew.alloc (.cells #[] 5)).ownsRow w6.heap.size 5 1 (.slice (some ⟨w6.heap.size, 0, none⟩) 0 0) 0 [] := own_empty w6.drew w6.heap.size (Nat.le_refl _)
      obtain ⟨v7, w7, hrun7, ho7, hg7, hat7⟩ := run_append_row (P := Try.prog) (w6.drew.alloc (.cells #[] 5)) w6.heap.size 26 26 5 i0 (.int .u8 0) 1 Try.underlying26 hi hz0 hz1 hz2 rfl _ 0 _ hE a1 L c1 _ ((HR4.out.below HB6.out).below hbA) (fun i _ => rfl) (by have := HL.out.2; unfold maxLen; omega) (by have := HL.out.2; omega) hbA.size
      rw [Nat.zero_add, List.nil_append] at ho7
      obtain ⟨g7, k7, rfl, hg7a, hg7b⟩ := ho7.form (by omega)
      have hb7 : Below w6.heap.size w6 w7 := hbA.grown hg7 hbA.size (fun j hj => (hE.lt j hj).1)
      refine step_append_ran _ _ (by rfl) _ _ 26 (by rfl) _ _ _ (by rfl) (by rfl) hrun7 ?_
      refine hK.out _ _ trivial (fun hHeld => ?_)
      clear hK K
      try simp only [Act.put, List.setIfInBounds_toArray, List.set_cons_zero, List.set_cons_succ]
      refine wpAnyH_ready (rs := [4]) (by kernel_rfl) (by simp) ?_
      refine AllReadyH.cons (o := ?ox8) ?ix8 ?kx8 AllReadyH.nil
      case ix8 =>
        simp only [List.getElem?_toArray, List.getElem?_cons_succ, List.getElem?_cons_zero]
        rfl
      intro K hK
      go_simp
      refine hK.out _ _ trivial (fun hHeld => ?_)
      clear hK K
      try simp only [Act.put, List.setIfInBounds_toArray, List.set_cons_zero, List.set_cons_succ]
      refine wpAnyH_ready (rs := [5]) (by kernel_rfl) (by simp) ?_
      refine AllReadyH.cons (o := ?ox9) ?ix9 ?kx9 AllReadyH.nil
      case ix9 =>
        simp only [List.getElem?_toArray, List.getElem?_cons_succ, List.getElem?_cons_zero]
        rfl
      intro K hK
      have hbB : Below w6.heap.size w6 (w7.alloc (.cells #[.int .u8 0] 5)) := hb7.alloc hb7.size _
      have hO := ho7.alloc (.cells #[.int .u8 0] 5)
      have hcz : (w7.alloc (.cells #[.int .u8 0] 5)).cell? ⟨w7.heap.size, 0, none⟩ = some (.int .u8 0) := (Lies.new w7 5 #[.int .u8 0]).cell 0
      obtain ⟨v8, w8, hrun8, ho8, hg8, hat8⟩ := run_append_row (P := Try.prog) (w7.alloc (.cells #[.int .u8 0] 5)) w6.heap.size 26 26 5 i0 (.int .u8 0) 1 Try.underlying26 hi hz0 hz1 hz2 rfl _ L _ hO (some ⟨w7.heap.size, 0, none⟩) 1 1 (fun _ => .int .u8 0) (.inr ⟨_, _, rfl, fun i hi => by obtain rfl : i = 0 := (by omega); exact hcz⟩) (fun i _ => rfl) (by have := HL.out.2; unfold maxLen; omega) (by have := HL.out.2; omega) hbB.size
      obtain ⟨a8, k8, rfl, hr8, _⟩ := own_reads ho8
      have hr8 := hr8.congr (f' := fun i => .int .u8 ((bs ++ [0]).getD i 0)) (fun i hi => tail_row bs L HPL.out i hi)
      have hb8 : Below w6.heap.size w6 w8 := hbB.grown hg8 hbB.size (fun j hj => (hO.lt j hj).1)
      refine step_append_ran _ _ (by rfl) _ _ 26 (by rfl) _ _ _ (by rfl) (by rfl) hrun8 ?_
      refine hK.out _ _ trivial (fun hHeld => ?_)
      clear hK K
      try simp only [Act.put, List.setIfInBounds_toArray, List.set_cons_zero, List.set_cons_succ]
      refine wpAnyH_ready (rs := [11]) (by kernel_rfl) (by simp) ?_
      refine AllReadyH.cons (o := ?ox10) ?ix10 ?kx10 AllReadyH.nil
      case ix10 =>
        simp only [List.getElem?_toArray, List.getElem?_cons_succ, List.getElem?_cons_zero]
        rfl
      intro K hK
      go_simp
      go_at_call 15
      refine (D3.out _ _ _ hr8).mono ?_
      rintro e w9 ⟨a9, c9, rfl, hb9⟩
      have HB9 := Lib.hid (hb8.trans (hb9.mono hb8.size))
      clear hb9
      refine hK.out _ _ trivial (fun hHeld => ?_)
      clear hK K
      try simp only [Act.put, List.setIfInBounds_toArray, List.set_cons_zero, List.set_cons_succ]
      refine wpAnyH_take (i := 12) (oi := ?oix11) (v := ?vx11) ?hix11 ?hsx11 ?hfx11 ?hrx11 ?hQx11 ?hyx11 ?hSx11 ?hx11
      case hix11 =>
        simp only [List.getElem?_toArray, List.getElem?_cons_succ, List.getElem?_cons_zero]
        rfl
      case hsx11 => kernel_rfl
      case hfx11 => kernel_rfl
      case hrx11 => kernel_rfl
      case hyx11 =>
        refine Or.inl ⟨by rfl, ?_⟩
        intro w hSw
        (try dsimp only at hSw)
        go_simp
        try with_reducible rfl
      case hQx11 => exact fun _ _ _ h => h
      case hSx11 => trivial
      try simp only [Act.put, List.setIfInBounds_toArray, List.set_cons_zero, List.set_cons_succ]
      refine wpAnyH_take (i := 13) (oi := ?oix12) (v := ?vx12) ?hix12 ?hsx12 ?hfx12 ?hrx12 ?hQx12 ?hyx12 ?hSx12 ?hx12
      case hix12 =>
        simp only [List.getElem?_toArray, List.getElem?_cons_succ, List.getElem?_cons_zero]
        rfl
      case hsx12 => kernel_rfl
      case hfx12 => kernel_rfl
      case hrx12 => kernel_rfl
      case hyx12 =>
        refine Or.inl ⟨by rfl, ?_⟩
        intro w hSw
        (try dsimp only at hSw)
        go_simp
        try with_reducible rfl
      case hQx12 => exact fun _ _ _ h => h
      case hSx12 => trivial
      try simp only [Act.put, List.setIfInBounds_toArray, List.set_cons_zero, List.set_cons_succ]
      refine wpAnyH_take (i := 14) (oi := ?oix13) (v := ?vx13) ?hix13 ?hsx13 ?hfx13 ?hrx13 ?hQx13 ?hyx13 ?hSx13 ?hx13
      case hix13 =>
        simp only [List.getElem?_toArray, List.getElem?_cons_succ, List.getElem?_cons_zero]
        rfl
      case hsx13 => kernel_rfl
      case hfx13 => kernel_rfl
      case hrx13 => kernel_rfl
      case hyx13 =>
        refine Or.inl ⟨by rfl, ?_⟩
        intro w hSw
        (try dsimp only at hSw)
        go_simp
        try with_reducible rfl
      case hQx13 => exact fun _ _ _ h => h
      case hSx13 => trivial
      try simp only [Act.put, List.setIfInBounds_toArray, List.set_cons_zero, List.set_cons_succ]
      refine wpAnyH_take (i := 15) (oi := ?oix14) (v := ?vx14) ?hix14 ?hsx14 ?hfx14 ?hrx14 ?hQx14 ?hyx14 ?hSx14 ?hx14
      case hix14 =>
        simp only [List.getElem?_toArray, List.getElem?_cons_succ, List.getElem?_cons_zero]
        rfl
      case hsx14 => kernel_rfl
      case hfx14 => kernel_rfl
      case hrx14 => kernel_rfl
      case hyx14 =>
        refine Or.inl ⟨by rfl, ?_⟩
        intro w hSw
        (try dsimp only at hSw)
        go_simp
        try with_reducible rfl
      case hQx14 => exact fun _ _ _ h => h
      case hSx14 => trivial
      try simp only [Act.put, List.setIfInBounds_toArray, List.set_cons_zero, List.set_cons_succ]
      refine wpAnyH_take (i := 16) (oi := ?oix15) (v := ?vx15) ?hix15 ?hsx15 ?hfx15 ?hrx15 ?hQx15 ?hyx15 ?hSx15 ?hx15
      case hix15 =>
        simp only [List.getElem?_toArray, List.getElem?_cons_succ, List.getElem?_cons_zero]
        rfl
      case hsx15 => kernel_rfl
      case hfx15 => kernel_rfl
      case hrx15 => kernel_rfl
      case hyx15 =>
        refine Or.inl ⟨by rfl, ?_⟩
        intro w hSw
        (try dsimp only at hSw)
        go_simp
        try with_reducible rfl
      case hQx15 => exact fun _ _ _ h => h
      case hSx15 => trivial
      try simp only [Act.put, List.setIfInBounds_toArray, List.set_cons_zero, List.set_cons_succ]
      refine wpAnyH_done (by kernel_rfl) ?_ _
      clear hrun8 ho8 hg8 hat8 hr8 hb8 hcz hO hbB hrun7 ho7 hg7 hat7 hb7 hE hbA
      go_wp2
      go_ret
      exact ⟨rfl, HB4.out.trans ((HB6.out.trans (HB9.out.mono HB6.out.size)).mono HB4.out.size)⟩
end Go.Proofs.Ythonjffojaljdaa
