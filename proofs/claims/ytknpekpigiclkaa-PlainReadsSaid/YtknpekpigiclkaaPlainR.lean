/-
  CONTRACT OF the closure that PlainReads hands to plain.Read, in any world where the cursor and its three numbers lie. Conditions: at most 20000 bytes, at most 100 numbers.
-/
import Derived.Test.YtknpekpigiclkaaPlainE
import Derived.Deep.LoopGhost
namespace Go.Proofs.Ytknpekpigiclkaa
open Go.ChangeShapes Go.WideShapes Go.ChangeAt Go.RowKit
set_option linter.unusedVariables false
/-- What is wrong after so many numbers. -/
def er4 (nb : Nat) (bh e : Int) : Nat → Int
  | 0 => 0
  | k + 1 => if er4 nb bh e k = 0 then (if (k : Int) = bh ∧ e ≠ 0 then e else if nb < 4 * k + 4 then 1 else 0) else er4 nb bh e k
theorem er4_stop {nb : Nat} {bh e : Int} {k : Nat} (h : er4 nb bh e k ≠ 0) : ∀ j, er4 nb bh e (k + j) = er4 nb bh e k
  | 0 => rfl
  | j + 1 => by
    have ih := er4_stop h j
    show er4 nb bh e (k + j + 1) = _
    rw [er4, ih, if_neg h]
def v4 (z : Nat → Int) (k : Nat) : Int := (num (fun j => z (4 * k + j)) 4 : Nat)
def v4s (z : Nat → Int) (n : Nat) : List Int := (List.range n).map (v4 z)
theorem v4s_length (z : Nat → Int) (n : Nat) : (v4s z n).length = n := by rw [v4s, List.length_map, List.length_range]
theorem v4s_getD (z : Nat → Int) (n i : Nat) (hi : i < n) : (v4s z n).getD i 0 = v4 z i := by rw [v4s, List.getD_eq_getElem?_getD, List.getElem?_map, List.getElem?_range hi, Option.map_some, Option.getD_some]
theorem v4_wrap (N : Nat) (h : N < 4294967296) : wrap64 (N : Int) = N := by rw [← dwrap64_eq]; exact IntWalk.i64_in _ (by omega)
theorem throw_came (n : Int) (w : World) : Calls Try.prog 38 #[.int .i64 n] w fun e w' => ((n = 0 ∧ e = .returned (.tuple #[])) ∨ ((n != 0) = true ∧ e = .panicked [{ v := .iface 89 (.agg #[.int .i64 n]), recovered := false }])) ∧ w = w' := by
  by_cases h : n = 0
  · subst h
    exact (throw_ok w).mono fun e w' ⟨h1, h2⟩ => ⟨.inl ⟨rfl, h1⟩, h2⟩
  · exact (throw_some n (by simpa using h) w).mono fun e w' ⟨h1, h2⟩ => ⟨.inr ⟨by simpa using h, h1⟩, h2⟩
set_option maxRecDepth 100000 in
set_option maxHeartbeats 2000000 in
theorem reads1_any (p7 p8 p9 bc nb M : Nat) (many bh er : Int) (z : Nat → Int) (hz : ∀ i, i < nb → 0 ≤ z i ∧ z i ≤ 255) (hnb : nb ≤ 100000) (hM : many.toNat = M) (hM1 : many ≤ 100) (w : World)
    (q7 : w.cell? ⟨p7, 0, none⟩ = some (.int .i64 many)) (q8 : w.cell? ⟨p8, 0, none⟩ = some (.int .i64 bh)) (q9 : w.cell? ⟨p9, 0, none⟩ = some (.int .i64 er)) (h7 : p7 < bc) (h8 : p8 < bc) (h9 : p9 < bc) (h : CursorAt w bc nb z 0) :
    Calls Try.prog 37 (#[.pointer (some ⟨bc, 0, none⟩)] ++ #[.pointer (some ⟨p7, 0, none⟩), .pointer (some ⟨p8, 0, none⟩), .pointer (some ⟨p9, 0, none⟩)]) w (DoEnd bc nb z (er4 nb bh er M) (v4s z M) (4 * M) w) := by
  obtain ⟨i0, hi, hz0, hz1, hz2⟩ := info_parts longInfo
  obtain ⟨m, hm⟩ : ∃ m : Int, er4 nb bh er M = m := ⟨_, rfl⟩
  rw [hm]
  have HMM := Lib.hid hm
  have H := Lib.hid h
  have HZ := Lib.hid hz
  have hbc := h.lt
  have QQ := Lib.hid (fun (W : World) (ht : Turned (· = bc) w W) => (show W.cell? ⟨p7, 0, none⟩ = some (.int .i64 many) ∧ W.cell? ⟨p8, 0, none⟩ = some (.int .i64 bh) ∧ W.cell? ⟨p9, 0, none⟩ = some (.int .i64 er) from
    ⟨(ht.cell (p := ⟨p7, 0, none⟩) (by show p7 < _; omega) (fun (e : p7 = bc) => by omega)).trans q7, (ht.cell (p := ⟨p8, 0, none⟩) (by show p8 < _; omega) (fun (e : p8 = bc) => by omega)).trans q8, (ht.cell (p := ⟨p9, 0, none⟩) (by show p9 < _; omega) (fun (e : p9 = bc) => by omega)).trans q9⟩))
  clear h hz hm q7 q8 q9
  show Calls Try.prog 37 #[.pointer (some ⟨bc, 0, none⟩), .pointer (some ⟨p7, 0, none⟩), .pointer (some ⟨p8, 0, none⟩), .pointer (some ⟨p9, 0, none⟩)] w _
  go_enter Try.func37, Try.ntmps37
  go_wp2
  go_loopg [6, 7] M (fun g v x wr => ∃ k : Nat, k ≤ M ∧ g = M - k ∧ x = .int .i64 k ∧ er4 nb bh er k = 0 ∧ CursorAt wr bc nb z (4 * k) ∧ wr.ownsRow w.heap.size 2 1 v k (rowV (fun j => .int .i64 (v4 z j)) k) ∧ Turned (· = bc) w wr)
  case atStart => exact ⟨0, by omega, by omega, rfl, rfl, H.out, World.ownsRow_nil _ _ _ _, Turned.refl _ _⟩
  case round =>
    obtain ⟨k, hk, hgk, rfl, hr0, hc, ho, ht⟩ := hrel
    obtain ⟨c7, c8, c9⟩ := QQ.out wr ht
    have hsz := ht.size
    by_cases hlt : k < M
    · have i1 : (k : Int) < many := by omega
      have HGK := Lib.hid hgk
      have HR0 := Lib.hid hr0
      have HC := Lib.hid hc
      have HO := Lib.hid ho
      have HT := Lib.hid ht
      have HSZ := Lib.hid hsz
      have HLT := Lib.hid hlt
      have HST := Lib.hid (fun (h : er4 nb bh er (k + 1) ≠ 0) => (show m = er4 nb bh er (k + 1) from by
        have := er4_stop h (M - (k + 1))
        rw [show k + 1 + (M - (k + 1)) = M by omega, HMM.out] at this
        exact this))
      have HE := Lib.hid (show er4 nb bh er (k + 1) = (if (k : Int) = bh ∧ er ≠ 0 then er else if nb < 4 * k + 4 then 1 else 0) from by rw [er4, if_pos hr0])
      clear hgk hr0 hc ho ht hsz hlt
      by_cases hb : (k : Int) = bh ∧ er ≠ 0
      · obtain ⟨hb1, hb2⟩ := hb
        have e1 : ((k : Int) == bh) = true := by simpa using hb1
        have HB2 := Lib.hid (show (er != 0) = true from by simpa using hb2)
        have he : er4 nb bh er (k + 1) = er := by rw [HE.out, if_pos ⟨hb1, hb2⟩]
        obtain rfl : m = er := by rw [← he]; exact HST.out (by rw [he]; exact hb2)
        clear hb1 hb2 he HE HST
        go_wp2_with (go_at_call 38; refine (throw_some _ HB2.out _).mono ?_; rintro e w3 ⟨rfl, rfl⟩)
        exact ⟨rfl, HT.out, .inr ⟨HB2.out, rfl⟩⟩
      · by_cases hs : nb < 4 * k + 4
        · have U := Lib.hid (u32_short bc nb z (4 * k) hnb HC.out.le (by omega) wr HC.out)
          have he : er4 nb bh er (k + 1) = 1 := by rw [HE.out, if_neg hb, if_pos hs]
          obtain rfl : m = 1 := by rw [← he]; exact HST.out (by rw [he]; decide)
          clear he HE HST hs
          by_cases hb1 : (k : Int) = bh
          · have e1 : ((k : Int) == bh) = true := by simpa using hb1
            obtain rfl : er = 0 := by
              by_cases e : er = 0
              · exact e
              · exact absurd ⟨hb1, e⟩ hb
            clear hb hb1
            go_wp2_with (first | (go_at_call 38; refine (throw_ok _).mono ?_; rintro e w3 ⟨rfl, rfl⟩) | (go_at_call 39; refine U.out.mono ?_; rintro e w3 ⟨rfl, j, rfl⟩))
            exact ⟨rfl, HT.out.drewN _, .inr ⟨by decide, rfl⟩⟩
          · have e1 : ((k : Int) == bh) = false := by simpa using hb1
            clear hb hb1
            go_wp2_with (first | (go_at_call 39; refine U.out.mono ?_; rintro e w3 ⟨rfl, j, rfl⟩))
            exact ⟨rfl, HT.out.drewN _, .inr ⟨by decide, rfl⟩⟩
        · have U := u32_ok bc nb z (4 * k) HZ.out hnb (by omega) wr HC.out
          have hN := num_lt (fun j => z (4 * k + j)) 4 (fun j hj => HZ.out _ (by omega))
          have he : er4 nb bh er (k + 1) = 0 := by rw [HE.out, if_neg hb, if_neg hs]
          have hv : v4 z k = (num (fun j => z (4 * k + j)) 4 : Nat) := rfl
          have RS := Lib.hid (rowV_succ (fun i => Value.int .i64 (v4 z i)) k)
          generalize num (fun j => z (4 * k + j)) 4 = N at *
          have hw := v4_wrap N (by have : (256 : Nat) ^ 4 = 4294967296 := by decide
                                   omega)
          have HV := Lib.hid hv
          have HE0 := Lib.hid he
          have U := Lib.hid U
          clear he HE HST hs hN hv
          by_cases hb1 : (k : Int) = bh
          · have e1 : ((k : Int) == bh) = true := by simpa using hb1
            obtain rfl : er = 0 := by
              by_cases e : er = 0
              · exact e
              · exact absurd ⟨hb1, e⟩ hb
            clear hb hb1
            go_wp2_with (first
              | (go_at_call 38; refine (throw_ok _).mono ?_; rintro e w3 ⟨rfl, rfl⟩)
              | (go_at_call 39; refine U.out.mono ?_; rintro e w3 ⟨rfl, hc3, ht3⟩; have HC3 := Lib.hid hc3; have HT3 := Lib.hid ht3; have HO3 := Lib.hid (owns_turned HO.out ht3 (fun j hj (e : j = bc) => by have := (HO.out.lt j hj).1; omega)); clear hc3 ht3)
              | (at_builtin; go_must (refine wpList_append_own_at _ rfl _ _ 50 rfl w.heap.size 2 i0 (.int .i64 0) 1 8 Try.underlying50 hi hz0 hz1 hz2 rfl (by decide) _ _ _ rfl (HO3.out.alloc _) ⟨w3.heap.size, 0, none⟩ 1 1 [.int .i64 (N : Nat)] rfl rfl (cell_one_new _ _ _) (by simp [Value.oneCell']) (by unfold maxLen; omega) (by omega) (by have := HT3.out.size; have := HSZ.out; simp; omega) ?_); intro v2 w4 hown2 hgrow2 _ _; have HO4 := Lib.hid hown2; have HG4 := Lib.hid hgrow2; clear hown2 hgrow2))
            go_roundg (M - (k + 1))
            case measure => have := HGK.out; have := HLT.out; omega
            case rel =>
              refine ⟨k + 1, by have := HLT.out; omega, rfl, by go_num, HE0.out, ?_, by rw [RS.out, HV.out]; exact HO4.out, (((HT.out.trans HT3.out).alloc _).grown HG4.out (fun j hj => .inr (HO3.out.lt j hj).1))⟩
              have hlt3 := HC3.out.lt
              exact ((HC3.out.below ((Below.refl w3.heap.size w3).alloc (Nat.le_refl _) (.cells #[.int .i64 (N : Nat)] 2)) hlt3).below (B := bc + 1) ((Below.refl _ _).grown HG4.out (by simp; omega) (fun j hj => by have := (HO3.out.lt j hj).1; have := HSZ.out; omega)) (by omega))
          · have e1 : ((k : Int) == bh) = false := by simpa using hb1
            clear hb hb1
            go_wp2_with (first
              | (go_at_call 39; refine U.out.mono ?_; rintro e w3 ⟨rfl, hc3, ht3⟩; have HC3 := Lib.hid hc3; have HT3 := Lib.hid ht3; have HO3 := Lib.hid (owns_turned HO.out ht3 (fun j hj (e : j = bc) => by have := (HO.out.lt j hj).1; omega)); clear hc3 ht3)
              | (at_builtin; go_must (refine wpList_append_own_at _ rfl _ _ 50 rfl w.heap.size 2 i0 (.int .i64 0) 1 8 Try.underlying50 hi hz0 hz1 hz2 rfl (by decide) _ _ _ rfl (HO3.out.alloc _) ⟨w3.heap.size, 0, none⟩ 1 1 [.int .i64 (N : Nat)] rfl rfl (cell_one_new _ _ _) (by simp [Value.oneCell']) (by unfold maxLen; omega) (by omega) (by have := HT3.out.size; have := HSZ.out; simp; omega) ?_); intro v2 w4 hown2 hgrow2 _ _; have HO4 := Lib.hid hown2; have HG4 := Lib.hid hgrow2; clear hown2 hgrow2))
            go_roundg (M - (k + 1))
            case measure => have := HGK.out; have := HLT.out; omega
            case rel =>
              refine ⟨k + 1, by have := HLT.out; omega, rfl, by go_num, HE0.out, ?_, by rw [RS.out, HV.out]; exact HO4.out, (((HT.out.trans HT3.out).alloc _).grown HG4.out (fun j hj => .inr (HO3.out.lt j hj).1))⟩
              have hlt3 := HC3.out.lt
              exact ((HC3.out.below ((Below.refl w3.heap.size w3).alloc (Nat.le_refl _) (.cells #[.int .i64 (N : Nat)] 2)) hlt3).below (B := bc + 1) ((Below.refl _ _).grown HG4.out (by simp; omega) (fun j hj => by have := (HO3.out.lt j hj).1; have := HSZ.out; omega)) (by omega))
    · obtain rfl : k = M := by omega
      have i1 : ¬ (k : Int) < many := by omega
      obtain rfl : 0 = m := hr0.symm.trans HMM.out
      have HC := Lib.hid hc
      have HO := Lib.hid ho
      have HT := Lib.hid ht
      have HL := Lib.hid (v4s_length z k)
      clear hc ho ht hr0
      go_wp2
      go_ret
      obtain ⟨a5, c5, rfl, hr5, _⟩ := own_reads' HO.out
      refine ⟨HT.out, .inl ⟨rfl, a5, c5, ?_, ?_, HC.out⟩⟩
      · rw [HL.out]; rfl
      · rw [HL.out]; exact hr5.congr fun j hj => by rw [v4s_getD z k j hj]
end Go.Proofs.Ytknpekpigiclkaa
