/-
  THE STATEMENT corduroylaw03.CursorBack: for any three numbers and any cut the call returns true and leaves its arguments as they were. No condition.
-/
import Derived.Test.YtjdcafeljdnfeaaCurAwake
import Derived.Test.YtjdcafeljdnfeaaArr
import Derived.Deep.RegionHeld3
import Derived.Deep.DrawnRows
namespace Go.Proofs.Ytjdcafeljdnfeaa.cursorBack
open Go.ChangeShapes Go.WideShapes Go.ChangeAt Go.RowKit
set_option linter.unusedVariables false
/-- A row of bytes that reads as a list. -/
def Bytes (w : World) (a : Option Addr) (xs : List Int) : Prop := RowOf w a xs.length (fun i => .int .u8 (xs.getD i 0))
theorem bytes_of_own {w : World} {base : Nat} {v : Value} {xs : List Int} (n : Nat) (hn : xs.length = n) (h : w.ownsRow base 5 1 v n (cellsOf xs)) : ∃ a c, v = .slice a n c ∧ Bytes w a xs ∧ n ≤ c ∧ c ≤ maxLen ∧ (∀ p, a = some p → ∃ g, p = ⟨g, 0, none⟩ ∧ base ≤ g) := by
  subst hn
  obtain ⟨a, c, rfl, hr, h1, h2, h3⟩ := own_reads h
  refine ⟨a, c, rfl, hr.congr fun i hi => by simp [cellsOf, hi], h2, ?_, fun p hp => ?_⟩
  · rcases h.2 with ⟨hv, h0⟩ | ⟨g, cp, cur, hv, _, hg, h1, h2, _⟩
    · injection hv with ha hn hc
      omega
    · injection hv with ha hn hc
      omega
  · obtain ⟨g, hg⟩ := h3 p hp
    exact ⟨g, hg, by have := (h1 p hp).1; rw [hg] at this; exact this⟩
theorem range_list (xs : List Int) : (List.range xs.length).map (fun i => xs.getD i 0) = xs := by
  apply List.ext_getElem?
  intro i
  by_cases hi : i < xs.length
  · simp [hi]
  · rw [List.getElem?_eq_none (by simp; omega), List.getElem?_eq_none (by omega)]
theorem p16 (n : Nat) (hn : n < 65536) (w : World) :
    Calls Try.prog 27 #[.slice none 0 0, .int .u16 n] w fun e w' => ∃ a c, e = .returned (.slice a 2 c) ∧ Bytes w' a (bytesOf 2 n) ∧ Below w.heap.size w w' :=
  (Put16_any none 0 0 (fun _ => 0) n hn (by decide) w (.inl rfl)).mono fun e w' ⟨v, he, ho, hb⟩ => by
    obtain ⟨a, c, rfl, hr, _⟩ := bytes_of_own 2 (by rw [List.range_zero, List.map_nil, List.nil_append, bytesOf_length]) ho
    exact ⟨a, c, he, by simpa using hr, hb⟩
theorem p32 (a : Option Addr) (xs : List Int) (cap : Nat) (n : Nat) (hn : n < 4294967296) (hl : xs.length = 2) (w : World) (h : Bytes w a xs) :
    Calls Try.prog 26 #[.slice a 2 cap, .int .u32 n] w fun e w' => ∃ a c, e = .returned (.slice a 6 c) ∧ Bytes w' a (xs ++ bytesOf 4 n) ∧ Below w.heap.size w w' := by
  have h1 := Put32_any a xs.length cap (fun i => xs.getD i 0) n hn (by omega) w h
  rw [range_list, hl] at h1
  exact h1.mono fun e w' ⟨v, he, ho, hb⟩ => by
    obtain ⟨a, c, rfl, hr, _⟩ := bytes_of_own 6 (by rw [List.length_append, bytesOf_length, hl]) ho
    exact ⟨a, c, he, hr, hb⟩
theorem p64 (a : Option Addr) (xs : List Int) (cap : Nat) (n : Nat) (hn : n < 18446744073709551616) (hl : xs.length = 6) (w : World) (h : Bytes w a xs) :
    Calls Try.prog 25 #[.slice a 6 cap, .int .u64 n] w fun e w' => ∃ a c, e = .returned (.slice a 14 c) ∧ Bytes w' a (xs ++ bytesOf 8 n) ∧ 14 ≤ c ∧ c ≤ maxLen ∧ (∃ g, a = some ⟨g, 0, none⟩ ∧ w.heap.size ≤ g) ∧ Below w.heap.size w w' := by
  have h1 := Put64_any a xs.length cap (fun i => xs.getD i 0) n hn (by omega) w h
  rw [range_list, hl] at h1
  exact h1.mono fun e w' ⟨v, he, ho, hb⟩ => by
    obtain ⟨g, c, hv, hg, _⟩ := ho.form (by decide)
    obtain ⟨a, c, rfl, hr, h2, h3, h4⟩ := bytes_of_own 14 (by rw [List.length_append, bytesOf_length, hl]) ho
    injection hv with ha
    exact ⟨a, c, he, hr, h2, h3, ⟨g, ha, hg⟩, hb⟩
/-- The numbers that are got of what was put. -/
theorem num_put (n k N : Nat) (z : Nat → Int) (at_ : Nat) (h : ∀ i, i < k → z (at_ + i) = ((N / 256 ^ i % 256 : Nat) : Int)) (hN : N < 256 ^ k) : num (fun i => z (at_ + i)) k = N := by
  rw [num_of N _ _ h, Nat.mod_eq_of_lt hN]
/-- The first closure: it reads all, and lays it. -/
theorem closure1 (bp bx bc : Nat) (z : Nat → Int) (n0 n1 n2 : Nat) (hz : ∀ i, i < 14 → 0 ≤ z i ∧ z i ≤ 255) (e0 : num (fun i => z (0 + i)) 2 = n0) (e1 : num (fun i => z (2 + i)) 4 = n1) (e2 : num (fun i => z (6 + i)) 8 = n2)
    (w : World) (hp : Lies w bp 36 #[.pointer (some ⟨bc, 0, none⟩)]) (hx : Lies w bx 51 #[.int .u64 0, .int .u64 0, .int .u64 0]) (h : CursorAt w bc 14 z 0) (hcp : bc < bp) (hcx : bc < bx) (hpx : bp < bx)
    (l0 : n0 < 65536) (l1 : n1 < 4294967296) :
    Calls Try.prog 28 #[.pointer (some ⟨bp, 0, none⟩), .pointer (some ⟨bx, 0, none⟩)] w fun e w' => e = .returned (.tuple #[]) ∧ Lies w' bx 51 #[.int .u64 n0, .int .u64 n1, .int .u64 n2] ∧ Turned (fun i => i = bc ∨ i = bx) w w' := by
  have c0 := hp.cell 0
  have U1 := u16_ok bc 14 z 0 hz (by decide) (by decide) w h
  rw [e0] at U1
  have U1 := Lib.hid U1
  have HP := Lib.hid hp
  have HX := Lib.hid hx
  have HZ := Lib.hid hz
  have E1 := Lib.hid e1
  have E2 := Lib.hid e2
  clear hp hx h e0 e1 e2 hz
  go_enter Try.func28, Try.ntmps28
  go_wp2_with fail
  refine U1.out.mono ?_
  rintro e w1 ⟨rfl, hc1, ht1⟩
  have HX1 : Lies w1 bx 51 _ := HX.out.turned ht1 (fun (e : bx = bc) => by omega)
  have HP1 : Lies w1 bp 36 _ := HP.out.turned ht1 (fun (e : bp = bc) => by omega)
  have x1 := HX1.cell 0
  have f1 := HX1.frozen 0
  have HX2 := Lib.hid (HX1.set_ 0 (.int .u64 n0))
  have T2 : Turned (fun i => i = bc ∨ i = bx) w (w1.setCell ⟨bx, 0, none⟩ (.int .u64 n0)) := (ht1.mono (fun i _ h => .inl h)).setCell (p := ⟨bx, 0, none⟩) (.inl (.inr rfl)) _
  have TX : Turned (fun i => i = bx) w1 (w1.setCell ⟨bx, 0, none⟩ (.int .u64 n0)) := (Turned.refl (fun i => i = bx) _).setCell (p := ⟨bx, 0, none⟩) (.inl rfl) _
  have U2 := u32_ok bc 14 z 2 HZ.out (by decide) (by decide) _ (hc1.turned TX (fun i hi (e : i = bx) => by omega))
  rw [E1.out] at U2
  have HP2 := HP1.turned TX (fun (e : bp = bx) => by omega)
  have c2 := HP2.cell 0
  have U2 := Lib.hid U2
  have HP2 := Lib.hid HP2
  have T2 := Lib.hid T2
  clear hc1 ht1 HX1 HP1 TX
  go_wp2_with fail
  refine U2.out.mono ?_
  rintro e w3 ⟨rfl, hc3, ht3⟩
  have HX3 : Lies w3 bx 51 _ := HX2.out.turned ht3 (fun (e : bx = bc) => by omega)
  have HP3 : Lies w3 bp 36 _ := HP2.out.turned ht3 (fun (e : bp = bc) => by omega)
  have x3 := HX3.cell 1
  have f3 := HX3.frozen 1
  have HX4 := Lib.hid (HX3.set_ 1 (.int .u64 n1))
  have T4 : Turned (fun i => i = bc ∨ i = bx) w (w3.setCell ⟨bx, 1, none⟩ (.int .u64 n1)) := (T2.out.trans (ht3.mono (fun i _ h => .inl h))).setCell (p := ⟨bx, 1, none⟩) (.inl (.inr rfl)) _
  have TX : Turned (fun i => i = bx) w3 (w3.setCell ⟨bx, 1, none⟩ (.int .u64 n1)) := (Turned.refl (fun i => i = bx) _).setCell (p := ⟨bx, 1, none⟩) (.inl rfl) _
  have U4 := u64_ok bc 14 z 6 HZ.out (by decide) (by decide) _ (hc3.turned TX (fun i hi (e : i = bx) => by omega))
  rw [E2.out] at U4
  have HP4 := HP3.turned TX (fun (e : bp = bx) => by omega)
  have c4 := HP4.cell 0
  have U4 := Lib.hid U4
  have HP4 := Lib.hid HP4
  have T4 := Lib.hid T4
  clear hc3 ht3 HX3 HP3 TX
  go_wp2_with fail
  refine U4.out.mono ?_
  rintro e w5 ⟨rfl, hc5, ht5⟩
  have HX5 : Lies w5 bx 51 _ := HX4.out.turned ht5 (fun (e : bx = bc) => by omega)
  have HP5 : Lies w5 bp 36 _ := HP4.out.turned ht5 (fun (e : bp = bc) => by omega)
  have x5 := HX5.cell 2
  have f5 := HX5.frozen 2
  have HX6 := Lib.hid (HX5.set_ 2 (.int .u64 n2))
  have T6 : Turned (fun i => i = bc ∨ i = bx) w (w5.setCell ⟨bx, 2, none⟩ (.int .u64 n2)) := (T4.out.trans (ht5.mono (fun i _ h => .inl h))).setCell (p := ⟨bx, 2, none⟩) (.inl (.inr rfl)) _
  have TX : Turned (fun i => i = bx) w5 (w5.setCell ⟨bx, 2, none⟩ (.int .u64 n2)) := (Turned.refl (fun i => i = bx) _).setCell (p := ⟨bx, 2, none⟩) (.inl rfl) _
  have U6 := cend_ok bc 14 z (by decide) _ (hc5.turned TX (fun i hi (e : i = bx) => by omega))
  have HP6 := HP5.turned TX (fun (e : bp = bx) => by omega)
  have c6 := HP6.cell 0
  have U6 := Lib.hid U6
  have T6 := Lib.hid T6
  clear hc5 ht5 HX5 HP5 TX
  go_wp2_with fail
  refine U6.out.mono ?_
  rintro e w7 ⟨rfl, k, rfl⟩
  go_wp2
  go_end0
  exact ⟨rfl, HX6.out.drewN k, T6.out.drewN k⟩
/-- The second closure: it throws. -/
theorem closure2 (bp bc m : Nat) (z : Nat → Int) (hz : ∀ i, i < m → 0 ≤ z i ∧ z i ≤ 255) (hm : m < 14) (w : World) (hp : Lies w bp 36 #[.pointer (some ⟨bc, 0, none⟩)]) (h : CursorAt w bc m z 0) (hcp : bc < bp) :
    Calls Try.prog 33 #[.pointer (some ⟨bp, 0, none⟩)] w fun e w' => e = .panicked [{ v := .iface 98 (.agg #[.int .i64 1]), recovered := false }] ∧ Turned (fun i => i = bc) w w' := by
  have c0 := hp.cell 0
  have HP := Lib.hid hp
  have H := Lib.hid h
  have HZ := Lib.hid hz
  clear hp h hz
  by_cases m2 : m < 2
  · have U := Lib.hid (u16_short bc m z 0 (by omega) (by omega) (by omega) w H.out)
    go_enter Try.func33, Try.ntmps33
    go_wp2_with fail
    refine U.out.mono ?_
    rintro e w1 ⟨rfl, k, rfl⟩
    exact ⟨rfl, rfl, (Turned.refl _ _).drewN k⟩
  · have U := Lib.hid (u16_ok bc m z 0 HZ.out (by omega) (by omega) w H.out)
    go_enter Try.func33, Try.ntmps33
    go_wp2_with fail
    refine U.out.mono ?_
    rintro e w1 ⟨rfl, hc1, ht1⟩
    have HP1 : Lies w1 bp 36 _ := HP.out.turned ht1 (fun (e : bp = bc) => by omega)
    have c1 := HP1.cell 0
    have T1 := Lib.hid ht1
    clear ht1
    by_cases m6 : m < 6
    · have U := Lib.hid (u32_short bc m z 2 (by omega) (by omega) (by omega) w1 hc1)
      clear hc1 HP1
      go_wp2_with fail
      refine U.out.mono ?_
      rintro e w3 ⟨rfl, k, rfl⟩
      exact ⟨rfl, rfl, T1.out.drewN k⟩
    · have U := Lib.hid (u32_ok bc m z 2 HZ.out (by omega) (by omega) w1 hc1)
      have HP1 := Lib.hid HP1
      clear hc1
      go_wp2_with fail
      refine U.out.mono ?_
      rintro e w3 ⟨rfl, hc3, ht3⟩
      have HP3 : Lies w3 bp 36 _ := HP1.out.turned ht3 (fun (e : bp = bc) => by omega)
      have c3 := HP3.cell 0
      have U := Lib.hid (u64_short bc m z 6 (by omega) (by omega) (by omega) w3 hc3)
      have T3 := Lib.hid (T1.out.trans ht3)
      clear hc3 HP3 ht3
      go_wp2_with fail
      refine U.out.mono ?_
      rintro e w5 ⟨rfl, k, rfl⟩
      exact ⟨rfl, rfl, T3.out.drewN k⟩
theorem alive_turned {S : Nat → Prop} {w w1 : World} (k : Turned S (w.alloc (.cells #[.int .i64 0] 27)) w1) (hS : ¬ S w.heap.size) : Alive w w1 := by
  have h := (Lies.new w 27 #[.int .i64 0]).turned k hS
  exact ⟨h.cell 0, h.frozen 0, h.lt⟩
theorem bytes_mem (n N : Nat) : ∀ x ∈ bytesOf n N, 0 ≤ x ∧ x ≤ 255 := by
  intro x hx
  unfold bytesOf at hx
  obtain ⟨i, _, rfl⟩ := List.mem_map.1 hx
  omega
theorem getD_mem (xs : List Int) (h : ∀ x ∈ xs, 0 ≤ x ∧ x ≤ 255) (i : Nat) (hi : i < xs.length) : 0 ≤ xs.getD i 0 ∧ xs.getD i 0 ≤ 255 := by
  apply h
  simp [List.getD, hi]
theorem getD_bytes (n N i : Nat) (hi : i < n) : (bytesOf n N).getD i 0 = ((N / 256 ^ i % 256 : Nat) : Int) := by
  rw [List.getD_eq_getElem?_getD, bytesOf_get _ _ _ hi]; rfl
theorem getD_left (xs ys : List Int) (i : Nat) (hi : i < xs.length) : (xs ++ ys).getD i 0 = xs.getD i 0 := by
  rw [List.getD_eq_getElem?_getD, List.getD_eq_getElem?_getD, List.getElem?_append_left hi]
theorem getD_right (xs ys : List Int) (k i : Nat) (hi : xs.length = k) : (xs ++ ys).getD (k + i) 0 = ys.getD i 0 := by
  subst hi
  rw [List.getD_eq_getElem?_getD, List.getD_eq_getElem?_getD, List.getElem?_append_right (by omega), Nat.add_sub_cancel_left]
set_option maxRecDepth 100000 in
set_option maxHeartbeats 4000000 in
theorem main (n0 n1 n2 cut : Int) (p0 p1 p2 m : Nat) (w : World) (l0 : p0 < 65536) (l1 : p1 < 4294967296) (l2 : p2 < 18446744073709551616)
    (h0 : IntKind.u16.wrap n0 = p0) (h1 : IntKind.u32.wrap n1 = p1) (h2 : n2 = p2) (b0 : 0 ≤ cut) (b1 : cut ≤ 255) (hm : cut % 14 = m) (hm14 : m < 14) :
    Calls Try.prog 5 #[.agg #[.int .u64 n0, .int .u64 n1, .int .u64 n2], .int .u8 cut] w fun e w' => e = .returned (.bool true) ∧ Below w.heap.size w w' := by
  subst h2
  have hmf : ∀ (fn : Fn) (first cap : Array Value) (w : World), (Instr.makeFunc fn first cap).run Try.prog w = .ok (.func fn first cap) w := fun _ _ _ _ => rfl
  have P16 := Lib.hid (fun W => p16 p0 l0 W)
  have hl14 : ((bytesOf 2 p0 ++ bytesOf 4 p1) ++ bytesOf 8 p2).length = 14 := by simp [bytesOf_length]
  have E0 : num (fun i => (fun i => ((bytesOf 2 p0 ++ bytesOf 4 p1) ++ bytesOf 8 p2).getD i 0) (0 + i)) 2 = p0 := num_put 0 2 p0 (fun i => ((bytesOf 2 p0 ++ bytesOf 4 p1) ++ bytesOf 8 p2).getD i 0) 0 (fun i hi => by
    show ((bytesOf 2 p0 ++ bytesOf 4 p1) ++ bytesOf 8 p2).getD (0 + i) 0 = _
    rw [Nat.zero_add, getD_left _ _ _ (by simp [bytesOf_length]; omega), getD_left _ _ _ (by simp [bytesOf_length]; omega), getD_bytes _ _ _ hi]) (by omega)
  have E1 : num (fun i => (fun i => ((bytesOf 2 p0 ++ bytesOf 4 p1) ++ bytesOf 8 p2).getD i 0) (2 + i)) 4 = p1 := num_put 0 4 p1 (fun i => ((bytesOf 2 p0 ++ bytesOf 4 p1) ++ bytesOf 8 p2).getD i 0) 2 (fun i hi => by
    show ((bytesOf 2 p0 ++ bytesOf 4 p1) ++ bytesOf 8 p2).getD (2 + i) 0 = _
    rw [getD_left _ _ _ (by simp [bytesOf_length]; omega), getD_right _ _ _ _ (bytesOf_length 2 p0), getD_bytes _ _ _ hi]) (by omega)
  have E2 : num (fun i => (fun i => ((bytesOf 2 p0 ++ bytesOf 4 p1) ++ bytesOf 8 p2).getD i 0) (6 + i)) 8 = p2 := num_put 0 8 p2 (fun i => ((bytesOf 2 p0 ++ bytesOf 4 p1) ++ bytesOf 8 p2).getD i 0) 6 (fun i hi => by
    show ((bytesOf 2 p0 ++ bytesOf 4 p1) ++ bytesOf 8 p2).getD (6 + i) 0 = _
    rw [getD_right _ _ _ _ (by simp [bytesOf_length]), getD_bytes _ _ _ hi]) (by omega)
  have hz : ∀ i, i < 14 → 0 ≤ ((bytesOf 2 p0 ++ bytesOf 4 p1) ++ bytesOf 8 p2).getD i 0 ∧ ((bytesOf 2 p0 ++ bytesOf 4 p1) ++ bytesOf 8 p2).getD i 0 ≤ 255 := fun i hi => getD_mem _ (fun x hx => by
    rcases List.mem_append.1 hx with hx | hx
    · rcases List.mem_append.1 hx with hx | hx
      · exact bytes_mem _ _ x hx
      · exact bytes_mem _ _ x hx
    · exact bytes_mem _ _ x hx) i (by omega)
  have HL := Lib.hid hl14
  have E0 := Lib.hid E0
  have E1 := Lib.hid E1
  have E2 := Lib.hid E2
  have HZ := Lib.hid hz
  clear hl14 hz
  obtain ⟨W0, hW0⟩ : ∃ W0, w.alloc (.cells #[.int .u64 n0, .int .u64 n1, .int .u64 p2] 51) = W0 := ⟨_, rfl⟩
  have hB0 : Lies W0 w.heap.size 51 #[.int .u64 n0, .int .u64 n1, .int .u64 p2] := by rw [← hW0]; exact Lies.new _ _ _
  have hw0 : Below w.heap.size w W0 := by rw [← hW0]; exact (Below.refl _ _).alloc (Nat.le_refl _) _
  have c0 := hB0.cell 0
  have c1 := hB0.cell 1
  have c2 := hB0.cell 2
  have hlt := hB0.lt
  have HB0 := Lib.hid hB0
  have HW0 := Lib.hid hw0
  clear hB0 hw0
  go_enter Try.func5, Try.ntmps5
  go_wp2
  have D0 := HB0.out.drewN 0
  go_region_held3 (fun w' => w'.cell? ⟨w.heap.size, 0, none⟩ = some (.int .u64 n0) ∧ w'.cell? ⟨w.heap.size, 1, none⟩ = some (.int .u64 n1) ∧ w'.cell? ⟨w.heap.size, 2, none⟩ = some (.int .u64 p2)) (first | (exact q1) | (exact q2) | (exact q3) | go_keep)
    (first
      | (go_at_call 27; refine (P16.out _).mono ?_; rintro e w1 ⟨a1, k1, rfl, r1, d1⟩; have d1 : Below W0.heap.size W0 w1 := ⟨d1.os, d1.tape, d1.output, d1.size, d1.block⟩; have L1 := HB0.out.below d1 hlt; have q1 := And.intro (L1.cell 0) (And.intro (L1.cell 1) (L1.cell 2)); have P32 := Lib.hid (p32 a1 _ k1 p1 l1 (bytesOf_length _ _) w1 r1); have D1 := Lib.hid d1; clear d1 L1 r1)
      | (go_at_call 26; refine P32.out.mono ?_; rintro e w2 ⟨a2, k2, rfl, r2, d2⟩; have d2 : Below W0.heap.size W0 w2 := D1.out.trans (d2.mono D1.out.size); have L2 := HB0.out.below d2 hlt; have q2 := And.intro (L2.cell 0) (And.intro (L2.cell 1) (L2.cell 2)); have P64 := Lib.hid (p64 a2 _ k2 p2 l2 (by rw [List.length_append, bytesOf_length, bytesOf_length]) w2 r2); have D2 := Lib.hid d2; clear d2 L2 r2)
      | (go_at_call 25; refine P64.out.mono ?_; rintro e w3 ⟨a3, k3, rfl, r3, hk3, hk4, hg3, d3⟩; have d3 : Below W0.heap.size W0 w3 := D2.out.trans (d3.mono D2.out.size); have L3 := HB0.out.below d3 hlt; have q3 := And.intro (L3.cell 0) (And.intro (L3.cell 1) (L3.cell 2)); have R3 := Lib.hid r3; have L3 := Lib.hid L3; have D3 := Lib.hid d3; clear d3 r3))
  generalize hxs : (bytesOf 2 p0 ++ bytesOf 4 p1) ++ bytesOf 8 p2 = xs at *
  clear hxs q1 q2 q3 D0
  obtain ⟨g, rfl, hg⟩ := hg3
  have s2 := D2.out.size
  obtain ⟨z, hzz⟩ : ∃ z : Nat → Int, (fun i => xs.getD i 0) = z := ⟨_, rfl⟩
  have R14 : RowOf w3 (some ⟨g, 0, none⟩) 14 (fun i => .int .u8 (z i)) := by
    have := R3.out
    unfold Bytes at this
    rw [HL.out] at this
    rw [← hzz]
    exact this
  have R14 := Lib.hid R14
  have HZ : Hid (∀ i, i < 14 → 0 ≤ z i ∧ z i ≤ 255) := Lib.hid (by rw [← hzz]; exact HZ.out)
  have E0 : Hid (num (fun i => z (0 + i)) 2 = p0) := Lib.hid (by rw [← hzz]; exact E0.out)
  have E1 : Hid (num (fun i => z (2 + i)) 4 = p1) := Lib.hid (by rw [← hzz]; exact E1.out)
  have E2 : Hid (num (fun i => z (6 + i)) 8 = p2) := Lib.hid (by rw [← hzz]; exact E2.out)
  clear hzz R3
  go_wp2_with fail
  refine (cnew_any _ 14 k3 z (by decide) w3 R14.out).mono ?_
  rintro e w4 ⟨bc, rfl, hc4, hbc, hb4⟩
  have C4 := Lib.hid hc4
  have B4 := Lib.hid hb4
  have l4 := hc4.lt
  have s3 := D3.out.size
  have s4 := hb4.size
  obtain ⟨W4, hW4⟩ : ∃ W4, (w4.alloc (.cells #[.pointer (some ⟨bc, 0, none⟩)] 36)).alloc (.cells #[.int .u64 0, .int .u64 0, .int .u64 0] 51) = W4 := ⟨_, rfl⟩
  have hb44 : Below w4.heap.size w4 W4 := by rw [← hW4]; exact ((Below.refl _ _).alloc (Nat.le_refl _) _).alloc (by simp) _
  have hp4 : Lies W4 w4.heap.size 36 #[.pointer (some ⟨bc, 0, none⟩)] := by rw [← hW4]; exact (Lies.new _ _ _).alloc _
  have hx4 : Lies W4 (w4.heap.size + 1) 51 #[.int .u64 0, .int .u64 0, .int .u64 0] := by rw [← hW4]; have := Lies.new (w4.alloc (.cells #[.pointer (some ⟨bc, 0, none⟩)] 36)) 51 #[.int .u64 0, .int .u64 0, .int .u64 0]; simpa using this
  have s44 : W4.heap.size = w4.heap.size + 2 := by rw [← hW4]; simp
  have CL1 := closure1 w4.heap.size (w4.heap.size + 1) bc z p0 p1 p2 HZ.out E0.out E1.out E2.out (W4.alloc (.cells #[.int .i64 0] 27)) (hp4.alloc _) (hx4.alloc _) (C4.out.below (hb44.trans ((Below.refl W4.heap.size W4).alloc (Nat.le_refl _) _ |>.mono (by omega))) l4) l4 (by omega) (by omega) l0 l1
  have TR := try_any 28 #[.pointer (some ⟨w4.heap.size, 0, none⟩), .pointer (some ⟨w4.heap.size + 1, 0, none⟩)] W4 (fun n w' => n = 0 ∧ Lies w' (w4.heap.size + 1) 51 #[.int .u64 p0, .int .u64 p1, .int .u64 p2] ∧ Turned (fun i => i = bc ∨ i = w4.heap.size + 1) (W4.alloc (.cells #[.int .i64 0] 27)) w') (fun _ => by simp [go_sem])
    (CL1.mono (by
      rintro e w' ⟨rfl, hx, ht⟩
      exact ⟨alive_turned ht (fun h => by omega), .inl ⟨rfl, rfl, hx, ht⟩⟩))
  have TR := Lib.hid TR
  have HP4 := Lib.hid hp4
  have HB44 := Lib.hid hb44
  clear CL1 hp4 hx4 hb44 hc4 hb4
  go_wp2_with fail
  refine TR.out.mono ?_
  rintro e w5 ⟨n, w5', rfl, ⟨rfl, hx5, ht5⟩, ha5⟩
  have T5 : Turned (fun i => i = bc ∨ i = w4.heap.size + 1) W4 w5 := (((Turned.refl (fun i => i = bc ∨ i = w4.heap.size + 1) W4).alloc _).trans ht5).trans' ha5.turned (fun i hi h => by omega)
  have X5 := Lib.hid (hx5.turned ha5.turned (fun h => by omega))
  have s5 := T5.size
  obtain ⟨b14, o14, he14, hlt14, hc14⟩ := R14.out.at_ (i := 0) (by decide)
  injection he14 with he14
  injection he14 with hb14 ho14
  subst hb14 ho14
  have R5 : RowOf w5 (some ⟨g, 0, none⟩) m (fun i => .int .u8 (z i)) := .inr ⟨g, 0, rfl, fun i hi => by
    rw [T5.cell (p := ⟨g, 0 + i, none⟩) (by simp; omega) (fun h => by simp at h; omega), HB44.out.cell (p := ⟨g, 0 + i, none⟩) (by simp; omega), B4.out.cell (p := ⟨g, 0 + i, none⟩) (by simpa using hlt14)]
    exact hc14 i (by omega)⟩
  have R5 := Lib.hid R5
  have B5 : Below w.heap.size w w5 := by
    refine HW0.out.trans ((D3.out.trans (B4.out.mono D3.out.size)).mono (by omega) |>.trans ((HB44.out.mono (by omega)).trans (T5.below fun i hi => ⟨by omega, fun h => by omega⟩)))
  have B5 := Lib.hid B5
  have L5 : Lies w5 w.heap.size 51 _ := (HB0.out.below ((D3.out.trans (B4.out.mono D3.out.size)).trans (HB44.out.mono (by omega))) hlt).turned T5 (fun h => by omega)
  have L5 := Lib.hid L5
  have m0 : (0 : Int) ≤ m := by omega
  have mk : (m : Int) ≤ k3 := by omega
  have kk : (k3 : Int) ≤ 9223372036854775807 := by unfold maxLen at hk4; omega
  clear hx5 ht5 ha5 hc14
  go_wp2_with fail
  refine (cnew_any _ m k3 z (by omega) w5 R5.out).mono ?_
  rintro e w6 ⟨bd, rfl, hc6, hbd, hb6⟩
  have l6 := hc6.lt
  have s6 := hb6.size
  obtain ⟨W6, hW6⟩ : ∃ W6, w6.alloc (.cells #[.pointer (some ⟨bd, 0, none⟩)] 36) = W6 := ⟨_, rfl⟩
  have hb66 : Below w6.heap.size w6 W6 := by rw [← hW6]; exact (Below.refl _ _).alloc (Nat.le_refl _) _
  have hp6 : Lies W6 w6.heap.size 36 #[.pointer (some ⟨bd, 0, none⟩)] := by rw [← hW6]; exact Lies.new _ _ _
  have s66 : W6.heap.size = w6.heap.size + 1 := by rw [← hW6]; simp
  have CL2 := closure2 w6.heap.size bd m z (fun i hi => HZ.out i (by omega)) hm14 (W6.alloc (.cells #[.int .i64 0] 27)) (hp6.alloc _) (hc6.below (hb66.trans ((Below.refl W6.heap.size W6).alloc (Nat.le_refl _) _ |>.mono (by omega))) l6) l6
  have TR2 := try_any 33 #[.pointer (some ⟨w6.heap.size, 0, none⟩)] W6 (fun n w' => n = 1 ∧ Turned (fun i => i = bd) (W6.alloc (.cells #[.int .i64 0] 27)) w') (fun _ => by simp [go_sem])
    (CL2.mono (by
      rintro e w' ⟨rfl, ht⟩
      exact ⟨alive_turned ht (fun h => by omega), .inr ⟨1, by decide, rfl, rfl, ht⟩⟩))
  have B6 := Lib.hid (B5.out.trans (hb6.mono B5.out.size))
  have L6 := Lib.hid (L5.out.below hb6 L5.out.lt)
  have X6 := Lib.hid (X5.out.below hb6 X5.out.lt)
  have TR2 := Lib.hid TR2
  have HB66 := Lib.hid hb66
  have lx6 := X6.out.lt
  have ll6 := L6.out.lt
  have lb6 := B5.out.size
  clear CL2 hp6 hb66 hc6 hb6
  go_wp2_with fail
  refine TR2.out.mono ?_
  rintro e w7 ⟨n, w7', rfl, ⟨rfl, ht7⟩, ha7⟩
  have T7 : Turned (fun i => i = bd) W6 w7 := (((Turned.refl (fun i => i = bd) W6).alloc _).trans ht7).trans' ha7.turned (fun i hi h => by omega)
  have X7 := (X6.out.below HB66.out lx6).turned T7 (fun h => by have := X5.out.lt; omega)
  have L7 := (L6.out.below HB66.out ll6).turned T7 (fun h => by have := L5.out.lt; omega)
  have B7 : Below w.heap.size w w7 := (B6.out.trans (HB66.out.mono (by omega))).trans (T7.below fun i hi => ⟨by omega, fun h => by omega⟩)
  have x0 := X7.cell 0
  have x1 := X7.cell 1
  have x2 := X7.cell 2
  have y0 := L7.cell 0
  have y1 := L7.cell 1
  have y2 := L7.cell 2
  have B7 := Lib.hid B7
  clear ht7 ha7 X7 L7 T7
  go_wp2_with (go_at_call 24; refine (awake3_any _).mono ?_; rintro e w8 ⟨rfl, hb8⟩; have HB8 := Lib.hid hb8; clear hb8)
  go_ret
  exact ⟨rfl, B7.out.trans (HB8.out.mono B7.out.size)⟩
theorem walk (x0 y0 u0 a1 : Int) (b0 : (Lit.int .u64 x0).wf = true ∧ (Lit.int .u64 y0).wf = true ∧ (Lit.int .u64 u0).wf = true) (b1 : 0 ≤ a1 ∧ a1 ≤ 255) (w : World) :
    Calls Try.prog 5 #[.agg #[.int .u64 x0, .int .u64 y0, .int .u64 u0], .int .u8 a1] w fun e w' => e = .returned (.bool true) ∧ Below w.heap.size w w' := by
  obtain ⟨c0, c1, c2⟩ := b0
  have c0 := bounds_u64 c0
  have c1 := bounds_u64 c1
  have c2 := bounds_u64 c2
  have h16 : IntKind.u16.wrap x0 = ((x0 % 65536).toNat : Nat) := by
    have : IntKind.u16.wrap x0 = x0 % 65536 := by simp [IntKind.wrap, IntKind.bits, IntKind.signed]
    omega
  have h32 : IntKind.u32.wrap y0 = ((y0 % 4294967296).toNat : Nat) := by
    have : IntKind.u32.wrap y0 = y0 % 4294967296 := by simp [IntKind.wrap, IntKind.bits, IntKind.signed]
    omega
  exact main x0 y0 u0 a1 _ _ u0.toNat (a1 % 14).toNat w (by omega) (by omega) (by omega) h16 h32 (by omega) b1.1 b1.2 (by omega) (by omega)
theorem own : ownKnob Try.prog.godebug = none := by kernel_rfl
set_option maxRecDepth 100000 in
theorem contract (H : Type) (enc : TypeId × Value → H) (W : World) (base : Nat) (args : Array Value) (ds gs : List (DataW H)) (before : List MemPlace)
    (hval : ∀ (j : Nat) t v, Try.f5.params[j]? = some t → args[j]? = some v → Value.okWide Try.prog W .any base t v)
    (hW : DataW.Whole enc Try.prog Try.f5.params.toList Rows.cursorBackSpec.vars false W args.toList ds gs before) :
    Calls Try.prog 5 args W fun e W' => ∃ v, e = .returned v ∧ Rows.cursorBackSpec.post enc Try.prog Try.f5 false true false false W args v W' := by
  have hW' := hW
  obtain ⟨p, q, hA0, hV, rfl, hfz, hnd⟩ := hW
  have hA : DataW.TrodAll enc Try.prog W 0 (fun _ => true) true Try.f5.params.toList args.toList ds p := hA0
  rw [Try.params5] at hA hval
  obtain ⟨v0, vs0, d0, ds0, p0, q0, hargs, rfl, rfl, h0, r0⟩ := trodAll_cons hA
  obtain ⟨v1, vs1, d1, ds1, p1, q1, rfl, rfl, rfl, h1, r1⟩ := trodAll_cons r0
  obtain ⟨rfl, rfl, rfl⟩ := trodAll_nil r1
  obtain rfl : args = #[v0, v1] := by cases args; simp_all
  obtain ⟨rfl, rfl⟩ := trodVars_none hV
  obtain ⟨x0, y0, u0, rfl, rfl, rfl, w0x, w0y, w0u⟩ := open_arr3 Try.underlying51 Try.underlying50 (by kernel_rfl) (by kernel_rfl) (hval 0 51 v0 rfl rfl) h0
  have b0 := And.intro w0x (And.intro w0y w0u)
  obtain ⟨a1, rfl, rfl, rfl, w1⟩ := open_int Try.underlying5 (hval 1 5 v1 rfl rfl) h1
  have b1 := bounds_u8 w1
  clear hA0
  simp only [List.append_nil] at hW'
  refine (walk x0 y0 u0 a1 b0 b1 W).mono fun e W' ⟨he, hg⟩ => ?_
  subst he
  exact ⟨_, rfl, _, _, _, [], [], [], hW', trodAll_mk1 (shut_bool Try.underlying4 _), (trodAll_cons_mk (shut_arr3 Try.underlying51 Try.underlying50 (by kernel_rfl) (by kernel_rfl) w0x w0y w0u) (trodAll_cons_mk (shut_int Try.underlying5 w1) trodAll_mk0)), rfl, hg.frame _, fun h => by cases h⟩

set_option maxRecDepth 100000 in
theorem lifted (os : Os) (started : os.Started) (H : Type) (enc : TypeId × Value → H) :
    ReturnsInHanded {} Try.checked os 5 .any (Rows.cursorBackSpec.pre6 enc Try.prog Try.f5 Rows.cursorBackRow.domain false) (Rows.cursorBackSpec.post enc Try.prog Try.f5 false true false false) := by
  refine returnsInHanded_of_change (C := Try.checked) own started (by kernel_rfl) Try.func5
    (ChangeSpec.witness6 (enc := enc) (C := Try.checked) false ⟨#[], #[.agg #[.int .u64 0, .int .u64 0, .int .u64 0], .int .u8 0], []⟩ 8 (by kernel_rfl) (by kernel_rfl) (by kernel_rfl) (by kernel_rfl)) ?_
  intro W base args ds gs before hval hW _ _
  exact contract H enc W base args ds gs before hval hW

/-- ████ THE STATEMENT ████ -/
theorem proved : Rows.CursorBackSaid :=
  OpenClaim.holds_of_wide 5 Try.f5 rfl rfl rfl rfl rfl rfl rfl ⟨rfl, rfl, rfl, rfl, rfl⟩ rfl rfl rfl rfl rfl (by kernel_rfl) Try.func5 (by kernel_rfl)
    (of_decide_eq_true (by kernel_rfl)) (by unfold Func.isWrapper; first | (rw [if_pos (by decide +kernel)]; kernel_rfl) | (rw [if_neg (by decide +kernel)]; exact ⟨rfl, rfl⟩))
    (fun os started H enc _ => lifted os started H enc)
end Go.Proofs.Ytjdcafeljdnfeaa.cursorBack
