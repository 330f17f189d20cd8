/-
  THE STATEMENT corduroylaw22.XorBack: for any numbers the call returns true and leaves its argument as it was. Condition: the library's table for trailing noughts reads as its initialiser laid it (the card ties it).
-/
import Derived.Test.YtejiboinkapkcaaDoorCards
import Derived.Test.YtejiboinkapkcaaDoorTie
import Derived.Test.YtejiboinkapkcaaDoorXorD
import Derived.Test.YtejiboinkapkcaaDoorXorL
import Derived.Test.YtejiboinkapkcaaDoorXorJ
import Derived.Test.YtejiboinkapkcaaDoorXorO
import Derived.Test.YtejiboinkapkcaaDoorBitsRefB
import Derived.Test.YtejiboinkapkcaaDoorIsRow
namespace Go.Proofs.YtejiboinkapkcaaDoor.xorBack
open Go.ChangeShapes Go.WideShapes Go.ChangeAt Go.RowKit
set_option linter.unusedVariables false
set_option linter.unusedSimpArgs false
theorem tail_row (bs : List Int) (L : Nat) (hl : bs.length = L) (i : Nat) (hi : i < L + 1) : (rowV (fun i => Value.int .u8 (bs.getD i 0)) L ++ rowV (fun _ => Value.int .u8 0) 1).getD i undef = .int .u8 ((bs ++ [0]).getD i 0) := by
  rw [List.getD_eq_getElem?_getD, List.getD_eq_getElem?_getD]
  by_cases h : i < L
  · rw [List.getElem?_append_left (by rw [rowV_length]; exact h), rowV_get _ h, List.getElem?_append_left (by omega), ← List.getD_eq_getElem?_getD]; rfl
  · obtain rfl : i = L := by omega
    rw [List.getElem?_append_right (by rw [rowV_length]; omega), rowV_length, Nat.sub_self, List.getElem?_append_right (by omega), hl, Nat.sub_self]; rfl
theorem grown_cell {w w' : World} {row : Option Nat} (h : w.grownBy w' row) {p : Addr} (hp : p.block < w.heap.size) (hn : row ≠ some p.block) : w'.cell? p = w.cell? p := World.cell?_of_block (h.block p.block hp (Ne.symm hn))
set_option maxRecDepth 100000 in
set_option maxHeartbeats 1000000 in
theorem bits22_any (a : Option Addr) (n cap : Nat) (l : Nat → Nat) (hn : n ≤ 2000) (w : World) (h : RowOf w a n (fun i => .float .f64 (l i))) :
    Calls Tryd.prog 17 #[.slice a n cap] w fun e w' => ∃ v, e = .returned v ∧ w'.ownsRow w.heap.size 41 1 v n (rowV (fun i => .int .u64 (l i : Nat)) n) ∧ Below w.heap.size w w' := by
  obtain ⟨i0, hi, hz0, hz1, hz2⟩ := info_parts u64Info
  have hf := call_bits
  have H := Lib.hid h
  clear h
  go_enter Tryd.func17, Tryd.ntmps17
  go_wp2
  go_loopw [3, 4] (fun v i wr => ∃ k : Nat, k ≤ n ∧ i = .int .i64 k ∧ wr.ownsRow w.heap.size 41 1 v k (rowV (fun i => .int .u64 (l i : Nat)) k) ∧ Below w.heap.size w wr) (fun _ i _ => n - (intOf i).toNat)
  case atStart => exact ⟨0, by omega, rfl, World.ownsRow_nil _ _ _ _, Below.refl _ _⟩
  case round =>
    obtain ⟨k, hk, rfl, ho, hb⟩ := hrel
    have hsz := hb.size
    by_cases hkn : k < n
    · have k1 : (k : Int) < n := by omega
      obtain ⟨b, off, rfl, hblt, hc⟩ := (H.out.below hb).at_ hkn
      have c0 := hc k hkn
      have RS := Lib.hid (rowV_succ (fun i => Value.int .u64 (l i : Nat)) k)
      have HOW := Lib.hid ho
      have HBW := Lib.hid hb
      clear ho hb hc
      generalize l k = y at *
      go_wp2_with (first | (at_builtin; go_must (refine wpList_append_own_at _ rfl _ _ 22 rfl w.heap.size 41 i0 (.int .u64 0) 1 8 Tryd.underlying22 hi hz0 hz1 hz2 rfl (by decide) _ _ _ rfl (HOW.out.alloc _) ⟨wr.heap.size, 0, none⟩ 1 1 [.int .u64 (y : Nat)] rfl rfl (cell_one_new _ _ _) (by simp [Value.oneCell']) (by unfold maxLen; omega) (by omega) (by simp; omega) ?_); intro v2 w2 hown2 hgrow2 _ _; have HO2 := Lib.hid hown2; have HG2 := Lib.hid hgrow2; clear hown2 hgrow2))
      go_roundw
      case rel => exact ⟨k + 1, by omega, by go_num, by rw [RS.out]; exact HO2.out, (HBW.out.alloc hsz _).grown HG2.out (by simp; omega) (fun j hj => (HOW.out.lt j hj).1)⟩
      case measure => simp [intOf]; omega
    · obtain rfl : k = n := by omega
      have HOW := Lib.hid ho
      have HBW := Lib.hid hb
      clear ho hb
      go_wp2
      go_ret
      exact ⟨_, rfl, HOW.out, HBW.out⟩
theorem pow256 (m : Nat) : (256 : Nat) ^ m = 2 ^ (8 * m) := by rw [Nat.pow_mul]
theorem own_empty (W : World) (B : Nat) (hB : B ≤ W.heap.size) : (W.alloc (.cells #[] 5)).ownsRow B 5 1 (.slice (some ⟨W.heap.size, 0, none⟩) 0 0) 0 [] :=
  ⟨rfl, .inr ⟨W.heap.size, 0, #[], rfl, hB, (by show (W.heap.push (Obj.cells #[] 5))[W.heap.size]? = _; rw [Array.getElem?_push_size]), Nat.le_refl _, Nat.zero_le _, rfl, rfl⟩⟩
theorem bk_z (m N i : Nat) (hi : i < m) : (bytesOf m N).getD i 0 = ((N / 256 ^ i % 256 : Nat) : Int) := by rw [List.getD_eq_getElem?_getD, bytesOf_get _ _ _ hi]; rfl
theorem bk_z1 (m N i : Nat) (hN : N < 256 ^ m) (hi : i < m + 1) : (bytesOf m N ++ [0]).getD i 0 = ((N / 256 ^ i % 256 : Nat) : Int) := by
  rw [List.getD_eq_getElem?_getD]
  by_cases h : i < m
  · rw [List.getElem?_append_left (by rw [bytesOf_length]; exact h), bytesOf_get _ _ _ h]; rfl
  · obtain rfl : i = m := by omega
    rw [List.getElem?_append_right (by rw [bytesOf_length]; exact Nat.le_refl _), bytesOf_length, Nat.sub_self, Nat.div_eq_of_lt hN]; rfl
theorem dec1 (l : Nat → Nat) (K n m : Nat) (hn : n = K + 1) (hK : K ≤ 1023) (hl : ∀ i, i ≤ K → l i < 18446744073709551616) (hm : m = ((xrun l K).c + 7) / 8) (a : Option Addr) (cap : Nat) (w : World) (h : RowOf w a m (fun i => .int .u8 ((bytesOf m (xrun l K).N).getD i 0))) :
    Calls Tryd.prog 14 #[.slice a m cap, .int .i64 n] w fun e w' => Below w.heap.size w w' ∧ ∃ a' c', e = .returned (.tuple #[.slice a' n c', .int .i64 0]) ∧ RowOf w' a' n (fun i => .float .f64 (l i)) := by
  subst hn
  have hc := xrun_ok l K hl K (Nat.le_refl _)
  have hN := xrun_lt l K hl K (Nat.le_refl _)
  have hN2 : (xrun l K).N < 256 ^ m := by rw [pow256]; exact Nat.lt_of_lt_of_le hN (Nat.pow_le_pow_right (by decide) (by omega))
  obtain ⟨e1, e2⟩ := derr_ok l K hl (B := 8 * m) (by omega) (by omega)
  have hnum : num (fun i => (bytesOf m (xrun l K).N).getD i 0) m = (xrun l K).N := by rw [num_of (xrun l K).N _ _ (fun i hi => bk_z _ _ i hi), Nat.mod_eq_of_lt hN2]
  have hd := xdecode_any m cap (K + 1) a _ (fun i hi => by rw [bk_z _ _ i hi]; omega) (by omega) (by omega) (by omega) w h
  have hmy : dmany (xrun l K).N (8 * m) (K + 1) = K + 1 := by unfold dmany; rw [if_pos e1]
  unfold DEnd at hd
  rw [hnum, hmy, e1, Nat.add_sub_cancel, e2] at hd
  exact hd.mono fun e w' ⟨h1, a', c', h2, h3⟩ => ⟨h1, a', c', h2, h3.congr fun i hi => by simp [hi]⟩
theorem dec2 (l : Nat → Nat) (K n m : Nat) (hn : n = K + 1) (hK : K ≤ 1023) (hl : ∀ i, i ≤ K → l i < 18446744073709551616) (hm : m = ((xrun l K).c + 7) / 8) (a : Option Addr) (cap : Nat) (w : World) (h : RowOf w a m (fun i => .int .u8 ((bytesOf m (xrun l K).N).getD i 0))) :
    Calls Tryd.prog 14 #[.slice a (m - 1) cap, .int .i64 n] w fun e w' => Below w.heap.size w w' ∧ ∃ a' c', e = .returned (.tuple #[.slice a' 0 c', .int .i64 1]) := by
  subst hn
  have hc := xrun_ok l K hl K (Nat.le_refl _)
  have hnum : num (fun i => (bytesOf m (xrun l K).N).getD i 0) (m - 1) = (xrun l K).N % 2 ^ (8 * (m - 1)) := by rw [num_of (xrun l K).N _ _ (fun i hi => bk_z _ _ i (by omega)), pow256]
  have e1 := derr_short l K hl (M := (xrun l K).N % 2 ^ (8 * (m - 1))) (B := 8 * (m - 1)) (by omega) (Nat.mod_mod _ _)
  have hr1 : RowOf w a (m - 1) (fun i => .int .u8 ((bytesOf m (xrun l K).N).getD i 0)) := by
    obtain ⟨b, off, rfl, _, hcc⟩ := h.at_ (i := 0) (by omega)
    exact .inr ⟨b, off, rfl, fun i hi => hcc i (by omega)⟩
  have hd := xdecode_any (m - 1) cap (K + 1) a _ (fun i hi => by rw [bk_z _ _ i (by omega)]; omega) (by omega) (by omega) (by omega) w hr1
  unfold DEnd dmany at hd
  rw [hnum, e1, if_neg (by decide)] at hd
  exact hd.mono fun e w' ⟨h1, a', c', h2, h3⟩ => ⟨h1, a', c', h2⟩
theorem dec3 (l : Nat → Nat) (K n m : Nat) (hn : n = K + 1) (hK : K ≤ 1023) (hl : ∀ i, i ≤ K → l i < 18446744073709551616) (hm : m = ((xrun l K).c + 7) / 8) (a : Option Addr) (cap : Nat) (w : World) (h : RowOf w a (m + 1) (fun i => .int .u8 ((bytesOf m (xrun l K).N ++ [0]).getD i 0))) :
    Calls Tryd.prog 14 #[.slice a (m + 1) cap, .int .i64 n] w fun e w' => Below w.heap.size w w' ∧ ∃ a' c', e = .returned (.tuple #[.slice a' 0 c', .int .i64 2]) := by
  subst hn
  have hc := xrun_ok l K hl K (Nat.le_refl _)
  have hN := xrun_lt l K hl K (Nat.le_refl _)
  have hN2 : (xrun l K).N < 256 ^ m := by rw [pow256]; exact Nat.lt_of_lt_of_le hN (Nat.pow_le_pow_right (by decide) (by omega))
  have hN3 : (xrun l K).N < 256 ^ (m + 1) := Nat.lt_of_lt_of_le hN2 (Nat.pow_le_pow_right (by decide) (by omega))
  have hnum : num (fun i => (bytesOf m (xrun l K).N ++ [0]).getD i 0) (m + 1) = (xrun l K).N := by rw [num_of (xrun l K).N _ _ (fun i hi => bk_z1 _ _ i hN2 hi), Nat.mod_eq_of_lt hN3]
  have e1 := derr_long l K hl (B := 8 * (m + 1)) (by omega)
  have hd := xdecode_any (m + 1) cap (K + 1) a _ (fun i hi => by rw [bk_z1 _ _ i hN2 hi]; omega) (by omega) (by omega) (by omega) w h
  unfold DEnd dmany at hd
  rw [hnum, e1, if_neg (by decide)] at hd
  exact hd.mono fun e w' ⟨h1, a', c', h2, h3⟩ => ⟨h1, a', c', h2⟩
theorem long (a : Option Addr) (n cap : Nat) (hn : 1024 < n) (w : World) :
    Calls Tryd.prog 5 #[.slice a n cap] w fun e w' => e = .returned (.bool true) ∧ Below w.heap.size w w' := by
  have h' : (1024 : Int) < n := by omega
  go_enter Tryd.func5, Tryd.ntmps5
  go_wp2
  go_ret
  exact ⟨rfl, Below.refl _ _⟩
theorem none_ (a : Option Addr) (cap : Nat) (w : World) :
    Calls Tryd.prog 5 #[.slice a 0 cap] w fun e w' => e = .returned (.bool true) ∧ Below w.heap.size w w' := by
  go_enter Tryd.func5, Tryd.ntmps5
  go_wp2
  go_ret
  exact ⟨rfl, Below.refl _ _⟩
set_option maxRecDepth 100000 in
set_option maxHeartbeats 2000000 in
theorem main (a : Option Addr) (n cap : Nat) (l : Nat → Nat) (hl : ∀ i, i < n → l i < 18446744073709551616) (hn1 : 1 ≤ n) (hn : n ≤ 1024) (m : Nat) (xs : List Int) (hlen : xs.length = m) (hm8 : 8 ≤ m) (hm : m ≤ 9900) (w : World) (h : RowOf w a n (fun i => .int .u64 (l i : Nat))) (hT : Tab w)
    (EN : ∀ a c W, n ≤ c → c ≤ maxLen → RowOf W a n (fun i => .float .f64 (l i)) → Below w.heap.size w W → Calls Tryd.prog 9 #[.slice a n c] W fun e w' => ∃ v, e = .returned (.tuple #[v, .int .i64 0]) ∧ w'.ownsRow W.heap.size 5 1 v m (cellsOf xs) ∧ Below W.heap.size W w')
    (D1 : ∀ a c W, RowOf W a m (fun i => .int .u8 (xs.getD i 0)) → Calls Tryd.prog 14 #[.slice a m c, .int .i64 n] W fun e w' => Below W.heap.size W w' ∧ ∃ a' c', e = .returned (.tuple #[.slice a' n c', .int .i64 0]) ∧ RowOf w' a' n (fun i => .float .f64 (l i)))
    (D2 : ∀ a c W, RowOf W a m (fun i => .int .u8 (xs.getD i 0)) → Calls Tryd.prog 14 #[.slice a (m - 1) c, .int .i64 n] W fun e w' => Below W.heap.size W w' ∧ ∃ a' c', e = .returned (.tuple #[.slice a' 0 c', .int .i64 1]))
    (D3 : ∀ a c W, RowOf W a (m + 1) (fun i => .int .u8 ((xs ++ [0]).getD i 0)) → Calls Tryd.prog 14 #[.slice a (m + 1) c, .int .i64 n] W fun e w' => Below W.heap.size W w' ∧ ∃ a' c', e = .returned (.tuple #[.slice a' 0 c', .int .i64 2])) :
    Calls Tryd.prog 5 #[.slice a n cap] w fun e w' => e = .returned (.bool true) ∧ Below w.heap.size w w' := by
  obtain ⟨i0, hi, hz0, hz1, hz2⟩ := info_parts byteInfo
  have h1 : ¬ (1024 : Int) < n := by omega
  have h2 : ¬ (n : Int) = 0 := by omega
  have k8 : ¬ (m : Int) < 8 := by omega
  have l2 : (m : Int) - 1 = ((m - 1 : Nat) : Int) := by omega
  have R0 := Lib.hid (reals_told a n cap l (by omega) w h)
  have EN := Lib.hid EN
  have D1 := Lib.hid D1
  have D2 := Lib.hid D2
  have D3 := Lib.hid D3
  have HLN := Lib.hid hlen
  have BI := Lib.hid (fun a c W hr => bits22_any a n c l (by omega) W hr)
  have SA := Lib.hid (fun a b ca cb W h1 h2 => same_any a b n n ca cb l l (by omega) W h1 h2 true (decide_eq_true ⟨rfl, fun _ _ => rfl⟩))
  have HL := Lib.hid hl
  have H := Lib.hid h
  have AW := Lib.hid (fun W hb => awake22_any W (hT.below hb))
  clear h hT hl hlen
  go_enter Tryd.func5, Tryd.ntmps5
  go_wp2_with (first
    | (go_at_call 8; refine R0.out.mono ?_; rintro e w1 ⟨a6, c6, rfl, hr6, hc6, hm6, hb6⟩; have HR6 := Lib.hid hr6; have HC6 := Lib.hid (And.intro hc6 hm6); have HB6 := Lib.hid hb6; clear hr6 hc6 hm6 hb6)
    | (go_at_call 9; refine (EN.out _ _ _ HC6.out.1 HC6.out.2 HR6.out HB6.out).mono ?_; rintro e w2 ⟨v2, rfl, ho2, hb2⟩; obtain ⟨a7, c7, rfl, hr7, hc7, hm7⟩ := own_bytes ho2; have HR7 := Lib.hid hr7; have HB7 := Lib.hid (HB6.out.trans (hb2.mono HB6.out.size)); have q5 : (m : Int) ≤ c7 := by omega
       have q6 : (c7 : Int) ≤ 9223372036854775807 := by (unfold maxLen at hm7; omega)
       have q7 : ((m - 1 : Nat) : Int) ≤ c7 := by omega
       clear ho2 hr7 hb2)
    | (go_at_call 14; refine (D1.out _ _ _ HR7.out).mono ?_; clear D1; rintro e w3 ⟨hb, a8, c8, rfl, hr8⟩; have HR8 := Lib.hid hr8; have hr7 := HR7.out.below hb; have HR7b := Lib.hid hr7; have HB8 := Lib.hid (HB7.out.trans (hb.mono HB7.out.size)); clear hr8 hr7 hb)
    | (go_at_call 17; refine (BI.out _ _ _ HR8.out).mono ?_; rintro e w4 ⟨v4, rfl, ho, hb⟩; obtain ⟨a9, c9, rfl, hr9, _⟩ := own_reads' ho; have hr7 := HR7b.out.below hb; have HB9 := Lib.hid (HB8.out.trans (hb.mono HB8.out.size)); have HU9 := Lib.hid (show U64s w4 a9 n l from ⟨hr9, HL.out⟩); have HU := Lib.hid (show U64s w4 a n l from ⟨H.out.below HB9.out, HL.out⟩); have HR7c := Lib.hid hr7; clear ho hr9 hr7 hb)
    | (go_at_call 16; refine (SA.out _ _ _ _ _ HU9.out HU.out).mono ?_; rintro e w5 ⟨rfl, hb⟩; have hr7 := HR7c.out.below hb; have HR7d := Lib.hid hr7; have HB10 := Lib.hid (HB9.out.trans (hb.mono HB9.out.size)); have G1 := Lib.hid True.intro; clear hb hr7)
    | (go_at_call 14; refine (D2.out _ _ _ HR7d.out).mono ?_; clear D2; rintro e w6 ⟨hb, a10, c10, rfl⟩; have hr7 := HR7d.out.below hb; have HR7e := Lib.hid hr7; have HB11 := Lib.hid (HB10.out.trans (hb.mono HB10.out.size)); clear hr7 hb)
    | (at_builtin; clear G1; have hbA := (Below.refl w6.heap.size w6).alloc (Nat.le_refl _) (.cells #[] 5); have hE := own_empty w6 w6.heap.size (Nat.le_refl _); obtain ⟨v7, w7, hrun7, ho7, hg7, hat7⟩ := run_append_row (P := Tryd.prog) (w6.alloc (.cells #[] 5)) w6.heap.size 25 25 5 i0 (.int .u8 0) 1 Tryd.underlying25 hi hz0 hz1 hz2 rfl _ 0 _ hE a7 m c7 _ (HR7e.out.below hbA) (fun i _ => rfl) (by unfold maxLen; omega) (by omega) hbA.size; rw [Nat.zero_add, List.nil_append] at ho7; have hb7 : Below w6.heap.size w6 w7 := hbA.grown hg7 hbA.size (fun j hj => (hE.lt j hj).1); obtain ⟨g7, k7, rfl, hg7a, hg7b⟩ := ho7.form (by omega); refine wpList_append_ran _ _ rfl _ _ 25 rfl _ _ _ rfl rfl hrun7 ?_; have HO7 := Lib.hid ho7; have HBA := Lib.hid hb7; have G2 := Lib.hid True.intro; clear hbA hE hrun7 ho7 hg7 hat7 hb7 hg7a hg7b)
    | (at_builtin; clear G2; have hbB := HBA.out.alloc HBA.out.size (.cells #[.int .u8 0] 5); have hO := HO7.out.alloc (.cells #[.int .u8 0] 5); have hcz : (w7.alloc (.cells #[.int .u8 0] 5)).cell? ⟨w7.heap.size, 0, none⟩ = some (.int .u8 0) := (Lies.new w7 5 #[.int .u8 0]).cell 0; obtain ⟨v8, w8, hrun8, ho8, hg8, hat8⟩ := run_append_row (P := Tryd.prog) (w7.alloc (.cells #[.int .u8 0] 5)) w6.heap.size 25 25 5 i0 (.int .u8 0) 1 Tryd.underlying25 hi hz0 hz1 hz2 rfl _ m _ hO (some ⟨w7.heap.size, 0, none⟩) 1 1 (fun _ => .int .u8 0) (.inr ⟨_, _, rfl, fun i hi => by obtain rfl : i = 0 := (by omega); exact hcz⟩) (fun i _ => rfl) (by unfold maxLen; omega) (by omega) hbB.size; obtain ⟨a8', k8', rfl, hr8, _⟩ := own_reads ho8; have hr8 := hr8.congr (f' := fun i => .int .u8 ((xs ++ [0]).getD i 0)) (fun i hi => tail_row xs m HLN.out i hi); have hb8 : Below w6.heap.size w6 w8 := hbB.grown hg8 hbB.size (fun j hj => (hO.lt j hj).1); refine wpList_append_ran _ _ rfl _ _ 25 rfl _ _ _ rfl rfl hrun8 ?_; have HRZ := Lib.hid hr8; have HB12 := Lib.hid (HB11.out.trans (hb8.mono HB11.out.size)); clear hbB hO hcz hrun8 ho8 hg8 hat8 hr8 hb8)
    | (go_at_call 14; refine (D3.out _ _ _ HRZ.out).mono ?_; clear D3; rintro e w9 ⟨hb, a11, c11, rfl⟩; have HB13 := Lib.hid (HB12.out.trans (hb.mono HB12.out.size)); clear hb)
    | (go_at_call 12; refine (AW.out _ HB13.out).mono ?_; rintro e w5 ⟨rfl, hb⟩; have HB14 := Lib.hid (HB13.out.trans (hb.mono HB13.out.size)); clear hb))
  go_ret
  exact ⟨rfl, HB14.out⟩
theorem main_in (a : Option Addr) (n cap : Nat) (l : Nat → Nat) (hv : ∀ i, i < n → l i < 18446744073709551616) (hn1 : 1 ≤ n) (hn : n ≤ 1024) (W : World) (hr : RowOf W a n (fun i => .int .u64 (l i : Nat))) (h5 : Tab W) :
    Calls Tryd.prog 5 #[.slice a n cap] W fun e w' => e = .returned (.bool true) ∧ Below W.heap.size W w' := by
  have hc := xrun_ok l (n - 1) (fun i hi => hv i (by omega)) (n - 1) (Nat.le_refl _)
  have hv' : ∀ i, i ≤ n - 1 → l i < 18446744073709551616 := fun i hi => hv i (by omega)
  refine main a n cap l hv (by omega) (by omega) (((xrun l (n - 1)).c + 7) / 8) (bytesOf (((xrun l (n - 1)).c + 7) / 8) (xrun l (n - 1)).N) (bytesOf_length _ _) (by omega) (by omega) W hr h5
    (fun a c W' h1 h2 h3 h4 => xencode_any a n c l hv (by omega) (by omega) h1 h2 W' h3 (h5.below h4))
    (fun a c W' h => dec1 l (n - 1) n _ (by omega) (by omega) hv' rfl a c W' h) (fun a c W' h => dec2 l (n - 1) n _ (by omega) (by omega) hv' rfl a c W' h) (fun a c W' h => dec3 l (n - 1) n _ (by omega) (by omega) hv' rfl a c W' h)
theorem walk (a : Option Addr) (n cap : Nat) (zs : List Int) (W : World) (b : IsRow .u64 W a n cap zs) (h5 : Tab W) :
    Calls Tryd.prog 5 #[.slice a n cap] W fun e w' => e = .returned (.bool true) ∧ Below W.heap.size W w' := by
  obtain ⟨d1, d2, d3, d4, d5⟩ := b
  have hz : ∀ i, i < n → 0 ≤ zs.getD i 0 ∧ zs.getD i 0 ≤ 18446744073709551615 := fun i hi => by
    have := bounds_u64 (d4 (zs.getD i 0) (by rw [List.getD_eq_getElem?_getD, List.getElem?_eq_getElem (by omega)]; simp))
    omega
  have hr : RowOf W a n (fun i => .int .u64 ((zs.getD i 0).toNat : Nat)) := by
    rcases d5 with d5 | ⟨b, off, rfl, hb, hc⟩
    · exact .inl (by omega)
    · exact .inr ⟨b, off, rfl, fun i hi => by rw [hc i (by omega)]; show some (Value.int .u64 _) = some (Value.int .u64 _); rw [Int.toNat_of_nonneg (hz i hi).1]⟩
  by_cases hl : 1024 < n
  · exact long a n cap hl W
  by_cases h0 : n = 0
  · subst h0
    exact none_ a cap W
  exact main_in a n cap (fun i => (zs.getD i 0).toNat) (fun i hi => by have := hz i hi; omega) (by omega) (by omega) W hr h5
theorem own : ownKnob Tryd.prog.godebug = none := by kernel_rfl
set_option maxRecDepth 100000 in
theorem contract (H : Type) (enc : TypeId × Value → H) (W : World) (base : Nat) (args : Array Value) (ds gs : List (DataW H)) (before : List MemPlace)
    (hval : ∀ (j : Nat) t v, Tryd.f5.params[j]? = some t → args[j]? = some v → Value.okWide Tryd.prog W .any base t v)
    (hW : DataW.Whole enc Tryd.prog Tryd.f5.params.toList Rows.xorBackSpec.vars false W args.toList ds gs before) (hL : laidMetH Tryd.prog Rows.xorBackRow.laid W) :
    Calls Tryd.prog 5 args W fun e W' => ∃ v, e = .returned v ∧ Rows.xorBackSpec.post enc Tryd.prog Tryd.f5 false true false false W args v W' := by
  have hW' := hW
  obtain ⟨p, q, hA0, hV, rfl, hfz, hnd⟩ := hW
  have hA : DataW.TrodAll enc Tryd.prog W 0 (fun _ => true) true Tryd.f5.params.toList args.toList ds p := hA0
  rw [Tryd.params5] at hA hval
  obtain ⟨v0, vs0, d0, ds0, p0, q0, hargs, rfl, rfl, h0, r0⟩ := trodAll_cons hA
  obtain ⟨rfl, rfl, rfl⟩ := trodAll_nil r0
  obtain rfl : args = #[v0] := by cases args; simp_all
  obtain ⟨rfl, rfl⟩ := trodVars_none hV
  have hWhole := hW'
  obtain ⟨a0, len0, cap0, rfl⟩ := okWide_slice Tryd.underlying22 (hval 0 22 v0 rfl rfl)
  have k0 := h0
  have lt0 : ∀ x ∈ p0, x.block < W.heap.size := by obtain ⟨m, hm⟩ := k0; exact DataW.trod_lt m _ _ _ hm
  obtain ⟨z0, b0⟩ : ∃ zs, IsRow .u64 W a0 len0 cap0 zs := by
    obtain ⟨fuel, hf⟩ := h0
    rcases open_ints Tryd.underlying22 Tryd.underlying41 (by kernel_rfl) hf with ⟨hcs, _⟩ | ⟨x, l, c, zs, hcs, _, hl, hm, hz, _, hcell, hwz⟩
    · simp [Value.cells] at hcs
      obtain ⟨rfl, rfl, rfl⟩ := hcs
      exact ⟨[], isRow_nil _ _⟩
    · simp [Value.cells] at hcs
      obtain ⟨rfl, rfl, rfl⟩ := hcs
      exact ⟨zs, isRow_of hl hm (by simpa using hz) hcell hwz⟩
  clear hA0
  have h5 : Tab W := tab_of hL
  refine (walk a0 len0 cap0 z0 W b0 h5).mono fun e W' ⟨he, hg⟩ => ?_
  subst he
  exact ⟨_, rfl, _, _, _, [], _, [], hW', trodAll_mk1 (shut_bool Tryd.underlying4 _), (trodAll_cons_mk (Below.trod laidOut (by kernel_rfl) (of_decide_eq_true (by kernel_rfl)) k0 hg lt0) trodAll_mk0), rfl, hg.frame _, fun h => by cases h⟩

theorem laid_met (os : Os) : laidMet Tryd.prog Rows.xorBackRow.laid ((laidWorld os).forCall (fun _ _ => 0) ⟨#[], #[.slice none 0 0], []⟩).memory :=
  laidMet_of_run' 8 (by kernel_rfl) (by kernel_rfl)
theorem reads (os : Os) {H : Type} (enc : TypeId × Value → H) : ∃ places, DataW.whole enc Tryd.prog ((laidWorld os).forCall (fun _ _ => 0) ⟨#[], #[.slice none 0 0], []⟩).memory Tryd.f5.params.toList Rows.xorBackSpec.vars false (#[.slice none 0 0] : Array Value).toList 8 = some ([.nil], [], places) :=
  ⟨[], by kernel_rfl⟩

set_option maxRecDepth 100000 in
theorem lifted (os : Os) (started : os.Started) (H : Type) (enc : TypeId × Value → H) (F : Stop.Interp) :
    ReturnsInHanded {} Tryd.checked os 5 .any ((OpenSpec.ofChange Rows.xorBackSpec).preRow enc Tryd.prog Tryd.f5 Rows.xorBackRow.domain false Rows.xorBackRow.laid) (((OpenSpec.ofChange Rows.xorBackSpec).at F).post enc Tryd.prog Tryd.f5 false true false false) := by
  obtain ⟨places, hx⟩ := reads os enc
  refine returnsInHanded_of_row (C := Tryd.checked) (s := OpenSpec.ofChange Rows.xorBackSpec) own started (by kernel_rfl) Tryd.func5
    (witness_row_at (enc := enc) (C := Tryd.checked) false (laidWorld os) #[.slice none 0 0] rfl (by kernel_rfl) (by kernel_rfl) (by kernel_rfl)
      (OpenSpec.preRow_of_cond 8 hx (by kernel_rfl) (fun k hk => by cases hk) (by kernel_rfl) (laid_met os))) ?_
  intro W base args ds gs before hval hW _ _ _ hL _ _
  exact contract H enc W base args ds gs before hval hW hL

theorem said : Rows.XorBackSaid :=
  OpenClaim.holds_of_cond 5 Tryd.f5 rfl rfl rfl rfl rfl rfl rfl ⟨rfl, rfl, rfl, rfl, rfl⟩ rfl rfl rfl rfl rfl (by kernel_rfl) Tryd.func5 (by kernel_rfl)
    (of_decide_eq_true (by kernel_rfl)) (by unfold Func.isWrapper; first | (rw [if_pos (by decide +kernel)]; kernel_rfl) | (rw [if_neg (by decide +kernel)]; exact ⟨rfl, rfl⟩))
    (fun os started H enc _ F => by rw [OpenClaim.pre_eq_preRow]; exact lifted os started H enc F)

theorem plain (f : FuncId) (fn : Func) (hf : Tryd.pinned.checked.prog.funcNamed "corduroy/corduroylaw22.XorBack" = some f) (hfn : Tryd.pinned.checked.prog.funcs[f]? = some fn) :
    true = Tryd.pinned.checked.prog.looks [] ∧ ∀ (j : Nat) t, fn.params[j]? = some t → Tryd.pinned.checked.prog.wantsStandIn t = false := by
  obtain rfl : f = 5 := Option.some.inj ((show Tryd.prog.funcNamed "corduroy/corduroylaw22.XorBack" = some 5 by kernel_rfl).symm.trans hf) |>.symm
  obtain rfl : fn = Tryd.f5 := (Option.some.inj (Tryd.func5.symm.trans hfn)).symm
  refine ⟨by kernel_rfl, fun j t ht => ?_⟩
  rw [Tryd.params5] at ht
  have hm : t = 22 := by simpa using Array.mem_of_getElem? ht
  subst hm; exact (show Tryd.prog.wantsStandIn 22 = false by kernel_rfl)

/-- ████ THE CARD ████ -/
theorem card : Rows.XorBackCardSaid :=
  Claim7.holds_tied_plain_at .later [] _ _ _ _ said (fun _ h => by cases h) (by kernel_rfl) (fun _ h => by cases h) xorBack_row_tie rfl ⟨rfl, rfl⟩ (by kernel_rfl) rfl plain (by kernel_rfl)
end Go.Proofs.YtejiboinkapkcaaDoor.xorBack
