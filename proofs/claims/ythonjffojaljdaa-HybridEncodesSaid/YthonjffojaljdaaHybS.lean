/-
  CONTRACT OF the document's own Encode of layer 10 (corduroyref10), in any world. Conditions: at most 1100 numbers of 64 bits, which lie in memory as told.
-/
import Derived.Test.YthonjffojaljdaaHybR
import Derived.Test.YthonjffojaljdaaBitsRefC
import Derived.Test.YthonjffojaljdaaRefPut
import Derived.Test.YthonjffojaljdaaBoxApp
import Derived.Deep.LoopGhost
import Derived.Deep.CutRange
namespace Go.Proofs.Ythonjffojaljdaa
open Go.RowKit Go.BigFrame
set_option linter.unusedVariables false
theorem cat_to {X5 X E D : List Int} (h : X5 = X ++ D) (k : X = E) : X5 = E ++ D := by rw [h, k]
theorem row_append1 (W w4 : World) (n₀ : Nat) (v v4 : Value) (xs ys : List Int) (hrow : W.ownsRow n₀ 5 1 v xs.length (cellsOf xs)) (hn₀ : n₀ ≤ W.heap.size)
    (h4 : w4.ownsRow W.heap.size 5 1 v4 ys.length (cellsOf ys)) (hb4 : Below W.heap.size W w4) (hlen : xs.length + ys.length ≤ 100000000) :
    ∃ zs a4 c4 a5 c5 w5, zs = xs ++ ys ∧ zs.length = xs.length + ys.length ∧ v4 = .slice a4 ys.length c4 ∧ (Builtin.append_ #[26, 26] 26 #[v, v4]).run Try.prog w4 = .ok (.slice a5 zs.length c5) w5 ∧ w5.ownsRow n₀ 5 1 (.slice a5 zs.length c5) zs.length (cellsOf zs) ∧ w4.grownBy w5 v.ownBlock ∧ w4.ownsRow n₀ 5 1 v xs.length (cellsOf xs) := by
  obtain ⟨a4, c4, a5, c5, w5, h⟩ := row_append W w4 n₀ v v4 xs ys hrow hn₀ h4 hb4 hlen
  exact ⟨_, a4, c4, a5, c5, w5, rfl, List.length_append, h⟩
theorem packN_same (k : Nat) (l r : Nat → Nat) : ∀ n, (∀ i, i < n → l i = r i) → packN k l n = packN k r n
  | 0, _ => rfl
  | n + 1, h => by simp only [packN]; rw [packN_same k l r n (fun i hi => h i (by omega)), h n (by omega)]
theorem need_eight (q : Nat) : need 1 q = (q + 7) / 8 := by unfold need; rw [Nat.one_mul]
theorem rpk_any (q : Nat) (hq : q ≤ 64) (a : Option Addr) (m c : Nat) (l : Nat → Nat) (hl : ∀ i, i < m → l i < 2 ^ q) (V : World) (hr : RowOf V a m (fun i => .int .u64 (l i : Nat))) :
    Calls Try.prog 38 #[.int .i64 q, .slice a m c] V fun e w' => ∃ v ys er, e = .returned (.tuple #[v, .int .i64 er]) ∧ w'.ownsRow V.heap.size 5 1 v ys.length (cellsOf ys) ∧ (m ≤ 1024 → ys = bytesOf (need m q) (packN q l m)) ∧ ys.length ≤ 9000 ∧ Below V.heap.size V w' := by
  by_cases hm : m ≤ 1024
  · have h := rpack_any q hq a m c l m hm (Nat.le_refl _) hl (fun h => absurd h (Nat.lt_irrefl _)) V ⟨hr, fun i hi => Nat.lt_of_lt_of_le (hl i hi) (by have := pow_le64 hq; omega)⟩
    refine h.mono fun e w' he => ?_
    unfold PackEnd at he
    rw [if_neg (Nat.lt_irrefl _)] at he
    obtain ⟨v, he, ho, hb⟩ := he
    have hlb : (bytesOf (need m q) (packN q l m)).length = need m q := bytesOf_length _ _
    have hnd : need m q ≤ 8192 := by
      have : m * q ≤ 1024 * 64 := Nat.mul_le_mul hm hq
      unfold need; omega
    exact ⟨v, _, 0, he, by rw [hlb]; exact ho, fun _ => rfl, by omega, hb⟩
  · refine (rpack_count q (by omega) a m c (by omega) V).mono ?_
    rintro e w' ⟨rfl, rfl⟩
    exact ⟨_, [], 7, rfl, World.ownsRow_nil _ _ _ _, fun h => absurd h hm, by simp, Below.refl _ _⟩
set_option maxRecDepth 100000 in
set_option maxHeartbeats 2000000 in
theorem rhencode_any (a : Option Addr) (n cap : Nat) (x : Nat → Int) (hn : n ≤ 1100) (hx : ∀ i, i < n → -9223372036854775808 ≤ x i ∧ x i ≤ 9223372036854775807) (w : World) (h : RowOf w a n (fun i => .int .i64 (x i))) :
    Calls Try.prog 12 #[.slice a n cap] w fun e w' => ∃ v, e = .returned v ∧ ∃ xs, w'.ownsRow w.heap.size 5 1 v xs.length (cellsOf xs) ∧ (n ≤ 1024 → xs = hfm x n) ∧ Below w.heap.size w w' := by
  obtain ⟨i0, hi, hz0, hz1, hz2⟩ := info_parts byteInfo
  obtain ⟨i8, hj, hy0, hy1, hy2⟩ := info_parts u64Info
  have hzl : ∀ i, i < n → hz x i < 18446744073709551616 := fun i hi => hz_lt x i (hx i hi)
  have HZL := Lib.hid hzl
  have ZI := Lib.hid (show Calls Try.prog 34 #[.slice a n cap] w fun e w' => ∃ a2 c2, e = .returned (.slice a2 n c2) ∧ RowOf w' a2 n (fun i => .int .u64 (hz x i : Nat)) ∧ Below w.heap.size w w' from (rzigs_any a n cap x hn hx w h).mono fun e w' ⟨v, he, ho, hb⟩ => by
    obtain ⟨a2, c2, rfl, hr, _⟩ := own_reads' ho
    exact ⟨a2, c2, he, hr, hb⟩)
  have MO := Lib.hid (fun (a2 : Option Addr) (c2 : Nat) (W : World) (hr : RowOf W a2 n (fun i => .int .u64 (hz x i : Nat))) => rmost_any a2 n c2 (hz x) hzl hn W hr)
  have hq64 : hq x n ≤ 64 := most_le (hz x) n
  have HFM := Lib.hid (show hfm x n = [(hq x n : Int)] ++ hB (hz x) n (hq x n) (runsN (hz x) n) from rfl)
  have HMQ := Lib.hid (show most (hz x) n = hq x n from rfl)
  have hmp := hmost_pow (hz x) n hzl
  rw [HMQ.out] at hmp
  have HMP := Lib.hid hmp
  clear h hx hzl hmp
  rw [HMQ.out] at MO
  generalize hfm x n = FM at *
  generalize hq x n = q at *
  generalize hz x = z at *
  have hqw : IntKind.u8.wrap (q : Int) = (q : Int) := by simp [IntKind.wrap, IntKind.bits, IntKind.signed]; omega
  have HRN := Lib.hid (show runsN z n = runsF z n 0 n from rfl)
  have hrl : (runsN z n).length ≤ n := by have := runsF_len z n n 0; unfold runsN; omega
  have RN := Lib.hid (fun (a2 : Option Addr) (c2 p : Nat) (hp : p < n) (W : World) (hr : RowOf W a2 n (fun i => .int .u64 (z i : Nat))) => rrun_any a2 n c2 p z hn hp W hr)
  have h7 : ((q : Int) + 7) / 8 = ((need 1 q : Nat) : Int) := by rw [need_eight]; omega
  have H7 := Lib.hid h7
  have hn8 : need 1 q ≤ 8 := by rw [need_eight]; omega
  have P3 := Lib.hid (fun (u : Nat) (hu : u < 18446744073709551616) (W : World) => rput3_any u (need 1 q) hu hn8 W)
  clear h7
  obtain ⟨N, hN⟩ : ∃ N, w.heap.size = N := ⟨_, rfl⟩
  rw [hN]
  have HN := Lib.hid hN
  clear hN
  go_enter Try.func12, Try.ntmps12
  go_wp2_with (first
    | (go_at_call 34; refine ZI.out.mono ?_; rintro e w1 ⟨a2, c2, rfl, hr, hb⟩; have HR := Lib.hid hr; have HB1 := Lib.hid hb; clear hr hb)
    | (go_at_call 35; refine (MO.out _ _ _ HR.out).mono ?_; rintro e w2 ⟨rfl, rfl⟩))
  have hrl2 := hrl
  have hs1 := HB1.out.size
  rw [HN.out] at hs1
  have HB1N := Lib.hid (show Below N w w1 from HN.out ▸ HB1.out)
  have ho1 : (w1.alloc (.cells #[.int .u8 q] 5)).ownsRow w1.heap.size 5 1 (.slice (some ⟨w1.heap.size, 0, none⟩) 1 1) [(q : Int)].length (cellsOf [(q : Int)]) := World.ownsRow_lit w1 #[.int .u8 q] 1 (Nat.le_refl _) (by decide) rfl
  have HO1 := Lib.hid ho1
  have HBR := Lib.hid (fun (V : World) (hV : Below w1.heap.size w1 V) => HR.out.below hV)
  clear ho1
  go_loopg [5, 6] n (fun gk b at_ wr => ∃ p pre fu xs, p ≤ n ∧ gk = n - p ∧ n ≤ p + fu ∧ pre ++ runsF z n p fu = runsN z n ∧ at_ = .int .i64 (p : Nat) ∧ wr.ownsRow w1.heap.size 5 1 b xs.length (cellsOf xs) ∧ (n ≤ 1024 → xs = [(q : Int)] ++ hB z n q pre) ∧ xs.length ≤ 1 + 9100 * pre.length ∧ Below w1.heap.size w1 wr)
  case atStart => exact ⟨0, [], n, _, by omega, by omega, by omega, HRN.out.symm, rfl, HO1.out, fun _ => by simp [hB], by simp, (Below.refl _ _).alloc (Nat.le_refl _) _⟩
  case round =>
    obtain ⟨p, pre, fu, xs, hp, rfl, hfu, hpre, rfl, ho, hxs, hxl, hb⟩ := hrel
    have hsz := hb.size
    have hprl : pre.length ≤ n := by
      have := congrArg List.length hpre
      rw [List.length_append] at this
      omega
    have HOW := Lib.hid ho
    have HBW := Lib.hid hb
    have HXS := Lib.hid hxs
    by_cases hpn : p < n
    · have k1 : (p : Int) < n := by omega
      have k0 : (0 : Int) ≤ p := by omega
      have hRr : RowOf wr a2 n (fun i => .int .u64 (z i : Nat)) := HBR.out wr hb
      have RNp := Lib.hid (RN.out a2 c2 p hpn wr hRr)
      obtain ⟨f, hf⟩ : ∃ f, al (fun j => z (p + j)) (n - p) = f := ⟨_, rfl⟩
      have hfl := (al_spec (fun j => z (p + j)) (n - p)).1
      obtain ⟨fu', rfl⟩ : ∃ fu', fu = fu' + 1 := ⟨fu - 1, by omega⟩
      have hru : runsF z n p (fu' + 1) = ((fst1 (fun i => z (p + i)) (n - p)).1, p, (fst1 (fun i => z (p + i)) (n - p)).2) :: runsF z n (p + (fst1 (fun i => z (p + i)) (n - p)).2) fu' := if_pos hpn
      rw [hru] at hpre
      rw [hf] at RNp hfl
      by_cases h8 : 8 ≤ f
      · have hfs : fst1 (fun i => z (p + i)) (n - p) = (true, f) := by unfold fst1; rw [if_pos (by rw [hf]; exact h8), hf]
        rw [hfs] at hpre
        dsimp only at hpre
        have hmem : (true, p, f) ∈ runsN z n := by rw [← hpre]; simp
        have hBm := hB_more z n q (true, p, f) pre
        rw [clr_eq z n _ hmem] at hBm
        have hBm : hB z n q (pre ++ [(true, p, f)]) = hB z n q pre ++ digs 9 (2 * f) ++ bytesOf (need 1 q) (z p) := hBm
        have HBM := Lib.hid hBm
        have HPRE := Lib.hid hpre
        have hlen : (pre ++ [(true, p, f)]).length ≤ n := by
          have := congrArg List.length hpre
          simp only [List.length_append, List.length_cons, List.length_nil] at this ⊢
          omega
        obtain ⟨bb, off, rfl, hblt, hc⟩ := HR.out.at_ hpn
        have CC := Lib.hid (fun (V : World) (hV : Below w1.heap.size w1 V) => (hV.cell (p := ⟨bb, off + p, none⟩) hblt).trans (hc p hpn))
        have PU := Lib.hid (fun V : World => rput_any (2 * f) (by omega) V)
        rw [show ((2 * f : Nat) : Int) = 2 * (f : Int) from by omega] at PU
        have PZ := Lib.hid (fun V : World => P3.out (z p) (HZL.out p hpn) V)
        have hbl1 : (bytesOf (need 1 q) (z p)).length = need 1 q := bytesOf_length _ _
        have HBL := Lib.hid hbl1
        have hd9 := digs_len 9 (2 * f)
        have h7 := H7.out
        have g8 : (8 : Int) ≤ f := by omega
        clear hpre hBm hmem hc hru hfs hf ho hb hxs hbl1 hRr
        generalize digs 9 (2 * f) = DG at *
        generalize bytesOf (need 1 q) (z p) = BZ at *
        generalize need 1 q = nd at *
        generalize z p = zp at *
        go_wp2_with (first
          | (go_at_call 36; refine RNp.out.mono ?_; rintro e w3 ⟨rfl, hb3⟩; have HOW := Lib.hid (owns_turned HOW.out (S := fun i => wr.heap.size ≤ i) (Turned.of_below hb3 (fun i _ hi => by omega)) (fun i hi hs => by have := (HOW.out.lt i hi).2; omega)); have HBW := Lib.hid (HBW.out.trans (hb3.mono hsz)); clear hb3)
          | (go_at_call 21; refine (PU.out _).mono ?_; rintro e w4 ⟨v4, rfl, ho4, hb4⟩
             obtain ⟨X5, a4, c4, a5, c5, w5, hX5, hX5l, rfl, hrun, ho5, hg5, hr4⟩ := row_append1 _ w4 w1.heap.size _ v4 _ _ HOW.out HBW.out.size ho4 hb4 (by omega)
             have hb5 := (HBW.out.trans (hb4.mono HBW.out.size)).grown hg5 (Nat.le_trans HBW.out.size hb4.size) (fun j hj => (HOW.out.lt j hj).1)
             have hX5b : X5.length ≤ xs.length + 10 := by omega
             clear hX5l
             have c0 := CC.out w5 hb5
             have HX5 := Lib.hid hX5; have HB5 := Lib.hid hb5
             have HRUN := Lib.hid hrun; have HO5 := Lib.hid ho5; clear hrun ho5 hX5 hb5 hg5 hr4 hb4 ho4)
          | (go_at_call 37; refine (PZ.out _).mono ?_; rintro e w6 ⟨v6, rfl, ho6, hb6⟩
             rw [← HBL.out] at ho6
             obtain ⟨X7, a6, c6, a7, c7, w7, hX7, hX7l, rfl, hrun, ho7, hg7, hr6⟩ := row_append1 _ w6 w1.heap.size _ v6 _ _ HO5.out HB5.out.size ho6 hb6 (by have := HBL.out; omega)
             have hb7 := (HB5.out.trans (hb6.mono HB5.out.size)).grown hg7 (Nat.le_trans HB5.out.size hb6.size) (fun j hj => (HO5.out.lt j hj).1)
             have hX7b : X7.length ≤ X5.length + 8 := by have := HBL.out; omega
             clear hX7l
             have HX7 := Lib.hid hX7; have HB7 := Lib.hid hb7
             have HRUN := Lib.hid hrun; have HO7 := Lib.hid ho7; clear hrun ho7 hX7 hb7 hg7 hr6 hb6 ho6)
          | (at_builtin; refine wpList_append_ran _ _ rfl _ _ 26 rfl _ _ _ rfl rfl HRUN.out ?_; clear HRUN))
        go_roundg (n - (p + f))
        case rel =>
          refine ⟨p + f, pre ++ [(true, p, f)], fu', X7, by omega, rfl, by omega, by rw [← HPRE.out]; simp, by go_num, HO7.out, fun h => ?_, ?_, HB7.out⟩
          · rw [HBM.out, HX7.out, HX5.out, HXS.out h]; simp
          · simp only [List.length_append, List.length_cons, List.length_nil]; omega
        case measure => omega
      · have hfs : fst1 (fun i => z (p + i)) (n - p) = (false, pkF (fun i => z (p + i)) (n - p) (min 8 (n - p)) (n - p)) := by unfold fst1; rw [if_neg (by rw [hf]; exact h8)]
        obtain ⟨m, hm⟩ : ∃ m, n - p = m := ⟨_, rfl⟩
        rw [hm] at hfs hfl hpre
        obtain ⟨R, hR⟩ : ∃ R, pkF (fun i => z (p + i)) m (min 8 m) m = R := ⟨_, rfl⟩
        rw [hR] at hfs
        rw [hfs] at hpre
        dsimp only at hpre
        have hRle := pkF_le (fun i => z (p + i)) m m (min 8 m) (by omega)
        rw [hR] at hRle
        have hmem : (false, p, R) ∈ runsN z n := by rw [← hpre]; simp
        have hBm := hB_more z n q (false, p, R) pre
        rw [clr_eq z n _ hmem] at hBm
        have hBm : hB z n q (pre ++ [(false, p, R)]) = hB z n q pre ++ digs 9 (2 * grp R + 1) ++ bytesOf (need (8 * grp R) q) (packN q (full z (false, p, R)) (8 * grp R)) := hBm
        have HBM := Lib.hid hBm
        have HPRE := Lib.hid hpre
        have HRR := Lib.hid hR
        have HM := Lib.hid hm
        have hm0 : 0 < m := by omega
        have hmn : p + m = n := by omega
        have hlen : (pre ++ [(false, p, R)]).length ≤ n := by
          have := congrArg List.length hpre
          simp only [List.length_append, List.length_cons, List.length_nil] at this ⊢
          omega
        have g8 : ¬ (8 : Int) ≤ f := by omega
        clear hpre hBm hmem hru hfs hf ho hb hxs hR hm
        go_wp2_with (go_at_call 36; refine RNp.out.mono ?_; rintro e w3 ⟨rfl, hb3⟩; have HOW := Lib.hid (owns_turned HOW.out (S := fun i => wr.heap.size ≤ i) (Turned.of_below hb3 (fun i _ hi => by omega)) (fun i hi hs => by have := (HOW.out.lt i hi).2; omega)); have HBW := Lib.hid (HBW.out.trans (hb3.mono hsz)); clear hb3)
        have FM1 := Lib.hid (fun (i : Nat) (h : i < m) => (show full z (false, p, m) i = z (p + i) from if_pos h))
        have FM2 := Lib.hid (fun (i : Nat) (h : m ≤ i) => (show full z (false, p, m) i = 0 from if_neg (by show ¬ i < m; omega)))
        obtain ⟨fm, hfm⟩ : ∃ fm, full z (false, p, m) = fm := ⟨_, rfl⟩
        rw [hfm] at FM1 FM2
        have HRX := Lib.hid (show RowOf w3 a2 n (fun i => .int .u64 (z i : Nat)) from HBR.out w3 HBW.out)
        clear hfm RNp hRr
        go_loopg [6, 8] m (fun gk at_ sm wx => ∃ g t, gk = m - t ∧ at_ = .int .i64 ((p + t : Nat) : Int) ∧ t ≤ m ∧ 8 * g ≤ t + 7 ∧ t = min (8 * g) m ∧ wx.ownsRow w3.heap.size 40 1 sm (8 * g) (rowV (fun i => .int .u64 (fm i : Nat)) (8 * g)) ∧ (1 ≤ g → ∃ fu2, m ≤ t + fu2 ∧ pkF (fun i => z (p + i)) m t fu2 = R) ∧ Below w3.heap.size w3 wx)
        case atStart => exact ⟨0, 0, rfl, rfl, by omega, by omega, by simp, World.ownsRow_nil _ _ _ _, fun h => by omega, Below.refl _ _⟩
        case round =>
          obtain ⟨g, t, rfl, rfl, ht, hg8, hT, hso, hst, hbx⟩ := hrel
          obtain ⟨wx, rfl⟩ : ∃ W : World, W = wr := ⟨_, rfl⟩
          have hszx := hbx.size
          obtain ⟨sa, sc, rfl, hsr, _⟩ := own_reads' hso
          have HSO := Lib.hid hso
          have HBX := Lib.hid hbx
          have HXX := Lib.hid (HRX.out.below hbx)
          obtain ⟨G, hG⟩ : ∃ G, 8 * g = G := ⟨_, rfl⟩
          rw [hG] at HSO
          have HG := Lib.hid hG
          have HST := Lib.hid hst
          clear hso hbx hsr hst
          rw [hG]
          rw [hG] at hg8 hT
          have HT := Lib.hid hT
          clear hG
          obtain ⟨s, hs⟩ : ∃ s, p + t = s := ⟨_, rfl⟩
          rw [hs]
          have k6 : (0 : Int) ≤ (s : Int) := by omega
          have hm' := HM.out
          have SQ := Lib.hid (show (1 ≤ g ∧ t < m) → ∃ al2 fu3, al (fun i => (fun i => z (p + i)) (t + i)) (m - t) = al2 ∧ (al2 < 8 → m ≤ min (G + 8) m + fu3 ∧ pkF (fun i => z (p + i)) m (min (G + 8) m) fu3 = R) ∧ (¬ al2 < 8 → t = R) from by
            rintro ⟨h1, h2⟩
            obtain ⟨fu2, hfu2, hpk⟩ := HST.out h1
            obtain ⟨fu3, rfl⟩ : ∃ fu3, fu2 = fu3 + 1 := ⟨fu2 - 1, by omega⟩
            have hpk' := hpk
            unfold pkF at hpk'
            refine ⟨_, fu3, rfl, fun h => ?_, fun h => ?_⟩
            · rw [if_pos ⟨h2, h⟩] at hpk'
              rw [show t + 8 = G + 8 by omega] at hpk'
              exact ⟨by omega, hpk'⟩
            · rw [if_neg (by rintro ⟨_, h3⟩; exact h h3)] at hpk'
              exact hpk')
          have S0 := Lib.hid (show g = 0 → m ≤ min (G + 8) m + m ∧ pkF (fun i => z (p + i)) m (min (G + 8) m) m = R from fun h => ⟨by omega, by rw [show G + 8 = 8 by have := HG.out; omega]; exact HRR.out⟩)
          have SE := Lib.hid (show 1 ≤ g → ¬ t < m → t = R from fun h1 h2 => by
            obtain ⟨fu2, hfu2, hpk⟩ := HST.out h1
            rw [← hpk]
            cases fu2 with
            | zero => rfl
            | succ k => unfold pkF; rw [if_neg (fun h => h2 h.1)])
          have RNt := Lib.hid (show t < m → Calls Try.prog 36 #[.slice a2 n c2, .int .i64 (s : Int)] wx fun e w' => e = .returned (.int .i64 (al (fun i => (fun i => z (p + i)) (t + i)) (m - t) : Nat)) ∧ Below wx.heap.size wx w' from fun h => by
            have RNt := RN.out a2 c2 (p + t) (by omega) wx HXX.out
            rw [show n - (p + t) = m - t from by omega, show (fun j => z (p + t + j)) = (fun i => (fun i => z (p + i)) (t + i)) from by funext i; show z (p + t + i) = z (p + (t + i)); rw [Nat.add_assoc], hs] at RNt
            exact RNt)
          go_upto_region 12 with fail
          go_cut [61] from 47 to 81 (fun s61 wc => (∃ c : Bool, s61 = .bool c ∧ (c = true → t < m ∧ ∃ fu3, m ≤ min (G + 8) m + fu3 ∧ pkF (fun i => z (p + i)) m (min (G + 8) m) fu3 = R) ∧ (c = false → t = R ∧ 1 ≤ g)) ∧ wc.ownsRow w3.heap.size 40 1 (.slice sa G sc) G (rowV (fun i => .int .u64 (fm i : Nat)) G) ∧ Below w3.heap.size w3 wc)
          case first =>
            clear FM1 FM2 HRR HST HBM HPRE HXS HFM HMP HZL ZI MO HRN P3 H7 HOW HBW HO1 HB1 HB1N HN HM HBR HR HXX HRX RN
            by_cases hg0 : g = 0
            · have ht0 : t = 0 := by have := HG.out; omega
              have k4 : (s : Int) < n := by omega
              obtain rfl : G = 0 := by have := HG.out; omega
              clear SQ SE RNt HG
              go_wp2_with fail
              go_meet
              exact ⟨⟨true, rfl, fun _ => ⟨by omega, m, S0.out hg0⟩, fun h => (by cases h)⟩, HSO.out, HBX.out⟩
            · have k5 : ¬ ((G : Nat) : Int) = 0 := by have := HG.out; omega
              by_cases htm : t < m
              · have k4 : (s : Int) < n := by omega
                obtain ⟨al2, fu3, hal, hA, hB⟩ := SQ.out ⟨by omega, htm⟩
                have RN2 := RNt.out htm
                rw [hal] at RN2
                have RN2 := Lib.hid RN2
                have HA := Lib.hid hA
                have HB := Lib.hid hB
                clear hA hB hal SQ SE S0 RNt HG
                by_cases h2 : al2 < 8
                · have k7 : (al2 : Int) < 8 := by omega
                  go_wp2_with (go_at_call 36; refine RN2.out.mono ?_; rintro e wq ⟨rfl, hbq⟩; have HBQ := Lib.hid hbq; clear hbq)
                  go_meet
                  exact ⟨⟨true, rfl, fun _ => ⟨htm, fu3, HA.out h2⟩, fun h => (by cases h)⟩, owns_turned HSO.out (S := fun i => wx.heap.size ≤ i) (Turned.of_below HBQ.out (fun i _ hi => by omega)) (fun i hi hs => by have := (HSO.out.lt i hi).2; omega), HBX.out.trans (HBQ.out.mono hszx)⟩
                · have k7 : ¬ (al2 : Int) < 8 := by omega
                  go_wp2_with (go_at_call 36; refine RN2.out.mono ?_; rintro e wq ⟨rfl, hbq⟩; have HBQ := Lib.hid hbq; clear hbq)
                  go_meet
                  exact ⟨⟨false, by rw [decide_eq_false (by omega), Bool.or_false]; exact congrArg Value.bool (beq_eq_false_iff_ne.mpr (by omega)), fun h => (by cases h), fun _ => ⟨HB.out h2, by omega⟩⟩, owns_turned HSO.out (S := fun i => wx.heap.size ≤ i) (Turned.of_below HBQ.out (fun i _ hi => by omega)) (fun i hi hs => by have := (HSO.out.lt i hi).2; omega), HBX.out.trans (HBQ.out.mono hszx)⟩
              · have k4 : ¬ (s : Int) < n := by omega
                clear SQ S0 RNt HG
                go_wp2_with fail
                go_meet
                exact ⟨⟨false, rfl, fun h => (by cases h), fun _ => ⟨SE.out (by omega) htm, by omega⟩⟩, HSO.out, HBX.out⟩
          case rest =>
            obtain ⟨⟨c, rfl, hc1, hc0⟩, hso2, hbx2⟩ := hcut
            have hszx2 := hbx2.size
            clear HSO HBX HXX SQ S0 SE RNt HST hszx
            have HSO := Lib.hid hso2
            have HBX := Lib.hid hbx2
            clear hso2 hbx2
            cases c
            · obtain ⟨rfl, hg1⟩ := hc0 rfl
              clear hc0 hc1
              have hGt : G = 8 * grp t := by have := HG.out; unfold grp; omega
              have PU := Lib.hid (fun V : World => rput_any (2 * grp t + 1) (by unfold grp; omega) V)
              rw [show ((2 * grp t + 1 : Nat) : Int) = (G : Int) / 4 + 1 from by rw [hGt]; omega] at PU
              have hfq : ∀ i, i < G → fm i < 2 ^ q := fun i hi => by
                by_cases him : i < m
                · rw [FM1.out i him]; exact HMP.out _ (by omega)
                · rw [FM2.out i (by omega)]; exact Nat.pow_pos (by decide)
              have PK := Lib.hid (fun (V : World) (hr : RowOf V sa G (fun i => .int .u64 (fm i : Nat))) => rpk_any q hq64 sa G sc fm hfq V hr)
              have HPK := Lib.hid (show n ≤ 1024 → G ≤ 1024 ∧ bytesOf (need G q) (packN q fm G) = bytesOf (need (8 * grp t) q) (packN q (full z (false, p, t)) (8 * grp t)) from fun h => by
                refine ⟨by omega, ?_⟩
                rw [← hGt, packN_same q fm (full z (false, p, t)) G (fun i hi => ?_)]
                show fm i = if i < t then z (p + i) else 0
                by_cases hit : i < t
                · rw [if_pos hit, FM1.out i (by omega)]
                · rw [if_neg hit, FM2.out i (by omega)])
              have HOWc := Lib.hid (owns_turned HOW.out (S := fun i => w3.heap.size ≤ i) (Turned.of_below HBX.out (fun i _ hi => by omega)) (fun i hi hs => by have := (HOW.out.lt i hi).2; omega))
              have HBW2 := Lib.hid (HBW.out.trans (HBX.out.mono HBW.out.size))
              have HTS := Lib.hid (show ∀ (w4 w5 : World) (row : Option Nat), Below wc.heap.size wc w4 → w4.grownBy w5 row → (∀ j, row = some j → w1.heap.size ≤ j ∧ j < w3.heap.size) → RowOf w5 sa G (fun i => .int .u64 (fm i : Nat)) from fun w4 w5 row hb4 hg5 hrow => by
                obtain ⟨a5, c5, he, hr5, hab⟩ := own_reads' HSO.out
                injection he with e1 e2 e3
                subst e1
                exact hr5.turned (S := fun j => w1.heap.size ≤ j ∧ j < w3.heap.size) ((Turned.of_below hb4 (fun i hi _ => hi)).grown hg5 (fun i hi => .inl (hrow i hi))) (fun p hp ⟨_, h2⟩ => by have := (hab p hp).1; omega))
              have hd9 := digs_len 9 (2 * grp t + 1)
              clear HG HM HRR hGt hfq HZL FM1 FM2 HMP RN HRX HRN HMQ ZI MO P3 H7
              generalize digs 9 (2 * grp t + 1) = DG at *
              generalize bytesOf (need (8 * grp t) q) (packN q (full z (false, p, t)) (8 * grp t)) = BZ at *
              generalize bytesOf (need G q) (packN q fm G) = BY at *
              go_wp2_with (first
                | (go_at_call 21; refine (PU.out _).mono ?_; rintro e w4 ⟨v4, rfl, ho4, hb4⟩
                   obtain ⟨X5, a4, c4, a5, c5, w5, hX5, hX5l, rfl, hrun, ho5, hg5, hr4⟩ := row_append1 _ w4 w1.heap.size _ v4 _ _ HOWc.out HBW2.out.size ho4 hb4 (by omega)
                   have hb5 := (HBW2.out.trans (hb4.mono HBW2.out.size)).grown hg5 (Nat.le_trans HBW2.out.size hb4.size) (fun j hj => (HOWc.out.lt j hj).1)
                   have hX5b : X5.length ≤ xs.length + 10 := by omega
                   clear hX5l
                   have HRS := Lib.hid (HTS.out w4 w5 _ hb4 hg5 (fun j hj => HOW.out.lt j hj))
                   have HX5 := Lib.hid hX5; have HB5 := Lib.hid hb5
                   have HRUN := Lib.hid hrun; have HO5 := Lib.hid ho5; clear hrun ho5 hX5 hb5 hg5 hr4 hb4 ho4)
                | (go_at_call 38; refine (PK.out _ HRS.out).mono ?_; rintro e w6 ⟨v6, ys, er, rfl, ho6, hys, hyl, hb6⟩
                   obtain ⟨X7, a6, c6, a7, c7, w7, hX7, hX7l, rfl, hrun, ho7, hg7, hr6⟩ := row_append1 _ w6 w1.heap.size _ v6 _ _ HO5.out HB5.out.size ho6 hb6 (by omega)
                   have hb7 := (HB5.out.trans (hb6.mono HB5.out.size)).grown hg7 (Nat.le_trans HB5.out.size hb6.size) (fun j hj => (HO5.out.lt j hj).1)
                   have hX7b : X7.length ≤ X5.length + 9000 := by omega
                   clear hX7l
                   have HX7 := Lib.hid hX7; have HB7 := Lib.hid hb7; have HYS := Lib.hid hys
                   have HRUN := Lib.hid hrun; have HO7 := Lib.hid ho7; clear hrun ho7 hX7 hb7 hg7 hr6 hb6 ho6 hys)
                | (at_builtin; refine wpList_append_ran _ _ rfl _ _ 26 rfl _ _ _ rfl rfl HRUN.out ?_; clear HRUN))
              go_roundg (n - (p + t))
              case rel =>
                refine ⟨p + t, pre ++ [(false, p, t)], fu', X7, by omega, rfl, by omega, by rw [← HPRE.out]; simp, by rw [hs], HO7.out, fun h => ?_, ?_, HB7.out⟩
                · rw [HBM.out, HX7.out, HX5.out, HXS.out h, HYS.out (HPK.out h).1, (HPK.out h).2]; simp
                · simp only [List.length_append, List.length_cons, List.length_nil]; omega
              case measure => omega
            · obtain ⟨htm, fu3, hf1, hf2⟩ := hc1 rfl
              have HNX := Lib.hid (And.intro hf1 hf2)
              clear hc0 hc1 hf1 hf2
              have HXS' := HXS
              go_wp2_with fail
              go_loopg [6, 8, 9] 8 (fun gk at_ sm kk wy => ∃ j : Nat, j ≤ 8 ∧ gk = 8 - j ∧ kk = .int .i64 j ∧ at_ = .int .i64 ((p + min (G + j) m : Nat) : Int) ∧ wy.ownsRow w3.heap.size 40 1 sm (G + j) (rowV (fun i => .int .u64 (fm i : Nat)) (G + j)) ∧ Below w3.heap.size w3 wy)
              case atStart => exact ⟨0, by omega, rfl, rfl, by rw [Nat.add_zero, ← HT.out, hs], HSO.out, HBX.out⟩
              case round =>
                obtain ⟨j, hj8, rfl, rfl, hat, hso2, hby⟩ := hrel
                have HS2 := Lib.hid hso2
                have HBY := Lib.hid hby
                have hszy := hby.size
                clear hso2
                by_cases hj8' : j < 8
                · have j1 : (j : Int) < 8 := by omega
                  have RS := Lib.hid (rowV_succ (fun i => Value.int .u64 (fm i : Nat)) (G + j))
                  obtain ⟨s, hs⟩ : ∃ s, p + min (G + j) m = s := ⟨_, rfl⟩
                  rw [hs] at hat
                  subst hat
                  have s0 : (0 : Int) ≤ s := by omega
                  have HRY := HRX.out.below hby
                  clear hby
                  by_cases htj : G + j < m
                  · have hsn : s < n := by omega
                    have s1 : (s : Int) < n := by omega
                    obtain ⟨bb, off, rfl, hblt, hc⟩ := HRY.at_ hsn
                    have c0 := hc s hsn
                    have hfs : fm (G + j) = z s := by rw [(FM1.out _ htj)]; congr 1; omega
                    rw [hfs] at RS
                    have HS := Lib.hid hs
                    clear hc HRY hfs hs
                    generalize z s = u at *
                    go_wp2_with (at_builtin; go_must (refine wpList_append_own_at _ rfl _ _ 58 rfl w3.heap.size 40 i8 (.int .u64 0) 1 8 Try.underlying58 hj hy0 hy1 hy2 rfl (by decide) _ _ _ rfl (HS2.out.alloc _) ⟨wr.heap.size, 0, none⟩ 1 1 [.int .u64 u] rfl rfl (cell_one_new _ _ _) (by simp [Value.oneCell']) (by unfold maxLen; omega) (by omega) (by simp; omega) ?_); intro v2 w2 hown2 hgrow2 _ _; have HO2 := Lib.hid hown2; have HG2 := Lib.hid hgrow2; clear hown2 hgrow2)
                    go_roundg (8 - (j + 1))
                    case rel => exact ⟨j + 1, by omega, rfl, by go_num, by rw [show p + min (G + (j + 1)) m = s + 1 from by have := HS.out; omega]; go_num, by rw [show G + (j + 1) = G + j + 1 from rfl, RS.out]; exact HO2.out, (HBY.out.alloc hszy _).grown HG2.out (by simp; omega) (fun j hj => (HS2.out.lt j hj).1)⟩
                    case measure => omega
                  · have hsn : s = n := by omega
                    have s1 : ¬ (s : Int) < n := by omega
                    have hfs : fm (G + j) = 0 := FM2.out _ (by omega)
                    rw [hfs] at RS
                    have HS := Lib.hid hs
                    have HSN := Lib.hid hsn
                    clear hfs hs hsn HRY
                    go_wp2_with (at_builtin; go_must (refine wpList_append_own_at _ rfl _ _ 58 rfl w3.heap.size 40 i8 (.int .u64 0) 1 8 Try.underlying58 hj hy0 hy1 hy2 rfl (by decide) _ _ _ rfl (HS2.out.alloc _) ⟨wr.heap.size, 0, none⟩ 1 1 [.int .u64 0] rfl rfl (cell_one_new _ _ _) (by simp [Value.oneCell']) (by unfold maxLen; omega) (by omega) (by simp; omega) ?_); intro v2 w2 hown2 hgrow2 _ _; have HO2 := Lib.hid hown2; have HG2 := Lib.hid hgrow2; clear hown2 hgrow2)
                    go_roundg (8 - (j + 1))
                    case rel => exact ⟨j + 1, by omega, rfl, by go_num, by rw [show p + min (G + (j + 1)) m = s from by have := HS.out; have := HSN.out; omega], by rw [show G + (j + 1) = G + j + 1 from rfl, RS.out]; exact HO2.out, (HBY.out.alloc hszy _).grown HG2.out (by simp; omega) (fun j hj => (HS2.out.lt j hj).1)⟩
                    case measure => omega
                · obtain rfl : j = 8 := by omega
                  have j1 : ¬ ((8 : Nat) : Int) < 8 := by decide
                  subst hat
                  clear hby
                  go_wp2_with fail
                  go_roundg (m - min (G + 8) m)
                  case rel => exact ⟨g + 1, min (G + 8) m, rfl, by go_num, by omega, by have := HG.out; omega, by have := HG.out; omega, by rw [show 8 * (g + 1) = G + 8 by have := HG.out; omega]; exact HS2.out, fun _ => ⟨fu3, HNX.out⟩, HBY.out⟩
                  case measure => omega
    · obtain rfl : p = n := by omega
      have k1 : ¬ (p : Int) < p := by omega
      rw [runsF_end z p fu p (Nat.le_refl _), List.append_nil] at hpre
      have HPRE := Lib.hid hpre
      clear hpre ho hb hxs
      go_wp2
      go_ret
      refine ⟨_, rfl, xs, owns_base HOW.out (fun j hj => Nat.le_trans hs1 (HOW.out.lt j hj).1), fun h => ?_, HB1N.out.trans (HBW.out.mono hs1)⟩
      rw [HXS.out h, HPRE.out, HFM.out]
end Go.Proofs.Ythonjffojaljdaa
