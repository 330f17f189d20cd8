/-
  CONTRACT OF the document's own form of layer 11 (corduroyref11), in any world. Conditions: at most 1024 offsets, which lie in memory as told; a width of at most 64.
-/
import Derived.Test.YtakoalghpkpdfaaPforK
import Derived.Test.YtakoalghpkpdfaaPforI
import Derived.Test.YtakoalghpkpdfaaBitsRefC
namespace Go.Proofs.Ytakoalghpkpdfaa
open Go.RowKit
set_option linter.unusedVariables false
/-- The form by a width. -/
def gf (f : Int) (o : Nat → Nat) (n q : Nat) : List Int := bytesOf 8 (un f) ++ [(q : Int)] ++ dg (exS o q n).1.length ++ mk (exS o q n).1 ++ bytesOf (need n q) (packN q (fun i => o i % 2 ^ q) n)
theorem own_apart {W : World} {b1 b2 e1 e2 n1 n2 : Nat} {v1 v2 : Value} {x1 x2 : List Value} (h1 : W.ownsRow b1 e1 1 v1 n1 x1) (h2 : W.ownsRow b2 e2 1 v2 n2 x2) (he : e1 ≠ e2) : v1.ownBlock = none ∨ v1.ownBlock ≠ v2.ownBlock := by
  rcases h1.2 with ⟨rfl, _⟩ | ⟨g, cap, cur, rfl, _, hg, _⟩
  · exact .inl rfl
  · right
    intro e
    rcases h2.2 with ⟨rfl, _⟩ | ⟨g2, cap2, cur2, rfl, _, hg2, _⟩
    · simp [Value.ownBlock] at e
    · obtain rfl : g = g2 := by simpa [Value.ownBlock] using e
      have := hg.symm.trans hg2
      simp at this
      exact he this.2
theorem own_other {W w2 : World} {o : Obj} {b1 b2 e1 e2 n1 n2 : Nat} {v1 v2 : Value} {x1 x2 : List Value} (h1 : W.ownsRow b1 e1 1 v1 n1 x1) (h2 : W.ownsRow b2 e2 1 v2 n2 x2) (he : e1 ≠ e2) (hg : (W.alloc o).grownBy w2 v2.ownBlock) : w2.ownsRow b1 e1 1 v1 n1 x1 :=
  (h1.alloc o).kept hg (own_apart h1 h2 he)
theorem own_below {W W' : World} {b e n : Nat} {v : Value} {x : List Value} (h : W.ownsRow b e 1 v n x) (hb : Below W.heap.size W W') : W'.ownsRow b e 1 v n x :=
  owns_turned h (S := fun i => W.heap.size ≤ i) (Turned.of_below hb (fun i _ hi => by omega)) (fun i hi hs => by have := (h.lt i hi).2; omega)
theorem row_append2 (W : World) (n₀ : Nat) (v : Value) (a : Option Addr) (c : Nat) (xs ys : List Int) (hrow : W.ownsRow n₀ 5 1 v xs.length (cellsOf xs)) (hn₀ : n₀ ≤ W.heap.size)
    (hr : RowOf W a ys.length (fun i => .int .u8 (ys.getD i 0))) (hlen : xs.length + ys.length ≤ 1000000) :
    ∃ a5 c5 w5, (Builtin.append_ #[26, 26] 26 #[v, .slice a ys.length c]).run Try.prog W = .ok (.slice a5 (xs ++ ys).length c5) w5 ∧ w5.ownsRow n₀ 5 1 (.slice a5 (xs ++ ys).length c5) (xs ++ ys).length (cellsOf (xs ++ ys)) ∧ W.grownBy w5 v.ownBlock := by
  obtain ⟨i0, hi, hz0, hz1, hz2⟩ := info_parts byteInfo
  obtain ⟨v5, w5, hrun, ho5, hg5, _⟩ := run_append_row (P := Try.prog) W n₀ 26 26 5 i0 (.int .u8 0) 1 Try.underlying26 hi hz0 hz1 hz2 rfl v xs.length _ hrow a ys.length c _ hr (fun i hi => rfl) (by unfold maxLen; omega) (by omega) hn₀
  rw [cellsOf_row, ← cellsOf_append] at ho5
  have e : xs.length + ys.length = (xs ++ ys).length := by simp
  rw [e] at ho5
  obtain ⟨a5, c5, rfl, _⟩ := own_bytes ho5
  exact ⟨a5, c5, w5, hrun, ho5, hg5⟩
theorem cat_to {X5 X E D : List Int} (h : X5 = X ++ D) (k : X = E) : X5 = E ++ D := by rw [h, k]
theorem row_append1 (W w4 : World) (n₀ : Nat) (v v4 : Value) (xs ys : List Int) (hrow : W.ownsRow n₀ 5 1 v xs.length (cellsOf xs)) (hn₀ : n₀ ≤ W.heap.size)
    (h4 : w4.ownsRow W.heap.size 5 1 v4 ys.length (cellsOf ys)) (hb4 : Below W.heap.size W w4) (hlen : xs.length + ys.length ≤ 1000000) :
    ∃ zs a4 c4 a5 c5 w5, zs = xs ++ ys ∧ zs.length = xs.length + ys.length ∧ v4 = .slice a4 ys.length c4 ∧ (Builtin.append_ #[26, 26] 26 #[v, v4]).run Try.prog w4 = .ok (.slice a5 zs.length c5) w5 ∧ w5.ownsRow n₀ 5 1 (.slice a5 zs.length c5) zs.length (cellsOf zs) ∧ w4.grownBy w5 v.ownBlock ∧ w4.ownsRow n₀ 5 1 v xs.length (cellsOf xs) := by
  obtain ⟨a4, c4, a5, c5, w5, h⟩ := row_append W w4 n₀ v v4 xs ys hrow hn₀ h4 hb4 hlen
  exact ⟨_, a4, c4, a5, c5, w5, rfl, List.length_append, h⟩
theorem rpu_any (u : Nat) (hu : u < 18446744073709551616) (W : World) : Calls Try.prog 69 #[.int .u64 (u : Nat)] W fun e W' => ∃ x, e = .returned x ∧ W'.ownsRow W.heap.size 5 1 x (dg u).length (cellsOf (dg u)) ∧ Below W.heap.size W W' := by
  have h := rput_any u hu W
  rw [← dg_eq u hu] at h
  exact h
theorem dg_len (u : Nat) : (dg u).length ≤ 10 := digs_len 9 _
set_option maxRecDepth 100000 in
set_option maxHeartbeats 2000000 in
theorem rform_any (f : Int) (a : Option Addr) (m cap q : Nat) (v : Nat → Nat) (hm : m ≤ 1024) (hq : q ≤ 64) (hv : ∀ i, i < m → v i < 18446744073709551616) (w : World) (hrow : RowOf w a m (fun i => .int .u64 (v i : Nat))) :
    Calls Try.prog 30 #[.int .i64 f, .slice a m cap, .int .i64 q] w fun e w' => ∃ x, e = .returned x ∧ w'.ownsRow w.heap.size 5 1 x (gf f v m q).length (cellsOf (gf f v m q)) ∧ Below w.heap.size w w' := by
  obtain ⟨i0, hi, hz0, hz1, hz2⟩ := info_parts byteInfo
  obtain ⟨i8, hj, hy0, hy1, hy2⟩ := info_parts u64Info
  have H := Lib.hid hrow
  have HV := Lib.hid hv
  have HG := Lib.hid (show gf f v m q = bytesOf 8 (un f) ++ [(q : Int)] ++ dg (exS v q m).1.length ++ mk (exS v q m).1 ++ bytesOf (need m q) (packN q (fun i => v i % 2 ^ q) m) from rfl)
  have hun := un_wrap f
  have hul := un_lt f
  have hne : (5 : Nat) ≠ 55 := by decide
  generalize un f = u at *
  generalize gf f v m q = GF at *
  obtain ⟨N, hN⟩ : ∃ N, w.heap.size = N := ⟨_, rfl⟩
  rw [hN]
  have HN := Lib.hid hN
  clear hrow hv hN
  go_enter Try.func30, Try.ntmps30
  go_wp2
  go_loopw [7, 8, 9, 10, 11] (fun vm vl c g i wr => ∃ k : Nat, k ≤ m ∧ i = .int .i64 k ∧ g = .int .i64 ((exS v q k).2 : Nat) ∧ c = .int .i64 ((exS v q k).1.length : Nat) ∧ wr.ownsRow N 5 1 vm (mk (exS v q k).1).length (cellsOf (mk (exS v q k).1)) ∧ wr.ownsRow N 55 1 vl k (rowV (fun i => .int .u64 (v i % 2 ^ q : Nat)) k) ∧ Below N w wr) (fun _ _ _ _ i _ => m - (intOf i).toNat)
  case atStart => exact ⟨0, by omega, rfl, rfl, rfl, World.ownsRow_nil _ _ _ _, World.ownsRow_nil _ _ _ _, Below.refl _ _⟩
  case round =>
    obtain ⟨k, hk, rfl, rfl, rfl, hom, hol, hb⟩ := hrel
    have hsz := hb.size
    rw [HN.out] at hsz
    have hg := exS_gap v q k
    have hl := exS_len v q k
    have hml : (mk (exS v q k).1).length ≤ 20 * (exS v q k).1.length := by rw [mk_length]; exact exW_le dn dn_le _
    by_cases hkm : k < m
    · have k1 : (k : Int) < m := by omega
      have k0 : (0 : Int) ≤ k := by omega
      obtain ⟨b, off, rfl, hblt, hc⟩ := (H.out.below (HN.out ▸ hb)).at_ hkm
      have c0 := hc k hkm
      have hvk := HV.out k hkm
      have CU := Lib.hid (cut_any (v k) q hvk hq)
      have HS := Lib.hid (show exS v q (k + 1) = if v k / 2 ^ q = 0 then ((exS v q k).1, (exS v q k).2 + 1) else ((exS v q k).1 ++ [((exS v q k).2, v k / 2 ^ q)], 0) from rfl)
      have RS := Lib.hid (rowV_succ (fun i => Value.int .u64 (v i % 2 ^ q : Nat)) k)
      have HBW := Lib.hid hb
      have HM := Lib.hid hom
      have HLW := Lib.hid hol
      clear hb hc hom hol
      have hH2 : v k / 2 ^ q < 18446744073709551616 := Nat.lt_of_le_of_lt (Nat.div_le_self _ _) hvk
      obtain ⟨Hh, hH⟩ : ∃ Hh, v k / 2 ^ q = Hh := ⟨_, rfl⟩
      rw [hH] at CU HS hH2
      obtain ⟨C, hC⟩ : ∃ C, v k % 2 ^ q = C := ⟨_, rfl⟩
      rw [hC] at CU RS
      clear hH hC
      generalize v k = y at *
      generalize exS v q k = s at *
      by_cases hz : Hh = 0
      · subst hz
        have HSk := Lib.hid (show exS v q (k + 1) = (s.1, s.2 + 1) by rw [HS.out, if_pos rfl])
        clear HS
        go_wp2_with (first
          | (go_at_call 68; refine (CU.out _).mono ?_; rintro e w1 ⟨rfl, rfl⟩)
          | (at_builtin; go_must (refine wpList_append_own_at _ rfl _ _ 49 rfl N 55 i8 (.int .u64 0) 1 8 Try.underlying49 hj hy0 hy1 hy2 rfl (by decide) _ _ _ rfl (HLW.out.alloc _) ⟨wr.heap.size, 0, none⟩ 1 1 [.int .u64 C] rfl rfl (cell_one_new _ _ _) (by simp [Value.oneCell']) (by unfold maxLen; omega) (by omega) (by simp; omega) ?_); intro v2 w2 hown2 hgrow2 _ _
             have hgrow2 : (wr.alloc (.cells #[.int .u64 C] 55)).grownBy w2 u8.ownBlock := hgrow2
             have hm2 := own_other HM.out HLW.out hne hgrow2
             have hb2 := (HBW.out.alloc hsz (.cells #[.int .u64 C] 55)).grown hgrow2 (by simp; omega) (fun j hj => (HLW.out.lt j hj).1)
             have HM := Lib.hid hm2; have HLW := Lib.hid hown2; have HBW := Lib.hid hb2; clear hown2 hgrow2 hm2 hb2))
        go_roundw
        case rel => exact ⟨k + 1, by omega, by go_num, by rw [HSk.out]; go_num, by rw [HSk.out], by rw [HSk.out]; exact HM.out, by rw [RS.out]; exact HLW.out, HBW.out⟩
        case measure => simp [intOf]; omega
      · have hz' : ¬ (Hh : Int) = 0 := by omega
        have HSk := Lib.hid (show exS v q (k + 1) = (s.1 ++ [(s.2, Hh)], 0) by rw [HS.out, if_neg hz])
        have hmo := mk_more (s.2, Hh) s.1
        have HMO := Lib.hid hmo
        clear HS hmo
        obtain ⟨G, hG⟩ : ∃ G, s.2 = G := ⟨_, rfl⟩
        rw [hG] at hg HMO HSk ⊢
        have hGl : G < 18446744073709551616 := by omega
        have dl1 := dg_len G
        have dl2 := dg_len Hh
        obtain ⟨M0, hM0⟩ : ∃ M0, mk s.1 = M0 := ⟨_, rfl⟩
        obtain ⟨MX, hMX⟩ : ∃ MX, M0 = MX := ⟨_, rfl⟩
        rw [hM0] at HM HMO hml
        rw [hMX] at HM hml
        have hMXl : MX.length ≤ 30000 := by omega
        have HXE := Lib.hid hMX.symm
        clear hMX hM0 hml
        go_wp2_with (first
          | (go_at_call 68; refine (CU.out _).mono ?_; rintro e w1 ⟨rfl, rfl⟩)
          | (go_at_call 69; refine (rpu_any _ (by assumption) _).mono ?_; rintro e w4 ⟨v4, rfl, ho4, hb4⟩
             have hs4 := HBW.out.size
             rw [HN.out] at hs4
             obtain ⟨X5, a4, c4, a5, c5, w5, hX5, hX5l, rfl, hrun, ho5, hg5, hr4⟩ := row_append1 _ w4 N _ v4 _ _ HM.out hs4 ho4 hb4 (by omega)
             have HXE := Lib.hid (cat_to hX5 HXE.out)
             first | (have hX5b : X5.length ≤ 30010 := by omega) | (have hX5b : X5.length ≤ 30020 := by omega)
             have hl5 := (own_below HLW.out hb4).kept hg5 (own_apart (own_below HLW.out hb4) hr4 hne.symm)
             have hb5 := (HBW.out.trans (hb4.mono hs4)).grown hg5 (by have := hb4.size; omega) (fun j hj => (HM.out.lt j hj).1)
             have HRUN := Lib.hid hrun; have HM := Lib.hid ho5; have HLW := Lib.hid hl5; have HBW := Lib.hid hb5; clear hrun ho5 hl5 hb5 hg5 hr4 hb4 ho4 hs4 hX5 hX5l)
          | (at_builtin; refine wpList_append_ran _ _ rfl _ _ 26 rfl _ _ _ rfl rfl HRUN.out ?_)
          | (at_builtin; refine wpList_append_own_at _ rfl _ _ 49 rfl N 55 i8 (.int .u64 0) 1 8 Try.underlying49 hj hy0 hy1 hy2 rfl (by decide) _ _ _ rfl (HLW.out.alloc _) ⟨wr.heap.size, 0, none⟩ 1 1 [.int .u64 C] rfl rfl (cell_one_new _ _ _) (by simp [Value.oneCell']) (by unfold maxLen; omega) (by omega) (by simp; omega) ?_; intro v2 w2 hown2 hgrow2 _ _
             have hgrow2 : (wr.alloc (.cells #[.int .u64 C] 55)).grownBy w2 u8.ownBlock := hgrow2
             have hm2 := own_other HM.out HLW.out hne hgrow2
             have hb2 := (HBW.out.alloc hsz (.cells #[.int .u64 C] 55)).grown hgrow2 (by simp; omega) (fun j hj => (HLW.out.lt j hj).1)
             have HM := Lib.hid hm2; have HLW := Lib.hid hown2; have HBW := Lib.hid hb2; clear hown2 hgrow2 hm2 hb2))
        go_roundw
        case rel => exact ⟨k + 1, by omega, by go_num, by rw [HSk.out]; go_num, by rw [HSk.out]; simp, by rw [HSk.out, HMO.out, ← HXE.out]; exact HM.out, by rw [RS.out]; exact HLW.out, HBW.out⟩
        case measure => simp [intOf]; omega
    · obtain rfl : k = m := by omega
      have k1 : ¬ (k : Int) < k := by omega
      obtain ⟨am, cm, rfl, hrm, _⟩ := own_bytes hom
      obtain ⟨al, cl, rfl, hrl, _⟩ := own_reads' hol
      have hqw : IntKind.u8.wrap (q : Int) = (q : Int) := by simp [IntKind.wrap, IntKind.bits, IntKind.signed]; omega
      have hp0 : 0 < 2 ^ q := Nat.pow_pos (by decide)
      have PK := Lib.hid (fun (a6 : Option Addr) (c6 : Nat) (V : World) (hr : RowOf V a6 k (fun i => .int .u64 (v i % 2 ^ q : Nat))) => (show Calls Try.prog 71 #[.int .i64 q, .slice a6 k c6] V fun e w' => ∃ v8, e = .returned (.tuple #[v8, .int .i64 0]) ∧ w'.ownsRow V.heap.size 5 1 v8 (need k q) (cellsOf (bytesOf (need k q) (packN q (fun i => v i % 2 ^ q) k))) ∧ Below V.heap.size V w' from by
        have h := rpack_any q hq a6 k c6 (fun i => v i % 2 ^ q) k hm (Nat.le_refl _) (fun i _ => Nat.mod_lt _ hp0) (fun h => absurd h (Nat.lt_irrefl _)) V ⟨hr, fun i hi => Nat.lt_of_le_of_lt (Nat.mod_le _ _) (HV.out i hi)⟩
        refine h.mono fun e w' he => ?_
        unfold PackEnd at he
        rwa [if_neg (Nat.lt_irrefl _)] at he))
      have hnl := need_le k q hm hq
      have hbl0 : (bytesOf (need k q) (packN q (fun i => v i % 2 ^ q) k)).length = need k q := bytesOf_length _ _
      have P8 := Lib.hid (fun W : World => rput3_any u 8 hul (by decide) W)
      have RM := Lib.hid hrm
      have RL := Lib.hid hrl
      have HBW := Lib.hid hb
      have HGF := HG.out
      generalize bytesOf (need k q) (packN q (fun i => v i % 2 ^ q) k) = pk at *
      obtain ⟨M0, hM0⟩ : ∃ M0, mk (exS v q k).1 = M0 := ⟨_, rfl⟩
      rw [hM0] at hml HGF RM ⊢
      have hcl : (exS v q k).1.length < 18446744073709551616 := by omega
      obtain ⟨LC, hLC⟩ : ∃ LC, (exS v q k).1.length = LC := ⟨_, rfl⟩
      rw [hLC] at hl hml hcl HGF ⊢
      have hdl := dg_len LC
      have hm0 : M0.length ≤ 30000 := by omega
      obtain ⟨DC, hDC⟩ : ∃ DC, dg LC = DC := ⟨_, rfl⟩
      have PC := Lib.hid (fun W : World => rpu_any LC hcl W)
      rw [hDC] at PC hdl HGF
      have HGF := Lib.hid HGF
      have HB0 := Lib.hid hbl0
      clear hrm hrl hb hom hol hM0 hLC hDC hml hp0 hbl0 hul
      generalize need k q = nd at *
      go_wp2_with (first
        | (go_at_call 70; refine (P8.out _).mono ?_; rintro e w1 ⟨v1, rfl, ho1, hb1⟩; have HO1 := Lib.hid ho1; have HB1 := Lib.hid hb1; clear ho1 hb1)
        | (go_at_call 69; refine (PC.out _).mono ?_; rintro e w4 ⟨v4, rfl, ho4, hb4⟩
           have hs2 := HB2.out.size
           obtain ⟨X5, a4, c4, a5, c5, w5, hX5, hX5l, rfl, hrun, ho5, hg5, hr4⟩ := row_append1 _ w4 wr.heap.size _ v4 _ _ HO2.out hs2 ho4 hb4 (by omega)
           have hb5 := (HB2.out.trans (hb4.mono hs2)).grown hg5 (by have := hb4.size; omega) (fun j hj => (HO2.out.lt j hj).1)
           obtain ⟨a6, c6, w6, hrun6, ho6, hg6⟩ := row_append2 w5 wr.heap.size _ am cm X5 M0 ho5 hb5.size (RM.out.below hb5) (by omega)
           have hb6 := hb5.grown hg6 hb5.size (fun j hj => (ho5.lt j hj).1)
           obtain ⟨X6, hX6⟩ : ∃ X6, X5 ++ M0 = X6 := ⟨_, rfl⟩
           have hX6l : X6.length ≤ 31000 := by rw [← hX6, List.length_append]; omega
           rw [hX6] at hrun6 ho6
           have HX5 := Lib.hid hX5; have HX6 := Lib.hid hX6
           have HRUN := Lib.hid hrun; have HRUN2 := Lib.hid hrun6; have HO6 := Lib.hid ho6; have HB6 := Lib.hid hb6
           clear hrun hrun6 ho5 ho6 hb5 hb6 hg5 hg6 hX5 hX6 hr4 hb4 ho4 hs2 hX5l)
        | (go_at_call 71; refine (PK.out _ _ _ (RL.out.below HB6.out)).mono ?_; rintro e w7 ⟨v7, rfl, ho7, hb7⟩
           have hs6 := HB6.out.size
           rw [← HB0.out] at ho7
           obtain ⟨X8, a7, c7, a8, c8, w8, hX8, hX8l, rfl, hrun, ho8, hg8, hr8⟩ := row_append1 _ w7 wr.heap.size _ v7 _ _ HO6.out hs6 ho7 hb7 (by have := HB0.out; omega)
           have hb8 := (HB6.out.trans (hb7.mono hs6)).grown hg8 (by have := hb7.size; omega) (fun j hj => (HO6.out.lt j hj).1)
           have HX8 := Lib.hid hX8
           have HRUN := Lib.hid hrun; have HO8 := Lib.hid ho8; have HB8 := Lib.hid hb8
           clear hrun ho8 hb8 hg8 hr8 hX8 hX8l ho7 hb7 hs6)
        | (at_builtin; refine wpList_append_ran _ _ rfl _ _ 26 rfl _ _ _ rfl rfl HRUN.out ?_; clear HRUN; try (have HRUN := HRUN2; clear HRUN2))
        | (at_builtin; refine wpList_append_own_at _ rfl _ _ 26 rfl wr.heap.size 5 i0 (.int .u8 0) 1 1 Try.underlying26 hi hz0 hz1 hz2 rfl (by decide) _ _ _ rfl (HO1.out.alloc _) ⟨w1.heap.size, 0, none⟩ 1 1 [.int .u8 q] rfl rfl (cell_one_new _ _ _) (by simp [Value.oneCell']) (by decide) (by decide) (by have := HB1.out.size; simp; omega) ?_; intro v2 w2 hown2 hgrow2 _ _
           have hb2 := (HB1.out.alloc HB1.out.size (.cells #[.int .u8 q] 5)).grown hgrow2 (by have := HB1.out.size; simp; omega) (fun j hj => (HO1.out.lt j hj).1)
           obtain ⟨X0, hX0⟩ : ∃ X0, bytesOf 8 u ++ [(q : Int)] = X0 := ⟨_, rfl⟩
           have hX0l : X0.length = 8 + 1 := by rw [← hX0]; simp [bytesOf_length]
           rw [show cellsOf (bytesOf 8 u) ++ [Value.int .u8 q] = cellsOf X0 from by rw [← hX0]; simp [cellsOf], ← hX0l] at hown2
           have hX0b : X0.length ≤ 9 := by omega
           have HX0 := Lib.hid hX0; have HO2 := Lib.hid hown2; have HB2 := Lib.hid hb2; clear hown2 hgrow2 hb2 hX0 hX0l))
      go_ret
      have hsw := HBW.out.size
      rw [HN.out] at hsw
      have hGX : GF = X8 := by rw [HGF.out, HX8.out, ← HX6.out, HX5.out, ← HX0.out]
      rw [hGX]
      exact ⟨_, rfl, owns_base HO8.out (fun j hj => Nat.le_trans hsw (HO8.out.lt j hj).1), HBW.out.trans (HB8.out.mono hsw)⟩
end Go.Proofs.Ytakoalghpkpdfaa
