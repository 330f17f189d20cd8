/-
  CONTRACTS OF Zvar's Decode and of the document's own Decode of layer 8 (corduroyref08), in any world. Conditions: at most 20000 bytes, which lie in memory as told.
-/
import Derived.Test.YtknpekpigiclkaaZvarD
import Derived.Test.YtknpekpigiclkaaVarRefGet
namespace Go.Proofs.Ytknpekpigiclkaa
open Go.ChangeShapes Go.WideShapes Go.ChangeAt Go.RowKit
set_option linter.unusedVariables false
/-- What is wrong with a form of so many bytes, and the numbers. -/
def zerr (z : Nat → Int) (n nb : Nat) : Int := rerr (zrun z nb n).1 (zrun z nb n).2.1 nb
def znums (z : Nat → Int) (n nb : Nat) : List Int := rnums (zrun z nb n).1 (zrun z nb n).2.1 nb (zrun z nb n).2.2
set_option maxHeartbeats 1000000 in
theorem zdecode_in (a : Option Addr) (nb cap n : Nat) (z : Nat → Int) (hz : ∀ i, i < nb → 0 ≤ z i ∧ z i ≤ 255) (hnb : nb ≤ 100000) (hb : blk n = true) (w : World) (hrow : RowOf w a nb (fun i => .int .u8 (z i))) :
    Calls Try.prog 46 #[.agg #[], .slice a nb cap, .int .i64 n] w fun e w' => ∃ a c, e = .returned (.tuple #[.slice a (znums z n nb).length c, .int .i64 (zerr z n nb)]) ∧
      RowOf w' a (znums z n nb).length (fun i => .int .i64 ((znums z n nb).getD i 0)) ∧ Below w.heap.size w w' := by
  have hmf : ∀ (fn : Fn) (first cap : Array Value) (w : World), (Instr.makeFunc fn first cap).run Try.prog w = .ok (.func fn first cap) w := fun _ _ _ _ => rfl
  obtain ⟨s, hs⟩ : ∃ s, w.heap.size = s := ⟨_, rfl⟩
  obtain ⟨W2, hW2⟩ : ∃ W2, (w.alloc (.cells #[] 75)).alloc (.cells #[.int .i64 (n : Int)] 3) = W2 := ⟨_, rfl⟩
  have hb2 : Below s w W2 := by rw [← hW2, ← hs]; exact ((Below.refl _ w).alloc (Nat.le_refl _) _).alloc (by simp) _
  have l1 : Lies W2 (s + 1) 3 #[.int .i64 (n : Int)] := by
    have := Lies.new (w.alloc (.cells #[] 75)) 3 #[.int .i64 (n : Int)]
    rw [← hW2, ← hs]
    simpa using this
  have hn : n ≤ 1024 := by have := of_decide_eq_true hb; omega
  have RD := read_any 81 #[.pointer (some ⟨s + 1, 0, none⟩)] n nb cap a z (zrun z nb n).1 (zrun z nb n).2.2 (zrun z nb n).2.1 hb hnb (by have := zrun_le (z := z) (nb := nb) n; omega) W2 (hrow.below (by rw [hs]; exact hb2)) (fun _ _ => by simp [go_sem])
    (fun W1 bc hb1 hbc hc => zdecode1_any (s + 1) bc nb n z hz hnb hn W1 ((hb1.cell (p := ⟨s + 1, 0, none⟩) l1.lt).trans (l1.cell 0)) hc)
  change Calls _ _ _ _ (fun e w' => ∃ a c, e = .returned (.tuple #[.slice a (znums z n nb).length c, .int .i64 (zerr z n nb)]) ∧ RowOf w' a (znums z n nb).length (fun i => .int .i64 ((znums z n nb).getD i 0)) ∧ Below W2.heap.size W2 w') at RD
  have RD := Lib.hid RD
  have HB2 := Lib.hid hb2
  have HS := Lib.hid hs
  have c1 := l1.cell 0
  have C1 := Lib.hid c1
  clear hb2 l1 hb hrow hz
  generalize znums z n nb = ys at *
  generalize zerr z n nb = r at *
  go_enter Try.func46, Try.ntmps46
  go_wp2_with fail
  (try rw [hW2])
  (try rw [hs])
  refine RD.out.mono ?_
  rintro e w' ⟨a1, c, rfl, hr, hb'⟩
  have HR := Lib.hid hr
  have HB' := Lib.hid hb'
  clear hr hb' c1 hW2
  go_wp2
  go_ret2
  exact ⟨a1, c, rfl, HR.out, by rw [HS.out]; exact HB2.out.trans (HB'.out.mono (by have := HB2.out.size; have := HS.out; omega))⟩
theorem zdecode_out (a : Option Addr) (nb cap : Nat) (n : Int) (hb : blk n = false) (w : World) :
    Calls Try.prog 46 #[.agg #[], .slice a nb cap, .int .i64 n] w fun e w' => e = .returned (.tuple #[.slice none 0 0, .int .i64 7]) ∧ Below w.heap.size w w' := by
  have hmf : ∀ (fn : Fn) (first cap : Array Value) (w : World), (Instr.makeFunc fn first cap).run Try.prog w = .ok (.func fn first cap) w := fun _ _ _ _ => rfl
  have RD := Lib.hid (fun (f : FuncId) (caps : Array Value) W => read_out f caps n nb cap a hb W)
  have HB := Lib.hid (((Below.refl w.heap.size w).alloc (Nat.le_refl _) (.cells #[] 75)).alloc (by simp) (.cells #[.int .i64 n] 3))
  clear hb
  go_enter Try.func46, Try.ntmps46
  go_wp2_with (go_at_call 36; refine (RD.out _ _ _).mono ?_; rintro e w1 ⟨rfl, hb⟩; have HB1 := Lib.hid hb; clear hb)
  go_ret2
  exact ⟨rfl, HB.out.trans (HB1.out.mono HB.out.size)⟩
theorem rzdecode_out (a : Option Addr) (nb cap : Nat) (n : Int) (hb : blk n = false) (w : World) :
    Calls Try.prog 47 #[.slice a nb cap, .int .i64 n] w fun e w' => e = .returned (.tuple #[.slice none 0 0, .int .i64 7]) ∧ w = w' := by
  have BK := rblock_any n
  rw [hb] at BK
  have BK := Lib.hid BK
  clear hb
  go_enter Try.func47, Try.ntmps47
  go_wp2_with (go_at_call 35; refine (BK.out _).mono ?_; rintro e w1 ⟨rfl, rfl⟩)
  go_ret2
  exact ⟨rfl, rfl⟩
theorem zrun_pos {z : Nat → Int} {nb : Nat} : ∀ k, (zrun z nb k).2.1 ≤ nb
  | 0 => Nat.zero_le _
  | k + 1 => by
    have ih := zrun_pos (z := z) (nb := nb) k
    rw [zrun]
    split
    · split
      · rename_i h1 h2
        have := (nx_ok h2).1
        show _ + (_ + 1) ≤ nb
        omega
      · exact ih
    · exact ih
/-- How the document's Decode ends. -/
def ZEnd (z : Nat → Int) (n nb : Nat) (w : World) (e : Ending) (w' : World) : Prop :=
  ∃ a c, e = .returned (.tuple #[.slice a (znums z n nb).length c, .int .i64 (zerr z n nb)]) ∧ RowOf w' a (znums z n nb).length (fun i => .int .i64 ((znums z n nb).getD i 0)) ∧ Below w.heap.size w w'
set_option maxRecDepth 100000 in
set_option maxHeartbeats 2000000 in
theorem rzdecode_in (a : Option Addr) (nb cap n : Nat) (z : Nat → Int) (hz : ∀ i, i < nb → 0 ≤ z i ∧ z i ≤ 255) (hnb : nb ≤ 100000) (hcap : nb ≤ cap) (hcm : cap ≤ maxLen) (hb : blk n = true) (w : World) (hrow : RowOf w a nb (fun i => .int .u8 (z i))) :
    Calls Try.prog 47 #[.slice a nb cap, .int .i64 n] w (ZEnd z n nb w) := by
  obtain ⟨i0, hi, hz0, hz1, hz2⟩ := info_parts longInfo
  have hn : n ≤ 1024 := by have := of_decide_eq_true hb; omega
  have BK := rblock_any n
  rw [hb] at BK
  have BK := Lib.hid BK
  have H := Lib.hid hrow
  have HZ := Lib.hid hz
  have HCM := Lib.hid hcm
  have HCAP := Lib.hid hcap
  clear hb hrow hz hcm hcap
  go_enter Try.func47, Try.ntmps47
  go_wp2_with (go_at_call 35; refine (BK.out _).mono ?_; rintro e w1 ⟨rfl, rfl⟩)
  go_loopg [0, 6, 7] n (fun g s v x wr => ∃ (i : Nat) (a1 : Option Addr) (c1 : Nat), i ≤ n ∧ g = n - i ∧ x = .int .i64 i ∧ s = .slice a1 (nb - (zrun z nb i).2.1) c1 ∧ nb - (zrun z nb i).2.1 ≤ c1 ∧ c1 ≤ maxLen ∧ RowOf w a1 (nb - (zrun z nb i).2.1) (fun j => .int .u8 (z ((zrun z nb i).2.1 + j))) ∧ (zrun z nb i).1 = 0 ∧ wr.ownsRow w.heap.size 2 1 v i (rowV (fun j => .int .i64 ((zrun z nb i).2.2.getD j 0)) i) ∧ Below w.heap.size w wr)
  case atStart => exact ⟨0, a, cap, by omega, by omega, rfl, rfl, HCAP.out, HCM.out, (by simpa [zrun] using H.out), rfl, World.ownsRow_nil _ _ _ _, Below.refl _ _⟩
  case round =>
    obtain ⟨i, a1, c1, hin, hgk, rfl, rfl, hc1, hc2, hr, hr0, ho, hb⟩ := hrel
    have hsz := hb.size
    have hpos := zrun_pos (z := z) (nb := nb) i
    by_cases hlt : i < n
    · have i1 : (i : Int) < n := by omega
      have hlen := zrun_length i hr0
      have hbd := nx_bd HZ.out (zrun z nb i).2.1
      have hst : (nx z (zrun z nb i).2.1 nb).2.2 = 0 → zrun z nb (i + 1) = _ := fun hs => zrun_step hr0 hs
      have hfl : ¬ (nx z (zrun z nb i).2.1 nb).2.2 = 0 → (zrun z nb n).1 = (nx z (zrun z nb i).2.1 nb).2.2 := fun hs => by
        have := zrun_fail hr0 hs (n - (i + 1))
        rw [show i + 1 + (n - (i + 1)) = n by omega] at this
        exact this
      have hok : (nx z (zrun z nb i).2.1 nb).2.2 = 0 → _ := fun hs => nx_ok hs
      generalize (zrun z nb i).2.2 = l at *
      generalize (zrun z nb i).2.1 = p at *
      have RG : Calls Try.prog 84 #[.slice a1 (nb - p) c1] wr fun e w' => e = .returned (.tuple #[.int .u64 (nx z p nb).1, .int .i64 (nx z p nb).2.1, .int .i64 (nx z p nb).2.2]) ∧ wr = w' := by
        rcases hr.below hb with h0 | ⟨b1, o1, rfl, hcell⟩
        · exact rget_any a1 0 0 (nb - p) c1 (seen z p nb) (zt z p nb) (fun j => zt_bytes HZ.out p j) hc1 (by unfold maxLen at hc2; omega) (seen_last z p nb) wr (.inl h0) (fun j hj => by omega)
        · exact rget_any (some ⟨b1, o1, none⟩) b1 o1 (nb - p) c1 (seen z p nb) (zt z p nb) (fun j => zt_bytes HZ.out p j) hc1 (by unfold maxLen at hc2; omega) (seen_last z p nb) wr (.inr rfl) (fun j hj => by
            rw [hcell j hj]
            unfold zt
            rw [if_pos (by omega)])
      by_cases hs : (nx z p nb).2.2 = 0
      · have hst := hst hs
        obtain ⟨hk1, hk2, hk3⟩ := hok hs
        have ZG := Lib.hid (rzag_any (nx z p nb).1 hbd.1 hbd.2)
        generalize (nx z p nb).1 = v1 at *
        rw [hk3, hs] at RG
        generalize seen z p nb = f at *
        have HST := Lib.hid hst
        have HLEN := Lib.hid hlen
        have RG := Lib.hid RG
        have HR := Lib.hid hr
        have HO := Lib.hid ho
        have HBW := Lib.hid hb
        have HGK := Lib.hid hgk
        have HC := Lib.hid (And.intro hc1 hc2)
        have q1 : ((f + 1 : Nat) : Int) ≤ ((nb - p : Nat) : Int) := by omega
        have q2 : ((nb - p : Nat) : Int) ≤ c1 := by omega
        have q3 : (c1 : Int) ≤ 9223372036854775807 := by unfold maxLen at hc2; omega
        have q4 : ((f + 1 : Nat) : Int).toNat = f + 1 := by omega
        have HP := Lib.hid (show f + 1 ≤ nb - p from by omega)
        clear hst hfl hok hk1 hk2 hk3 hlen hbd hs hr ho hb hgk hc1 hc2 hr0
        by_cases hcc : c1 = f + 1
        · have hz2 := hz2
          have hcz : nb - (p + (f + 1)) = 0 := by omega
          have HCZ := Lib.hid hcz
          clear hcz
          subst hcc
          · skip
            go_wp2_with (first
              | (go_at_call 84; refine RG.out.mono ?_; rintro e w1 ⟨rfl, rfl⟩)
              | (go_at_call 85; refine (ZG.out _).mono ?_; rintro e w1 ⟨rfl, rfl⟩)
              | (at_builtin; go_must (refine wpList_append_own_at _ rfl _ _ 50 rfl w.heap.size 2 i0 (.int .i64 0) 1 8 Try.underlying50 hi hz0 hz1 hz2 rfl (by decide) _ _ _ rfl (HO.out.alloc _) ⟨wr.heap.size, 0, none⟩ 1 1 [.int .i64 (zag v1)] rfl rfl (cell_one_new _ _ _) (by simp [Value.oneCell']) (by unfold maxLen; omega) (by omega) (by simp; omega) ?_); intro v2 w2 hown2 hgrow2 _ _; have HO2 := Lib.hid hown2; have HG2 := Lib.hid hgrow2; clear hown2 hgrow2))
            go_roundg (n - (i + 1))
            case measure => have := HGK.out; omega
            case rel =>
              refine ⟨i + 1, a1, f + 1 - (f + 1), by omega, rfl, by go_num, ?_, ?_, ?_, ?_, ?_, ?_, (HBW.out.alloc hsz _).grown HG2.out (by simp; omega) (fun j hj => (HO.out.lt j hj).1)⟩
              · rw [HST.out]; show _ = Value.slice _ (nb - (p + (f + 1))) _; rw [show Value.slice a1 (nb - (p + (f + 1))) (f + 1 - (f + 1)) = Value.slice a1 (nb - p - (f + 1)) (f + 1 - (f + 1)) by rw [Nat.sub_sub]]; first | rfl | (simp; omega) | (simp; done)
              · rw [HST.out]; show nb - (p + (f + 1)) ≤ _; have := HC.out.1; have := HP.out; omega
              · have := HC.out.2; omega
              · rw [HST.out]; show RowOf w _ (nb - (p + (f + 1))) (fun j => .int .u8 (z (p + (f + 1) + j))); rw [HCZ.out]; exact .inl rfl
              · rw [HST.out]
              · rw [HST.out]
                show w2.ownsRow _ _ _ _ (i + 1) (rowV (fun j => .int .i64 ((l ++ [zag v1]).getD j 0)) (i + 1))
                have h := HO2.out
                rw [rowV_succ, rowV_congr (g := fun j => .int .i64 (l.getD j 0)) (fun j hj => by rw [List.getD_eq_getElem?_getD, List.getD_eq_getElem?_getD, List.getElem?_append_left (by rw [HLEN.out]; exact hj)]), show (l ++ [zag v1]).getD i 0 = zag v1 by rw [List.getD_eq_getElem?_getD, List.getElem?_append_right (by rw [HLEN.out]; exact Nat.le_refl _), HLEN.out, Nat.sub_self]; rfl]
                exact h
        · have HCC := Lib.hid hcc
          · skip
            go_wp2_with (first
              | (go_at_call 84; refine RG.out.mono ?_; rintro e w1 ⟨rfl, rfl⟩)
              | (go_at_call 85; refine (ZG.out _).mono ?_; rintro e w1 ⟨rfl, rfl⟩)
              | (at_builtin; go_must (refine wpList_append_own_at _ rfl _ _ 50 rfl w.heap.size 2 i0 (.int .i64 0) 1 8 Try.underlying50 hi hz0 hz1 hz2 rfl (by decide) _ _ _ rfl (HO.out.alloc _) ⟨wr.heap.size, 0, none⟩ 1 1 [.int .i64 (zag v1)] rfl rfl (cell_one_new _ _ _) (by simp [Value.oneCell']) (by unfold maxLen; omega) (by omega) (by simp; omega) ?_); intro v2 w2 hown2 hgrow2 _ _; have HO2 := Lib.hid hown2; have HG2 := Lib.hid hgrow2; clear hown2 hgrow2))
            go_roundg (n - (i + 1))
            case measure => have := HGK.out; omega
            case rel =>
              refine ⟨i + 1, a1.map (fun x => x.add (f + 1)), c1 - (f + 1), by omega, rfl, by go_num, ?_, ?_, ?_, ?_, ?_, ?_, (HBW.out.alloc hsz _).grown HG2.out (by simp; omega) (fun j hj => (HO.out.lt j hj).1)⟩
              · rw [HST.out]; show _ = Value.slice _ (nb - (p + (f + 1))) _; rw [show nb - (p + (f + 1)) = nb - p - (f + 1) by omega]; cases a1 <;> simp [Addr.add] <;> omega
              · rw [HST.out]; show nb - (p + (f + 1)) ≤ _; have := HC.out.1; have := HP.out; omega
              · have := HC.out.2; omega
              · rw [HST.out]; show RowOf w _ (nb - (p + (f + 1))) (fun j => .int .u8 (z (p + (f + 1) + j))); exact (by
                  rcases HR.out with h0 | ⟨b1, o1, rfl, hcell⟩
                  · exact .inl (by omega)
                  · refine .inr ⟨b1, o1 + (f + 1), ?_, fun j hj => ?_⟩
                    · simp only [Option.map_some, Addr.add]
                      rw [if_neg (by omega)]
                    · rw [show o1 + (f + 1) + j = o1 + (f + 1 + j) by omega, hcell (f + 1 + j) (by omega)]
                      show some (Value.int .u8 (z (p + (f + 1 + j)))) = some (Value.int .u8 (z (p + (f + 1) + j)))
                      rw [← Nat.add_assoc p])
              · rw [HST.out]
              · rw [HST.out]
                show w2.ownsRow _ _ _ _ (i + 1) (rowV (fun j => .int .i64 ((l ++ [zag v1]).getD j 0)) (i + 1))
                have h := HO2.out
                rw [rowV_succ, rowV_congr (g := fun j => .int .i64 (l.getD j 0)) (fun j hj => by rw [List.getD_eq_getElem?_getD, List.getD_eq_getElem?_getD, List.getElem?_append_left (by rw [HLEN.out]; exact hj)]), show (l ++ [zag v1]).getD i 0 = zag v1 by rw [List.getD_eq_getElem?_getD, List.getElem?_append_right (by rw [HLEN.out]; exact Nat.le_refl _), HLEN.out, Nat.sub_self]; rfl]
                exact h
      · have hfl := hfl hs
        have hne : ((nx z p nb).2.2 != 0) = true := by simpa using hs
        have hze : zerr z n nb = (nx z p nb).2.2 := by unfold zerr rerr; rw [hfl, if_neg hs]
        have hzn : znums z n nb = [] := by unfold znums rnums; rw [if_neg (by show ¬ zerr z n nb = 0; rw [hze]; exact hs)]
        have HZE := Lib.hid hze
        have HZN := Lib.hid hzn
        have RG := Lib.hid RG
        have HBW := Lib.hid hb
        clear hst hfl hok hlen hbd hs hr ho hb hgk hc1 hc2 hr0 hze hzn
        generalize (nx z p nb).2.2 = er at *
        generalize (nx z p nb).2.1 = mm at *
        generalize (nx z p nb).1 = vv at *
        go_wp2_with (go_at_call 84; refine RG.out.mono ?_; rintro e w1 ⟨rfl, rfl⟩)
        go_ret2
        refine ⟨none, 0, ?_, ?_, HBW.out⟩
        · rw [HZE.out, HZN.out]; rfl
        · rw [HZN.out]; exact .inl rfl
    · obtain rfl : i = n := by omega
      have hlen := zrun_length i hr0
      obtain ⟨a5, c5, rfl, hr5, _⟩ := own_reads' ho
      have HBW := Lib.hid hb
      have HR5 := Lib.hid hr5
      have HLEN := Lib.hid hlen
      by_cases hp : (zrun z nb i).2.1 < nb
      · have hze : zerr z i nb = 2 := by unfold zerr rerr; rw [if_pos hr0, if_pos hp]
        have hzn : znums z i nb = [] := by unfold znums rnums; rw [if_neg (by show ¬ zerr z i nb = 0; rw [hze]; decide)]
        have HZE := Lib.hid hze
        have HZN := Lib.hid hzn
        have l0 : (0 : Int) < ((nb - (zrun z nb i).2.1 : Nat) : Int) := by omega
        generalize nb - (zrun z nb i).2.1 = q at *
        clear hr ho hb hr0 hlen hze hzn hp hr5 hpos
        go_wp2
        go_ret2
        refine ⟨none, 0, ?_, ?_, HBW.out⟩
        · rw [HZE.out, HZN.out]; rfl
        · rw [HZN.out]; exact .inl rfl
      · have hze : zerr z i nb = 0 := by unfold zerr rerr; rw [if_pos hr0, if_neg hp]
        have hzn : znums z i nb = (zrun z nb i).2.2 := by unfold znums rnums; rw [if_pos (by show zerr z i nb = 0; exact hze)]
        have HZE := Lib.hid hze
        have HZN := Lib.hid hzn
        have hq : nb - (zrun z nb i).2.1 = 0 := by omega
        rw [hq]
        clear hr ho hb hr0 hlen hze hzn hp hr5 hpos hq
        go_wp2
        go_ret2
        refine ⟨a5, c5, ?_, ?_, HBW.out⟩
        · rw [HZE.out, HZN.out, HLEN.out]; rfl
        · rw [HZN.out, HLEN.out]; exact HR5.out
end Go.Proofs.Ytknpekpigiclkaa
