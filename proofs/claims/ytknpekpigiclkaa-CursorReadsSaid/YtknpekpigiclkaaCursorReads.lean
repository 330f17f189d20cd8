/-
  THE STATEMENT corduroylaw03.CursorReads: for any bytes and any row of acts the call returns true and leaves its arguments as they were. No condition.
-/
import Derived.Test.YtknpekpigiclkaaAsked
import Derived.Test.YtknpekpigiclkaaAskRef
import Derived.Test.YtknpekpigiclkaaIsPairs
import Derived.Deep.LoopGhost
import Derived.Deep.CutRange
import Derived.Deep.CutBlock
import Derived.Deep.RegionHeld3
import Derived.Laws.EntriesVeiled
namespace Go.Proofs.Ytknpekpigiclkaa.cursorReads
open Go.ChangeShapes Go.WideShapes Go.ChangeAt Go.RowKit
set_option linter.unusedVariables false
theorem long (a a2 : Option Addr) (n cap m cap2 : Nat) (hl : 200 < n ∨ 40 < m) (W : World) :
    Calls Try.prog 4 #[.slice a n cap, .slice a2 m cap2] W fun e w' => e = .returned (.bool true) ∧ Below W.heap.size W w' := by
  by_cases h : 200 < n
  · have h1 : (200 : Int) < n := by omega
    clear hl
    go_enter Try.func4, Try.ntmps4
    go_wp2
    go_ret
    exact ⟨rfl, Below.refl _ _⟩
  · have h1 : ¬ (200 : Int) < n := by omega
    have h2 : (40 : Int) < m := by omega
    clear hl
    go_enter Try.func4, Try.ntmps4
    go_wp2
    go_ret
    exact ⟨rfl, Below.refl _ _⟩
/-- The acts lie in memory. -/
def Acts (w : World) (a : Option Addr) (m : Nat) (D N : Nat → Int) (B : Nat) : Prop :=
  m = 0 ∨ ∃ b off, a = some ⟨b, off, none⟩ ∧ b < B ∧ ∀ i, i < m → w.cell? ⟨b, off + i * 2, none⟩ = some (.int .u8 (D i)) ∧ w.cell? ⟨b, off + i * 2 + 1, none⟩ = some (.int .i64 (N i))
theorem Acts.at_ {w w' : World} {a : Option Addr} {m : Nat} {D N : Nat → Int} {B : Nat} (h : Acts w a m D N B) (hb : Below B w w') {k : Nat} (hk : k < m) :
    ∃ b off, a = some ⟨b, off, none⟩ ∧ b < B ∧ w'.cell? ⟨b, off + k * 2, none⟩ = some (.int .u8 (D k)) ∧ w'.cell? ⟨b, off + k * 2 + 1, none⟩ = some (.int .i64 (N k)) := by
  rcases h with h | ⟨b, off, rfl, hl, hc⟩
  · omega
  · exact ⟨b, off, rfl, hl, (hb.cell (p := ⟨b, off + k * 2, none⟩) hl).trans (hc k hk).1, (hb.cell (p := ⟨b, off + k * 2 + 1, none⟩) hl).trans (hc k hk).2⟩
set_option maxRecDepth 100000 in
set_option maxHeartbeats 4000000 in
theorem main (a a2 : Option Addr) (n cap m cap2 : Nat) (z D N : Nat → Int) (hn : n ≤ 200) (hm : m ≤ 40) (hcap : n ≤ cap) (hcm : cap ≤ maxLen) (hz : ∀ i, i < n → 0 ≤ z i ∧ z i ≤ 255) (W : World) (h : RowOf W a n (fun i => .int .u8 (z i))) (hacts : Acts W a2 m D N W.heap.size) :
    Calls Try.prog 4 #[.slice a n cap, .slice a2 m cap2] W fun e w' => e = .returned (.bool true) ∧ Below W.heap.size W w' := by
  obtain ⟨i0, hi, hz0, hz1, hz2⟩ := info_parts byteInfo
  have hn200 : ¬ (200 : Int) < n := by omega
  have hm40 : ¬ (40 : Int) < m := by omega
  obtain ⟨B, hB⟩ : ∃ B, W.heap.size = B := ⟨_, rfl⟩
  rw [hB] at hacts ⊢
  have CN := Lib.hid (cnew_any a n cap z (by omega) W h)
  have H := Lib.hid h
  have HACT := Lib.hid hacts
  have HZ := Lib.hid hz
  have HB := Lib.hid hB
  have HN := Lib.hid hn
  have HCAP := Lib.hid (And.intro hcap hcm)
  clear h hacts hz hB hn hcap hcm
  go_enter Try.func4, Try.ntmps4
  go_wp2_with (first
    | (go_at_call 20; refine CN.out.mono ?_; rintro e w1 ⟨bc, rfl, hc1, hbc, hb1⟩
       obtain ⟨v2, w2, hrun, ho2, hg2, hat2⟩ := run_append_row (P := Try.prog) (w1.alloc (.cells #[] 5)) w1.heap.size 34 34 5 i0 (.int .u8 0) 1 Try.underlying34 hi hz0 hz1 hz2 rfl _ 0 _ (own_empty w1 w1.heap.size (Nat.le_refl _)) a n cap _ ((H.out.below hb1).below ((Below.refl _ w1).alloc (Nat.le_refl _) _)) (fun i _ => rfl) (by have := HN.out; unfold maxLen; omega) (by have := HN.out; omega) (by simp)
       rw [Nat.zero_add, List.nil_append] at ho2
       obtain ⟨ar, cr, rfl, hr2, hab2, hcr, hgr⟩ := own_reads ho2
       have HRUN := Lib.hid hrun; have HO2 := Lib.hid ho2; have HR2 := Lib.hid hr2; have HAB2 := Lib.hid hab2; have HCR := Lib.hid hcr; have HGR := Lib.hid hgr
       have HB2 := Lib.hid (((Below.refl w1.heap.size w1).alloc (Nat.le_refl _) (.cells #[] 5)).grown hg2 (by simp) (fun j hj => by simp [Value.ownBlock] at hj; omega))
       have HC1 := Lib.hid hc1; have HB1 := Lib.hid hb1; have HBC := Lib.hid hbc
       clear hrun ho2 hg2 hat2 hc1 hb1 hbc hr2 hab2 hcr hgr)
    | (at_builtin; go_must (refine wpList_append_ran _ _ rfl _ _ 34 rfl _ _ _ rfl rfl HRUN.out ?_)))
  obtain ⟨br, hbr⟩ : ∃ br, w2.heap.size = br := ⟨_, rfl⟩
  obtain ⟨W0, hW0⟩ : ∃ W0, w2.alloc (.cells #[.slice ar n cr, .int .i64 0] 40) = W0 := ⟨_, rfl⟩
  have hb0 : Below w2.heap.size w2 W0 := by rw [← hW0]; exact (Below.refl _ w2).alloc (Nat.le_refl _) _
  have hc0 : CursorAt W0 bc n z 0 := by
    have h1 := HC1.out.below HB2.out HC1.out.lt
    exact h1.below hb0 h1.lt
  have hr0 : RCurAt W0 bc br n z 0 := by
    have hl : Lies W0 br 40 #[.slice ar n cr, .int .i64 0] := by rw [← hW0, ← hbr]; exact Lies.new _ _ _
    have hrow : RowOf W0 ar n (fun i => .int .u8 (z i)) := (HR2.out.congr (f' := fun i => .int .u8 (z i)) fun i hi => by simp [rowV, hi]).below hb0
    have hcc : ((ar = none ∧ cr = 0) ∨ ∃ g, ar = some ⟨g, 0, none⟩ ∧ bc < g ∧ g < br) ∧ cr ≤ maxLen := by
      rcases HO2.out.2 with ⟨hv, h0⟩ | ⟨g, cp, cur, hv, hlo, hg, h1, h2, _⟩
      · injection hv with ha hn hc
        exact ⟨.inl ⟨ha, hc⟩, by omega⟩
      · injection hv with ha hn hc
        subst hc
        exact ⟨.inr ⟨g, ha, by have := HC1.out.lt; omega, by rw [← hbr]; exact (Array.getElem?_eq_some_iff.1 hg).1⟩, h2⟩
    exact ⟨ar, cr, hl, hrow, hcc.1, HCR.out, hcc.2, Nat.zero_le _⟩
  have hbc : bc < br := by have h1 := HC1.out.lt; have h2 := HB2.out.size; omega
  have hbw : Below B W W0 := by rw [← HB.out]; exact HB1.out.trans ((HB2.out.trans (hb0.mono HB2.out.size)).mono HB1.out.size)
  have hBbc : B ≤ bc := by have := HBC.out; have := HB.out; omega
  have HC0 := Lib.hid hc0
  have HR0 := Lib.hid hr0
  have HBW0 := Lib.hid hbw
  (try rw [hW0])
  (try rw [hbr])
  clear hW0 hb0 hc0 hr0 hbw HC1 HB1 HB2 HBC HRUN HO2 HR2 HAB2 HCR HGR CN hbr
  go_loopg [7] m (fun g i wr => ∃ k at_ : Nat, k ≤ m ∧ g = m - k ∧ i = .int .i64 k ∧ CursorAt wr bc n z at_ ∧ RCurAt wr bc br n z at_ ∧ Below B W wr)
  case atStart => exact ⟨0, 0, by omega, by omega, rfl, HC0.out, HR0.out, HBW0.out⟩
  case round =>
    obtain ⟨k, at_, hk, hgk, rfl, hc, hr, hb⟩ := hrel
    have HC := Lib.hid hc
    have HR := Lib.hid hr
    have HBW := Lib.hid hb
    have HGK := Lib.hid hgk
    clear hc hr hb hgk HC0 HR0 HBW0
    by_cases hkm : k < m
    · have k1 : (k : Int) < m := by omega
      have k0 : (0 : Int) ≤ k := by omega
      obtain ⟨ba, oa, rfl, hba, x0, x1⟩ := HACT.out.at_ HBW.out hkm
      generalize D k = d at *
      generalize N k = Na at *
      obtain ⟨K, hK⟩ : ∃ K, (askn n at_ d Na).1 = K := ⟨_, rfl⟩
      obtain ⟨ER, hER⟩ : ∃ ER, (askn n at_ d Na).2 = ER := ⟨_, rfl⟩
      have AK := asked_any bc n z at_ HZ.out (by have := HN.out; omega) d Na wr HC.out
      rw [hK, hER] at AK
      have AK := Lib.hid AK
      have HK : Hid (askn n at_ d Na = (K, ER)) := Lib.hid (by rw [← hK, ← hER])
      have HLE := Lib.hid HC.out.le
      clear hK hER
      go_upto_block 2 with (go_at_call 21; refine AK.out.mono ?_; rintro e w3 ⟨a3, c3, rfl, hr3, hp3, hc3, ht3⟩; have HR3 := Lib.hid hr3; have HP3 := Lib.hid hp3; have HC3 := Lib.hid hc3; have HT3 := Lib.hid ht3; have y0 := (ht3.cell (p := ⟨ba, oa + k * 2, none⟩) (World.block_lt_of_cell? wr _ x0) (fun (e : ba = bc) => by omega)).trans x0; have y1 := (ht3.cell (p := ⟨ba, oa + k * 2 + 1, none⟩) (World.block_lt_of_cell? wr _ x1) (fun (e : ba = bc) => by omega)).trans x1; have HQ := Lib.hid (HR.out.turned ht3 (fun (e : br = bc) => by omega) (fun g hg _ (e : g = bc) => by omega)); clear hr3 hp3 hc3 ht3)
      go_cut [10, 11] from 29 to 129 (fun s10 s11 wx => Turned (· = br) w3 wx ∧ RCurAt wx bc br n z (at_ + K) ∧ (∃ a c, s10 = .slice a K c ∧ RowOf wx a K (fun i => .int .u8 (z (at_ + i)))) ∧ s11 = .int .i64 ER)
      case first =>
        by_cases h5 : d = 5
        · subst h5
          by_cases hs : at_ < n
          · obtain ⟨rfl, rfl⟩ : 0 = K ∧ 2 = ER := by have := HK.out; simpa [askn, hs] using this
            obtain ⟨aq, cq, hl, hq⟩ := HQ.out
            have q1 : w3.cell? ⟨br, 1, none⟩ = some (.int .i64 at_) := hl.cell 1
            have hs2 : (at_ : Int) < n := by omega
            clear hl hq hs
            go_wp2_with fail
            go_meet
            exact ⟨Turned.refl _ _, HQ.out, ⟨none, 0, rfl, .inl rfl⟩, rfl⟩
          · obtain ⟨rfl, rfl⟩ : 0 = K ∧ 0 = ER := by have := HK.out; simpa [askn, hs] using this
            obtain ⟨aq, cq, hl, hq⟩ := HQ.out
            have q1 : w3.cell? ⟨br, 1, none⟩ = some (.int .i64 at_) := hl.cell 1
            have hs2 : ¬ (at_ : Int) < n := by omega
            clear hl hq hs
            go_wp2_with fail
            go_meet
            exact ⟨Turned.refl _ _, HQ.out, ⟨none, 0, rfl, .inl rfl⟩, rfl⟩
        by_cases h4 : d = 4
        · subst h4
          by_cases hn0 : Na < 0
          · obtain ⟨rfl, rfl⟩ : 0 = K ∧ 4 = ER := by have := HK.out; simpa [askn, hn0] using this
            have RB := Lib.hid (rbytes_neg bc br n z at_ Na hn0 w3)
            clear hn0
            go_wp2_with (go_at_call 22; refine RB.out.mono ?_; rintro e w4 ⟨rfl, rfl⟩)
            go_meet
            exact ⟨Turned.refl _ _, HQ.out, ⟨none, 0, rfl, .inl rfl⟩, rfl⟩
          · by_cases hs : ((n - at_ : Nat) : Int) < Na
            · obtain ⟨rfl, rfl⟩ : 0 = K ∧ 1 = ER := by have := HK.out; simpa [askn, hn0, hs] using this
              have RB := Lib.hid (rbytes_short bc br n z at_ Na (by omega) (by have := HN.out; omega) (by have := HLE.out; omega) w3 HQ.out)
              clear hs hn0
              go_wp2_with (go_at_call 22; refine RB.out.mono ?_; rintro e w4 ⟨rfl, j, rfl⟩)
              go_meet
              exact ⟨(Turned.refl _ w3).drewN _, HQ.out, ⟨none, 0, rfl, .inl rfl⟩, rfl⟩
            · obtain ⟨kk, rfl⟩ : ∃ kk : Nat, Na = kk := ⟨Na.toNat, by omega⟩
              obtain ⟨rfl, rfl⟩ : kk = K ∧ 0 = ER := by have := HK.out; simpa [askn, hn0, hs] using this
              have RB := Lib.hid (rbytes_ok bc br n z at_ kk (by have := HN.out; omega) (by have := HLE.out; omega) w3 HQ.out)
              clear hs hn0
              go_wp2_with (go_at_call 22; refine RB.out.mono ?_; rintro e w4 ⟨a4, c4, rfl, hr4, _, hq4, ht4⟩; have HR4 := Lib.hid hr4; have HQ4 := Lib.hid hq4; have HT4 := Lib.hid ht4; clear hr4 hq4 ht4)
              go_meet
              exact ⟨HT4.out, HQ4.out, ⟨a4, c4, rfl, HR4.out⟩, rfl⟩
        by_cases h3 : d = 3
        · subst h3
          by_cases hs : n < at_ + 8
          · obtain ⟨rfl, rfl⟩ : 0 = K ∧ 1 = ER := by have := HK.out; simpa [askn, hs] using this
            have RB := Lib.hid (rbytes_short bc br n z at_ 8 (by omega) (by have := HN.out; omega) (by have := HLE.out; omega) w3 HQ.out)
            clear hs
            go_wp2_with (go_at_call 22; refine RB.out.mono ?_; rintro e w4 ⟨rfl, j, rfl⟩)
            go_meet
            exact ⟨(Turned.refl _ w3).drewN _, HQ.out, ⟨none, 0, rfl, .inl rfl⟩, rfl⟩
          · obtain ⟨rfl, rfl⟩ : 8 = K ∧ 0 = ER := by have := HK.out; simpa [askn, hs] using this
            have RB := Lib.hid (rbytes_ok bc br n z at_ 8 (by have := HN.out; omega) (by have := HLE.out; omega) w3 HQ.out)
            clear hs
            go_wp2_with (go_at_call 22; refine RB.out.mono ?_; rintro e w4 ⟨a4, c4, rfl, hr4, _, hq4, ht4⟩; have HR4 := Lib.hid hr4; have HQ4 := Lib.hid hq4; have HT4 := Lib.hid ht4; clear hr4 hq4 ht4)
            go_meet
            exact ⟨HT4.out, HQ4.out, ⟨a4, c4, rfl, HR4.out⟩, rfl⟩
        by_cases h2 : d = 2
        · subst h2
          by_cases hs : n < at_ + 4
          · obtain ⟨rfl, rfl⟩ : 0 = K ∧ 1 = ER := by have := HK.out; simpa [askn, hs] using this
            have RB := Lib.hid (rbytes_short bc br n z at_ 4 (by omega) (by have := HN.out; omega) (by have := HLE.out; omega) w3 HQ.out)
            clear hs
            go_wp2_with (go_at_call 22; refine RB.out.mono ?_; rintro e w4 ⟨rfl, j, rfl⟩)
            go_meet
            exact ⟨(Turned.refl _ w3).drewN _, HQ.out, ⟨none, 0, rfl, .inl rfl⟩, rfl⟩
          · obtain ⟨rfl, rfl⟩ : 4 = K ∧ 0 = ER := by have := HK.out; simpa [askn, hs] using this
            have RB := Lib.hid (rbytes_ok bc br n z at_ 4 (by have := HN.out; omega) (by have := HLE.out; omega) w3 HQ.out)
            clear hs
            go_wp2_with (go_at_call 22; refine RB.out.mono ?_; rintro e w4 ⟨a4, c4, rfl, hr4, _, hq4, ht4⟩; have HR4 := Lib.hid hr4; have HQ4 := Lib.hid hq4; have HT4 := Lib.hid ht4; clear hr4 hq4 ht4)
            go_meet
            exact ⟨HT4.out, HQ4.out, ⟨a4, c4, rfl, HR4.out⟩, rfl⟩
        by_cases h1 : d = 1
        · subst h1
          by_cases hs : n < at_ + 2
          · obtain ⟨rfl, rfl⟩ : 0 = K ∧ 1 = ER := by have := HK.out; simpa [askn, hs] using this
            have RB := Lib.hid (rbytes_short bc br n z at_ 2 (by omega) (by have := HN.out; omega) (by have := HLE.out; omega) w3 HQ.out)
            clear hs
            go_wp2_with (go_at_call 22; refine RB.out.mono ?_; rintro e w4 ⟨rfl, j, rfl⟩)
            go_meet
            exact ⟨(Turned.refl _ w3).drewN _, HQ.out, ⟨none, 0, rfl, .inl rfl⟩, rfl⟩
          · obtain ⟨rfl, rfl⟩ : 2 = K ∧ 0 = ER := by have := HK.out; simpa [askn, hs] using this
            have RB := Lib.hid (rbytes_ok bc br n z at_ 2 (by have := HN.out; omega) (by have := HLE.out; omega) w3 HQ.out)
            clear hs
            go_wp2_with (go_at_call 22; refine RB.out.mono ?_; rintro e w4 ⟨a4, c4, rfl, hr4, _, hq4, ht4⟩; have HR4 := Lib.hid hr4; have HQ4 := Lib.hid hq4; have HT4 := Lib.hid ht4; clear hr4 hq4 ht4)
            go_meet
            exact ⟨HT4.out, HQ4.out, ⟨a4, c4, rfl, HR4.out⟩, rfl⟩
        by_cases h0 : d = 0
        · subst h0
          by_cases hs : n < at_ + 1
          · obtain ⟨rfl, rfl⟩ : 0 = K ∧ 1 = ER := by have := HK.out; simpa [askn, hs] using this
            have RB := Lib.hid (rbytes_short bc br n z at_ 1 (by omega) (by have := HN.out; omega) (by have := HLE.out; omega) w3 HQ.out)
            clear hs
            go_wp2_with (go_at_call 22; refine RB.out.mono ?_; rintro e w4 ⟨rfl, j, rfl⟩)
            go_meet
            exact ⟨(Turned.refl _ w3).drewN _, HQ.out, ⟨none, 0, rfl, .inl rfl⟩, rfl⟩
          · obtain ⟨rfl, rfl⟩ : 1 = K ∧ 0 = ER := by have := HK.out; simpa [askn, hs] using this
            have RB := Lib.hid (rbytes_ok bc br n z at_ 1 (by have := HN.out; omega) (by have := HLE.out; omega) w3 HQ.out)
            clear hs
            go_wp2_with (go_at_call 22; refine RB.out.mono ?_; rintro e w4 ⟨a4, c4, rfl, hr4, _, hq4, ht4⟩; have HR4 := Lib.hid hr4; have HQ4 := Lib.hid hq4; have HT4 := Lib.hid ht4; clear hr4 hq4 ht4)
            go_meet
            exact ⟨HT4.out, HQ4.out, ⟨a4, c4, rfl, HR4.out⟩, rfl⟩
        have hK0 := HK.out
        unfold askn at hK0
        rw [if_neg h5, if_neg h4, if_neg h3, if_neg h2, if_neg h1, if_neg h0] at hK0
        obtain ⟨rfl, rfl⟩ : 0 = K ∧ 0 = ER := by simpa using hK0
        clear hK0
        have g0 : (d == 0) = false := by simpa using h0
        have g1 : (d == 1) = false := by simpa using h1
        have g2 : (d == 2) = false := by simpa using h2
        have g3 : (d == 3) = false := by simpa using h3
        have g4 : (d == 4) = false := by simpa using h4
        have g5 : (d == 5) = false := by simpa using h5
        clear h0 h1 h2 h3 h4 h5
        go_wp2_with fail
        go_meet
        exact ⟨Turned.refl _ _, HQ.out, ⟨none, 0, rfl, .inl rfl⟩, rfl⟩
      case rest =>
        obtain ⟨ht4, hq4, ⟨a4, c4, rfl, hr4⟩, rfl⟩ := hcut
        obtain ⟨A, hA⟩ : ∃ A, at_ + K = A := ⟨_, rfl⟩
        have hC4 : CursorAt wc bc n z A := by rw [← hA]; exact HC3.out.turned ht4 (fun i hi (e : i = br) => by omega)
        have hR3 : RowOf wc a3 K (fun i => .int .u8 (z (at_ + i))) := HR3.out.turned ht4 (fun p e (h : p.block = br) => by have := (HP3.out p e).1; have := HR.out.lt; omega)
        rw [hA] at hq4
        have hAn := hC4.le
        have T4 : Turned (fun i => i = bc ∨ i = br) wr wc := (HT3.out.mono (fun i _ e => .inl e)).trans (ht4.mono (fun i _ e => .inr e))
        have hb4 : Below B W wc := HBW.out.trans (T4.below (B := B) fun i hi => ⟨by have := HBW.out.size; have := HB.out; omega, fun e => by rcases e with e | e <;> omega⟩)
        have hH4 : RowOf wc a n (fun i => .int .u8 (z i)) := H.out.below (by rw [HB.out]; exact hb4)
        -- what the three conversions come to, in any world above
        have S3 : ∀ w', Below wc.heap.size wc w' → (convert 34 9 (.slice a3 K c3)).run Try.prog w' = .ok (.string (strOfNums ((List.range K).map (fun i => z (at_ + i))))) w' := fun w' hb => conv_any _ _ _ _ w' (hR3.below hb)
        have S4 : ∀ w', Below wc.heap.size wc w' → (convert 34 9 (.slice a4 K c4)).run Try.prog w' = .ok (.string (strOfNums ((List.range K).map (fun i => z (at_ + i))))) w' := fun w' hb => conv_any _ _ _ _ w' (hr4.below hb)
        have hrow : ∃ a' c', RowOf wc a' (n - A) (fun i => .int .u8 (z (A + i))) ∧ ((cap = A ∧ a' = a ∧ c' = 0) ∨ (cap ≠ A ∧ a' = a.map (fun x => x.add A) ∧ c' = cap - A)) := by
          by_cases hca : cap = A
          · exact ⟨a, 0, .inl (by have := HCAP.out.1; omega), .inl ⟨hca, rfl, rfl⟩⟩
          · refine ⟨_, _, ?_, .inr ⟨hca, rfl, rfl⟩⟩
            rcases Nat.eq_zero_or_pos (n - A) with h0 | h0
            · exact .inl h0
            · obtain ⟨b, off, rfl, _, hc⟩ := hH4.at_ (i := 0) (by omega)
              refine .inr ⟨b, off + A, ?_, fun i hi => ?_⟩
              · simp only [Option.map_some, Addr.add]
                split
                · rename_i h; subst h; rfl
                · rfl
              · rw [Nat.add_assoc]; exact hc (A + i) (by omega)
        obtain ⟨a', c', hrow, hac⟩ := hrow
        have S5 : ∀ w', Below wc.heap.size wc w' → (convert 34 9 (.slice a' (n - A) c')).run Try.prog w' = .ok (.string (strOfNums ((List.range (n - A)).map (fun i => z (A + i))))) w' := fun w' hb => conv_any _ _ _ _ w' (hrow.below hb)
        obtain ⟨aq, cq, hl4, hq4'⟩ := id hq4
        have q1 : wc.cell? ⟨br, 1, none⟩ = some (.int .i64 A) := hl4.cell 1
        have hlt : br < wc.heap.size := hl4.lt
        have HALL := Lib.hid (fun w' (hb : Below wc.heap.size wc w') => (show w'.cell? ⟨br, 1, none⟩ = some (.int .i64 A) ∧ (convert 34 9 (.slice a3 K c3)).run Try.prog w' = .ok (.string (strOfNums ((List.range K).map (fun i => z (at_ + i))))) w' ∧ (convert 34 9 (.slice a4 K c4)).run Try.prog w' = .ok (.string (strOfNums ((List.range K).map (fun i => z (at_ + i))))) w' ∧ (convert 34 9 (.slice a' (n - A) c')).run Try.prog w' = .ok (.string (strOfNums ((List.range (n - A)).map (fun i => z (A + i))))) w' from
          ⟨(hb.cell (p := ⟨br, 1, none⟩) hlt).trans q1, S3 w' hb, S4 w' hb, S5 w' hb⟩))
        generalize strOfNums ((List.range K).map (fun i => z (at_ + i))) = X at *
        have PK := Lib.hid (fun w' (hb : Below wc.heap.size wc w') => cpeek_any bc n z A (by have := HN.out; omega) w' (hC4.below hb hC4.lt))
        have AT := Lib.hid (fun w' (hb : Below wc.heap.size wc w') => cat_any bc n z A w' (hC4.below hb hC4.lt))
        have LE := Lib.hid (fun w' (hb : Below wc.heap.size wc w') => cleft_any bc n z A (by have := HN.out; omega) w' (hC4.below hb hC4.lt))
        have P0 := Lib.hid (((Below.refl wc.heap.size wc)).drew)
        have HC4 := Lib.hid hC4
        have HQ4 := Lib.hid hq4
        have HB4 := Lib.hid hb4
        have HT4 := Lib.hid T4
        have l1 : (A : Int) ≤ n := by omega
        have l2 : (n : Int) ≤ cap := by have := HCAP.out.1; omega
        have l3 : (cap : Int) ≤ 9223372036854775807 := by have := HCAP.out.2; unfold maxLen at this; omega
        have l4 : (n : Int) ≤ 200 := by have := HN.out; omega
        have l5 : (n : Int) - A = ((n - A : Nat) : Int) := by omega
        have l7 : IntKind.i64.wrap ((n - A : Nat) : Int) = ((n - A : Nat) : Int) := IntWalk.i64_in _ (by omega)
        have l6 : IntKind.i64.wrap ((n : Int) - A) = ((n - A : Nat) : Int) := by rw [l5]; exact IntWalk.i64_in _ (by omega)
        have HNA := Lib.hid hAn
        have HPEEK := Lib.hid (fun (w' : World) (base : Nat) (v : Value) (ho : w'.ownsRow base 5 1 v (n - A) (rowV (fun i => .int .u8 (z (A + i))) (n - A))) => (show ∃ ap cp, v = .slice ap (n - A) cp ∧ (convert 34 9 (.slice ap (n - A) cp)).run Try.prog w' = .ok (.string (strOfNums ((List.range (n - A)).map (fun i => z (A + i))))) w' from by
          obtain ⟨ap, cp, rfl, hr, _⟩ := own_reads' ho
          exact ⟨ap, cp, rfl, conv_any _ _ _ _ w' hr⟩))
        generalize strOfNums ((List.range (n - A)).map (fun i => z (A + i))) = Y at *
        clear S3 S4 S5 hrow hr4 hR3 hH4 hC4 hq4 hb4 T4 hl4 hq4' q1 hlt ht4 HK AK HC3 HR3 HP3 HT3 HR HC HQ x0 x1 y0 y1 hAn hA HLE
        rcases hac with ⟨hca, ha', hc'⟩ | ⟨hca, ha', hc'⟩
        · obtain rfl : a = a' := ha'.symm
          obtain rfl : 0 = c' := hc'.symm
          obtain rfl : A = n := by have := HNA.out; have := HCAP.out.1; omega
          rw [Nat.sub_self] at HALL LE PK HPEEK
          obtain rfl : cap = A := hca
          clear l5 l6 l7
          have l8 : IntKind.i64.wrap 0 = 0 := by decide
          go_wp2_with fail
          refine wp_region_held_drew (S := (fun w' => w'.cell? ⟨br, 1, none⟩ = some (.int .i64 cap) ∧ (convert 34 9 (.slice a3 K c3)).run Try.prog w' = .ok (.string X) w' ∧ (convert 34 9 (.slice a4 K c4)).run Try.prog w' = .ok (.string X) w' ∧ (convert 34 9 (.slice a 0 0)).run Try.prog w' = .ok (.string Y) w')) (by kernel_rfl) (HALL.out _ P0.out) (fun hHeld => ?_)
          refine wpAnyH_take (i := 0) (oi := ?oix1) (v := ?vx1) ?hix1 ?hsx1 ?hfx1 ?hrx1 ?hQx1 ?hyx1 ?hSx1 ?hx1
          case hix1 =>
            simp only [List.getElem?_toArray, List.getElem?_cons_zero]
            rfl
          case hsx1 => kernel_rfl
          case hfx1 => kernel_rfl
          case hrx1 => kernel_rfl
          case hyx1 =>
            refine Or.inl ⟨by rfl, ?_⟩
            intro w hSw
            (try dsimp only at hSw)
            go_simp
            try with_reducible rfl
          case hQx1 => exact fun _ _ _ h => h
          case hSx1 => assumption
          try simp only [Act.put, List.setIfInBounds_toArray, List.set_cons_zero, List.set_cons_succ]
          refine wpAnyH_take (i := 1) (oi := ?oix2) (v := ?vx2) ?hix2 ?hsx2 ?hfx2 ?hrx2 ?hQx2 ?hyx2 ?hSx2 ?hx2
          case hix2 =>
            simp only [List.getElem?_toArray, List.getElem?_cons_succ, List.getElem?_cons_zero]
            rfl
          case hsx2 => kernel_rfl
          case hfx2 => kernel_rfl
          case hrx2 => kernel_rfl
          case hyx2 =>
            refine Or.inl ⟨by rfl, ?_⟩
            intro w hSw
            (try dsimp only at hSw)
            go_simp
            try with_reducible rfl
          case hQx2 => exact fun _ _ _ h => h
          case hSx2 => assumption
          try simp only [Act.put, List.setIfInBounds_toArray, List.set_cons_zero, List.set_cons_succ]
          refine wpAnyH_take (i := 2) (oi := ?oix3) (v := ?vx3) ?hix3 ?hsx3 ?hfx3 ?hrx3 ?hQx3 ?hyx3 ?hSx3 ?hx3
          case hix3 =>
            simp only [List.getElem?_toArray, List.getElem?_cons_succ, List.getElem?_cons_zero]
            rfl
          case hsx3 => kernel_rfl
          case hfx3 => kernel_rfl
          case hrx3 => kernel_rfl
          case hyx3 =>
            refine Or.inl ⟨by rfl, ?_⟩
            intro w hSw
            (try dsimp only at hSw)
            go_simp
            try with_reducible rfl
          case hQx3 => exact fun _ _ _ h => h
          case hSx3 => assumption
          try simp only [Act.put, List.setIfInBounds_toArray, List.set_cons_zero, List.set_cons_succ]
          refine wpAnyH_take (i := 3) (oi := ?oix4) (v := ?vx4) ?hix4 ?hsx4 ?hfx4 ?hrx4 ?hQx4 ?hyx4 ?hSx4 ?hx4
          case hix4 =>
            simp only [List.getElem?_toArray, List.getElem?_cons_succ, List.getElem?_cons_zero]
            rfl
          case hsx4 => kernel_rfl
          case hfx4 => kernel_rfl
          case hrx4 => kernel_rfl
          case hyx4 =>
            refine Or.inl ⟨by rfl, ?_⟩
            intro w hSw
            (try dsimp only at hSw)
            go_simp
            try with_reducible rfl
          case hQx4 => exact fun _ _ _ h => h
          case hSx4 => assumption
          try simp only [Act.put, List.setIfInBounds_toArray, List.set_cons_zero, List.set_cons_succ]
          refine wpAnyH_take (i := 4) (oi := ?oix5) (v := ?vx5) ?hix5 ?hsx5 ?hfx5 ?hrx5 ?hQx5 ?hyx5 ?hSx5 ?hx5
          case hix5 =>
            simp only [List.getElem?_toArray, List.getElem?_cons_succ, List.getElem?_cons_zero]
            rfl
          case hsx5 => kernel_rfl
          case hfx5 => kernel_rfl
          case hrx5 => kernel_rfl
          case hyx5 =>
            refine Or.inl ⟨by rfl, ?_⟩
            intro w hSw
            (try dsimp only at hSw)
            go_simp
            try with_reducible rfl
          case hQx5 => exact fun _ _ _ h => h
          case hSx5 => assumption
          try simp only [Act.put, List.setIfInBounds_toArray, List.set_cons_zero, List.set_cons_succ]
          refine wpAnyH_take (i := 5) (oi := ?oix6) (v := ?vx6) ?hix6 ?hsx6 ?hfx6 ?hrx6 ?hQx6 ?hyx6 ?hSx6 ?hx6
          case hix6 =>
            simp only [List.getElem?_toArray, List.getElem?_cons_succ, List.getElem?_cons_zero]
            rfl
          case hsx6 => kernel_rfl
          case hfx6 => kernel_rfl
          case hrx6 => kernel_rfl
          case hyx6 =>
            refine Or.inl ⟨by rfl, ?_⟩
            intro w hSw
            (try dsimp only at hSw)
            go_simp
            try with_reducible rfl
          case hQx6 => exact fun _ _ _ h => h
          case hSx6 => assumption
          try simp only [Act.put, List.setIfInBounds_toArray, List.set_cons_zero, List.set_cons_succ]
          refine wpAnyH_take (i := 6) (oi := ?oix7) (v := ?vx7) ?hix7 ?hsx7 ?hfx7 ?hrx7 ?hQx7 ?hyx7 ?hSx7 ?hx7
          case hix7 =>
            simp only [List.getElem?_toArray, List.getElem?_cons_succ, List.getElem?_cons_zero]
            rfl
          case hsx7 => kernel_rfl
          case hfx7 => kernel_rfl
          case hrx7 => kernel_rfl
          case hyx7 =>
            refine Or.inl ⟨by rfl, ?_⟩
            intro w hSw
            (try dsimp only at hSw)
            go_simp
            try with_reducible rfl
          case hQx7 => exact fun _ _ _ h => h
          case hSx7 => assumption
          try simp only [Act.put, List.setIfInBounds_toArray, List.set_cons_zero, List.set_cons_succ]
          refine wpAnyH_take (i := 7) (oi := ?oix8) (v := ?vx8) ?hix8 ?hsx8 ?hfx8 ?hrx8 ?hQx8 ?hyx8 ?hSx8 ?hx8
          case hix8 =>
            simp only [List.getElem?_toArray, List.getElem?_cons_succ, List.getElem?_cons_zero]
            rfl
          case hsx8 => kernel_rfl
          case hfx8 => kernel_rfl
          case hrx8 => kernel_rfl
          case hyx8 =>
            refine Or.inl ⟨by rfl, ?_⟩
            intro w hSw
            (try dsimp only at hSw)
            go_simp
            try with_reducible rfl
          case hQx8 => exact fun _ _ _ h => h
          case hSx8 => assumption
          try simp only [Act.put, List.setIfInBounds_toArray, List.set_cons_zero, List.set_cons_succ]
          refine wpAnyH_take (i := 8) (oi := ?oix9) (v := ?vx9) ?hix9 ?hsx9 ?hfx9 ?hrx9 ?hQx9 ?hyx9 ?hSx9 ?hx9
          case hix9 =>
            simp only [List.getElem?_toArray, List.getElem?_cons_succ, List.getElem?_cons_zero]
            rfl
          case hsx9 => kernel_rfl
          case hfx9 => kernel_rfl
          case hrx9 => kernel_rfl
          case hyx9 =>
            refine Or.inl ⟨by rfl, ?_⟩
            intro w hSw
            (try dsimp only at hSw)
            go_simp
            try with_reducible rfl
          case hQx9 => exact fun _ _ _ h => h
          case hSx9 => assumption
          try simp only [Act.put, List.setIfInBounds_toArray, List.set_cons_zero, List.set_cons_succ]
          refine wpAnyH_take (i := 9) (oi := ?oix10) (v := ?vx10) ?hix10 ?hsx10 ?hfx10 ?hrx10 ?hQx10 ?hyx10 ?hSx10 ?hx10
          case hix10 =>
            simp only [List.getElem?_toArray, List.getElem?_cons_succ, List.getElem?_cons_zero]
            rfl
          case hsx10 => kernel_rfl
          case hfx10 => kernel_rfl
          case hrx10 => kernel_rfl
          case hyx10 =>
            refine Or.inl ⟨by rfl, ?_⟩
            intro w hSw
            (try dsimp only at hSw)
            go_simp
            try with_reducible rfl
          case hQx10 => exact fun _ _ _ h => h
          case hSx10 => assumption
          try simp only [Act.put, List.setIfInBounds_toArray, List.set_cons_zero, List.set_cons_succ]
          refine wpAnyH_take (i := 10) (oi := ?oix11) (v := ?vx11) ?hix11 ?hsx11 ?hfx11 ?hrx11 ?hQx11 ?hyx11 ?hSx11 ?hx11
          case hix11 =>
            simp only [List.getElem?_toArray, List.getElem?_cons_succ, List.getElem?_cons_zero]
            rfl
          case hsx11 => kernel_rfl
          case hfx11 => kernel_rfl
          case hrx11 => kernel_rfl
          case hyx11 =>
            refine Or.inl ⟨by rfl, ?_⟩
            intro w hSw
            (try dsimp only at hSw)
            go_simp
            try with_reducible rfl
          case hQx11 => exact fun _ _ _ h => h
          case hSx11 => assumption
          try simp only [Act.put, List.setIfInBounds_toArray, List.set_cons_zero, List.set_cons_succ]
          refine wpAnyH_take (i := 11) (oi := ?oix12) (v := ?vx12) ?hix12 ?hsx12 ?hfx12 ?hrx12 ?hQx12 ?hyx12 ?hSx12 ?hx12
          case hix12 =>
            simp only [List.getElem?_toArray, List.getElem?_cons_succ, List.getElem?_cons_zero]
            rfl
          case hsx12 => kernel_rfl
          case hfx12 => kernel_rfl
          case hrx12 => kernel_rfl
          case hyx12 =>
            refine Or.inl ⟨by rfl, ?_⟩
            intro w hSw
            (try dsimp only at hSw)
            go_simp
            try with_reducible rfl
          case hQx12 => exact fun _ _ _ h => h
          case hSx12 => assumption
          try simp only [Act.put, List.setIfInBounds_toArray, List.set_cons_zero, List.set_cons_succ]
          refine wpAnyH_take (i := 13) (oi := ?oix13) (v := ?vx13) ?hix13 ?hsx13 ?hfx13 ?hrx13 ?hQx13 ?hyx13 ?hSx13 ?hx13
          case hix13 =>
            simp only [List.getElem?_toArray, List.getElem?_cons_succ, List.getElem?_cons_zero]
            rfl
          case hsx13 => kernel_rfl
          case hfx13 => kernel_rfl
          case hrx13 => kernel_rfl
          case hyx13 =>
            refine Or.inl ⟨by rfl, ?_⟩
            intro w hSw
            (try dsimp only at hSw)
            go_simp
            try with_reducible rfl
          case hQx13 => exact fun _ _ _ h => h
          case hSx13 => assumption
          try simp only [Act.put, List.setIfInBounds_toArray, List.set_cons_zero, List.set_cons_succ]
          refine wpAnyH_take (i := 14) (oi := ?oix14) (v := ?vx14) ?hix14 ?hsx14 ?hfx14 ?hrx14 ?hQx14 ?hyx14 ?hSx14 ?hx14
          case hix14 =>
            simp only [List.getElem?_toArray, List.getElem?_cons_succ, List.getElem?_cons_zero]
            rfl
          case hsx14 => kernel_rfl
          case hfx14 => kernel_rfl
          case hrx14 => kernel_rfl
          case hyx14 =>
            refine Or.inl ⟨by rfl, ?_⟩
            intro w hSw
            (try dsimp only at hSw)
            go_simp
            try with_reducible rfl
          case hQx14 => exact fun _ _ _ h => h
          case hSx14 => assumption
          try simp only [Act.put, List.setIfInBounds_toArray, List.set_cons_zero, List.set_cons_succ]
          refine wpAnyH_take (i := 15) (oi := ?oix15) (v := ?vx15) ?hix15 ?hsx15 ?hfx15 ?hrx15 ?hQx15 ?hyx15 ?hSx15 ?hx15
          case hix15 =>
            simp only [List.getElem?_toArray, List.getElem?_cons_succ, List.getElem?_cons_zero]
            rfl
          case hsx15 => kernel_rfl
          case hfx15 => kernel_rfl
          case hrx15 => kernel_rfl
          case hyx15 =>
            refine Or.inl ⟨by rfl, ?_⟩
            intro w hSw
            (try dsimp only at hSw)
            go_simp
            try with_reducible rfl
          case hQx15 => exact fun _ _ _ h => h
          case hSx15 => assumption
          try simp only [Act.put, List.setIfInBounds_toArray, List.set_cons_zero, List.set_cons_succ]
          refine wpAnyH_take (i := 16) (oi := ?oix16) (v := ?vx16) ?hix16 ?hsx16 ?hfx16 ?hrx16 ?hQx16 ?hyx16 ?hSx16 ?hx16
          case hix16 =>
            simp only [List.getElem?_toArray, List.getElem?_cons_succ, List.getElem?_cons_zero]
            rfl
          case hsx16 => kernel_rfl
          case hfx16 => kernel_rfl
          case hrx16 => kernel_rfl
          case hyx16 =>
            refine Or.inl ⟨by rfl, ?_⟩
            intro w hSw
            (try dsimp only at hSw)
            go_simp
            try with_reducible rfl
          case hQx16 => exact fun _ _ _ h => h
          case hSx16 => assumption
          try simp only [Act.put, List.setIfInBounds_toArray, List.set_cons_zero, List.set_cons_succ]
          refine wpAnyH_ready (rs := [12]) (by kernel_rfl) (by simp) ?_
          refine AllReadyH.cons (o := ?ox17) ?ix17 ?kx17 AllReadyH.nil
          case ix17 =>
            simp only [List.getElem?_toArray, List.getElem?_cons_succ, List.getElem?_cons_zero]
            rfl
          intro K hK
          go_simp
          go_at_call 23
          refine (AT.out _ P0.out).mono ?_
          rintro e w5 ⟨rfl, rfl⟩
          refine hK.out _ _ (HALL.out _ P0.out) (fun hHeld => ?_)
          clear hK K
          try simp only [Act.put, List.setIfInBounds_toArray, List.set_cons_zero, List.set_cons_succ]
          refine wpAnyH_take (i := 17) (oi := ?oix18) (v := ?vx18) ?hix18 ?hsx18 ?hfx18 ?hrx18 ?hQx18 ?hyx18 ?hSx18 ?hx18
          case hix18 =>
            simp only [List.getElem?_toArray, List.getElem?_cons_succ, List.getElem?_cons_zero]
            rfl
          case hsx18 => kernel_rfl
          case hfx18 => kernel_rfl
          case hrx18 => kernel_rfl
          case hyx18 =>
            refine Or.inl ⟨by rfl, ?_⟩
            intro w hSw
            (try dsimp only at hSw)
            go_simp
            try with_reducible rfl
          case hQx18 => exact fun _ _ _ h => h
          case hSx18 => assumption
          try simp only [Act.put, List.setIfInBounds_toArray, List.set_cons_zero, List.set_cons_succ]
          refine wpAnyH_take (i := 18) (oi := ?oix19) (v := ?vx19) ?hix19 ?hsx19 ?hfx19 ?hrx19 ?hQx19 ?hyx19 ?hSx19 ?hx19
          case hix19 =>
            simp only [List.getElem?_toArray, List.getElem?_cons_succ, List.getElem?_cons_zero]
            rfl
          case hsx19 => kernel_rfl
          case hfx19 => kernel_rfl
          case hrx19 => kernel_rfl
          case hyx19 =>
            refine Or.inl ⟨by rfl, ?_⟩
            intro w hSw
            (try dsimp only at hSw)
            go_simp
            try with_reducible rfl
          case hQx19 => exact fun _ _ _ h => h
          case hSx19 => assumption
          try simp only [Act.put, List.setIfInBounds_toArray, List.set_cons_zero, List.set_cons_succ]
          refine wpAnyH_take (i := 19) (oi := ?oix20) (v := ?vx20) ?hix20 ?hsx20 ?hfx20 ?hrx20 ?hQx20 ?hyx20 ?hSx20 ?hx20
          case hix20 =>
            simp only [List.getElem?_toArray, List.getElem?_cons_succ, List.getElem?_cons_zero]
            rfl
          case hsx20 => kernel_rfl
          case hfx20 => kernel_rfl
          case hrx20 => kernel_rfl
          case hyx20 =>
            refine Or.inl ⟨by rfl, ?_⟩
            intro w hSw
            (try dsimp only at hSw)
            go_simp
            try with_reducible rfl
          case hQx20 => exact fun _ _ _ h => h
          case hSx20 => assumption
          try simp only [Act.put, List.setIfInBounds_toArray, List.set_cons_zero, List.set_cons_succ]
          refine wpAnyH_take (i := 20) (oi := ?oix21) (v := ?vx21) ?hix21 ?hsx21 ?hfx21 ?hrx21 ?hQx21 ?hyx21 ?hSx21 ?hx21
          case hix21 =>
            simp only [List.getElem?_toArray, List.getElem?_cons_succ, List.getElem?_cons_zero]
            rfl
          case hsx21 => kernel_rfl
          case hfx21 => kernel_rfl
          case hrx21 => kernel_rfl
          case hyx21 =>
            refine Or.inl ⟨by rfl, ?_⟩
            intro w hSw
            (try dsimp only at hSw)
            go_simp
            try with_reducible rfl
          case hQx21 => exact fun _ _ _ h => h
          case hSx21 => assumption
          try simp only [Act.put, List.setIfInBounds_toArray, List.set_cons_zero, List.set_cons_succ]
          refine wpAnyH_take (i := 22) (oi := ?oix22) (v := ?vx22) ?hix22 ?hsx22 ?hfx22 ?hrx22 ?hQx22 ?hyx22 ?hSx22 ?hx22
          case hix22 =>
            simp only [List.getElem?_toArray, List.getElem?_cons_succ, List.getElem?_cons_zero]
            rfl
          case hsx22 => kernel_rfl
          case hfx22 => kernel_rfl
          case hrx22 => kernel_rfl
          case hyx22 =>
            refine Or.inl ⟨by rfl, ?_⟩
            intro w hSw
            (try dsimp only at hSw)
            go_simp
            try with_reducible rfl
          case hQx22 => exact fun _ _ _ h => h
          case hSx22 => assumption
          try simp only [Act.put, List.setIfInBounds_toArray, List.set_cons_zero, List.set_cons_succ]
          refine wpAnyH_take (i := 23) (oi := ?oix23) (v := ?vx23) ?hix23 ?hsx23 ?hfx23 ?hrx23 ?hQx23 ?hyx23 ?hSx23 ?hx23
          case hix23 =>
            simp only [List.getElem?_toArray, List.getElem?_cons_succ, List.getElem?_cons_zero]
            rfl
          case hsx23 => kernel_rfl
          case hfx23 => kernel_rfl
          case hrx23 => kernel_rfl
          case hyx23 =>
            refine Or.inl ⟨by rfl, ?_⟩
            intro w hSw
            (try dsimp only at hSw)
            go_simp
            try with_reducible rfl
          case hQx23 => exact fun _ _ _ h => h
          case hSx23 => assumption
          try simp only [Act.put, List.setIfInBounds_toArray, List.set_cons_zero, List.set_cons_succ]
          refine wpAnyH_take (i := 24) (oi := ?oix24) (v := ?vx24) ?hix24 ?hsx24 ?hfx24 ?hrx24 ?hQx24 ?hyx24 ?hSx24 ?hx24
          case hix24 =>
            simp only [List.getElem?_toArray, List.getElem?_cons_succ, List.getElem?_cons_zero]
            rfl
          case hsx24 => kernel_rfl
          case hfx24 => kernel_rfl
          case hrx24 => kernel_rfl
          case hyx24 =>
            refine Or.inl ⟨by rfl, ?_⟩
            intro w hSw
            (try dsimp only at hSw)
            go_simp
            try with_reducible rfl
          case hQx24 => exact fun _ _ _ h => h
          case hSx24 => assumption
          try simp only [Act.put, List.setIfInBounds_toArray, List.set_cons_zero, List.set_cons_succ]
          refine wpAnyH_take (i := 25) (oi := ?oix25) (v := ?vx25) ?hix25 ?hsx25 ?hfx25 ?hrx25 ?hQx25 ?hyx25 ?hSx25 ?hx25
          case hix25 =>
            simp only [List.getElem?_toArray, List.getElem?_cons_succ, List.getElem?_cons_zero]
            rfl
          case hsx25 => kernel_rfl
          case hfx25 => kernel_rfl
          case hrx25 => kernel_rfl
          case hyx25 =>
            refine Or.inl ⟨by rfl, ?_⟩
            intro w hSw
            (try dsimp only at hSw)
            go_simp
            try with_reducible rfl
          case hQx25 => exact fun _ _ _ h => h
          case hSx25 => assumption
          try simp only [Act.put, List.setIfInBounds_toArray, List.set_cons_zero, List.set_cons_succ]
          refine wpAnyH_take (i := 26) (oi := ?oix26) (v := ?vx26) ?hix26 ?hsx26 ?hfx26 ?hrx26 ?hQx26 ?hyx26 ?hSx26 ?hx26
          case hix26 =>
            simp only [List.getElem?_toArray, List.getElem?_cons_succ, List.getElem?_cons_zero]
            rfl
          case hsx26 => kernel_rfl
          case hfx26 => kernel_rfl
          case hrx26 => kernel_rfl
          case hyx26 =>
            refine Or.inl ⟨by rfl, ?_⟩
            intro w hSw
            (try dsimp only at hSw)
            go_simp
            try with_reducible rfl
          case hQx26 => exact fun _ _ _ h => h
          case hSx26 => assumption
          try simp only [Act.put, List.setIfInBounds_toArray, List.set_cons_zero, List.set_cons_succ]
          refine wpAnyH_take (i := 27) (oi := ?oix27) (v := ?vx27) ?hix27 ?hsx27 ?hfx27 ?hrx27 ?hQx27 ?hyx27 ?hSx27 ?hx27
          case hix27 =>
            simp only [List.getElem?_toArray, List.getElem?_cons_succ, List.getElem?_cons_zero]
            rfl
          case hsx27 => kernel_rfl
          case hfx27 => kernel_rfl
          case hrx27 => kernel_rfl
          case hyx27 =>
            refine Or.inl ⟨by rfl, ?_⟩
            intro w hSw
            (try dsimp only at hSw)
            go_simp
            try with_reducible rfl
          case hQx27 => exact fun _ _ _ h => h
          case hSx27 => assumption
          try simp only [Act.put, List.setIfInBounds_toArray, List.set_cons_zero, List.set_cons_succ]
          refine wpAnyH_take (i := 28) (oi := ?oix28) (v := ?vx28) ?hix28 ?hsx28 ?hfx28 ?hrx28 ?hQx28 ?hyx28 ?hSx28 ?hx28
          case hix28 =>
            simp only [List.getElem?_toArray, List.getElem?_cons_succ, List.getElem?_cons_zero]
            rfl
          case hsx28 => kernel_rfl
          case hfx28 => kernel_rfl
          case hrx28 => kernel_rfl
          case hyx28 =>
            refine Or.inl ⟨by rfl, ?_⟩
            intro w hSw
            (try dsimp only at hSw)
            go_simp
            try with_reducible rfl
          case hQx28 => exact fun _ _ _ h => h
          case hSx28 => assumption
          try simp only [Act.put, List.setIfInBounds_toArray, List.set_cons_zero, List.set_cons_succ]
          refine wpAnyH_ready (rs := [21]) (by kernel_rfl) (by simp) ?_
          refine AllReadyH.cons (o := ?ox29) ?ix29 ?kx29 AllReadyH.nil
          case ix29 =>
            simp only [List.getElem?_toArray, List.getElem?_cons_succ, List.getElem?_cons_zero]
            rfl
          intro K hK
          go_simp
          go_at_call 24
          refine (LE.out _ P0.out).mono ?_
          rintro e w5 ⟨rfl, j, rfl⟩
          have P1 := Lib.hid (show Below wc.heap.size wc ((wc.drew).drewN j) from ⟨P0.out.os, P0.out.tape, P0.out.output, P0.out.size, P0.out.block⟩)
          have P3 := Lib.hid (show Below wc.heap.size wc (wc.drewN (1 + j)) from ⟨P0.out.os, P0.out.tape, P0.out.output, P0.out.size, P0.out.block⟩)
          refine hK.out _ _ (HALL.out _ P1.out) (fun hHeld => ?_)
          clear hK K
          try simp only [Act.put, List.setIfInBounds_toArray, List.set_cons_zero, List.set_cons_succ]
          refine wpAnyH_take (i := 29) (oi := ?oix30) (v := ?vx30) ?hix30 ?hsx30 ?hfx30 ?hrx30 ?hQx30 ?hyx30 ?hSx30 ?hx30
          case hix30 =>
            simp only [List.getElem?_toArray, List.getElem?_cons_succ, List.getElem?_cons_zero]
            rfl
          case hsx30 => kernel_rfl
          case hfx30 => kernel_rfl
          case hrx30 => kernel_rfl
          case hyx30 =>
            refine Or.inl ⟨by rfl, ?_⟩
            intro w hSw
            (try dsimp only at hSw)
            go_simp
            try with_reducible rfl
          case hQx30 => exact fun _ _ _ h => h
          case hSx30 => assumption
          try simp only [Act.put, List.setIfInBounds_toArray, List.set_cons_zero, List.set_cons_succ]
          refine wpAnyH_take (i := 30) (oi := ?oix31) (v := ?vx31) ?hix31 ?hsx31 ?hfx31 ?hrx31 ?hQx31 ?hyx31 ?hSx31 ?hx31
          case hix31 =>
            simp only [List.getElem?_toArray, List.getElem?_cons_succ, List.getElem?_cons_zero]
            rfl
          case hsx31 => kernel_rfl
          case hfx31 => kernel_rfl
          case hrx31 => kernel_rfl
          case hyx31 =>
            refine Or.inl ⟨by rfl, ?_⟩
            intro w hSw
            (try dsimp only at hSw)
            go_simp
            try with_reducible rfl
          case hQx31 => exact fun _ _ _ h => h
          case hSx31 => assumption
          try simp only [Act.put, List.setIfInBounds_toArray, List.set_cons_zero, List.set_cons_succ]
          refine wpAnyH_take (i := 31) (oi := ?oix32) (v := ?vx32) ?hix32 ?hsx32 ?hfx32 ?hrx32 ?hQx32 ?hyx32 ?hSx32 ?hx32
          case hix32 =>
            simp only [List.getElem?_toArray, List.getElem?_cons_succ, List.getElem?_cons_zero]
            rfl
          case hsx32 => kernel_rfl
          case hfx32 => kernel_rfl
          case hrx32 => kernel_rfl
          case hyx32 =>
            refine Or.inl ⟨by rfl, ?_⟩
            intro w hSw
            (try dsimp only at hSw)
            go_simp
            try with_reducible rfl
          case hQx32 => exact fun _ _ _ h => h
          case hSx32 => assumption
          try simp only [Act.put, List.setIfInBounds_toArray, List.set_cons_zero, List.set_cons_succ]
          refine wpAnyH_take (i := 32) (oi := ?oix33) (v := ?vx33) ?hix33 ?hsx33 ?hfx33 ?hrx33 ?hQx33 ?hyx33 ?hSx33 ?hx33
          case hix33 =>
            simp only [List.getElem?_toArray, List.getElem?_cons_succ, List.getElem?_cons_zero]
            rfl
          case hsx33 => kernel_rfl
          case hfx33 => kernel_rfl
          case hrx33 => kernel_rfl
          case hyx33 =>
            refine Or.inl ⟨by rfl, ?_⟩
            intro w hSw
            (try dsimp only at hSw)
            go_simp
            try with_reducible rfl
          case hQx33 => exact fun _ _ _ h => h
          case hSx33 => assumption
          try simp only [Act.put, List.setIfInBounds_toArray, List.set_cons_zero, List.set_cons_succ]
          refine wpAnyH_take (i := 35) (oi := ?oix34) (v := ?vx34) ?hix34 ?hsx34 ?hfx34 ?hrx34 ?hQx34 ?hyx34 ?hSx34 ?hx34
          case hix34 =>
            simp only [List.getElem?_toArray, List.getElem?_cons_succ, List.getElem?_cons_zero]
            rfl
          case hsx34 => kernel_rfl
          case hfx34 => kernel_rfl
          case hrx34 => kernel_rfl
          case hyx34 =>
            refine Or.inl ⟨by rfl, ?_⟩
            intro w hSw
            (try dsimp only at hSw)
            go_simp
            try with_reducible rfl
          case hQx34 => exact fun _ _ _ h => h
          case hSx34 => assumption
          try simp only [Act.put, List.setIfInBounds_toArray, List.set_cons_zero, List.set_cons_succ]
          refine wpAnyH_take (i := 36) (oi := ?oix35) (v := ?vx35) ?hix35 ?hsx35 ?hfx35 ?hrx35 ?hQx35 ?hyx35 ?hSx35 ?hx35
          case hix35 =>
            simp only [List.getElem?_toArray, List.getElem?_cons_succ, List.getElem?_cons_zero]
            rfl
          case hsx35 => kernel_rfl
          case hfx35 => kernel_rfl
          case hrx35 => kernel_rfl
          case hyx35 =>
            refine Or.inl ⟨by rfl, ?_⟩
            intro w hSw
            (try dsimp only at hSw)
            go_simp
            try with_reducible rfl
          case hQx35 => exact fun _ _ _ h => h
          case hSx35 => assumption
          try simp only [Act.put, List.setIfInBounds_toArray, List.set_cons_zero, List.set_cons_succ]
          refine wpAnyH_take (i := 37) (oi := ?oix36) (v := ?vx36) ?hix36 ?hsx36 ?hfx36 ?hrx36 ?hQx36 ?hyx36 ?hSx36 ?hx36
          case hix36 =>
            simp only [List.getElem?_toArray, List.getElem?_cons_succ, List.getElem?_cons_zero]
            rfl
          case hsx36 => kernel_rfl
          case hfx36 => kernel_rfl
          case hrx36 => kernel_rfl
          case hyx36 =>
            refine Or.inl ⟨by rfl, ?_⟩
            intro w hSw
            (try dsimp only at hSw)
            go_simp
            try with_reducible rfl
          case hQx36 => exact fun _ _ _ h => h
          case hSx36 => assumption
          try simp only [Act.put, List.setIfInBounds_toArray, List.set_cons_zero, List.set_cons_succ]
          refine wpAnyH_take (i := 38) (oi := ?oix37) (v := ?vx37) ?hix37 ?hsx37 ?hfx37 ?hrx37 ?hQx37 ?hyx37 ?hSx37 ?hx37
          case hix37 =>
            simp only [List.getElem?_toArray, List.getElem?_cons_succ, List.getElem?_cons_zero]
            rfl
          case hsx37 => kernel_rfl
          case hfx37 => kernel_rfl
          case hrx37 => kernel_rfl
          case hyx37 =>
            refine Or.inl ⟨by rfl, ?_⟩
            intro w hSw
            (try dsimp only at hSw)
            go_simp
            try with_reducible rfl
          case hQx37 => exact fun _ _ _ h => h
          case hSx37 => assumption
          try simp only [Act.put, List.setIfInBounds_toArray, List.set_cons_zero, List.set_cons_succ]
          refine wpAnyH_take (i := 39) (oi := ?oix38) (v := ?vx38) ?hix38 ?hsx38 ?hfx38 ?hrx38 ?hQx38 ?hyx38 ?hSx38 ?hx38
          case hix38 =>
            simp only [List.getElem?_toArray, List.getElem?_cons_succ, List.getElem?_cons_zero]
            rfl
          case hsx38 => kernel_rfl
          case hfx38 => kernel_rfl
          case hrx38 => kernel_rfl
          case hyx38 =>
            refine Or.inl ⟨by rfl, ?_⟩
            intro w hSw
            (try dsimp only at hSw)
            go_simp
            try with_reducible rfl
          case hQx38 => exact fun _ _ _ h => h
          case hSx38 => assumption
          try simp only [Act.put, List.setIfInBounds_toArray, List.set_cons_zero, List.set_cons_succ]
          refine wpAnyH_take (i := 40) (oi := ?oix39) (v := ?vx39) ?hix39 ?hsx39 ?hfx39 ?hrx39 ?hQx39 ?hyx39 ?hSx39 ?hx39
          case hix39 =>
            simp only [List.getElem?_toArray, List.getElem?_cons_succ, List.getElem?_cons_zero]
            rfl
          case hsx39 => kernel_rfl
          case hfx39 => kernel_rfl
          case hrx39 => kernel_rfl
          case hyx39 =>
            refine Or.inl ⟨by rfl, ?_⟩
            intro w hSw
            (try dsimp only at hSw)
            go_simp
            try with_reducible rfl
          case hQx39 => exact fun _ _ _ h => h
          case hSx39 => assumption
          try simp only [Act.put, List.setIfInBounds_toArray, List.set_cons_zero, List.set_cons_succ]
          refine wpAnyH_take (i := 41) (oi := ?oix40) (v := ?vx40) ?hix40 ?hsx40 ?hfx40 ?hrx40 ?hQx40 ?hyx40 ?hSx40 ?hx40
          case hix40 =>
            simp only [List.getElem?_toArray, List.getElem?_cons_succ, List.getElem?_cons_zero]
            rfl
          case hsx40 => kernel_rfl
          case hfx40 => kernel_rfl
          case hrx40 => kernel_rfl
          case hyx40 =>
            refine Or.inl ⟨by rfl, ?_⟩
            intro w hSw
            (try dsimp only at hSw)
            go_simp
            try with_reducible rfl
          case hQx40 => exact fun _ _ _ h => h
          case hSx40 => assumption
          try simp only [Act.put, List.setIfInBounds_toArray, List.set_cons_zero, List.set_cons_succ]
          refine wpAnyH_ready (rs := [33]) (by kernel_rfl) (by simp) ?_
          refine AllReadyH.cons (o := ?ox41) ?ix41 ?kx41 AllReadyH.nil
          case ix41 =>
            simp only [List.getElem?_toArray, List.getElem?_cons_succ, List.getElem?_cons_zero]
            rfl
          intro K hK
          go_simp
          go_at_call 25
          refine (PK.out _ P3.out).mono ?_
          rintro e w5 ⟨v5, rfl, ho5, hb5⟩
          obtain ⟨ap, cp, rfl, hcv⟩ := HPEEK.out _ _ _ ho5
          have P2 := Lib.hid (P3.out.trans (hb5.mono P3.out.size))
          clear ho5 hb5
          refine hK.out _ _ (HALL.out _ P2.out) (fun hHeld => ?_)
          clear hK K
          try simp only [Act.put, List.setIfInBounds_toArray, List.set_cons_zero, List.set_cons_succ]
          refine wpAnyH_ready (rs := [34]) (by kernel_rfl) (by simp) ?_
          refine AllReadyH.cons (o := ?ox42) ?ix42 ?kx42 AllReadyH.nil
          case ix42 =>
            simp only [List.getElem?_toArray, List.getElem?_cons_succ, List.getElem?_cons_zero]
            rfl
          intro K hK
          go_simp
          refine hK.out _ _ (HALL.out _ P2.out) (fun hHeld => ?_)
          clear hK K
          try simp only [Act.put, List.setIfInBounds_toArray, List.set_cons_zero, List.set_cons_succ]
          refine wpAnyH_take (i := 42) (oi := ?oix43) (v := ?vx43) ?hix43 ?hsx43 ?hfx43 ?hrx43 ?hQx43 ?hyx43 ?hSx43 ?hx43
          case hix43 =>
            simp only [List.getElem?_toArray, List.getElem?_cons_succ, List.getElem?_cons_zero]
            rfl
          case hsx43 => kernel_rfl
          case hfx43 => kernel_rfl
          case hrx43 => kernel_rfl
          case hyx43 =>
            refine Or.inl ⟨by rfl, ?_⟩
            intro w hSw
            (try dsimp only at hSw)
            go_simp
            try with_reducible rfl
          case hQx43 => exact fun _ _ _ h => h
          case hSx43 => assumption
          try simp only [Act.put, List.setIfInBounds_toArray, List.set_cons_zero, List.set_cons_succ]
          refine wpAnyH_take (i := 43) (oi := ?oix44) (v := ?vx44) ?hix44 ?hsx44 ?hfx44 ?hrx44 ?hQx44 ?hyx44 ?hSx44 ?hx44
          case hix44 =>
            simp only [List.getElem?_toArray, List.getElem?_cons_succ, List.getElem?_cons_zero]
            rfl
          case hsx44 => kernel_rfl
          case hfx44 => kernel_rfl
          case hrx44 => kernel_rfl
          case hyx44 =>
            refine Or.inl ⟨by rfl, ?_⟩
            intro w hSw
            (try dsimp only at hSw)
            go_simp
            try with_reducible rfl
          case hQx44 => exact fun _ _ _ h => h
          case hSx44 => assumption
          try simp only [Act.put, List.setIfInBounds_toArray, List.set_cons_zero, List.set_cons_succ]
          refine wpAnyH_done (by kernel_rfl) ?_ _
          clear hcv
          go_wp2
          go_roundg (m - (k + 1))
          case measure => have := HGK.out; omega
          case rel => exact ⟨k + 1, _, by omega, rfl, by go_num, HC4.out.below P2.out HC4.out.lt, HQ4.out.below P2.out HQ4.out.lt, HB4.out.trans (P2.out.mono (by have := HB4.out.size; have := HB.out; omega))⟩
        · subst ha' hc'
          go_wp2_with fail
          refine wp_region_held_drew (S := (fun w' => w'.cell? ⟨br, 1, none⟩ = some (.int .i64 A) ∧ (convert 34 9 (.slice a3 K c3)).run Try.prog w' = .ok (.string X) w' ∧ (convert 34 9 (.slice a4 K c4)).run Try.prog w' = .ok (.string X) w' ∧ (convert 34 9 (.slice (a.map (fun x => x.add A)) (n - A) (cap - A))).run Try.prog w' = .ok (.string Y) w')) (by kernel_rfl) (HALL.out _ P0.out) (fun hHeld => ?_)
          refine wpAnyH_take (i := 0) (oi := ?oix45) (v := ?vx45) ?hix45 ?hsx45 ?hfx45 ?hrx45 ?hQx45 ?hyx45 ?hSx45 ?hx45
          case hix45 =>
            simp only [List.getElem?_toArray, List.getElem?_cons_zero]
            rfl
          case hsx45 => kernel_rfl
          case hfx45 => kernel_rfl
          case hrx45 => kernel_rfl
          case hyx45 =>
            refine Or.inl ⟨by rfl, ?_⟩
            intro w hSw
            (try dsimp only at hSw)
            go_simp
            try with_reducible rfl
          case hQx45 => exact fun _ _ _ h => h
          case hSx45 => assumption
          try simp only [Act.put, List.setIfInBounds_toArray, List.set_cons_zero, List.set_cons_succ]
          refine wpAnyH_take (i := 1) (oi := ?oix46) (v := ?vx46) ?hix46 ?hsx46 ?hfx46 ?hrx46 ?hQx46 ?hyx46 ?hSx46 ?hx46
          case hix46 =>
            simp only [List.getElem?_toArray, List.getElem?_cons_succ, List.getElem?_cons_zero]
            rfl
          case hsx46 => kernel_rfl
          case hfx46 => kernel_rfl
          case hrx46 => kernel_rfl
          case hyx46 =>
            refine Or.inl ⟨by rfl, ?_⟩
            intro w hSw
            (try dsimp only at hSw)
            go_simp
            try with_reducible rfl
          case hQx46 => exact fun _ _ _ h => h
          case hSx46 => assumption
          try simp only [Act.put, List.setIfInBounds_toArray, List.set_cons_zero, List.set_cons_succ]
          refine wpAnyH_take (i := 2) (oi := ?oix47) (v := ?vx47) ?hix47 ?hsx47 ?hfx47 ?hrx47 ?hQx47 ?hyx47 ?hSx47 ?hx47
          case hix47 =>
            simp only [List.getElem?_toArray, List.getElem?_cons_succ, List.getElem?_cons_zero]
            rfl
          case hsx47 => kernel_rfl
          case hfx47 => kernel_rfl
          case hrx47 => kernel_rfl
          case hyx47 =>
            refine Or.inl ⟨by rfl, ?_⟩
            intro w hSw
            (try dsimp only at hSw)
            go_simp
            try with_reducible rfl
          case hQx47 => exact fun _ _ _ h => h
          case hSx47 => assumption
          try simp only [Act.put, List.setIfInBounds_toArray, List.set_cons_zero, List.set_cons_succ]
          refine wpAnyH_take (i := 3) (oi := ?oix48) (v := ?vx48) ?hix48 ?hsx48 ?hfx48 ?hrx48 ?hQx48 ?hyx48 ?hSx48 ?hx48
          case hix48 =>
            simp only [List.getElem?_toArray, List.getElem?_cons_succ, List.getElem?_cons_zero]
            rfl
          case hsx48 => kernel_rfl
          case hfx48 => kernel_rfl
          case hrx48 => kernel_rfl
          case hyx48 =>
            refine Or.inl ⟨by rfl, ?_⟩
            intro w hSw
            (try dsimp only at hSw)
            go_simp
            try with_reducible rfl
          case hQx48 => exact fun _ _ _ h => h
          case hSx48 => assumption
          try simp only [Act.put, List.setIfInBounds_toArray, List.set_cons_zero, List.set_cons_succ]
          refine wpAnyH_take (i := 4) (oi := ?oix49) (v := ?vx49) ?hix49 ?hsx49 ?hfx49 ?hrx49 ?hQx49 ?hyx49 ?hSx49 ?hx49
          case hix49 =>
            simp only [List.getElem?_toArray, List.getElem?_cons_succ, List.getElem?_cons_zero]
            rfl
          case hsx49 => kernel_rfl
          case hfx49 => kernel_rfl
          case hrx49 => kernel_rfl
          case hyx49 =>
            refine Or.inl ⟨by rfl, ?_⟩
            intro w hSw
            (try dsimp only at hSw)
            go_simp
            try with_reducible rfl
          case hQx49 => exact fun _ _ _ h => h
          case hSx49 => assumption
          try simp only [Act.put, List.setIfInBounds_toArray, List.set_cons_zero, List.set_cons_succ]
          refine wpAnyH_take (i := 5) (oi := ?oix50) (v := ?vx50) ?hix50 ?hsx50 ?hfx50 ?hrx50 ?hQx50 ?hyx50 ?hSx50 ?hx50
          case hix50 =>
            simp only [List.getElem?_toArray, List.getElem?_cons_succ, List.getElem?_cons_zero]
            rfl
          case hsx50 => kernel_rfl
          case hfx50 => kernel_rfl
          case hrx50 => kernel_rfl
          case hyx50 =>
            refine Or.inl ⟨by rfl, ?_⟩
            intro w hSw
            (try dsimp only at hSw)
            go_simp
            try with_reducible rfl
          case hQx50 => exact fun _ _ _ h => h
          case hSx50 => assumption
          try simp only [Act.put, List.setIfInBounds_toArray, List.set_cons_zero, List.set_cons_succ]
          refine wpAnyH_take (i := 6) (oi := ?oix51) (v := ?vx51) ?hix51 ?hsx51 ?hfx51 ?hrx51 ?hQx51 ?hyx51 ?hSx51 ?hx51
          case hix51 =>
            simp only [List.getElem?_toArray, List.getElem?_cons_succ, List.getElem?_cons_zero]
            rfl
          case hsx51 => kernel_rfl
          case hfx51 => kernel_rfl
          case hrx51 => kernel_rfl
          case hyx51 =>
            refine Or.inl ⟨by rfl, ?_⟩
            intro w hSw
            (try dsimp only at hSw)
            go_simp
            try with_reducible rfl
          case hQx51 => exact fun _ _ _ h => h
          case hSx51 => assumption
          try simp only [Act.put, List.setIfInBounds_toArray, List.set_cons_zero, List.set_cons_succ]
          refine wpAnyH_take (i := 7) (oi := ?oix52) (v := ?vx52) ?hix52 ?hsx52 ?hfx52 ?hrx52 ?hQx52 ?hyx52 ?hSx52 ?hx52
          case hix52 =>
            simp only [List.getElem?_toArray, List.getElem?_cons_succ, List.getElem?_cons_zero]
            rfl
          case hsx52 => kernel_rfl
          case hfx52 => kernel_rfl
          case hrx52 => kernel_rfl
          case hyx52 =>
            refine Or.inl ⟨by rfl, ?_⟩
            intro w hSw
            (try dsimp only at hSw)
            go_simp
            try with_reducible rfl
          case hQx52 => exact fun _ _ _ h => h
          case hSx52 => assumption
          try simp only [Act.put, List.setIfInBounds_toArray, List.set_cons_zero, List.set_cons_succ]
          refine wpAnyH_take (i := 8) (oi := ?oix53) (v := ?vx53) ?hix53 ?hsx53 ?hfx53 ?hrx53 ?hQx53 ?hyx53 ?hSx53 ?hx53
          case hix53 =>
            simp only [List.getElem?_toArray, List.getElem?_cons_succ, List.getElem?_cons_zero]
            rfl
          case hsx53 => kernel_rfl
          case hfx53 => kernel_rfl
          case hrx53 => kernel_rfl
          case hyx53 =>
            refine Or.inl ⟨by rfl, ?_⟩
            intro w hSw
            (try dsimp only at hSw)
            go_simp
            try with_reducible rfl
          case hQx53 => exact fun _ _ _ h => h
          case hSx53 => assumption
          try simp only [Act.put, List.setIfInBounds_toArray, List.set_cons_zero, List.set_cons_succ]
          refine wpAnyH_take (i := 9) (oi := ?oix54) (v := ?vx54) ?hix54 ?hsx54 ?hfx54 ?hrx54 ?hQx54 ?hyx54 ?hSx54 ?hx54
          case hix54 =>
            simp only [List.getElem?_toArray, List.getElem?_cons_succ, List.getElem?_cons_zero]
            rfl
          case hsx54 => kernel_rfl
          case hfx54 => kernel_rfl
          case hrx54 => kernel_rfl
          case hyx54 =>
            refine Or.inl ⟨by rfl, ?_⟩
            intro w hSw
            (try dsimp only at hSw)
            go_simp
            try with_reducible rfl
          case hQx54 => exact fun _ _ _ h => h
          case hSx54 => assumption
          try simp only [Act.put, List.setIfInBounds_toArray, List.set_cons_zero, List.set_cons_succ]
          refine wpAnyH_take (i := 10) (oi := ?oix55) (v := ?vx55) ?hix55 ?hsx55 ?hfx55 ?hrx55 ?hQx55 ?hyx55 ?hSx55 ?hx55
          case hix55 =>
            simp only [List.getElem?_toArray, List.getElem?_cons_succ, List.getElem?_cons_zero]
            rfl
          case hsx55 => kernel_rfl
          case hfx55 => kernel_rfl
          case hrx55 => kernel_rfl
          case hyx55 =>
            refine Or.inl ⟨by rfl, ?_⟩
            intro w hSw
            (try dsimp only at hSw)
            go_simp
            try with_reducible rfl
          case hQx55 => exact fun _ _ _ h => h
          case hSx55 => assumption
          try simp only [Act.put, List.setIfInBounds_toArray, List.set_cons_zero, List.set_cons_succ]
          refine wpAnyH_take (i := 11) (oi := ?oix56) (v := ?vx56) ?hix56 ?hsx56 ?hfx56 ?hrx56 ?hQx56 ?hyx56 ?hSx56 ?hx56
          case hix56 =>
            simp only [List.getElem?_toArray, List.getElem?_cons_succ, List.getElem?_cons_zero]
            rfl
          case hsx56 => kernel_rfl
          case hfx56 => kernel_rfl
          case hrx56 => kernel_rfl
          case hyx56 =>
            refine Or.inl ⟨by rfl, ?_⟩
            intro w hSw
            (try dsimp only at hSw)
            go_simp
            try with_reducible rfl
          case hQx56 => exact fun _ _ _ h => h
          case hSx56 => assumption
          try simp only [Act.put, List.setIfInBounds_toArray, List.set_cons_zero, List.set_cons_succ]
          refine wpAnyH_take (i := 13) (oi := ?oix57) (v := ?vx57) ?hix57 ?hsx57 ?hfx57 ?hrx57 ?hQx57 ?hyx57 ?hSx57 ?hx57
          case hix57 =>
            simp only [List.getElem?_toArray, List.getElem?_cons_succ, List.getElem?_cons_zero]
            rfl
          case hsx57 => kernel_rfl
          case hfx57 => kernel_rfl
          case hrx57 => kernel_rfl
          case hyx57 =>
            refine Or.inl ⟨by rfl, ?_⟩
            intro w hSw
            (try dsimp only at hSw)
            go_simp
            try with_reducible rfl
          case hQx57 => exact fun _ _ _ h => h
          case hSx57 => assumption
          try simp only [Act.put, List.setIfInBounds_toArray, List.set_cons_zero, List.set_cons_succ]
          refine wpAnyH_take (i := 14) (oi := ?oix58) (v := ?vx58) ?hix58 ?hsx58 ?hfx58 ?hrx58 ?hQx58 ?hyx58 ?hSx58 ?hx58
          case hix58 =>
            simp only [List.getElem?_toArray, List.getElem?_cons_succ, List.getElem?_cons_zero]
            rfl
          case hsx58 => kernel_rfl
          case hfx58 => kernel_rfl
          case hrx58 => kernel_rfl
          case hyx58 =>
            refine Or.inl ⟨by rfl, ?_⟩
            intro w hSw
            (try dsimp only at hSw)
            go_simp
            try with_reducible rfl
          case hQx58 => exact fun _ _ _ h => h
          case hSx58 => assumption
          try simp only [Act.put, List.setIfInBounds_toArray, List.set_cons_zero, List.set_cons_succ]
          refine wpAnyH_take (i := 15) (oi := ?oix59) (v := ?vx59) ?hix59 ?hsx59 ?hfx59 ?hrx59 ?hQx59 ?hyx59 ?hSx59 ?hx59
          case hix59 =>
            simp only [List.getElem?_toArray, List.getElem?_cons_succ, List.getElem?_cons_zero]
            rfl
          case hsx59 => kernel_rfl
          case hfx59 => kernel_rfl
          case hrx59 => kernel_rfl
          case hyx59 =>
            refine Or.inl ⟨by rfl, ?_⟩
            intro w hSw
            (try dsimp only at hSw)
            go_simp
            try with_reducible rfl
          case hQx59 => exact fun _ _ _ h => h
          case hSx59 => assumption
          try simp only [Act.put, List.setIfInBounds_toArray, List.set_cons_zero, List.set_cons_succ]
          refine wpAnyH_take (i := 16) (oi := ?oix60) (v := ?vx60) ?hix60 ?hsx60 ?hfx60 ?hrx60 ?hQx60 ?hyx60 ?hSx60 ?hx60
          case hix60 =>
            simp only [List.getElem?_toArray, List.getElem?_cons_succ, List.getElem?_cons_zero]
            rfl
          case hsx60 => kernel_rfl
          case hfx60 => kernel_rfl
          case hrx60 => kernel_rfl
          case hyx60 =>
            refine Or.inl ⟨by rfl, ?_⟩
            intro w hSw
            (try dsimp only at hSw)
            go_simp
            try with_reducible rfl
          case hQx60 => exact fun _ _ _ h => h
          case hSx60 => assumption
          try simp only [Act.put, List.setIfInBounds_toArray, List.set_cons_zero, List.set_cons_succ]
          refine wpAnyH_ready (rs := [12]) (by kernel_rfl) (by simp) ?_
          refine AllReadyH.cons (o := ?ox61) ?ix61 ?kx61 AllReadyH.nil
          case ix61 =>
            simp only [List.getElem?_toArray, List.getElem?_cons_succ, List.getElem?_cons_zero]
            rfl
          intro K hK
          go_simp
          go_at_call 23
          refine (AT.out _ P0.out).mono ?_
          rintro e w5 ⟨rfl, rfl⟩
          refine hK.out _ _ (HALL.out _ P0.out) (fun hHeld => ?_)
          clear hK K
          try simp only [Act.put, List.setIfInBounds_toArray, List.set_cons_zero, List.set_cons_succ]
          refine wpAnyH_take (i := 17) (oi := ?oix62) (v := ?vx62) ?hix62 ?hsx62 ?hfx62 ?hrx62 ?hQx62 ?hyx62 ?hSx62 ?hx62
          case hix62 =>
            simp only [List.getElem?_toArray, List.getElem?_cons_succ, List.getElem?_cons_zero]
            rfl
          case hsx62 => kernel_rfl
          case hfx62 => kernel_rfl
          case hrx62 => kernel_rfl
          case hyx62 =>
            refine Or.inl ⟨by rfl, ?_⟩
            intro w hSw
            (try dsimp only at hSw)
            go_simp
            try with_reducible rfl
          case hQx62 => exact fun _ _ _ h => h
          case hSx62 => assumption
          try simp only [Act.put, List.setIfInBounds_toArray, List.set_cons_zero, List.set_cons_succ]
          refine wpAnyH_take (i := 18) (oi := ?oix63) (v := ?vx63) ?hix63 ?hsx63 ?hfx63 ?hrx63 ?hQx63 ?hyx63 ?hSx63 ?hx63
          case hix63 =>
            simp only [List.getElem?_toArray, List.getElem?_cons_succ, List.getElem?_cons_zero]
            rfl
          case hsx63 => kernel_rfl
          case hfx63 => kernel_rfl
          case hrx63 => kernel_rfl
          case hyx63 =>
            refine Or.inl ⟨by rfl, ?_⟩
            intro w hSw
            (try dsimp only at hSw)
            go_simp
            try with_reducible rfl
          case hQx63 => exact fun _ _ _ h => h
          case hSx63 => assumption
          try simp only [Act.put, List.setIfInBounds_toArray, List.set_cons_zero, List.set_cons_succ]
          refine wpAnyH_take (i := 19) (oi := ?oix64) (v := ?vx64) ?hix64 ?hsx64 ?hfx64 ?hrx64 ?hQx64 ?hyx64 ?hSx64 ?hx64
          case hix64 =>
            simp only [List.getElem?_toArray, List.getElem?_cons_succ, List.getElem?_cons_zero]
            rfl
          case hsx64 => kernel_rfl
          case hfx64 => kernel_rfl
          case hrx64 => kernel_rfl
          case hyx64 =>
            refine Or.inl ⟨by rfl, ?_⟩
            intro w hSw
            (try dsimp only at hSw)
            go_simp
            try with_reducible rfl
          case hQx64 => exact fun _ _ _ h => h
          case hSx64 => assumption
          try simp only [Act.put, List.setIfInBounds_toArray, List.set_cons_zero, List.set_cons_succ]
          refine wpAnyH_take (i := 20) (oi := ?oix65) (v := ?vx65) ?hix65 ?hsx65 ?hfx65 ?hrx65 ?hQx65 ?hyx65 ?hSx65 ?hx65
          case hix65 =>
            simp only [List.getElem?_toArray, List.getElem?_cons_succ, List.getElem?_cons_zero]
            rfl
          case hsx65 => kernel_rfl
          case hfx65 => kernel_rfl
          case hrx65 => kernel_rfl
          case hyx65 =>
            refine Or.inl ⟨by rfl, ?_⟩
            intro w hSw
            (try dsimp only at hSw)
            go_simp
            try with_reducible rfl
          case hQx65 => exact fun _ _ _ h => h
          case hSx65 => assumption
          try simp only [Act.put, List.setIfInBounds_toArray, List.set_cons_zero, List.set_cons_succ]
          refine wpAnyH_take (i := 22) (oi := ?oix66) (v := ?vx66) ?hix66 ?hsx66 ?hfx66 ?hrx66 ?hQx66 ?hyx66 ?hSx66 ?hx66
          case hix66 =>
            simp only [List.getElem?_toArray, List.getElem?_cons_succ, List.getElem?_cons_zero]
            rfl
          case hsx66 => kernel_rfl
          case hfx66 => kernel_rfl
          case hrx66 => kernel_rfl
          case hyx66 =>
            refine Or.inl ⟨by rfl, ?_⟩
            intro w hSw
            (try dsimp only at hSw)
            go_simp
            try with_reducible rfl
          case hQx66 => exact fun _ _ _ h => h
          case hSx66 => assumption
          try simp only [Act.put, List.setIfInBounds_toArray, List.set_cons_zero, List.set_cons_succ]
          refine wpAnyH_take (i := 23) (oi := ?oix67) (v := ?vx67) ?hix67 ?hsx67 ?hfx67 ?hrx67 ?hQx67 ?hyx67 ?hSx67 ?hx67
          case hix67 =>
            simp only [List.getElem?_toArray, List.getElem?_cons_succ, List.getElem?_cons_zero]
            rfl
          case hsx67 => kernel_rfl
          case hfx67 => kernel_rfl
          case hrx67 => kernel_rfl
          case hyx67 =>
            refine Or.inl ⟨by rfl, ?_⟩
            intro w hSw
            (try dsimp only at hSw)
            go_simp
            try with_reducible rfl
          case hQx67 => exact fun _ _ _ h => h
          case hSx67 => assumption
          try simp only [Act.put, List.setIfInBounds_toArray, List.set_cons_zero, List.set_cons_succ]
          refine wpAnyH_take (i := 24) (oi := ?oix68) (v := ?vx68) ?hix68 ?hsx68 ?hfx68 ?hrx68 ?hQx68 ?hyx68 ?hSx68 ?hx68
          case hix68 =>
            simp only [List.getElem?_toArray, List.getElem?_cons_succ, List.getElem?_cons_zero]
            rfl
          case hsx68 => kernel_rfl
          case hfx68 => kernel_rfl
          case hrx68 => kernel_rfl
          case hyx68 =>
            refine Or.inl ⟨by rfl, ?_⟩
            intro w hSw
            (try dsimp only at hSw)
            go_simp
            try with_reducible rfl
          case hQx68 => exact fun _ _ _ h => h
          case hSx68 => assumption
          try simp only [Act.put, List.setIfInBounds_toArray, List.set_cons_zero, List.set_cons_succ]
          refine wpAnyH_take (i := 25) (oi := ?oix69) (v := ?vx69) ?hix69 ?hsx69 ?hfx69 ?hrx69 ?hQx69 ?hyx69 ?hSx69 ?hx69
          case hix69 =>
            simp only [List.getElem?_toArray, List.getElem?_cons_succ, List.getElem?_cons_zero]
            rfl
          case hsx69 => kernel_rfl
          case hfx69 => kernel_rfl
          case hrx69 => kernel_rfl
          case hyx69 =>
            refine Or.inl ⟨by rfl, ?_⟩
            intro w hSw
            (try dsimp only at hSw)
            go_simp
            try with_reducible rfl
          case hQx69 => exact fun _ _ _ h => h
          case hSx69 => assumption
          try simp only [Act.put, List.setIfInBounds_toArray, List.set_cons_zero, List.set_cons_succ]
          refine wpAnyH_take (i := 26) (oi := ?oix70) (v := ?vx70) ?hix70 ?hsx70 ?hfx70 ?hrx70 ?hQx70 ?hyx70 ?hSx70 ?hx70
          case hix70 =>
            simp only [List.getElem?_toArray, List.getElem?_cons_succ, List.getElem?_cons_zero]
            rfl
          case hsx70 => kernel_rfl
          case hfx70 => kernel_rfl
          case hrx70 => kernel_rfl
          case hyx70 =>
            refine Or.inl ⟨by rfl, ?_⟩
            intro w hSw
            (try dsimp only at hSw)
            go_simp
            try with_reducible rfl
          case hQx70 => exact fun _ _ _ h => h
          case hSx70 => assumption
          try simp only [Act.put, List.setIfInBounds_toArray, List.set_cons_zero, List.set_cons_succ]
          refine wpAnyH_take (i := 27) (oi := ?oix71) (v := ?vx71) ?hix71 ?hsx71 ?hfx71 ?hrx71 ?hQx71 ?hyx71 ?hSx71 ?hx71
          case hix71 =>
            simp only [List.getElem?_toArray, List.getElem?_cons_succ, List.getElem?_cons_zero]
            rfl
          case hsx71 => kernel_rfl
          case hfx71 => kernel_rfl
          case hrx71 => kernel_rfl
          case hyx71 =>
            refine Or.inl ⟨by rfl, ?_⟩
            intro w hSw
            (try dsimp only at hSw)
            go_simp
            try with_reducible rfl
          case hQx71 => exact fun _ _ _ h => h
          case hSx71 => assumption
          try simp only [Act.put, List.setIfInBounds_toArray, List.set_cons_zero, List.set_cons_succ]
          refine wpAnyH_take (i := 28) (oi := ?oix72) (v := ?vx72) ?hix72 ?hsx72 ?hfx72 ?hrx72 ?hQx72 ?hyx72 ?hSx72 ?hx72
          case hix72 =>
            simp only [List.getElem?_toArray, List.getElem?_cons_succ, List.getElem?_cons_zero]
            rfl
          case hsx72 => kernel_rfl
          case hfx72 => kernel_rfl
          case hrx72 => kernel_rfl
          case hyx72 =>
            refine Or.inl ⟨by rfl, ?_⟩
            intro w hSw
            (try dsimp only at hSw)
            go_simp
            try with_reducible rfl
          case hQx72 => exact fun _ _ _ h => h
          case hSx72 => assumption
          try simp only [Act.put, List.setIfInBounds_toArray, List.set_cons_zero, List.set_cons_succ]
          refine wpAnyH_ready (rs := [21]) (by kernel_rfl) (by simp) ?_
          refine AllReadyH.cons (o := ?ox73) ?ix73 ?kx73 AllReadyH.nil
          case ix73 =>
            simp only [List.getElem?_toArray, List.getElem?_cons_succ, List.getElem?_cons_zero]
            rfl
          intro K hK
          go_simp
          go_at_call 24
          refine (LE.out _ P0.out).mono ?_
          rintro e w5 ⟨rfl, j, rfl⟩
          have P1 := Lib.hid (show Below wc.heap.size wc ((wc.drew).drewN j) from ⟨P0.out.os, P0.out.tape, P0.out.output, P0.out.size, P0.out.block⟩)
          have P3 := Lib.hid (show Below wc.heap.size wc (wc.drewN (1 + j)) from ⟨P0.out.os, P0.out.tape, P0.out.output, P0.out.size, P0.out.block⟩)
          refine hK.out _ _ (HALL.out _ P1.out) (fun hHeld => ?_)
          clear hK K
          try simp only [Act.put, List.setIfInBounds_toArray, List.set_cons_zero, List.set_cons_succ]
          refine wpAnyH_take (i := 29) (oi := ?oix74) (v := ?vx74) ?hix74 ?hsx74 ?hfx74 ?hrx74 ?hQx74 ?hyx74 ?hSx74 ?hx74
          case hix74 =>
            simp only [List.getElem?_toArray, List.getElem?_cons_succ, List.getElem?_cons_zero]
            rfl
          case hsx74 => kernel_rfl
          case hfx74 => kernel_rfl
          case hrx74 => kernel_rfl
          case hyx74 =>
            refine Or.inl ⟨by rfl, ?_⟩
            intro w hSw
            (try dsimp only at hSw)
            go_simp
            try with_reducible rfl
          case hQx74 => exact fun _ _ _ h => h
          case hSx74 => assumption
          try simp only [Act.put, List.setIfInBounds_toArray, List.set_cons_zero, List.set_cons_succ]
          refine wpAnyH_take (i := 30) (oi := ?oix75) (v := ?vx75) ?hix75 ?hsx75 ?hfx75 ?hrx75 ?hQx75 ?hyx75 ?hSx75 ?hx75
          case hix75 =>
            simp only [List.getElem?_toArray, List.getElem?_cons_succ, List.getElem?_cons_zero]
            rfl
          case hsx75 => kernel_rfl
          case hfx75 => kernel_rfl
          case hrx75 => kernel_rfl
          case hyx75 =>
            refine Or.inl ⟨by rfl, ?_⟩
            intro w hSw
            (try dsimp only at hSw)
            go_simp
            try with_reducible rfl
          case hQx75 => exact fun _ _ _ h => h
          case hSx75 => assumption
          try simp only [Act.put, List.setIfInBounds_toArray, List.set_cons_zero, List.set_cons_succ]
          refine wpAnyH_take (i := 31) (oi := ?oix76) (v := ?vx76) ?hix76 ?hsx76 ?hfx76 ?hrx76 ?hQx76 ?hyx76 ?hSx76 ?hx76
          case hix76 =>
            simp only [List.getElem?_toArray, List.getElem?_cons_succ, List.getElem?_cons_zero]
            rfl
          case hsx76 => kernel_rfl
          case hfx76 => kernel_rfl
          case hrx76 => kernel_rfl
          case hyx76 =>
            refine Or.inl ⟨by rfl, ?_⟩
            intro w hSw
            (try dsimp only at hSw)
            go_simp
            try with_reducible rfl
          case hQx76 => exact fun _ _ _ h => h
          case hSx76 => assumption
          try simp only [Act.put, List.setIfInBounds_toArray, List.set_cons_zero, List.set_cons_succ]
          refine wpAnyH_take (i := 32) (oi := ?oix77) (v := ?vx77) ?hix77 ?hsx77 ?hfx77 ?hrx77 ?hQx77 ?hyx77 ?hSx77 ?hx77
          case hix77 =>
            simp only [List.getElem?_toArray, List.getElem?_cons_succ, List.getElem?_cons_zero]
            rfl
          case hsx77 => kernel_rfl
          case hfx77 => kernel_rfl
          case hrx77 => kernel_rfl
          case hyx77 =>
            refine Or.inl ⟨by rfl, ?_⟩
            intro w hSw
            (try dsimp only at hSw)
            go_simp
            try with_reducible rfl
          case hQx77 => exact fun _ _ _ h => h
          case hSx77 => assumption
          try simp only [Act.put, List.setIfInBounds_toArray, List.set_cons_zero, List.set_cons_succ]
          refine wpAnyH_take (i := 35) (oi := ?oix78) (v := ?vx78) ?hix78 ?hsx78 ?hfx78 ?hrx78 ?hQx78 ?hyx78 ?hSx78 ?hx78
          case hix78 =>
            simp only [List.getElem?_toArray, List.getElem?_cons_succ, List.getElem?_cons_zero]
            rfl
          case hsx78 => kernel_rfl
          case hfx78 => kernel_rfl
          case hrx78 => kernel_rfl
          case hyx78 =>
            refine Or.inl ⟨by rfl, ?_⟩
            intro w hSw
            (try dsimp only at hSw)
            go_simp
            try with_reducible rfl
          case hQx78 => exact fun _ _ _ h => h
          case hSx78 => assumption
          try simp only [Act.put, List.setIfInBounds_toArray, List.set_cons_zero, List.set_cons_succ]
          refine wpAnyH_take (i := 36) (oi := ?oix79) (v := ?vx79) ?hix79 ?hsx79 ?hfx79 ?hrx79 ?hQx79 ?hyx79 ?hSx79 ?hx79
          case hix79 =>
            simp only [List.getElem?_toArray, List.getElem?_cons_succ, List.getElem?_cons_zero]
            rfl
          case hsx79 => kernel_rfl
          case hfx79 => kernel_rfl
          case hrx79 => kernel_rfl
          case hyx79 =>
            refine Or.inl ⟨by rfl, ?_⟩
            intro w hSw
            (try dsimp only at hSw)
            go_simp
            try with_reducible rfl
          case hQx79 => exact fun _ _ _ h => h
          case hSx79 => assumption
          try simp only [Act.put, List.setIfInBounds_toArray, List.set_cons_zero, List.set_cons_succ]
          refine wpAnyH_take (i := 37) (oi := ?oix80) (v := ?vx80) ?hix80 ?hsx80 ?hfx80 ?hrx80 ?hQx80 ?hyx80 ?hSx80 ?hx80
          case hix80 =>
            simp only [List.getElem?_toArray, List.getElem?_cons_succ, List.getElem?_cons_zero]
            rfl
          case hsx80 => kernel_rfl
          case hfx80 => kernel_rfl
          case hrx80 => kernel_rfl
          case hyx80 =>
            refine Or.inl ⟨by rfl, ?_⟩
            intro w hSw
            (try dsimp only at hSw)
            go_simp
            try with_reducible rfl
          case hQx80 => exact fun _ _ _ h => h
          case hSx80 => assumption
          try simp only [Act.put, List.setIfInBounds_toArray, List.set_cons_zero, List.set_cons_succ]
          refine wpAnyH_take (i := 38) (oi := ?oix81) (v := ?vx81) ?hix81 ?hsx81 ?hfx81 ?hrx81 ?hQx81 ?hyx81 ?hSx81 ?hx81
          case hix81 =>
            simp only [List.getElem?_toArray, List.getElem?_cons_succ, List.getElem?_cons_zero]
            rfl
          case hsx81 => kernel_rfl
          case hfx81 => kernel_rfl
          case hrx81 => kernel_rfl
          case hyx81 =>
            refine Or.inl ⟨by rfl, ?_⟩
            intro w hSw
            (try dsimp only at hSw)
            go_simp
            try with_reducible rfl
          case hQx81 => exact fun _ _ _ h => h
          case hSx81 => assumption
          try simp only [Act.put, List.setIfInBounds_toArray, List.set_cons_zero, List.set_cons_succ]
          refine wpAnyH_take (i := 39) (oi := ?oix82) (v := ?vx82) ?hix82 ?hsx82 ?hfx82 ?hrx82 ?hQx82 ?hyx82 ?hSx82 ?hx82
          case hix82 =>
            simp only [List.getElem?_toArray, List.getElem?_cons_succ, List.getElem?_cons_zero]
            rfl
          case hsx82 => kernel_rfl
          case hfx82 => kernel_rfl
          case hrx82 => kernel_rfl
          case hyx82 =>
            refine Or.inl ⟨by rfl, ?_⟩
            intro w hSw
            (try dsimp only at hSw)
            go_simp
            try with_reducible rfl
          case hQx82 => exact fun _ _ _ h => h
          case hSx82 => assumption
          try simp only [Act.put, List.setIfInBounds_toArray, List.set_cons_zero, List.set_cons_succ]
          refine wpAnyH_take (i := 40) (oi := ?oix83) (v := ?vx83) ?hix83 ?hsx83 ?hfx83 ?hrx83 ?hQx83 ?hyx83 ?hSx83 ?hx83
          case hix83 =>
            simp only [List.getElem?_toArray, List.getElem?_cons_succ, List.getElem?_cons_zero]
            rfl
          case hsx83 => kernel_rfl
          case hfx83 => kernel_rfl
          case hrx83 => kernel_rfl
          case hyx83 =>
            refine Or.inl ⟨by rfl, ?_⟩
            intro w hSw
            (try dsimp only at hSw)
            go_simp
            try with_reducible rfl
          case hQx83 => exact fun _ _ _ h => h
          case hSx83 => assumption
          try simp only [Act.put, List.setIfInBounds_toArray, List.set_cons_zero, List.set_cons_succ]
          refine wpAnyH_take (i := 41) (oi := ?oix84) (v := ?vx84) ?hix84 ?hsx84 ?hfx84 ?hrx84 ?hQx84 ?hyx84 ?hSx84 ?hx84
          case hix84 =>
            simp only [List.getElem?_toArray, List.getElem?_cons_succ, List.getElem?_cons_zero]
            rfl
          case hsx84 => kernel_rfl
          case hfx84 => kernel_rfl
          case hrx84 => kernel_rfl
          case hyx84 =>
            refine Or.inl ⟨by rfl, ?_⟩
            intro w hSw
            (try dsimp only at hSw)
            go_simp
            try with_reducible rfl
          case hQx84 => exact fun _ _ _ h => h
          case hSx84 => assumption
          try simp only [Act.put, List.setIfInBounds_toArray, List.set_cons_zero, List.set_cons_succ]
          refine wpAnyH_ready (rs := [33]) (by kernel_rfl) (by simp) ?_
          refine AllReadyH.cons (o := ?ox85) ?ix85 ?kx85 AllReadyH.nil
          case ix85 =>
            simp only [List.getElem?_toArray, List.getElem?_cons_succ, List.getElem?_cons_zero]
            rfl
          intro K hK
          go_simp
          go_at_call 25
          refine (PK.out _ P3.out).mono ?_
          rintro e w5 ⟨v5, rfl, ho5, hb5⟩
          obtain ⟨ap, cp, rfl, hcv⟩ := HPEEK.out _ _ _ ho5
          have P2 := Lib.hid (P3.out.trans (hb5.mono P3.out.size))
          clear ho5 hb5
          refine hK.out _ _ (HALL.out _ P2.out) (fun hHeld => ?_)
          clear hK K
          try simp only [Act.put, List.setIfInBounds_toArray, List.set_cons_zero, List.set_cons_succ]
          refine wpAnyH_ready (rs := [34]) (by kernel_rfl) (by simp) ?_
          refine AllReadyH.cons (o := ?ox86) ?ix86 ?kx86 AllReadyH.nil
          case ix86 =>
            simp only [List.getElem?_toArray, List.getElem?_cons_succ, List.getElem?_cons_zero]
            rfl
          intro K hK
          go_simp
          refine hK.out _ _ (HALL.out _ P2.out) (fun hHeld => ?_)
          clear hK K
          try simp only [Act.put, List.setIfInBounds_toArray, List.set_cons_zero, List.set_cons_succ]
          refine wpAnyH_take (i := 42) (oi := ?oix87) (v := ?vx87) ?hix87 ?hsx87 ?hfx87 ?hrx87 ?hQx87 ?hyx87 ?hSx87 ?hx87
          case hix87 =>
            simp only [List.getElem?_toArray, List.getElem?_cons_succ, List.getElem?_cons_zero]
            rfl
          case hsx87 => kernel_rfl
          case hfx87 => kernel_rfl
          case hrx87 => kernel_rfl
          case hyx87 =>
            refine Or.inl ⟨by rfl, ?_⟩
            intro w hSw
            (try dsimp only at hSw)
            go_simp
            try with_reducible rfl
          case hQx87 => exact fun _ _ _ h => h
          case hSx87 => assumption
          try simp only [Act.put, List.setIfInBounds_toArray, List.set_cons_zero, List.set_cons_succ]
          refine wpAnyH_take (i := 43) (oi := ?oix88) (v := ?vx88) ?hix88 ?hsx88 ?hfx88 ?hrx88 ?hQx88 ?hyx88 ?hSx88 ?hx88
          case hix88 =>
            simp only [List.getElem?_toArray, List.getElem?_cons_succ, List.getElem?_cons_zero]
            rfl
          case hsx88 => kernel_rfl
          case hfx88 => kernel_rfl
          case hrx88 => kernel_rfl
          case hyx88 =>
            refine Or.inl ⟨by rfl, ?_⟩
            intro w hSw
            (try dsimp only at hSw)
            go_simp
            try with_reducible rfl
          case hQx88 => exact fun _ _ _ h => h
          case hSx88 => assumption
          try simp only [Act.put, List.setIfInBounds_toArray, List.set_cons_zero, List.set_cons_succ]
          refine wpAnyH_done (by kernel_rfl) ?_ _
          clear hcv
          go_wp2
          go_roundg (m - (k + 1))
          case measure => have := HGK.out; omega
          case rel => exact ⟨k + 1, _, by omega, rfl, by go_num, HC4.out.below P2.out HC4.out.lt, HQ4.out.below P2.out HQ4.out.lt, HB4.out.trans (P2.out.mono (by have := HB4.out.size; have := HB.out; omega))⟩
    · have AW := Lib.hid (awake3_any wr)
      have k2 : ¬ (k : Int) < m := by omega
      clear HACT
      go_wp2_with (go_at_call 26; refine AW.out.mono ?_; rintro e w6 ⟨rfl, hb6⟩; have HB6 := Lib.hid hb6; clear hb6)
      go_ret
      exact ⟨rfl, HBW.out.trans (HB6.out.mono (by have := HBW.out.size; have := HB.out; omega))⟩
theorem walk (a : Option Addr) (n cap : Nat) (zs : List Int) (a2 : Option Addr) (m cap2 : Nat) (D N : Nat → Int) (W : World) (b : IsRow .u8 W a n cap zs)
    (b2 : IsPairs W a2 m cap2 (fun i => .int .u8 (D i)) (fun i => .int .i64 (N i)) ∧ (∀ i, i < cap2 → (Lit.int .u8 (D i)).wf = true) ∧ ∀ i, i < cap2 → (Lit.int .i64 (N i)).wf = true) :
    Calls Try.prog 4 #[.slice a n cap, .slice a2 m cap2] W fun e w' => e = .returned (.bool true) ∧ Below W.heap.size W w' := by
  obtain ⟨⟨g1, g2, g3⟩, _, _⟩ := b2
  obtain ⟨b1, b2, b3, b4, b5⟩ := b
  by_cases hl : 200 < n ∨ 40 < m
  · exact long a a2 n cap m cap2 hl W
  · refine main a a2 n cap m cap2 (fun i => zs.getD i 0) D N (by omega) (by omega) b1 b2 (fun i hi => ?_) W ?_ ?_
    · have hw := b4 (zs.getD i 0) (by rw [List.getD_eq_getElem?_getD, List.getElem?_eq_getElem (by omega)]; simp)
      exact bounds_u8 hw
    · rcases b5 with b5 | ⟨b, off, rfl, hb, hc⟩
      · exact .inl (by omega)
      · exact .inr ⟨b, off, rfl, fun i hi => hc i (by omega)⟩
    · rcases g3 with g3 | ⟨b, off, rfl, hb, hc⟩
      · exact .inl (by omega)
      · exact .inr ⟨b, off, rfl, hb, fun i hi => hc i (by omega)⟩
theorem own : ownKnob Try.prog.godebug = none := by kernel_rfl
set_option maxRecDepth 100000 in
theorem contract (H : Type) (enc : TypeId × Value → H) (W : World) (base : Nat) (args : Array Value) (ds gs : List (DataW H)) (before : List MemPlace)
    (hval : ∀ (j : Nat) t v, Try.f4.params[j]? = some t → args[j]? = some v → Value.okWide Try.prog W .any base t v)
    (hW : DataW.Whole enc Try.prog Try.f4.params.toList Rows.cursorReadsSpec.vars false W args.toList ds gs before) :
    Calls Try.prog 4 args W fun e W' => ∃ v, e = .returned v ∧ Rows.cursorReadsSpec.post enc Try.prog Try.f4 false true false false W args v W' := by
  have hW' := hW
  obtain ⟨p, q, hA0, hV, rfl, hfz, hnd⟩ := hW
  have hA : DataW.TrodAll enc Try.prog W 0 (fun _ => true) true Try.f4.params.toList args.toList ds p := hA0
  rw [Try.params4] at hA hval
  obtain ⟨v0, vs0, d0, ds0, p0, q0, hargs, rfl, rfl, h0, r0⟩ := trodAll_cons hA
  obtain ⟨v1, vs1, d1, ds1, p1, q1, rfl, rfl, rfl, h1, r1⟩ := trodAll_cons r0
  obtain ⟨rfl, rfl, rfl⟩ := trodAll_nil r1
  obtain rfl : args = #[v0, v1] := by cases args; simp_all
  obtain ⟨rfl, rfl⟩ := trodVars_none hV
  have hWhole := hW'
  obtain ⟨a0, len0, cap0, rfl⟩ := okWide_slice Try.underlying34 (hval 0 34 v0 rfl rfl)
  have k0 := h0
  have lt0 : ∀ x ∈ p0, x.block < W.heap.size := by obtain ⟨m, hm⟩ := k0; exact DataW.trod_lt m _ _ _ hm
  obtain ⟨z0, b0⟩ : ∃ zs, IsRow .u8 W a0 len0 cap0 zs := by
    obtain ⟨fuel, hf⟩ := h0
    rcases open_ints Try.underlying34 Try.underlying5 (by kernel_rfl) hf with ⟨hcs, _⟩ | ⟨x, l, c, zs, hcs, _, hl, hm, hz, _, hcell, hwz⟩
    · simp [Value.cells] at hcs
      obtain ⟨rfl, rfl, rfl⟩ := hcs
      exact ⟨[], isRow_nil _ _⟩
    · simp [Value.cells] at hcs
      obtain ⟨rfl, rfl, rfl⟩ := hcs
      exact ⟨zs, isRow_of hl hm (by simpa using hz) hcell hwz⟩
  obtain ⟨a1, len1, cap1, rfl⟩ := okWide_slice Try.underlying35 (hval 1 35 v1 rfl rfl)
  have k1 := h1
  have lt1 : ∀ x ∈ p1, x.block < W.heap.size := by obtain ⟨m, hm⟩ := k1; exact DataW.trod_lt m _ _ _ hm
  obtain ⟨fuel1, hf1⟩ := h1
  obtain ⟨V1a, V1b, c1, hx1⟩ := isPairs_of Try.underlying35 Try.underlying44 (by kernel_rfl) rfl rfl (by kernel_rfl) (by kernel_rfl) hf1
  obtain ⟨y1a, e1a⟩ := ints_of Try.underlying5 (fun i hi => (hx1 i hi).1)
  obtain ⟨y1b, e1b⟩ := ints_of Try.underlying3 (fun i hi => (hx1 i hi).2)
  have b1 := And.intro (c1.named (fun i hi => (e1a i hi).1) (fun i hi => (e1b i hi).1)) (And.intro (fun i hi => (e1a i hi).2) (fun i hi => (e1b i hi).2))
  clear hA0
  refine (walk a0 len0 cap0 z0 a1 len1 cap1 y1a y1b W b0 b1).mono fun e W' ⟨he, hg⟩ => ?_
  subst he
  exact ⟨_, rfl, _, _, _, [], _, [], hW', trodAll_mk1 (shut_bool Try.underlying4 _), (trodAll_cons_mk (Below.trod laidOut (by kernel_rfl) (of_decide_eq_true (by kernel_rfl)) k0 hg lt0) (trodAll_cons_mk (Below.trod laidOut (by kernel_rfl) (of_decide_eq_true (by kernel_rfl)) k1 hg lt1) trodAll_mk0)), rfl, hg.frame _, fun h => by cases h⟩

set_option maxRecDepth 100000 in
theorem lifted (os : Os) (started : os.Started) (H : Type) (enc : TypeId × Value → H) :
    ReturnsInHanded {} Try.checked os 4 .any (Rows.cursorReadsSpec.pre6 enc Try.prog Try.f4 Rows.cursorReadsRow.domain false) (Rows.cursorReadsSpec.post enc Try.prog Try.f4 false true false false) := by
  refine returnsInHanded_of_change (C := Try.checked) own started (by kernel_rfl) Try.func4
    (ChangeSpec.witness6 (enc := enc) (C := Try.checked) false ⟨#[], #[.slice none 0 0, .slice none 0 0], []⟩ 8 (by kernel_rfl) (by kernel_rfl) (by kernel_rfl) (by kernel_rfl)) ?_
  intro W base args ds gs before hval hW _ _
  exact contract H enc W base args ds gs before hval hW

/-- ████ THE STATEMENT ████ -/
theorem proved : Rows.CursorReadsSaid :=
  OpenClaim.holds_of_wide 4 Try.f4 rfl rfl rfl rfl rfl rfl rfl ⟨rfl, rfl, rfl, rfl, rfl⟩ rfl rfl rfl rfl rfl (by kernel_rfl) Try.func4 (by kernel_rfl)
    (of_decide_eq_true (by kernel_rfl)) (by unfold Func.isWrapper; first | (rw [if_pos (by decide +kernel)]; kernel_rfl) | (rw [if_neg (by decide +kernel)]; exact ⟨rfl, rfl⟩))
    (fun os started H enc _ => lifted os started H enc)
end Go.Proofs.Ytknpekpigiclkaa.cursorReads
