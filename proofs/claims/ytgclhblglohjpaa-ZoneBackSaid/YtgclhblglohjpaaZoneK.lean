/-
  CONTRACT OF the document's own Store (corduroyref25.Store), in any world: the zones' bytes, a row of its own, or the error of the first one that may not be. Conditions: at most 100 zones, which lie in memory as told.
-/
import Derived.Test.YtgclhblglohjpaaZoneJ
import Derived.Test.YtgclhblglohjpaaRefPut
namespace Go.Proofs.Ytgclhblglohjpaa
open Go.RowKit
set_option linter.unusedVariables false
set_option maxRecDepth 100000 in
set_option maxHeartbeats 2000000 in
theorem rstore_any (a : Option Addr) (n cap f : Nat) (C L H S : Nat → Int) (hn : n ≤ 100) (hf : f ≤ n) (h1 : ∀ i, i < f → zrt (C i) (L i) (H i) (S i) = true) (h2 : f < n → zrt (C f) (L f) (H f) (S f) = false) (w : World) (hz : Zones w a n C L H S w.heap.size) :
    Calls Try.prog 17 #[.slice a n cap] w fun e w' => Below w.heap.size w w' ∧
      ((f < n ∧ e = .returned (.tuple #[.slice none 0 0, .int .i64 4])) ∨ (f = n ∧ ∃ v, e = .returned (.tuple #[v, .int .i64 0]) ∧ w'.ownsRow w.heap.size 5 1 v (4 + 26 * n) (cellsOf (sts n C L H S n)))) := by
  have HZ := Lib.hid hz
  have H1 := Lib.hid h1
  have H2 := Lib.hid h2
  have hn32 : ((n : Int)) % 18446744073709551616 = n := by omega
  have P32 := Lib.hid (fun W => rput3_any n 4 (by omega) (by omega) W)
  clear hz h1 h2
  go_enter Try.func17, Try.ntmps17
  go_wp2_with (go_at_call 57; refine (P32.out _).mono ?_; rintro e w1 ⟨v, rfl, ho, hb⟩; have HO1 := Lib.hid ho; have HB1 := Lib.hid hb; clear ho hb)
  go_loopw [4, 5] (fun v i wr => ∃ k : Nat, k ≤ f ∧ i = .int .i64 k ∧ wr.ownsRow w.heap.size 5 1 v (4 + 26 * k) (cellsOf (sts n C L H S k)) ∧ Below w.heap.size w wr) (fun _ i _ => n - (intOf i).toNat)
  case atStart => exact ⟨0, by omega, rfl, by simpa [sts] using HO1.out, HB1.out⟩
  case round =>
    obtain ⟨k, hk, rfl, ho, hb⟩ := hrel
    by_cases hkn : k < n
    · have k1 : (k : Int) < n := by omega
      have k0 : (0 : Int) ≤ k := by omega
      obtain ⟨b, off, rfl, hbl, p0, p1, p2, p3⟩ := HZ.out.at_ hb hkn
      have HO := Lib.hid ho
      have HB := Lib.hid hb
      clear ho hb
      by_cases hkf : k < f
      · have zr := H1.out k hkf
        have RS := Lib.hid (show sts n C L H S (k + 1) = sts n C L H S k ++ (((bytesOf 2 (C k).toNat ++ bytesOf 8 (u64n (L k))) ++ bytesOf 8 (u64n (H k))) ++ bytesOf 8 (u64n (S k))) from rfl)
        have MB := Lib.hid (right_any (C k) (L k) (H k) (S k))
        rw [zr] at MB
        have hc : ∃ c : Nat, C k = c ∧ c < 65536 := by
          unfold zrt at zr
          simp only [Bool.and_eq_true, decide_eq_true_eq] at zr
          exact ⟨(C k).toNat, by omega, by omega⟩
        obtain ⟨c, hc, hc2⟩ := hc
        rw [hc] at MB RS p0
        have hc16 : (c : Int) % 18446744073709551616 = c := by omega
        have P16 := Lib.hid (fun W => rput3_any c 2 (by omega) (by omega) W)
        have PL := Lib.hid (fun W => rput3_any (u64n (L k)) 8 (u64n_lt _) (by omega) W)
        have PH := Lib.hid (fun W => rput3_any (u64n (H k)) 8 (u64n_lt _) (by omega) W)
        have PS := Lib.hid (fun W => rput3_any (u64n (S k)) 8 (u64n_lt _) (by omega) W)
        simp only [u64n_cast] at PL PH PS
        clear hc zr H1 H2
        generalize L k = l at *
        generalize H k = h at *
        generalize S k = s at *
        go_wp2_with (first
          | (go_at_call 58; refine (MB.out _).mono ?_; rintro e w1 ⟨rfl, hb1⟩; have hbb := Below.trans ((Below.refl wr.heap.size wr).alloc (Nat.le_refl _) (.cells #[.int .i64 c, .int .i64 l, .int .i64 h, .int .i64 s] 43)) (hb1.mono (by simp)); have lz4 := (Lies.new wr 43 #[.int .i64 c, .int .i64 l, .int .i64 h, .int .i64 s]).below hb1 (by simp); have HN := Lib.hid (show ∀ i, u4.ownBlock = some i → i ≠ wr.heap.size from fun i e => by have := HO.out.lt _ e; omega); have ho := owns_below HO.out hbb; have hb := HB.out.trans (hbb.mono HB.out.size); clear hb1 HO HB hbb; have HO := Lib.hid ho; have HB := Lib.hid hb; have LZ := Lib.hid lz4; have c0 := lz4.cell 0; clear ho hb lz4)
          | (go_at_call 57; refine (P16.out _).mono ?_; clear P16; rintro e w3 ⟨v3, rfl, ho3, hb3⟩; obtain ⟨v4, w4, hrun, ho4, ht4, hv4⟩ := app_own HO.out ho3 hb3 HB.out.size (by omega); have lz4 := (LZ.out.below hb3 LZ.out.lt).turned ht4 (fun e => HN.out _ e rfl); have hb := (HB.out.trans (hb3.mono HB.out.size)).trans (ht4.below fun i hi => ⟨by have := HB.out.size; have := hb3.size; omega, fun e => by have := HO.out.lt _ e; omega⟩); have hn4 : ∀ i, v4.ownBlock = some i → i ≠ wr.heap.size := (fun i e => by rcases hv4 i e with h | h; exact HN.out i h; have := LZ.out.lt; have := hb3.size; omega); have c1 := lz4.cell 1; clear HO HB LZ HN; have HO := Lib.hid ho4; have HB := Lib.hid hb; have LZ := Lib.hid lz4; have HN := Lib.hid hn4; have HRUN := Lib.hid hrun; clear ho3 hb3 hrun ho4 ht4 hv4 lz4 hb hn4)
          | (go_at_call 57; refine (PL.out _).mono ?_; clear PL; rintro e w3 ⟨v3, rfl, ho3, hb3⟩; obtain ⟨v4, w4, hrun, ho4, ht4, hv4⟩ := app_own HO.out ho3 hb3 HB.out.size (by omega); have lz4 := (LZ.out.below hb3 LZ.out.lt).turned ht4 (fun e => HN.out _ e rfl); have hb := (HB.out.trans (hb3.mono HB.out.size)).trans (ht4.below fun i hi => ⟨by have := HB.out.size; have := hb3.size; omega, fun e => by have := HO.out.lt _ e; omega⟩); have hn4 : ∀ i, v4.ownBlock = some i → i ≠ wr.heap.size := (fun i e => by rcases hv4 i e with h | h; exact HN.out i h; have := LZ.out.lt; have := hb3.size; omega); have c2 := lz4.cell 2; clear HO HB LZ HN HRUN; have HO := Lib.hid ho4; have HB := Lib.hid hb; have LZ := Lib.hid lz4; have HN := Lib.hid hn4; have HRUN := Lib.hid hrun; clear ho3 hb3 hrun ho4 ht4 hv4 lz4 hb hn4)
          | (go_at_call 57; refine (PH.out _).mono ?_; clear PH; rintro e w3 ⟨v3, rfl, ho3, hb3⟩; obtain ⟨v4, w4, hrun, ho4, ht4, hv4⟩ := app_own HO.out ho3 hb3 HB.out.size (by omega); have lz4 := (LZ.out.below hb3 LZ.out.lt).turned ht4 (fun e => HN.out _ e rfl); have hb := (HB.out.trans (hb3.mono HB.out.size)).trans (ht4.below fun i hi => ⟨by have := HB.out.size; have := hb3.size; omega, fun e => by have := HO.out.lt _ e; omega⟩); have hn4 : ∀ i, v4.ownBlock = some i → i ≠ wr.heap.size := (fun i e => by rcases hv4 i e with h | h; exact HN.out i h; have := LZ.out.lt; have := hb3.size; omega); have c3 := lz4.cell 3; clear HO HB LZ HN HRUN; have HO := Lib.hid ho4; have HB := Lib.hid hb; have LZ := Lib.hid lz4; have HN := Lib.hid hn4; have HRUN := Lib.hid hrun; clear ho3 hb3 hrun ho4 ht4 hv4 lz4 hb hn4)
          | (go_at_call 57; refine (PS.out _).mono ?_; clear PS; rintro e w3 ⟨v3, rfl, ho3, hb3⟩; obtain ⟨v4, w4, hrun, ho4, ht4, hv4⟩ := app_own HO.out ho3 hb3 HB.out.size (by omega); have lz4 := (LZ.out.below hb3 LZ.out.lt).turned ht4 (fun e => HN.out _ e rfl); have hb := (HB.out.trans (hb3.mono HB.out.size)).trans (ht4.below fun i hi => ⟨by have := HB.out.size; have := hb3.size; omega, fun e => by have := HO.out.lt _ e; omega⟩); have hn4 : ∀ i, v4.ownBlock = some i → i ≠ wr.heap.size := (fun i e => by rcases hv4 i e with h | h; exact HN.out i h; have := LZ.out.lt; have := hb3.size; omega); clear HO HB LZ HN HRUN; have HO := Lib.hid ho4; have HB := Lib.hid hb; have LZ := Lib.hid lz4; have HN := Lib.hid hn4; have HRUN := Lib.hid hrun; clear ho3 hb3 hrun ho4 ht4 hv4 lz4 hb hn4)
          | (at_builtin; go_must (refine wpList_append_ran _ _ rfl _ _ 23 rfl _ _ _ rfl rfl HRUN.out ?_)))
        go_roundw
        case rel => exact ⟨k + 1, by omega, by go_num, by rw [RS.out, show 4 + 26 * (k + 1) = 4 + 26 * k + 2 + 8 + 8 + 8 by omega]; simpa only [List.append_assoc, Int.toNat_natCast] using HO.out, HB.out⟩
        case measure => simp [intOf]; omega
      · obtain rfl : k = f := by omega
        have zr := H2.out hkn
        have MB := Lib.hid (right_any (C k) (L k) (H k) (S k))
        rw [zr] at MB
        go_wp2_with (go_at_call 58; refine (MB.out _).mono ?_; rintro e w1 ⟨rfl, hb1⟩; have HB2 := Lib.hid hb1; clear hb1)
        go_ret2
        exact ⟨HB.out.trans (((Below.refl _ _).alloc (Nat.le_refl _) _).trans (HB2.out.mono (by simp)) |>.mono HB.out.size), .inl ⟨hkn, rfl⟩⟩
    · obtain rfl : k = n := by omega
      obtain rfl : f = k := by omega
      have HO := Lib.hid ho
      have HB := Lib.hid hb
      clear ho hb
      go_wp2
      go_ret2
      exact ⟨HB.out, _, rfl, HO.out⟩
end Go.Proofs.Ytgclhblglohjpaa
