/-
  CONTRACT OF zone.Store, in any world: the zones' bytes, a row of its own, or the error of the first one that may not be. Conditions: at most 100 zones, which lie in memory as told.
-/
import Derived.Test.YtgclhblglohjpaaZoneI
import Derived.Test.YtgclhblglohjpaaZoneE
import Derived.Test.YtgclhblglohjpaaCurPut16
import Derived.Test.YtgclhblglohjpaaCurPut32
import Derived.Test.YtgclhblglohjpaaCurPut64
import Derived.Test.YtgclhblglohjpaaNumW
namespace Go.Proofs.Ytgclhblglohjpaa
open Go.RowKit
set_option linter.unusedVariables false
/-- The number of an i64's bits. -/
def u64n (v : Int) : Nat := (v % 18446744073709551616).toNat
theorem u64n_cast (v : Int) : ((u64n v : Nat) : Int) = v % 18446744073709551616 := by unfold u64n; omega
theorem u64n_lt (v : Int) : u64n v < 18446744073709551616 := by unfold u64n; omega
def zarr (l h s : Int) (j : Nat) : Int := if j = 0 then l else if j = 1 then h else s
/-- A zone's bytes. -/
def zbs (c l h s : Int) : Nat → List Int
  | 0 => bytesOf 2 c.toNat
  | j + 1 => zbs c l h s j ++ bytesOf 8 (u64n (zarr l h s j))
/-- Zones' bytes. -/
def sts (n : Nat) (C L H S : Nat → Int) : Nat → List Int
  | 0 => bytesOf 4 n
  | k + 1 => sts n C L H S k ++ zbs (C k) (L k) (H k) (S k) 3
theorem owns_below {w w' : World} {base n : Nat} {v : Value} {e : TypeId} {xs : List Value} (h : w.ownsRow base e 1 v n xs) (hb : Below w.heap.size w w') : w'.ownsRow base e 1 v n xs :=
  owns_turned h (Turned.of_below (S := fun i => w.heap.size ≤ i) hb (fun i hi _ => hi)) (fun i hi hs => by have := h.lt i hi; omega)
/-- A row of bytes of one's own behind another one. -/
theorem app_own {w0 w1 : World} {base n m : Nat} {v v2 : Value} {xs ys : List Int} (ho : w0.ownsRow base 5 1 v n (cellsOf xs)) (h2 : w1.ownsRow w0.heap.size 5 1 v2 m (cellsOf ys)) (hb : Below w0.heap.size w0 w1) (hbase : base ≤ w0.heap.size) (hm : n + m ≤ 100000) :
    ∃ v' w2, (Builtin.append_ #[23, 23] 23 #[v, v2]).run Try.prog w1 = .ok v' w2 ∧ w2.ownsRow base 5 1 v' (n + m) (cellsOf (xs ++ ys)) ∧ Turned (fun i => v.ownBlock = some i) w1 w2 ∧ (∀ i, v'.ownBlock = some i → v.ownBlock = some i ∨ w1.heap.size ≤ i) := by
  obtain ⟨i0, hi, hz0, hz1, hz2⟩ := info_parts byteInfo
  obtain ⟨a, c, rfl, hr, _⟩ := own_reads h2
  have hl : ys.length = m := by have := h2.1; simpa [cellsOf] using this
  have hr' : RowOf w1 a m (fun i => .int .u8 (ys.getD i 0)) := hr.congr fun i hi => by simp [cellsOf, hl, hi]
  obtain ⟨v', w2, hrun, ho2, hg, hv⟩ := run_append_row (P := Try.prog) w1 base 23 23 5 i0 (.int .u8 0) 1 Try.underlying23 hi hz0 hz1 hz2 rfl v n _ (owns_below ho hb) a m c _ hr' (fun i _ => rfl) (by unfold maxLen; omega) (by omega) (Nat.le_trans hbase hb.size)
  refine ⟨v', w2, hrun, ?_, (Turned.refl _ w1).grown hg (fun i h => .inl h), fun i h => ?_⟩
  · have : rowV (fun i => Value.int .u8 (ys.getD i 0)) m = cellsOf ys := by rw [← hl]; exact rowV_cells ys
    rw [this] at ho2
    simpa [cellsOf] using ho2
  · rcases hv with hv | hv
    · exact .inl (hv ▸ h)
    · rw [hv] at h; cases h; exact .inr (Nat.le_refl _)
set_option maxRecDepth 100000 in
set_option maxHeartbeats 2000000 in
theorem store_any (a : Option Addr) (n cap f : Nat) (C L H S : Nat → Int) (hn : n ≤ 100) (hf : f ≤ n) (h1 : ∀ i, i < f → zrt (C i) (L i) (H i) (S i) = true) (h2 : f < n → zrt (C f) (L f) (H f) (S f) = false) (w : World) (hz : Zones w a n C L H S w.heap.size) :
    Calls Try.prog 15 #[.slice a n cap] w fun e w' => Below w.heap.size w w' ∧
      ((f < n ∧ e = .returned (.tuple #[.slice none 0 0, .int .i64 4])) ∨ (f = n ∧ ∃ v, e = .returned (.tuple #[v, .int .i64 0]) ∧ w'.ownsRow w.heap.size 5 1 v (4 + 26 * n) (cellsOf (sts n C L H S n)))) := by
  have HZ := Lib.hid hz
  have H1 := Lib.hid h1
  have H2 := Lib.hid h2
  have hn32 : ((n : Int)) % 4294967296 = n := by omega
  have P32 := Lib.hid (fun W => Put32_any none 0 0 (fun _ => 0) n (by omega) (by omega) W (.inl rfl))
  clear hz h1 h2
  go_enter Try.func15, Try.ntmps15
  go_wp2_with (go_at_call 53; refine (P32.out _).mono ?_; rintro e w1 ⟨v, rfl, ho, hb⟩; have HO1 := Lib.hid ho; have HB1 := Lib.hid hb; clear ho hb)
  go_loopw [4, 15] (fun v i wr => ∃ k : Nat, k ≤ f ∧ i = .int .i64 k ∧ wr.ownsRow w.heap.size 5 1 v (4 + 26 * k) (cellsOf (sts n C L H S k)) ∧ Below w.heap.size w wr) (fun _ i _ => n - (intOf i).toNat)
  case atStart => exact ⟨0, by omega, rfl, by simpa [sts] using HO1.out, HB1.out⟩
  case round =>
    obtain ⟨k, hk, rfl, ho, hb⟩ := hrel
    by_cases hkn : k < n
    · have k1 : (k : Int) < n := by omega
      have k0 : (0 : Int) ≤ k := by omega
      obtain ⟨b, off, rfl, hbl, p0, p1, p2, p3⟩ := HZ.out.at_ hb hkn
      have HO := Lib.hid ho
      have HB := Lib.hid hb
      clear ho hb
      by_cases hkf : k < f
      · have zr := H1.out k hkf
        have RS := Lib.hid (show sts n C L H S (k + 1) = sts n C L H S k ++ zbs (C k) (L k) (H k) (S k) 3 from rfl)
        have MB := Lib.hid (maybe_any (C k) (L k) (H k) (S k))
        rw [zr] at MB
        have hc : ∃ c : Nat, C k = c ∧ c < 65536 := by
          unfold zrt at zr
          simp only [Bool.and_eq_true, decide_eq_true_eq] at zr
          exact ⟨(C k).toNat, by omega, by omega⟩
        obtain ⟨c, hc, hc2⟩ := hc
        rw [hc] at MB RS p0
        have hc16 : (c : Int) % 65536 = c := by omega
        have P16 := Lib.hid (fun W => Put16_any none 0 0 (fun _ => 0) c hc2 (by omega) W (.inl rfl))
        have P64 := Lib.hid (fun (v : Int) W => Put64_any none 0 0 (fun _ => 0) (u64n v) (u64n_lt v) (by omega) W (.inl rfl))
        simp only [u64n_cast] at P64
        clear hc zr H1 H2
        generalize L k = l at *
        generalize H k = h at *
        generalize S k = s at *
        go_wp2_with (first
          | (go_at_call 54; refine (MB.out _).mono ?_; rintro e w1 ⟨rfl, hb1⟩; have HB2 := Lib.hid (Below.trans ((Below.refl wr.heap.size wr).alloc (Nat.le_refl _) _) (hb1.mono (by simp))); have c0 := (hb1.cell (p := ⟨wr.heap.size, 0, none⟩) (by simp)).trans ((Lies.new wr 40 #[.int .i64 c, .int .i64 l, .int .i64 h, .int .i64 s]).cell 0); have LZ := Lib.hid ((Lies.new wr 40 #[.int .i64 c, .int .i64 l, .int .i64 h, .int .i64 s]).below hb1 (by simp)); clear hb1)
          | (go_at_call 55; refine (P16.out _).mono ?_; rintro e w3 ⟨v3, rfl, ho3, hb3⟩; obtain ⟨v4, w4, hrun, ho4, ht4, hv4⟩ := app_own (owns_below HO.out HB2.out) ho3 hb3 (Nat.le_trans HB.out.size HB2.out.size) (by omega); have lz4 := (LZ.out.below hb3 LZ.out.lt).turned ht4 (fun e => by have := HO.out.lt _ e; omega); have c1 := lz4.cell 1; have c2 := lz4.cell 2; have c3 := lz4.cell 3; have HRUN := Lib.hid hrun; have HO4 := Lib.hid ho4; have HT4 := Lib.hid ht4; have HV4 := Lib.hid hv4; have HB3 := Lib.hid hb3; clear ho3 hb3 hrun ho4 ht4 hv4 lz4)
          | (at_builtin; go_must (refine wpList_append_ran _ _ rfl _ _ 23 rfl _ _ _ rfl rfl HRUN.out ?_)))
        have hs4 : w.heap.size ≤ w4.heap.size := Nat.le_trans HB.out.size (Nat.le_trans HB2.out.size (Nat.le_trans HB3.out.size HT4.out.size))
        have HB4 := Lib.hid (show Below w.heap.size w w4 from ((HB.out.trans (HB2.out.mono HB.out.size)).trans (HB3.out.mono (Nat.le_trans HB.out.size HB2.out.size))).trans (HT4.out.below fun i hi => ⟨by have := HB.out.size; have := HB2.out.size; have := HB3.out.size; omega, fun e => by have := HO.out.lt _ e; omega⟩))
        have HO5 := Lib.hid (World.ownsRow.alloc HO4.out (.cells #[.int .i64 l, .int .i64 h, .int .i64 s] 2))
        have HL5 := Lib.hid (Lies.new w4 2 #[.int .i64 l, .int .i64 h, .int .i64 s])
        have HB5 := Lib.hid (HB4.out.alloc hs4 (.cells #[.int .i64 l, .int .i64 h, .int .i64 s] 2))
        have HN5 := Lib.hid (show ∀ i, v4.ownBlock = some i → i ≠ w4.heap.size from fun i e => by have := HO4.out.lt _ e; omega)
        clear HO HB HB2 LZ HRUN HO4 HT4 HV4 HB3 HB4 c0 c1 c2 c3 p0 p1 p2 p3
        generalize w4.alloc (.cells #[.int .i64 l, .int .i64 h, .int .i64 s] 2) = w5 at *
        generalize w4.heap.size = g at *
        go_loopw [4, 36] (fun v i wr => ∃ j : Nat, j ≤ 3 ∧ i = .int .i64 j ∧ wr.ownsRow w.heap.size 5 1 v (4 + 26 * k + (2 + 8 * j)) (cellsOf (sts n C L H S k ++ zbs c l h s j)) ∧ Lies wr g 2 #[.int .i64 l, .int .i64 h, .int .i64 s] ∧ (∀ i, v.ownBlock = some i → i ≠ g) ∧ Below w.heap.size w wr) (fun _ i _ => 3 - (intOf i).toNat)
        case atStart => exact ⟨0, by omega, rfl, by simpa [zbs] using HO5.out, HL5.out, HN5.out, HB5.out⟩
        case round =>
          obtain ⟨j, hj, rfl, ho, hl, hn, hb⟩ := hrel
          have HO := Lib.hid ho
          have HL := Lib.hid hl
          have HN := Lib.hid hn
          have HB := Lib.hid hb
          by_cases hj3 : j < 3
          · have j1 : (j : Int) < 3 := by omega
            have j0 : (0 : Int) ≤ j := by omega
            have ZS := Lib.hid (show zbs c l h s (j + 1) = zbs c l h s j ++ bytesOf 8 (u64n (zarr l h s j)) from rfl)
            have cj : wr.cell? ⟨g, j, none⟩ = some (.int .i64 (zarr l h s j)) := by
              rw [hl.cell j]
              match j, hj3 with
              | 0, _ => rfl
              | 1, _ => rfl
              | 2, _ => rfl
            clear ho hl hn hb
            generalize zarr l h s j = y at *
            go_wp2_with (first
              | (go_at_call 56; refine (P64.out y _).mono ?_; rintro e w3 ⟨v3, rfl, ho3, hb3⟩; obtain ⟨v6, w6, hrun, ho6, ht6, hv6⟩ := app_own HO.out ho3 hb3 HB.out.size (by omega); have HRUN := Lib.hid hrun; have HO6 := Lib.hid ho6; have HT6 := Lib.hid ht6; have HV6 := Lib.hid hv6; have HB3 := Lib.hid hb3; clear ho3 hb3 hrun ho6 ht6 hv6)
              | (at_builtin; go_must (refine wpList_append_ran _ _ rfl _ _ 23 rfl _ _ _ rfl rfl HRUN.out ?_)))
            go_roundw
            case rel =>
              refine ⟨j + 1, by omega, by go_num, ?_, (HL.out.below HB3.out HL.out.lt).turned HT6.out (fun e => HN.out g e rfl), fun i e => ?_, (HB.out.trans (HB3.out.mono HB.out.size)).trans (HT6.out.below fun i hi => ⟨by have := HB.out.size; have := HB3.out.size; omega, fun e => by have := HO.out.lt _ e; omega⟩)⟩
              · rw [ZS.out, ← List.append_assoc]; exact HO6.out
              · rcases HV6.out i e with h | h
                · exact HN.out i h
                · have := HL.out.lt; have := HB3.out.size; omega
            case measure => simp [intOf]; omega
          · obtain rfl : j = 3 := by omega
            clear ho hl hn hb
            go_wp2_with fail
            go_roundw
            case rel => exact ⟨k + 1, by omega, by go_num, by rw [RS.out]; exact HO.out, HB.out⟩
            case measure => simp [intOf]; omega
      · obtain rfl : k = f := by omega
        have zr := H2.out hkn
        have MB := Lib.hid (maybe_any (C k) (L k) (H k) (S k))
        rw [zr] at MB
        go_wp2_with (go_at_call 54; refine (MB.out _).mono ?_; rintro e w1 ⟨rfl, hb1⟩; have HB2 := Lib.hid hb1; clear hb1)
        go_ret2
        exact ⟨HB.out.trans (((Below.refl _ _).alloc (Nat.le_refl _) _).trans (HB2.out.mono (by simp)) |>.mono HB.out.size), .inl ⟨hkn, rfl⟩⟩
    · obtain rfl : k = n := by omega
      obtain rfl : f = k := by omega
      have HO := Lib.hid ho
      have HB := Lib.hid hb
      clear ho hb
      go_wp2
      go_ret2
      exact ⟨HB.out, _, rfl, HO.out⟩
end Go.Proofs.Ytgclhblglohjpaa
