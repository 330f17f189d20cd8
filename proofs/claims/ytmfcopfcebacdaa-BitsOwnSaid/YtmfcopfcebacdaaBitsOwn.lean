/-
  THE STATEMENT corduroylaw01.BitsOwn: for any bytes the call returns true and leaves its argument as it was. No condition.
-/
import Derived.Test.YtmfcopfcebacdaaBitsBoth
namespace Go.Proofs.Ytmfcopfcebacdaa.bitsOwn
open Go.ChangeShapes Go.WideShapes Go.ChangeAt Go.RowKit
set_option linter.unusedVariables false
/-- A reader whose bytes lie from block lo on. -/
def ReaderFrom (w : World) (lo br n : Nat) (z : Nat → Int) (at_ : Nat) : Prop :=
  ∃ a cap, Lies w br 97 #[.slice a n cap, .int .i64 at_] ∧ RowOf w a n (fun i => .int .u8 (z i)) ∧ ∀ p, a = some p → lo ≤ p.block ∧ p.block < br
theorem ReaderFrom.reader {w : World} {lo br n at_ : Nat} {z : Nat → Int} (h : ReaderFrom w lo br n z at_) : ReaderAt w br n z at_ := by
  obtain ⟨a, cap, h1, h2, h3⟩ := h
  exact ⟨a, cap, h1, h2, fun p hp => (h3 p hp).2⟩
theorem ReaderFrom.store {w : World} {lo br n at_ g i : Nat} {z : Nat → Int} (h : ReaderFrom w lo br n z at_) (hg : g < lo) (hb : g < br) (u : Value) : ReaderFrom (w.setCell ⟨g, i, none⟩ u) lo br n z at_ := by
  obtain ⟨a, cap, h1, h2, h3⟩ := h
  refine ⟨a, cap, h1.far (by show br ≠ g; omega) u, h2.turned (S := (· = g)) ((Turned.refl (· = g) _).setCell (p := ⟨g, i, none⟩) (.inl rfl) u) (fun p hp e => by have := h3 p hp; omega), h3⟩
theorem newReader_from (a : Option Addr) (len cap : Nat) (z : Nat → Int) (hlen : len ≤ 100000) (w : World) (h : RowOf w a len (fun i => .int .u8 (z i))) :
    Calls Try.prog 24 #[.slice a len cap] w fun e w' => ∃ br, e = .returned (.pointer (some ⟨br, 0, none⟩)) ∧ ReaderFrom w' w.heap.size br len z 0 ∧ w.heap.size ≤ br ∧ Below w.heap.size w w' := by
  have CL := Lib.hid (clone_any a len cap z hlen w h)
  clear h
  go_enter Try.func24, Try.ntmps24
  go_wp2_with (go_at_call 59; refine CL.out.mono ?_; rintro e w' ⟨v', rfl, hx, hb⟩; obtain ⟨a', cap', rfl, hr, hab⟩ := own_reads' hx; have HX := Lib.hid hx; have HB := Lib.hid hb; have HR := Lib.hid hr; have HA := Lib.hid hab; clear hx hb hr hab)
  go_ret
  exact ⟨_, rfl, ⟨a', cap', Lies.new _ _ _, HR.out.below ((Below.refl _ _).alloc (Nat.le_refl _) _), fun p hp => HA.out p hp⟩, HB.out.size, HB.out.alloc HB.out.size _⟩
theorem own_skip (a0 : Option Addr) (len0 cap0 : Nat) (w : World) (h : 100 < len0) :
    Calls Try.prog 9 #[.slice a0 len0 cap0] w fun e w' => e = .returned (.bool true) ∧ Below w.heap.size w w' := by
  have h' : (100 : Int) < len0 := by omega
  clear h
  go_enter Try.func9, Try.ntmps9
  go_wp2
  go_ret
  exact ⟨rfl, Below.refl _ _⟩
theorem writer_below {w w' : World} {bw : Nat} {v : Value} {N c : Nat} (h : WriterAt w bw v N c) (hb : Below w.heap.size w w') : WriterAt w' bw v N c :=
  ⟨h.1.below hb h.1.lt, owns_turned h.2.1 (S := fun _ => False) (Turned.of_below hb (fun i hi _ => hi)) (fun _ _ h => h), h.2.2⟩
theorem pack8 (z : Nat → Int) : ∀ n, (∀ i, i < n → 0 ≤ z i ∧ z i ≤ 255) → packN 8 (fun j => (z j).toNat) n = num z n
  | 0, _ => rfl
  | n + 1, h => by
    simp only [packN, num]
    rw [pack8 z n (fun i hi => h i (by omega))]
    have : (2 : Nat) ^ (n * 8) = 256 ^ n := by rw [Nat.mul_comm, Nat.pow_mul]
    rw [this]
theorem get8 (z : Nat → Int) (n j : Nat) (h : ∀ i, i < n → 0 ≤ z i ∧ z i ≤ 255) (hj : j < n) : ((num z n / 2 ^ (j * 8) % 2 ^ 8 : Nat) : Int) = z j := by
  have : (2 : Nat) ^ (j * 8) = 256 ^ j := by rw [Nat.mul_comm, Nat.pow_mul]
  rw [this, show (2 : Nat) ^ 8 = 256 from rfl, num_byte z n h j hj]
  have := h j hj
  omega
/-- A row of bytes of one's own, whatever they are. -/
def ByteRow (w : World) (base : Nat) (a : Option Addr) (n cap : Nat) : Prop := ∃ f : Nat → Int, (∀ i, i < n → 0 ≤ f i ∧ f i ≤ 255) ∧ w.ownsRow base 5 1 (.slice a n cap) n (rowV (fun i => .int .u8 (f i)) n)
theorem ByteRow.of {w : World} {base n : Nat} {v : Value} {N : Nat} (h : w.ownsRow base 5 1 v n (cellsOf (bytesOf n N))) : ∃ a cap, v = .slice a n cap ∧ ByteRow w base a n cap := by
  obtain ⟨a, cap, rfl, _⟩ := own_reads h
  refine ⟨a, cap, rfl, fun i => ((N / 256 ^ i % 256 : Nat) : Int), fun i _ => ⟨Int.natCast_nonneg _, by show ((N / 256 ^ i % 256 : Nat) : Int) ≤ 255; omega⟩, ?_⟩
  have e : cellsOf (bytesOf n N) = rowV (fun i => .int .u8 ((N / 256 ^ i % 256 : Nat) : Int)) n := by simp [cellsOf, bytesOf, rowV]
  rw [e] at h
  exact h
/-- What a store of a round needs and leaves. -/
theorem ByteRow.at_ {w : World} {base n cap : Nat} {a : Option Addr} (h : ByteRow w base a n cap) {i : Nat} (hi : i < n) : ∃ g x, a = some ⟨g, 0, none⟩ ∧ base ≤ g ∧ g < w.heap.size ∧ 0 ≤ x ∧ x ≤ 255 ∧ w.cell? ⟨g, i, none⟩ = some (.int .u8 x) ∧ w.frozen? ⟨g, i, none⟩ = false ∧
    ∀ y, 0 ≤ y → y ≤ 255 → ByteRow (w.setCell ⟨g, i, none⟩ (.int .u8 y)) base a n cap := by
  obtain ⟨f, hf, ho⟩ := h
  obtain ⟨g, c, hv, hg1, hg2⟩ := ho.form (by omega)
  injection hv with ha hn hc
  subst ha hc
  refine ⟨g, f i, rfl, hg1, hg2, (hf i hi).1, (hf i hi).2, ?_, ho.frozenAt i, fun y hy0 hy1 => ?_⟩
  · rw [ho.cellAt i (by omega), rowV_get _ hi]
  · refine ⟨fun j => if j = i then y else f j, fun j hj => ?_, ?_⟩
    · by_cases e : j = i
      · simp only [if_pos e]; omega
      · simp only [if_neg e]; exact hf j hj
    · have h1 := (ho.stored i (.int .u8 y)).1
      rw [rowV_set] at h1
      rw [rowV_congr (g := fun j => if j = i then .int .u8 y else .int .u8 (f j)) (fun j _ => by by_cases e : j = i <;> simp [e])]
      exact h1
theorem writer_store {W : World} {bw : Nat} {v : Value} {N c B g j : Nat} (h : WriterAt W bw v N c) (h1 : bw < B) (h2 : ∀ i, v.ownBlock = some i → i < B) (hg : B ≤ g) (u : Value) : WriterAt (W.setCell ⟨g, j, none⟩ u) bw v N c :=
  ⟨h.1.far (p := ⟨g, j, none⟩) (by show bw ≠ g; omega) u, owns_turned h.2.1 (S := (· = g)) ((Turned.refl (· = g) _).setCell (p := ⟨g, j, none⟩) (.inl rfl) u) (fun i hi e => by have := h2 i hi; omega), h.2.2⟩
set_option maxRecDepth 100000 in
set_option maxHeartbeats 4000000 in
theorem own_walk (a0 : Option Addr) (n cap0 : Nat) (z : Nat → Int) (hz : ∀ i, i < n → 0 ≤ z i ∧ z i ≤ 255) (w : World) (hn : n ≤ 100) (H0 : RowOf w a0 n (fun i => .int .u8 (z i))) :
    Calls Try.prog 9 #[.slice a0 n cap0] w fun e w' => e = .returned (.bool true) ∧ Below w.heap.size w w' := by
  have h' : ¬ (100 : Int) < n := by omega
  have hl : ∀ i, i < n → (z i).toNat < 2 ^ 8 := fun i hi => by have := hz i hi; omega
  have HL := Lib.hid hl
  have HZ := Lib.hid hz
  have H0 := Lib.hid H0
  have NW := Lib.hid (newWriter_any w)
  clear hl hz
  go_enter Try.func9, Try.ntmps9
  go_wp2_with (go_at_call 15; refine NW.out.mono ?_; rintro e w1 ⟨rfl, hw, hb⟩; have HW := Lib.hid hw; have HB := Lib.hid hb; clear hw hb)
  obtain ⟨bw, hbw⟩ : ∃ bw, w.heap.size = bw := ⟨_, rfl⟩
  rw [hbw] at HW
  rw [hbw]
  have HBW := Lib.hid hbw
  clear hbw
  go_loopw [4] (fun x wr => ∃ (i : Nat) (v : Value), i ≤ n ∧ x = .int .i64 i ∧ WriterAt wr bw v (packN 8 (fun j => (z j).toNat) i) (i * 8) ∧ Below w.heap.size w wr) (fun x _ => n - (intOf x).toNat)
  case atStart => exact ⟨0, _, by omega, rfl, HW.out, HB.out⟩
  case round =>
    obtain ⟨i, v, hin, rfl, hw, hb⟩ := hrel
    by_cases hlt : i < n
    · have i1 : (i : Int) < n := by omega
      obtain ⟨b0, off0, rfl, hb0, hc0⟩ := (H0.out.below hb).at_ hlt
      have c0 := hc0 i hlt
      have zb := HZ.out i hlt
      obtain ⟨x, hx⟩ : ∃ x : Nat, z i = x := ⟨(z i).toNat, by omega⟩
      have hxl : x < 2 ^ 8 := by have := HL.out i hlt; rw [hx] at this; simpa using this
      have PU := Lib.hid (put_ok bw v _ (i * 8) x 8 (by omega) (by decide) hxl (by omega) wr hw)
      rw [show ((8 : Nat) : Int) = 8 from rfl] at PU
      have hpk : packN 8 (fun j => (z j).toNat) i + x * 2 ^ (i * 8) = packN 8 (fun j => (z j).toNat) (i + 1) := by simp only [packN]; rw [hx]; simp
      rw [hpk, ← Nat.succ_mul] at PU
      have hxi : (x : Int) ≤ 255 := by omega
      rw [hx] at c0
      have HWR := Lib.hid hw
      have HB2 := Lib.hid hb
      clear hw hb hc0 hx hxl zb hpk
      go_wp2_with (go_at_call 16; refine PU.out.mono ?_; rintro e w2 ⟨rfl, v2, hw2, ht2, _⟩; have HW2 := Lib.hid hw2; have HT2 := Lib.hid ht2; clear hw2 ht2)
      go_roundw
      case rel => exact ⟨i + 1, v2, by omega, by go_num, HW2.out, HB2.out.trans (put_below HWR.out HT2.out (by have := HBW.out; omega))⟩
      case measure => simp [intOf]; omega
    · obtain rfl : i = n := by omega
      have en : (i * 8 + 7) / 8 = i := by omega
      have WB := Lib.hid (wbytes_any bw v _ (i * 8) (by omega) wr hw)
      rw [en] at WB
      have HWR := Lib.hid hw
      have HB2 := Lib.hid hb
      clear hw hb en
      have hN : bytesOf i (packN 8 (fun j => (z j).toNat) i) = (List.range i).map z := by rw [pack8 z i HZ.out]; exact bytes_back i z HZ.out
      have HN := Lib.hid hN
      clear hN
      generalize packN 8 (fun j => (z j).toNat) i = N at *
      go_wp2_with (go_at_call 21; refine WB.out.mono ?_; rintro e w2 ⟨v2, rfl, ho2, hb2⟩; obtain ⟨a2, c2, rfl, hr2⟩ := ByteRow.of ho2; have HR2 := Lib.hid hr2; have HB3 := Lib.hid hb2; clear ho2 hb2 hr2)
      have bB : bw < wr.heap.size := HWR.out.1.lt
      have vB := fun j hj => (HWR.out.2.1.lt j hj).2
      have VB := Lib.hid vB
      have sB := HB2.out.size
      have HW2 := Lib.hid (writer_below HWR.out HB3.out)
      have HB4 := Lib.hid (HB2.out.trans (HB3.out.mono sB))
      clear vB
      generalize wr.heap.size = B at *
      go_loopw [6] (fun x W => ∃ j : Nat, j ≤ i ∧ x = .int .i64 j ∧ WriterAt W bw v N (i * 8) ∧ ByteRow W B a2 i c2 ∧ Below w.heap.size w W) (fun x _ => i - (intOf x).toNat)
      case atStart => exact ⟨0, by omega, rfl, HW2.out, HR2.out, HB4.out⟩
      case round =>
        obtain ⟨j, hji, rfl, hw, hr, hb⟩ := hrel
        by_cases hlt2 : j < i
        · have j1 : (j : Int) < i := by omega
          obtain ⟨g, x, rfl, hg1, hg2, x0, x1, c0, c1, hst⟩ := hr.at_ hlt2
          have HST := Lib.hid hst
          have HW5 := Lib.hid hw
          have HB5 := Lib.hid hb
          clear hst hw hr hb
          go_wp2
          go_roundw
          case rel => exact ⟨j + 1, by omega, by go_num, writer_store HW5.out bB VB.out hg1 _, HST.out _ (by omega) (by omega), HB5.out.setCell (p := ⟨g, j, none⟩) (by show w.heap.size ≤ g; omega) _⟩
          case measure => simp [intOf]; omega
        · obtain rfl : j = i := by omega
          obtain ⟨W, rfl⟩ : ∃ W : World, W = wr := ⟨_, rfl⟩
          have en : (j * 8 + 7) / 8 = j := by omega
          have WB2 := Lib.hid (wbytes_any bw v _ (j * 8) (by omega) W hw)
          rw [en] at WB2
          have HB5 := Lib.hid hb
          clear hw hr hb en
          go_wp2_with (go_at_call 21; refine WB2.out.mono ?_; rintro e w5 ⟨v5, rfl, ho5, hb5⟩; obtain ⟨a5, c5, rfl, k5⟩ := own_conv ho5; have hl5 := ho5.lt; rw [HN.out] at k5 ho5; rw [← rowV_bytes] at ho5; have HO5 := Lib.hid ho5; have HL5 := Lib.hid hl5; have K5 := Lib.hid k5; have HB6 := Lib.hid hb5; have NR := Lib.hid (newReader_from a5 j c5 z (by omega) w5 (by obtain ⟨a', c', e', hr', _⟩ := own_reads' ho5; injection e' with e1 e2 e3; subst e1; exact hr')); clear ho5 hb5 k5 hl5)
          refine NR.out.mono ?_
          rintro e w6 ⟨br, rfl, hr6, hbr6, hb6⟩
          have q1 := K5.out w6 hb6
          have hB6 : Below w.heap.size w w6 := (HB5.out.trans (HB6.out.mono HB5.out.size)).trans (hb6.mono (by have := HB5.out.size; have := HB6.out.size; omega))
          have q2 := conv_any a0 j cap0 z w6 (H0.out.below hB6)
          have HR6 := Lib.hid hr6
          have HB7 := Lib.hid hB6
          have HBR := Lib.hid hbr6
          have HO6 := Lib.hid (owns_turned HO5.out (S := fun _ => False) (Turned.of_below hb6 (fun i hi _ => hi)) (fun _ _ h => h))
          clear hr6 hb6 hB6 hbr6 NR WB2 K5
          generalize strOfNums ((List.range j).map z) = s at *
          have hwl : w.heap.size ≤ W.heap.size := HB5.out.size
          obtain ⟨lo, hlo⟩ : ∃ lo, w5.heap.size = lo := ⟨_, rfl⟩
          rw [hlo] at HR6 HL5 HBR
          have HLO := Lib.hid hlo
          clear hlo
          go_wp2
          go_loopw [9] (fun x V => ∃ t : Nat, t ≤ j ∧ x = .int .i64 t ∧ ReaderFrom V lo br j z 0 ∧ ByteRow V W.heap.size a5 j c5 ∧ Below w.heap.size w V) (fun x _ => j - (intOf x).toNat)
          case atStart => exact ⟨0, by omega, rfl, HR6.out, ⟨z, HZ.out, HO6.out⟩, HB7.out⟩
          case round =>
            obtain ⟨t, htj, rfl, hr, hbr, hb⟩ := hrel
            by_cases hlt3 : t < j
            · have j1 : (t : Int) < j := by omega
              obtain ⟨g, x, rfl, hg1, hg2, x0, x1, c0, c1, hst⟩ := hbr.at_ hlt3
              have hglo : g < lo := (HL5.out g rfl).2
              have HST := Lib.hid hst
              have HR7 := Lib.hid hr
              have HB8 := Lib.hid hb
              clear hst hr hbr hb
              go_wp2
              go_roundw
              case rel => exact ⟨t + 1, by omega, by go_num, HR7.out.store hglo (by have := HBR.out; omega) _, HST.out _ (by omega) (by omega), HB8.out.setCell (p := ⟨g, t, none⟩) (by show w.heap.size ≤ g; omega) _⟩
              case measure => simp [intOf]; omega
            · obtain rfl : t = j := by omega
              have HR7 := Lib.hid hr.reader
              have HB8 := Lib.hid hb
              clear hr hbr hb
              go_wp2
              go_loopw [10] (fun x U => ∃ p : Nat, p ≤ t ∧ x = .int .i64 p ∧ ReaderAt U br t z (p * 8) ∧ Below w.heap.size w U) (fun x _ => t - (intOf x).toNat)
              case atStart => exact ⟨0, by omega, rfl, by simpa using HR7.out, HB8.out⟩
              case round =>
                obtain ⟨p, hpt, rfl, hr, hb⟩ := hrel
                obtain ⟨U, rfl⟩ : ∃ U : World, U = wr := ⟨_, rfl⟩
                by_cases hlt4 : p < t
                · have p1 : (p : Int) < t := by omega
                  have GO := Lib.hid (get_ok br t z (p * 8) 8 HZ.out (by omega) (by decide) (by omega) U hr)
                  rw [get8 z t p HZ.out hlt4, ← Nat.succ_mul, show ((8 : Nat) : Int) = 8 from rfl] at GO
                  obtain ⟨b0, off0, rfl, hb0, hc0⟩ := H0.out.at_ hlt4
                  have hc := hc0 p hlt4
                  have KB := Lib.hid (fun w2 (ht : Turned (· = br) U w2) => (hb.trans (ht.below fun i hi => ⟨by have := hb.size; omega, fun e => by have := HBR.out; have := HLO.out; have := HB6.out.size; omega⟩) : Below w.heap.size w w2))
                  have CC := Lib.hid (fun V (hV : Below w.heap.size w V) => (hV.cell (p := ⟨b0, off0 + p, none⟩) hb0).trans hc)
                  have zb := HZ.out p hlt4
                  clear hr hb hc hc0
                  generalize z p = x at *
                  go_wp2_with (go_at_call 25; refine GO.out.mono ?_; rintro e w2 ⟨rfl, hr2, ht2⟩; have HR8 := Lib.hid hr2; have HB9 := Lib.hid (KB.out w2 ht2); have c0 := CC.out w2 HB9.out; clear hr2 ht2)
                  go_roundw
                  case rel => exact ⟨p + 1, by omega, by go_num, HR8.out, HB9.out⟩
                  case measure => simp [intOf]; omega
                · obtain rfl : p = t := by omega
                  have HB9 := Lib.hid hb
                  clear hr hb
                  go_wp2_with (go_at_call 23; refine (awake_any _).mono ?_; rintro e w4 ⟨rfl, hb4⟩; have HB4 := Lib.hid hb4; clear hb4)
                  go_ret
                  exact ⟨rfl, HB9.out.trans (HB4.out.mono HB9.out.size)⟩
theorem walk (a0 : Option Addr) (len0 cap0 : Nat) (z0 : List Int) (w : World) (b0 : IsRow .u8 w a0 len0 cap0 z0) :
    Calls Try.prog 9 #[.slice a0 len0 cap0] w fun e w' => e = .returned (.bool true) ∧ Below w.heap.size w w' := by
  by_cases h : 100 < len0
  · exact own_skip a0 len0 cap0 w h
  · exact own_walk a0 len0 cap0 _ b0.bytes.2 w (by omega) b0.bytes.1
theorem own : ownKnob Try.prog.godebug = none := by kernel_rfl
set_option maxRecDepth 100000 in
theorem contract (H : Type) (enc : TypeId × Value → H) (W : World) (base : Nat) (args : Array Value) (ds gs : List (DataW H)) (before : List MemPlace)
    (hval : ∀ (j : Nat) t v, Try.f9.params[j]? = some t → args[j]? = some v → Value.okWide Try.prog W .any base t v)
    (hW : DataW.Whole enc Try.prog Try.f9.params.toList Rows.bitsOwnSpec.vars false W args.toList ds gs before) :
    Calls Try.prog 9 args W fun e W' => ∃ v, e = .returned v ∧ Rows.bitsOwnSpec.post enc Try.prog Try.f9 false true false false W args v W' := by
  have hW' := hW
  obtain ⟨p, q, hA0, hV, rfl, hfz, hnd⟩ := hW
  have hA : DataW.TrodAll enc Try.prog W 0 (fun _ => true) true Try.f9.params.toList args.toList ds p := hA0
  rw [Try.params9] at hA hval
  obtain ⟨v0, vs0, d0, ds0, p0, q0, hargs, rfl, rfl, h0, r0⟩ := trodAll_cons hA
  obtain ⟨rfl, rfl, rfl⟩ := trodAll_nil r0
  obtain rfl : args = #[v0] := by cases args; simp_all
  obtain ⟨rfl, rfl⟩ := trodVars_none hV
  have hWhole := hW'
  obtain ⟨a0, len0, cap0, rfl⟩ := okWide_slice Try.underlying34 (hval 0 34 v0 rfl rfl)
  have k0 := h0
  have lt0 : ∀ x ∈ p0, x.block < W.heap.size := by obtain ⟨m, hm⟩ := k0; exact DataW.trod_lt m _ _ _ hm
  obtain ⟨z0, b0⟩ : ∃ zs, IsRow .u8 W a0 len0 cap0 zs := by
    obtain ⟨fuel, hf⟩ := h0
    rcases open_ints Try.underlying34 Try.underlying5 (by kernel_rfl) hf with ⟨hcs, _⟩ | ⟨x, l, c, zs, hcs, _, hl, hm, hz, _, hcell, hwz⟩
    · simp [Value.cells] at hcs
      obtain ⟨rfl, rfl, rfl⟩ := hcs
      exact ⟨[], isRow_nil _ _⟩
    · simp [Value.cells] at hcs
      obtain ⟨rfl, rfl, rfl⟩ := hcs
      exact ⟨zs, isRow_of hl hm (by simpa using hz) hcell hwz⟩
  clear hA0
  refine (walk a0 len0 cap0 z0 W b0).mono fun e W' ⟨he, hg⟩ => ?_
  subst he
  exact ⟨_, rfl, _, _, _, [], _, [], hW', trodAll_mk1 (shut_bool Try.underlying4 _), (trodAll_cons_mk (Below.trod laidOut (by kernel_rfl) (of_decide_eq_true (by kernel_rfl)) k0 hg lt0) trodAll_mk0), rfl, hg.frame _, fun h => by cases h⟩

set_option maxRecDepth 100000 in
theorem lifted (os : Os) (started : os.Started) (H : Type) (enc : TypeId × Value → H) :
    ReturnsInHanded {} Try.checked os 9 .any (Rows.bitsOwnSpec.pre6 enc Try.prog Try.f9 Rows.bitsOwnRow.domain false) (Rows.bitsOwnSpec.post enc Try.prog Try.f9 false true false false) := by
  refine returnsInHanded_of_change (C := Try.checked) own started (by kernel_rfl) Try.func9
    (ChangeSpec.witness6 (enc := enc) (C := Try.checked) false ⟨#[], #[.slice none 0 0], []⟩ 8 (by kernel_rfl) (by kernel_rfl) (by kernel_rfl) (by kernel_rfl)) ?_
  intro W base args ds gs before hval hW _ _
  exact contract H enc W base args ds gs before hval hW

/-- ████ THE STATEMENT ████ -/
theorem proved : Rows.BitsOwnSaid :=
  OpenClaim.holds_of_wide 9 Try.f9 rfl rfl rfl rfl rfl rfl rfl ⟨rfl, rfl, rfl, rfl, rfl⟩ rfl rfl rfl rfl rfl (by kernel_rfl) Try.func9 (by kernel_rfl)
    (of_decide_eq_true (by kernel_rfl)) (by unfold Func.isWrapper; first | (rw [if_pos (by decide +kernel)]; kernel_rfl) | (rw [if_neg (by decide +kernel)]; exact ⟨rfl, rfl⟩))
    (fun os started H enc _ => lifted os started H enc)
end Go.Proofs.Ytmfcopfcebacdaa.bitsOwn
