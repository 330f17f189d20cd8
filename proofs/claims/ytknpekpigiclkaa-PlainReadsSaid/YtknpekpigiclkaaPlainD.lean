/-
  CONTRACTS OF Plain's Decode, and of the document's own Number, Decode and Same, in any world. Conditions: at most 20000 bytes, which lie in memory as told.
-/
import Derived.Test.YtknpekpigiclkaaRead
import Derived.Test.YtknpekpigiclkaaPlainB
namespace Go.Proofs.Ytknpekpigiclkaa
open Go.ChangeShapes Go.WideShapes Go.ChangeAt Go.RowKit
set_option linter.unusedVariables false
theorem rowV_zeroI (n : Nat) : (madeCells #[Value.int .i64 0] (n * 1)).toList = rowV (fun _ => .int .i64 0) n := by
  rw [Nat.mul_one, toList_madeCells_one]
  apply List.ext_getElem?
  intro j
  by_cases hj : j < n
  · rw [rowV_get _ hj]; simp [hj]
  · rw [rowV_ge _ (by omega)]; simp; omega
set_option maxRecDepth 100000 in
set_option maxHeartbeats 2000000 in
theorem dwrap64_eq (n : Int) : IntKind.i64.wrap n = wrap64 n := by
  simp [IntKind.wrap, IntKind.bits, IntKind.signed, wrap64]
  split <;> omega
/-- The i-th number of a plain form. -/
def dn (z : Nat → Int) (i : Nat) : Int := wrap64 (num (fun j => z (8 * i + j)) 8 : Nat)
def dns (z : Nat → Int) (n : Nat) : List Int := (List.range n).map (dn z)
theorem dns_length (z : Nat → Int) (n : Nat) : (dns z n).length = n := by rw [dns, List.length_map, List.length_range]
theorem dns_getD (z : Nat → Int) (n i : Nat) (hi : i < n) : (dns z n).getD i 0 = dn z i := by rw [dns, List.getD_eq_getElem?_getD, List.getElem?_map, List.getElem?_range hi, Option.map_some, Option.getD_some]
set_option maxRecDepth 100000 in
set_option maxHeartbeats 2000000 in
theorem decode1_any (pn bc nb n : Nat) (z : Nat → Int) (hz : ∀ i, i < nb → 0 ≤ z i ∧ z i ≤ 255) (hnb : nb ≤ 100000) (hn : n ≤ 1024) (w : World) (hp : w.cell? ⟨pn, 0, none⟩ = some (.int .i64 n)) (h : CursorAt w bc nb z 0) :
    Calls Try.prog 72 (#[.pointer (some ⟨bc, 0, none⟩)] ++ #[.pointer (some ⟨pn, 0, none⟩)]) w (DoEnd bc nb z (if nb < 8 * n then 1 else 0) (dns z n) (8 * n) w) := by
  obtain ⟨i0, hi, hz0, hz1, hz2⟩ := info_parts longInfo
  obtain ⟨m, hm⟩ : ∃ m : Int, (if nb < 8 * n then 1 else 0) = m := ⟨_, rfl⟩
  rw [hm]
  have HM := Lib.hid hm
  have H := Lib.hid h
  have HZ := Lib.hid hz
  clear h hz hm
  show Calls Try.prog 72 #[.pointer (some ⟨bc, 0, none⟩), .pointer (some ⟨pn, 0, none⟩)] w _
  go_enter Try.func72, Try.ntmps72
  go_wp2_with (at_make; refine wpList_make_full _ rfl _ _ 50 rfl (bc + 1) 2 i0 (.int .i64 0) 1 Try.underlying50 hi hz0 hz1 _ _ _ _ n rfl rfl rfl rfl ?hb ?hm ?hs ?hk)
  case hb => rw [hz2]; omega
  case hm => unfold maxLen; omega
  case hs => have := H.out.lt; omega
  case hk =>
    intro w2 hown hg
    have hown : w2.ownsRow (bc + 1) 2 1 (.slice (some ⟨w.heap.size, 0, none⟩) n n) n (rowV (fun _ => .int .i64 0) n) := by
      rw [← rowV_zeroI, Nat.mul_one]; exact hown
    have HO := Lib.hid hown
    have hb2 : Below w.heap.size w w2 := (Below.refl w.heap.size w).grown hg (Nat.le_refl _) (fun k hk => by cases hk)
    have HB2 := Lib.hid hb2
    obtain ⟨g, hgg⟩ : ∃ g, w.heap.size = g := ⟨_, rfl⟩
    rw [hgg] at HO
    rw [hgg]
    have hbg : bc < g := by have := H.out.lt; omega
    have H2 := Lib.hid (H.out.below hb2 H.out.lt)
    have T2 := Lib.hid (show Turned (· = bc) w w2 from Turned.of_below hb2 (fun i hi _ => hi))
    clear hown hg hb2
    go_wp2
    go_loopw [10] (fun x wr => ∃ i : Nat, i ≤ n ∧ x = .int .i64 i ∧ CursorAt wr bc nb z (8 * i) ∧ wr.ownsRow (bc + 1) 2 1 (.slice (some ⟨g, 0, none⟩) n n) n (rowV (fun j => .int .i64 (if j < i then dn z j else 0)) n) ∧ Turned (· = bc) w wr) (fun x wr => n - (intOf x).toNat)
    case atStart => exact ⟨0, by omega, rfl, H2.out, by simpa using HO.out, T2.out⟩
    case round =>
      obtain ⟨i, hin, rfl, hc, ho, ht⟩ := hrel
      by_cases hlt : i < n
      · have i1 : (i : Int) < n := by omega
        have i2 : (0 : Int) ≤ i := by omega
        have HO3 := Lib.hid ho
        have HT3 := Lib.hid ht
        have KT := Lib.hid (fun (w3 : World) (ht3 : Turned (· = bc) wr w3) => owns_turned HO3.out ht3 (fun j hj (e : j = bc) => by
          have : g = j := by simpa [Value.ownBlock] using hj
          omega))
        by_cases hs : nb < 8 * i + 8
        · have U := Lib.hid (u64_short bc nb z (8 * i) hnb hc.le (by omega) wr hc)
          obtain rfl : 1 = m := by have := HM.out; rw [if_pos (by omega)] at this; exact this
          clear hc ho ht HM hs
          go_wp2_with (go_at_call 66; refine U.out.mono ?_; rintro e w3 ⟨rfl, j, rfl⟩)
          exact ⟨rfl, HT3.out.drewN _, .inr ⟨by decide, rfl⟩⟩
        · have U := u64_ok bc nb z (8 * i) HZ.out hnb (by omega) wr hc
          have hdn : dn z i = wrap64 (num (fun j => z (8 * i + j)) 8 : Nat) := rfl
          rw [← Nat.mul_succ] at U
          generalize num (fun j => z (8 * i + j)) 8 = N at *
          have HDN := Lib.hid hdn
          have U := Lib.hid U
          clear hc ho ht hs hdn
          go_wp2_with (go_at_call 66; refine U.out.mono ?_; rintro e w3 ⟨rfl, hc3, ht3⟩; have ho3 := KT.out w3 ht3; have q0 := ho3.cellAt i (by omega); rw [rowV_get _ hlt] at q0; have q1 := ho3.frozenAt i; have HC4 := Lib.hid hc3; have HT4 := Lib.hid ht3; have HO4 := Lib.hid ho3; clear hc3 ht3 ho3)
          go_roundw
          case rel =>
            refine ⟨i + 1, by omega, by go_num, ?_, ?_, (HT3.out.trans HT4.out).setCell (p := ⟨g, i, none⟩) (.inr (by show w.heap.size ≤ g; omega)) _⟩
            · exact HC4.out.below (B := bc + 1) ((Below.refl _ _).setCell (p := ⟨g, i, none⟩) (by show bc + 1 ≤ g; omega) _) (by omega)
            · have h1 := (HO4.out.stored i (.int .i64 (wrap64 (N : Nat)))).1
              rw [rowV_set] at h1
              rw [rowV_congr (g := fun j => if j = i then .int .i64 (wrap64 (N : Nat)) else .int .i64 (if j < i then dn z j else 0)) (fun j hj => by
                by_cases e : j = i
                · subst e; simp [HDN.out]
                · rw [if_neg e]
                  by_cases e2 : j < i
                  · rw [if_pos e2, if_pos (by omega)]
                  · rw [if_neg e2, if_neg (by omega)])]
              exact h1
          case measure => simp [intOf]; omega
      · obtain rfl : i = n := by omega
        have hcl := hc.le
        obtain rfl : 0 = m := by have := HM.out; rw [if_neg (by omega)] at this; exact this
        have HC := Lib.hid hc
        have HO3 := Lib.hid ho
        have HT3 := Lib.hid ht
        have HL := Lib.hid (dns_length z i)
        clear hc ho ht HM hcl
        go_wp2
        go_ret
        obtain ⟨a5, c5, he, hr5, _⟩ := own_reads' (f := fun j => .int .i64 (dn z j)) (by
          have h := HO3.out
          rw [rowV_congr (g := fun j => .int .i64 (dn z j)) (fun j hj => by rw [if_pos hj])] at h
          exact h)
        injection he with e1 e2 e3
        subst e1 e3
        refine ⟨HT3.out, .inl ⟨rfl, some ⟨g, 0, none⟩, i, ?_, ?_, HC.out⟩⟩
        · rw [HL.out]; rfl
        · rw [HL.out]; exact hr5.congr fun j hj => by rw [dns_getD z i j hj]
/-- What is wrong with a plain form of so many bytes. -/
def perr (n nb : Nat) : Int := if nb < 8 * n then 1 else if 8 * n < nb then 2 else 0
def pnums (z : Nat → Int) (n nb : Nat) : List Int := if perr n nb = 0 then dns z n else []
theorem perr_r (n nb : Nat) : rerr (if nb < 8 * n then 1 else 0) (8 * n) nb = perr n nb := by
  unfold rerr perr
  by_cases h : nb < 8 * n
  · rw [if_pos h, if_pos h]; rfl
  · rw [if_neg h, if_neg h, if_pos rfl]
theorem pnums_r (z : Nat → Int) (n nb : Nat) : rnums (if nb < 8 * n then 1 else 0) (8 * n) nb (dns z n) = pnums z n nb := by
  unfold rnums pnums
  rw [perr_r]
set_option maxHeartbeats 1000000 in
theorem pdecode_in (a : Option Addr) (nb cap n : Nat) (z : Nat → Int) (hz : ∀ i, i < nb → 0 ≤ z i ∧ z i ≤ 255) (hnb : nb ≤ 100000) (hb : blk n = true) (w : World) (hrow : RowOf w a nb (fun i => .int .u8 (z i))) :
    Calls Try.prog 31 #[.agg #[], .slice a nb cap, .int .i64 n] w fun e w' => ∃ a c, e = .returned (.tuple #[.slice a (pnums z n nb).length c, .int .i64 (perr n nb)]) ∧
      RowOf w' a (pnums z n nb).length (fun i => .int .i64 ((pnums z n nb).getD i 0)) ∧ Below w.heap.size w w' := by
  have hmf : ∀ (fn : Fn) (first cap : Array Value) (w : World), (Instr.makeFunc fn first cap).run Try.prog w = .ok (.func fn first cap) w := fun _ _ _ _ => rfl
  obtain ⟨s, hs⟩ : ∃ s, w.heap.size = s := ⟨_, rfl⟩
  obtain ⟨W2, hW2⟩ : ∃ W2, (w.alloc (.cells #[] 53)).alloc (.cells #[.int .i64 (n : Int)] 3) = W2 := ⟨_, rfl⟩
  have hb2 : Below s w W2 := by rw [← hW2, ← hs]; exact ((Below.refl _ w).alloc (Nat.le_refl _) _).alloc (by simp) _
  have l1 : Lies W2 (s + 1) 3 #[.int .i64 (n : Int)] := by
    have := Lies.new (w.alloc (.cells #[] 53)) 3 #[.int .i64 (n : Int)]
    rw [← hW2, ← hs]
    simpa using this
  have hn : n ≤ 1024 := by have := of_decide_eq_true hb; omega
  have RD := read_any 72 #[.pointer (some ⟨s + 1, 0, none⟩)] n nb cap a z (if nb < 8 * n then 1 else 0) (dns z n) (8 * n) hb hnb (by rw [dns_length]; omega) W2 (hrow.below (by rw [hs]; exact hb2)) (fun _ _ => by simp [go_sem])
    (fun W1 bc hb1 hbc hc => decode1_any (s + 1) bc nb n z hz hnb hn W1 ((hb1.cell (p := ⟨s + 1, 0, none⟩) l1.lt).trans (l1.cell 0)) hc)
  rw [perr_r, pnums_r] at RD
  have RD := Lib.hid RD
  have HB2 := Lib.hid hb2
  have HS := Lib.hid hs
  have c1 := l1.cell 0
  have C1 := Lib.hid c1
  clear hb2 l1 hb hrow hz
  generalize pnums z n nb = ys at *
  generalize perr n nb = r at *
  go_enter Try.func31, Try.ntmps31
  go_wp2_with fail
  (try rw [hW2])
  (try rw [hs])
  refine RD.out.mono ?_
  rintro e w' ⟨a1, c, rfl, hr, hb'⟩
  have HR := Lib.hid hr
  have HB' := Lib.hid hb'
  clear hr hb' c1 hW2
  go_wp2
  go_ret2
  exact ⟨a1, c, rfl, HR.out, by rw [HS.out]; exact HB2.out.trans (HB'.out.mono (by have := HB2.out.size; have := HS.out; omega))⟩
theorem pdecode_out (a : Option Addr) (nb cap : Nat) (n : Int) (hb : blk n = false) (w : World) :
    Calls Try.prog 31 #[.agg #[], .slice a nb cap, .int .i64 n] w fun e w' => e = .returned (.tuple #[.slice none 0 0, .int .i64 7]) ∧ Below w.heap.size w w' := by
  have hmf : ∀ (fn : Fn) (first cap : Array Value) (w : World), (Instr.makeFunc fn first cap).run Try.prog w = .ok (.func fn first cap) w := fun _ _ _ _ => rfl
  have RD := Lib.hid (fun (f : FuncId) (caps : Array Value) W => read_out f caps n nb cap a hb W)
  have HB := Lib.hid (((Below.refl w.heap.size w).alloc (Nat.le_refl _) (.cells #[] 53)).alloc (by simp) (.cells #[.int .i64 n] 3))
  clear hb
  go_enter Try.func31, Try.ntmps31
  go_wp2_with (go_at_call 36; refine (RD.out _ _ _).mono ?_; rintro e w1 ⟨rfl, hb⟩; have HB1 := Lib.hid hb; clear hb)
  go_ret2
  exact ⟨rfl, HB.out.trans (HB1.out.mono HB.out.size)⟩
end Go.Proofs.Ytknpekpigiclkaa
