/-
  CONTRACTS OF the document's own answers on bits: Fits, Bits, Bytes, Same. Conditions: those that each names.
-/
import Derived.Test.YtelcaejiipibpaaDoorBitsRef
namespace Go.Proofs.YtelcaejiipibpaaDoor
open Go.RowKit
set_option linter.unusedVariables false
theorem boolInfo : (Tryd.prog.info? 4).map (fun i => (i.zero, i.size, i.bytes)) = some (some (.bool false), 1, 1) := by kernel_rfl
theorem rfits_any (v k : Nat) (hv : v < 18446744073709551616) (hk : k ≤ 64) (x : Bool) (hx : decide (v < 2 ^ k) = x) (w : World) :
    Calls Tryd.prog 41 #[.int .u64 v, .int .i64 k] w fun e w' => e = .returned (.bool x) ∧ w = w' := by
  have hk1 : (k : Int) ≤ 64 := by omega
  have ht : ((v / 2 ^ k : Nat) == 0) = x := by
    rw [← hx]
    by_cases h : v < 2 ^ k
    · rw [Nat.div_eq_of_lt h]; simp [h]
    · have : 0 < v / 2 ^ k := Nat.div_pos (Nat.le_of_not_lt h) (Nat.pow_pos (by decide))
      have h2 : v / 2 ^ k ≠ 0 := by omega
      simp [h, h2]
  have HT := Lib.hid ht
  clear ht hx
  go_enter Tryd.func41, Tryd.ntmps41
  go_wp2
  go_loop [0, 5] (fun u i => ∃ j : Nat, j ≤ k ∧ i = .int .i64 j ∧ u = .int .u64 ((v / 2 ^ j : Nat) : Int)) (fun _ i => k - (intOf i).toNat)
  case atStart => exact ⟨0, by omega, rfl, by simp⟩
  case round =>
    obtain ⟨j, hj, rfl, rfl⟩ := hrel
    by_cases hjk : j < k
    · have j1 : (j : Int) < k := by omega
      have e : v / 2 ^ j / 2 = v / 2 ^ (j + 1) := by rw [Nat.pow_succ, Nat.div_div_eq_div_mul]
      have E := Lib.hid e
      have hle : v / 2 ^ j ≤ v := Nat.div_le_self _ _
      clear e
      generalize v / 2 ^ j = V at *
      go_wp2
      go_round
      case rel => exact ⟨j + 1, by omega, by go_num, congrArg (Value.int .u64) (by rw [← E.out]; simp)⟩
      case measure => simp [intOf]; omega
    · obtain rfl : j = k := by omega
      have hb : (((v / 2 ^ j : Nat) : Int) == 0) = x := by
        rw [← HT.out]
        generalize v / 2 ^ j = V
        by_cases h : V = 0
        · subst h; rfl
        · have h1 : (V == 0) = false := by simp [h]
          have h2 : ((V : Int) == 0) = false := by rw [beq_eq_false_iff_ne]; omega
          rw [h1, h2]
      obtain ⟨V, hV⟩ : ∃ V, v / 2 ^ j = V := ⟨_, rfl⟩
      rw [hV] at hb
      rw [hV]
      clear hV
      go_wp2
      go_ret
      exact ⟨rfl, rfl⟩
/-- Bits of a number, as cells. -/
def bitsV (N n : Nat) : List Value := rowV (fun i => .bool (bitB N i)) n
theorem bitsV_succ (N n : Nat) : bitsV N (n + 1) = bitsV N n ++ [.bool (bitB N n)] := rowV_succ _ _
theorem bitB_low {N c v i : Nat} (hN : N < 2 ^ c) (hi : i < c) : bitB (N + v * 2 ^ c) i = bitB N i := by
  unfold bitB
  obtain ⟨d, rfl⟩ : ∃ d, c = i + 1 + d := ⟨c - i - 1, by omega⟩
  have e : v * 2 ^ (i + 1 + d) = 2 * (v * 2 ^ d) * 2 ^ i := by rw [Nat.pow_add, Nat.pow_succ]; ac_rfl
  rw [e, Nat.add_mul_div_right _ _ (Nat.pow_pos (by decide))]
  have : (N / 2 ^ i + 2 * (v * 2 ^ d)) % 2 = N / 2 ^ i % 2 := by omega
  rw [this]
theorem bitB_high {N c v i : Nat} (hN : N < 2 ^ c) : bitB (N + v * 2 ^ c) (c + i) = bitB v i := by
  unfold bitB
  rw [Nat.pow_add, ← Nat.div_div_eq_div_mul, Nat.add_mul_div_right _ _ (Nat.pow_pos (by decide)), Nat.div_eq_of_lt hN, Nat.zero_add]
theorem bitsV_append (N c v k : Nat) (hN : N < 2 ^ c) : bitsV N c ++ bitsV v k = bitsV (N + v * 2 ^ c) (c + k) := by
  induction k with
  | zero =>
    simp only [bitsV, rowV, List.range_zero, List.map_nil, List.append_nil, Nat.add_zero]
    exact List.map_congr_left fun i hi => by rw [bitB_low hN (by simpa using hi)]
  | succ k ih =>
    rw [bitsV_succ, ← List.append_assoc, ih, ← Nat.add_assoc, bitsV_succ, bitB_high hN]
set_option maxRecDepth 100000 in
set_option maxHeartbeats 1000000 in
theorem rbits_any (v k : Nat) (hv : v < 18446744073709551616) (hk : k ≤ 64) (w : World) :
    Calls Tryd.prog 25 #[.int .u64 v, .int .i64 k] w fun e w' => ∃ x, e = .returned x ∧ w'.ownsRow w.heap.size 4 1 x k (bitsV v k) ∧ Below w.heap.size w w' := by
  obtain ⟨i0, hi, hz0, hz1, hz2⟩ := info_parts boolInfo
  have hk1 : (k : Int) ≤ 64 := by omega
  go_enter Tryd.func25, Tryd.ntmps25
  go_wp2
  go_loopw [0, 5, 6] (fun u x i wr => ∃ j : Nat, j ≤ k ∧ i = .int .i64 j ∧ u = .int .u64 ((v / 2 ^ j : Nat) : Int) ∧ wr.ownsRow w.heap.size 4 1 x j (bitsV v j) ∧ Below w.heap.size w wr) (fun _ _ i _ => k - (intOf i).toNat)
  case atStart => exact ⟨0, by omega, rfl, by simp, World.ownsRow_nil _ _ _ _, Below.refl _ _⟩
  case round =>
    obtain ⟨j, hj, rfl, rfl, ho, hb⟩ := hrel
    have HO := Lib.hid ho
    have HB := Lib.hid hb
    have hsz := hb.size
    clear ho hb
    by_cases hjk : j < k
    · have j1 : (j : Int) < k := by omega
      have e : v / 2 ^ j / 2 = v / 2 ^ (j + 1) := by rw [Nat.pow_succ, Nat.div_div_eq_div_mul]
      have E := Lib.hid e
      have hle : v / 2 ^ j ≤ v := Nat.div_le_self _ _
      have hb2 : ((((v / 2 ^ j : Nat) : Int) % 2) == 1) = bitB v j := by
        unfold bitB
        generalize v / 2 ^ j = V
        by_cases h : V % 2 = 1
        · have : ((V : Int) % 2) = 1 := by omega
          rw [this, h]; rfl
        · have h0 : V % 2 = 0 := by omega
          have : ((V : Int) % 2) = 0 := by omega
          rw [this, h0]; rfl
      have E2 := Lib.hid (bitsV_succ v j)
      clear e
      generalize bitB v j = x at *
      generalize v / 2 ^ j = V at *
      go_wp2_with (at_builtin; go_must (refine wpList_append_own_at _ rfl _ _ 51 rfl w.heap.size 4 i0 (.bool false) 1 1 Tryd.underlying51 hi hz0 hz1 hz2 rfl (by decide) _ _ _ rfl (HO.out.alloc _) ⟨wr.heap.size, 0, none⟩ 1 1 [.bool x] rfl rfl (cell_one_new _ _ _) (by simp [Value.oneCell']) (by unfold maxLen; omega) (by omega) (by simp; omega) ?_); intro v2 w2 hown2 hgrow2 _ _; have HO2 := Lib.hid hown2; have HG2 := Lib.hid hgrow2; clear hown2 hgrow2)
      go_roundw
      case rel => exact ⟨j + 1, by omega, by go_num, congrArg (Value.int .u64) (by rw [← E.out]; simp), by rw [E2.out]; exact HO2.out, (HB.out.alloc hsz _).grown HG2.out (by simp; omega) (fun i hi => (HO.out.lt i hi).1)⟩
      case measure => simp [intOf]; omega
    · obtain rfl : j = k := by omega
      go_wp2
      go_ret
      exact ⟨_, rfl, HO.out, HB.out⟩
theorem bit_cells (n q i N : Nat) (hq : i / 8 = q) (hqn : q < n) :
    (cellsOf (bytesOf n (N % 2 ^ i))).set q (.int .u8 (((N % 2 ^ i) / 256 ^ q % 256 + 2 ^ (i % 8) : Nat) : Int)) = cellsOf (bytesOf n (N % 2 ^ i + 2 ^ i)) ∧ (N % 2 ^ i) / 256 ^ q % 256 + 2 ^ (i % 8) < 256 := by
  have hM : N % 2 ^ i < 2 ^ i := Nat.mod_lt _ (Nat.pow_pos (by decide))
  generalize N % 2 ^ i = M at *
  have hx : (1 : Nat) % 2 ^ (8 - i % 8) = 1 := Nat.mod_eq_of_lt (Nat.one_lt_two_pow (by omega))
  have hp := fun k => put_step M i 1 k hM
  simp only [hx, Nat.one_mul, hq] at hp
  have hr : i % 8 < 8 := Nat.mod_lt _ (by decide)
  have h2r : 2 ^ (i % 8) ≤ 128 := (Nat.pow_le_pow_right (by decide) (by omega : i % 8 ≤ 7) : 2 ^ (i % 8) ≤ 2 ^ 7)
  have hlow : M / 256 ^ q < 2 ^ (i % 8) := by
    rw [Nat.div_lt_iff_lt_mul (Nat.pow_pos (by decide)), Nat.mul_comm, ← hq, ← pow8]; exact hM
  have hor : (M / 256 ^ q % 256) ||| (1 * 2 ^ (i % 8) % 256) = M / 256 ^ q % 256 + 2 ^ (i % 8) := by
    rw [Nat.mod_eq_of_lt (by omega : M / 256 ^ q < 256), Nat.one_mul, Nat.mod_eq_of_lt (by omega : 2 ^ (i % 8) < 256)]
    have := or_add (M / 256 ^ q) 1 (i % 8) hlow
    rwa [Nat.one_mul] at this
  rw [Nat.one_mul] at hor
  rw [hor] at hp
  have hs : M / 256 ^ q % 256 + 2 ^ (i % 8) < 256 := by
    have h1 := Nat.mod_le (M / 256 ^ q) 256
    have h2 : M / 256 ^ q < 128 := Nat.lt_of_lt_of_le hlow h2r
    have h3 : 2 ^ (i % 8) < 129 := Nat.lt_of_le_of_lt h2r (by decide)
    omega
  refine ⟨?_, hs⟩
  apply List.ext_getElem?
  intro j
  by_cases hj : j < n
  · by_cases e : j = q
    · subst e
      rw [List.getElem?_set_self (by simp [cellsOf, bytesOf, hqn])]
      simp only [cellsOf, List.getElem?_map, bytesOf_get _ _ _ hj]
      rw [hp j, if_pos rfl]; rfl
    · rw [List.getElem?_set_ne (by omega)]
      simp only [cellsOf, List.getElem?_map, bytesOf_get _ _ _ hj]
      rw [hp j, if_neg e]
  · rw [List.getElem?_eq_none (by simp [cellsOf, bytesOf]; omega), List.getElem?_eq_none (by simp [cellsOf, bytesOf]; omega)]
theorem mod_up (N i : Nat) : N % 2 ^ (i + 1) = N % 2 ^ i + if bitB N i then 2 ^ i else 0 := by
  rw [Nat.pow_succ, Nat.mod_mul, bitB_val]
  split <;> simp
set_option maxRecDepth 100000 in
set_option maxHeartbeats 1000000 in
theorem rbytes_any (a : Option Addr) (c cap N : Nat) (hN : N < 2 ^ c) (hc : c ≤ 80000) (w : World) (h : RowOf w a c (fun i => .bool (bitB N i))) :
    Calls Tryd.prog 27 #[.slice a c cap] w fun e w' => ∃ x, e = .returned x ∧ w'.ownsRow w.heap.size 5 1 x ((c + 7) / 8) (cellsOf (bytesOf ((c + 7) / 8) N)) ∧ Below w.heap.size w w' := by
  obtain ⟨i0, hi, hz0, hz1, hz2⟩ := info_parts byteInfo
  have H := Lib.hid h
  have HN := Lib.hid hN
  have hc0 : (c : Int) ≤ 80000 := by omega
  have hn : ((c : Int) + 7) / 8 = ((c + 7) / 8 : Nat) := by omega
  obtain ⟨n, hnn⟩ : ∃ n, (c + 7) / 8 = n := ⟨_, rfl⟩
  rw [hnn] at hn
  rw [hnn]
  have HNN := Lib.hid hnn
  have hn8 : n ≤ 10001 := by omega
  have hz : (madeCells #[Value.int .u8 0] (n * 1)).toList = cellsOf (bytesOf n 0) := by
    rw [Nat.mul_one, toList_madeCells_one]
    apply List.ext_getElem?
    intro j
    by_cases hj : j < n
    · simp [cellsOf, bytesOf, hj]
    · rw [List.getElem?_eq_none (by simp; omega), List.getElem?_eq_none (by simp [cellsOf, bytesOf]; omega)]
  have HZ := Lib.hid hz
  clear h hN hnn hz
  go_enter Tryd.func27, Tryd.ntmps27
  go_wp2_with (at_make; go_must (refine wpList_make_full _ rfl _ _ 27 rfl w.heap.size 5 i0 (.int .u8 0) 1 Tryd.underlying27 hi hz0 hz1 _ _ _ _ n rfl rfl (by first | rfl | assumption) (by first | rfl | assumption) (by rw [hz2]; omega) (by unfold maxLen; omega) (by omega) ?_); intro w2 hown hg; rw [show (Value.int .u8 0).cells = #[Value.int .u8 0] from rfl, HZ.out] at hown; have HO := Lib.hid hown; have HG := Lib.hid hg; clear hown hg)
  obtain ⟨g, hgg⟩ : ∃ g, w.heap.size = g := ⟨_, rfl⟩
  have HB : Below w.heap.size w w2 := (Below.refl _ w).grown HG.out (Nat.le_refl _) (fun k hk => by cases hk)
  have HB := Lib.hid HB
  clear HG
  rw [hgg] at HO
  rw [hgg]
  have HGG := Lib.hid hgg
  clear hgg hn
  go_loopw [4] (fun x wr => ∃ i : Nat, i ≤ c ∧ x = .int .i64 i ∧ wr.ownsRow g 5 1 (.slice (some ⟨g, 0, none⟩) n n) n (cellsOf (bytesOf n (N % 2 ^ i))) ∧ Below w.heap.size w wr) (fun x _ => c - (intOf x).toNat)
  case atStart => exact ⟨0, by omega, rfl, by simpa [Nat.mod_one] using HO.out, HB.out⟩
  case round =>
    obtain ⟨i, hi1, rfl, ho, hb⟩ := hrel
    by_cases hic : i < c
    · have i1 : (i : Int) < c := by omega
      obtain ⟨b, off, rfl, hblt, hcell⟩ := (H.out.below hb).at_ hic
      have c0 : wr.cell? ⟨b, off + i, none⟩ = some (.bool (bitB N i)) := hcell i hic
      obtain ⟨q, hq⟩ : ∃ q, i / 8 = q := ⟨_, rfl⟩
      have hqn : q < n := by have := HNN.out; omega
      have qi : (i : Int) / 8 = q := by omega
      have q1 : (q : Int) < n := by omega
      have q0 : (0 : Int) ≤ q := by omega
      have d0 : wr.cell? ⟨g, q, none⟩ = some (.int .u8 ((N % 2 ^ i / 256 ^ q % 256 : Nat) : Int)) := by
        rw [ho.cellAt q (by omega)]
        simp [cellsOf, bytesOf, hqn]
      have d1 := ho.frozenAt q
      obtain ⟨C1, C2⟩ := bit_cells n q i N hq hqn
      have HC1 := Lib.hid C1
      have HO2 := Lib.hid ho
      have HB2 := Lib.hid hb
      have MU := Lib.hid (mod_up N i)
      clear C1 ho hb hcell hq
      generalize N % 2 ^ i / 256 ^ q % 256 = V at *
      generalize bitB N i = x at *
      cases x
      · go_wp2
        go_roundw
        case rel => exact ⟨i + 1, by omega, by go_num, by rw [MU.out]; simpa using HO2.out, HB2.out⟩
        case measure => simp [intOf]; omega
      · have hval : ((V : Int) + 2 ^ (i % 8)) % 256 = ((V + 2 ^ (i % 8) : Nat) : Int) := by
          have : (2 : Int) ^ (i % 8) = ((2 ^ (i % 8) : Nat) : Int) := by simp
          rw [this, ← Int.natCast_add]
          generalize V + 2 ^ (i % 8) = y at *
          omega
        have HV := Lib.hid hval
        clear hval
        go_wp2
        go_region
        go_wp2
        rw [HV.out]
        go_roundw
        case rel =>
          refine ⟨i + 1, by omega, by go_num, ?_, ?_⟩
          · rw [MU.out, if_pos trivial, ← HC1.out]
            exact (HO2.out.stored q _).1
          · exact (HB2.out.setCell (p := ⟨g, q, none⟩) (by have := HGG.out; simp; omega) _).drew
        case measure => simp [intOf]; omega
    · obtain rfl : i = c := by omega
      have HO2 := Lib.hid ho
      have HB2 := Lib.hid hb
      clear ho hb
      go_wp2
      go_ret
      refine ⟨_, rfl, ?_, HB2.out⟩
      have h1 := HO2.out
      rw [Nat.mod_eq_of_lt HN.out] at h1
      exact owns_base h1 (fun j hj => by have := (h1.lt j hj).1; have := HGG.out; omega)
end Go.Proofs.YtelcaejiipibpaaDoor
