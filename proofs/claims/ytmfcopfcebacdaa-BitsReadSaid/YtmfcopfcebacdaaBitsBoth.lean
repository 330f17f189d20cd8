/-
  WHAT THE PROGRAM AND THE DOCUMENT TELL OF PACKED NUMBERS IS THE SAME, for any numbers, any bytes, any widths. Conditions: the rows lie in memory.
-/
import Derived.Test.YtmfcopfcebacdaaBitsAwake
import Derived.Test.YtmfcopfcebacdaaIsRow
import Derived.Laws.StructEq
import Derived.MapKept
namespace Go.Proofs.Ytmfcopfcebacdaa
open Go.RowKit
set_option linter.unusedVariables false
theorem IsRow.u64s {w : World} {a : Option Addr} {len cap : Nat} {z : List Int} (h : IsRow .u64 w a len cap z) : U64s w a len (fun i => (z.getD i 0).toNat) := by
  obtain ⟨hl, hm, hz, hw, h0⟩ := h
  have hb : ∀ i, i < len → 0 ≤ z.getD i 0 ∧ z.getD i 0 < 18446744073709551616 := fun i hi => by
    have hm : z.getD i 0 ∈ z := by simp [List.getD, (by omega : i < z.length)]
    have := bounds_u64 (hw _ hm)
    omega
  refine ⟨?_, fun i hi => by have := hb i hi; show (z.getD i 0).toNat < _; omega⟩
  rcases h0 with h0 | ⟨b, off, rfl, _, hc⟩
  · exact .inl (by omega)
  · exact .inr ⟨b, off, rfl, fun i hi => by rw [hc i (by omega)]; show some (Value.int .u64 _) = some (Value.int .u64 ((z.getD i 0).toNat : Int)); rw [Int.toNat_of_nonneg (hb i hi).1]⟩
theorem IsRow.bytes {w : World} {a : Option Addr} {len cap : Nat} {z : List Int} (h : IsRow .u8 w a len cap z) : RowOf w a len (fun i => .int .u8 (z.getD i 0)) ∧ ∀ i, i < len → 0 ≤ z.getD i 0 ∧ z.getD i 0 ≤ 255 := by
  obtain ⟨hl, hm, hz, hw, h0⟩ := h
  have hb : ∀ i, i < len → 0 ≤ z.getD i 0 ∧ z.getD i 0 ≤ 255 := fun i hi => by
    have hm : z.getD i 0 ∈ z := by simp [List.getD, (by omega : i < z.length)]
    exact bounds_u8 (hw _ hm)
  refine ⟨?_, hb⟩
  rcases h0 with h0 | ⟨b, off, rfl, _, hc⟩
  · exact .inl (by omega)
  · exact .inr ⟨b, off, rfl, fun i hi => hc i (by omega)⟩
theorem IsRow.ints {k : IntKind} {w : World} {a : Option Addr} {len cap : Nat} {z : List Int} (h : IsRow k w a len cap z) : RowOf w a len (fun i => .int k (z.getD i 0)) := by
  obtain ⟨hl, hm, hz, hw, h0⟩ := h
  rcases h0 with h0 | ⟨b, off, rfl, _, hc⟩
  · exact .inl (by omega)
  · exact .inr ⟨b, off, rfl, fun i hi => hc i (by omega)⟩
theorem U64s.below {w w' : World} {a : Option Addr} {len : Nat} {l : Nat → Nat} (h : U64s w a len l) (k : Below w.heap.size w w') : U64s w' a len l := ⟨h.1.below k, h.2⟩
/-- The first that is not so. -/
theorem first_not (p : Nat → Prop) (n : Nat) : ∃ f, f ≤ n ∧ (∀ i, i < f → p i) ∧ (f < n → ¬ p f) := by
  induction n with
  | zero => exact ⟨0, by omega, fun i hi => by omega, fun h => by omega⟩
  | succ n ih =>
    obtain ⟨f, hf, h1, h2⟩ := ih
    by_cases hfn : f < n
    · exact ⟨f, by omega, h1, fun _ => h2 hfn⟩
    · obtain rfl : f = n := by omega
      by_cases hp : p f
      · exact ⟨f + 1, by omega, fun i hi => by
          by_cases e : i = f
          · subst e; exact hp
          · exact h1 i (by omega), fun h => by omega⟩
      · exact ⟨f, by omega, h1, fun _ => hp⟩
/-- A call tells bytes of its own, and an error. -/
def TellsBytes (xs : List Int) (er : Int) (w : World) (e : Ending) (w' : World) : Prop :=
  ∃ v, e = .returned (.tuple #[v, .int .i64 er]) ∧ w'.ownsRow w.heap.size 5 1 v xs.length (cellsOf xs) ∧ Below w.heap.size w w'
theorem pack_both (width : Int) (a : Option Addr) (len cap : Nat) (l : Nat → Nat) : ∃ xs er, ∀ w, U64s w a len l →
    Calls Try.prog 28 #[.int .i64 width, .slice a len cap] w (TellsBytes xs er w) ∧ Calls Try.prog 29 #[.int .i64 width, .slice a len cap] w (TellsBytes xs er w) := by
  by_cases hw : 0 ≤ width ∧ width ≤ 64
  · obtain ⟨k, rfl⟩ : ∃ k : Nat, width = k := ⟨width.toNat, by omega⟩
    by_cases hl : 1024 < len
    · exact ⟨[], 7, fun w h => ⟨(pack_count _ hw a len cap hl w).mono fun e w' ⟨he, hw'⟩ => by subst hw'; exact ⟨_, he, World.ownsRow_nil _ _ _ _, Below.refl _ _⟩,
        (rpack_count _ hw a len cap hl w).mono fun e w' ⟨he, hw'⟩ => by subst hw'; exact ⟨_, he, World.ownsRow_nil _ _ _ _, Below.refl _ _⟩⟩⟩
    · obtain ⟨f, hf, h1, h2⟩ := first_not (fun i => l i < 2 ^ k) len
      by_cases hfl : f < len
      · refine ⟨[], 4, fun w h => ⟨(pack_any k (by omega) a len cap l f (by omega) hf h1 h2 w h).mono fun e w' he => ?_, (rpack_any k (by omega) a len cap l f (by omega) hf h1 h2 w h).mono fun e w' he => ?_⟩⟩
        all_goals
          unfold PackEnd at he
          rw [if_pos hfl] at he
          exact ⟨_, he.1, World.ownsRow_nil _ _ _ _, he.2⟩
      · refine ⟨bytesOf (need len k) (packN k l len), 0, fun w h => ⟨(pack_any k (by omega) a len cap l f (by omega) hf h1 h2 w h).mono fun e w' he => ?_, (rpack_any k (by omega) a len cap l f (by omega) hf h1 h2 w h).mono fun e w' he => ?_⟩⟩
        all_goals
          unfold PackEnd at he
          rw [if_neg hfl] at he
          obtain ⟨v, he, ho, hb⟩ := he
          exact ⟨_, he, by rw [bytesOf_length]; exact ho, hb⟩
  · exact ⟨[], 6, fun w h => ⟨(pack_width _ hw _ w).mono fun e w' ⟨he, hw'⟩ => by subst hw'; exact ⟨_, he, World.ownsRow_nil _ _ _ _, Below.refl _ _⟩,
      (rpack_width _ hw _ w).mono fun e w' ⟨he, hw'⟩ => by subst hw'; exact ⟨_, he, World.ownsRow_nil _ _ _ _, Below.refl _ _⟩⟩⟩
theorem need_both (n width : Int) : ∃ d : Int, (∀ w, Calls Try.prog 30 #[.int .i64 n, .int .i64 width] w fun e w' => e = .returned (.int .i64 d) ∧ w = w') ∧
    ∀ w, Calls Try.prog 31 #[.int .i64 n, .int .i64 width] w fun e w' => e = .returned (.int .i64 d) ∧ w = w' := by
  by_cases h : (0 ≤ n ∧ n ≤ 1024) ∧ (0 ≤ width ∧ width ≤ 64)
  · obtain ⟨k, rfl⟩ : ∃ k : Nat, width = k := ⟨width.toNat, by omega⟩
    obtain ⟨m, rfl⟩ : ∃ m : Nat, n = m := ⟨n.toNat, by omega⟩
    exact ⟨_, fun w => need_yes m k (by omega) (by omega) w, fun w => rneed_yes m k (by omega) (by omega) w⟩
  · exact ⟨0, fun w => need_no n width (by omega) w, fun w => rneed_no n width (by omega) w⟩
/-- What string(b) is, of bytes of one's own, as long as they lie. -/
theorem own_conv {w : World} {base n : Nat} {v : Value} {xs : List Int} (h : w.ownsRow base 5 1 v n (cellsOf xs)) : ∃ a cap, v = .slice a n cap ∧ (∀ W, Below w.heap.size w W →
    (convert 34 9 (.slice a n cap)).run Try.prog W = .ok (.string (strOfNums xs)) W) := by
  have hl : xs.length = n := by have := h.1; simpa [cellsOf] using this
  obtain ⟨a, cap, rfl, hr, _, _, _⟩ := own_reads h
  refine ⟨a, cap, rfl, fun W hW => conv_list a n cap xs hl W ((hr.below hW).congr fun i hi => ?_)⟩
  simp [cellsOf, (by omega : i < xs.length)]
/-- A call tells numbers of its own, and an error. -/
def TellsU64 (m : Nat) (ys : Nat → Nat) (er : Int) (w : World) (e : Ending) (w' : World) : Prop :=
  ∃ v, e = .returned (.tuple #[v, .int .i64 er]) ∧ w'.ownsRow w.heap.size 29 1 v m (rowV (fun i => .int .u64 (ys i : Nat)) m) ∧ Below w.heap.size w w'
theorem unN_lt (k M i : Nat) (hk : k ≤ 64) : unN k M i < 18446744073709551616 := by
  have h1 : unN k M i < 2 ^ k := Nat.mod_lt _ (Nat.pow_pos (by decide))
  have := pow_le64 hk
  omega
theorem unpack_both (a : Option Addr) (len cap : Nat) (z : Nat → Int) (width n : Int) (hz : ∀ i, i < len → 0 ≤ z i ∧ z i ≤ 255) : ∃ m ys er, m ≤ 1024 ∧ (∀ i, i < m → ys i < 18446744073709551616) ∧ ∀ w, RowOf w a len (fun i => .int .u8 (z i)) →
    Calls Try.prog 32 #[.slice a len cap, .int .i64 width, .int .i64 n] w (TellsU64 m ys er w) ∧ Calls Try.prog 33 #[.slice a len cap, .int .i64 width, .int .i64 n] w (TellsU64 m ys er w) := by
  have nil : ∀ (w w' : World), w = w' → w'.ownsRow w.heap.size 29 1 (.slice none 0 0) 0 (rowV (fun i => .int .u64 ((0 : Nat) : Int)) 0) ∧ Below w.heap.size w w' := fun w w' h => by subst h; exact ⟨World.ownsRow_nil _ _ _ _, Below.refl _ _⟩
  by_cases hw : 0 ≤ width ∧ width ≤ 64
  · obtain ⟨k, rfl⟩ : ∃ k : Nat, width = k := ⟨width.toNat, by omega⟩
    by_cases hn : 0 ≤ n ∧ n ≤ 1024
    · obtain ⟨m, rfl⟩ : ∃ m : Nat, n = m := ⟨n.toNat, by omega⟩
      by_cases hl : len = need m k
      · subst hl
        by_cases hM : num z (need m k) < 2 ^ (m * k)
        · refine ⟨m, unN k (num z (need m k)), 0, by omega, fun i _ => unN_lt k _ i (by omega), fun w h => ⟨(unpack_any a cap k m z hz (by omega) (by omega) w h).mono fun e w' he => ?_, (runpack_any a cap k m z hz (by omega) (by omega) w h).mono fun e w' he => ?_⟩⟩
          all_goals
            unfold UnpackEnd at he
            rw [if_pos hM] at he
            exact he
        · refine ⟨0, fun _ => 0, 3, by omega, fun i hi => by omega, fun w h => ⟨(unpack_any a cap k m z hz (by omega) (by omega) w h).mono fun e w' he => ?_, (runpack_any a cap k m z hz (by omega) (by omega) w h).mono fun e w' he => ?_⟩⟩
          all_goals
            unfold UnpackEnd at he
            rw [if_neg hM] at he
            exact ⟨_, he.1, World.ownsRow_nil _ _ _ _, he.2⟩
      · exact ⟨0, fun _ => 0, _, by omega, fun i hi => by omega, fun w h => ⟨(unpack_size a len cap k m (by omega) (by omega) hl w).mono fun e w' ⟨he, hw'⟩ => ⟨_, he, nil w w' hw'⟩, (runpack_size a len cap k m (by omega) (by omega) hl w).mono fun e w' ⟨he, hw'⟩ => ⟨_, he, nil w w' hw'⟩⟩⟩
    · exact ⟨0, fun _ => 0, 7, by omega, fun i hi => by omega, fun w h => ⟨(unpack_count _ _ n hw hn w).mono fun e w' ⟨he, hw'⟩ => ⟨_, he, nil w w' hw'⟩, (runpack_count _ _ n hw hn w).mono fun e w' ⟨he, hw'⟩ => ⟨_, he, nil w w' hw'⟩⟩⟩
  · exact ⟨0, fun _ => 0, 6, by omega, fun i hi => by omega, fun w h => ⟨(unpack_width _ width n hw w).mono fun e w' ⟨he, hw'⟩ => ⟨_, he, nil w w' hw'⟩, (runpack_width _ width n hw w).mono fun e w' ⟨he, hw'⟩ => ⟨_, he, nil w w' hw'⟩⟩⟩
/-- Numbers of one's own read so as long as they lie. -/
theorem own_u64s {w : World} {base m : Nat} {v : Value} {ys : Nat → Nat} (h : w.ownsRow base 29 1 v m (rowV (fun i => .int .u64 (ys i : Nat)) m)) (hy : ∀ i, i < m → ys i < 18446744073709551616) :
    ∃ a cap, v = .slice a m cap ∧ ∀ W, Below w.heap.size w W → U64s W a m ys := by
  obtain ⟨a, cap, rfl, hr, _⟩ := own_reads' h
  exact ⟨a, cap, rfl, fun W hW => ⟨hr.below hW, hy⟩⟩
theorem unN_packN (k : Nat) (l : Nat → Nat) : ∀ n, (∀ i, i < n → l i < 2 ^ k) → ∀ i, i < n → unN k (packN k l n) i = l i
  | 0, _, i, hi => by omega
  | n + 1, h, i, hi => by
    have hlt := packN_lt k l n (fun i hi => h i (by omega))
    unfold unN
    simp only [packN]
    by_cases e : i = n
    · subst e
      rw [Nat.add_mul_div_right _ _ (Nat.pow_pos (by decide)), Nat.div_eq_of_lt hlt, Nat.zero_add, Nat.mod_eq_of_lt (h i (by omega))]
    · have hi' : i < n := by omega
      have ih := unN_packN k l n (fun i hi => h i (by omega)) i hi'
      unfold unN at ih
      obtain ⟨d, hd⟩ : ∃ d, n = i + 1 + d := ⟨n - i - 1, by omega⟩
      have e2 : l n * 2 ^ (n * k) = 2 ^ k * (l n * 2 ^ (d * k)) * 2 ^ (i * k) := by
        have : 2 ^ (n * k) = 2 ^ (i * k) * (2 ^ k * 2 ^ (d * k)) := by
          rw [← Nat.pow_add, ← Nat.pow_add]
          congr 1
          rw [hd]; grind
        rw [this]; ac_rfl
      rw [e2, Nat.add_mul_div_right _ _ (Nat.pow_pos (by decide)), Nat.add_mul_mod_self_left, ih]
theorem bytes_back (n : Nat) (z : Nat → Int) (hz : ∀ i, i < n → 0 ≤ z i ∧ z i ≤ 255) : bytesOf n (num z n) = (List.range n).map z := by
  unfold bytesOf
  apply List.map_congr_left
  intro i hi
  have hi : i < n := by simpa using hi
  rw [num_byte z n hz i hi]
  have := hz i hi
  omega
theorem packN_unN (k M : Nat) : ∀ n, packN k (unN k M) n = M % 2 ^ (n * k)
  | 0 => by simp [packN, Nat.mod_one]
  | n + 1 => by
    simp only [packN]
    rw [packN_unN k M n]
    unfold unN
    rw [Nat.succ_mul, Nat.pow_add, Nat.mod_mul, Nat.mul_comm (2 ^ (n * k))]
theorem byte_inj {a b : Nat} (ha : a < 256) (hb : b < 256) (h : UInt8.ofNat a = UInt8.ofNat b) : a = b := by
  have := congrArg UInt8.toNat h
  simp at this
  omega
/-- Two texts of bytes that are alike are of one number. -/
theorem text_inj (n M M' : Nat) (hM : M < 256 ^ n) (hM' : M' < 256 ^ n) (h : strOfNums (bytesOf n M) = strOfNums (bytesOf n M')) : M = M' := by
  have h1 := congrArg (fun s : ByteArray => s.data.toList) h
  simp only [strOfNums_data] at h1
  have hb : ∀ i, i < n → M / 256 ^ i % 256 = M' / 256 ^ i % 256 := fun i hi => by
    have h2 := congrArg (fun l : List UInt8 => l[i]?) h1
    simp only [List.getElem?_map, bytesOf_get _ _ _ hi, Option.map_some, Option.some.injEq, Int.toNat_natCast] at h2
    exact byte_inj (Nat.mod_lt _ (by decide)) (Nat.mod_lt _ (by decide)) h2
  have e1 := num_of M (fun i => ((M / 256 ^ i % 256 : Nat) : Int)) n (fun i _ => rfl)
  have e2 := num_of M' (fun i => ((M / 256 ^ i % 256 : Nat) : Int)) n (fun i hi => by rw [hb i hi])
  rw [e1, Nat.mod_eq_of_lt hM, Nat.mod_eq_of_lt hM'] at e2
  exact e2
theorem pack_small (k n : Nat) (l : Nat → Nat) (h : ∀ i, i < n → l i < 2 ^ k) : packN k l n < 256 ^ need n k := by
  have h1 := packN_lt k l n h
  have e : (256 : Nat) ^ need n k = 2 ^ (8 * need n k) := by rw [Nat.pow_mul]
  rw [e]
  exact Nat.lt_of_lt_of_le h1 (Nat.pow_le_pow_right (by decide) (by unfold need; omega))
/-- What Pack tells, of any numbers. -/
theorem pack_tells (width : Int) (a : Option Addr) (len cap : Nat) (l : Nat → Nat) : ∃ xs er, (∀ w, U64s w a len l → Calls Try.prog 28 #[.int .i64 width, .slice a len cap] w (TellsBytes xs er w)) ∧
    ((er = 0 ∧ ∃ k : Nat, width = k ∧ k ≤ 64 ∧ len ≤ 1024 ∧ xs = bytesOf (need len k) (packN k l len) ∧ ∀ i, i < len → l i < 2 ^ k) ∨ ((er == 0) = false ∧ (er != 0) = true ∧ xs = [])) := by
  have nil : ∀ (w w' : World) (e : Ending) (er : Int), e = .returned (.tuple #[.slice none 0 0, .int .i64 er]) → Below w.heap.size w w' → TellsBytes [] er w e w' := fun w w' e er he hb => ⟨_, he, World.ownsRow_nil _ _ _ _, hb⟩
  by_cases hw : 0 ≤ width ∧ width ≤ 64
  · obtain ⟨k, rfl⟩ : ∃ k : Nat, width = k := ⟨width.toNat, by omega⟩
    by_cases hl : 1024 < len
    · exact ⟨[], 7, fun w h => (pack_count _ hw a len cap hl w).mono fun e w' ⟨he, hw'⟩ => by subst hw'; exact nil _ _ _ _ he (Below.refl _ _), .inr ⟨rfl, rfl, rfl⟩⟩
    · obtain ⟨f, hf, h1, h2⟩ := first_not (fun i => l i < 2 ^ k) len
      by_cases hfl : f < len
      · exact ⟨[], 4, fun w h => (pack_no k (by omega) a len cap l f (by omega) hfl h1 (h2 hfl) w h).mono fun e w' ⟨he, hb⟩ => nil _ _ _ _ he hb, .inr ⟨rfl, rfl, rfl⟩⟩
      · obtain rfl : f = len := by omega
        exact ⟨bytesOf (need f k) (packN k l f), 0, fun w h => (pack_ok k (by omega) a f cap l (by omega) h1 w h).mono fun e w' ⟨v, he, ho, hb⟩ => ⟨v, he, by rw [bytesOf_length]; exact ho, hb⟩, .inl ⟨rfl, k, rfl, by omega, by omega, rfl, h1⟩⟩
  · exact ⟨[], 6, fun w h => (pack_width _ hw _ w).mono fun e w' ⟨he, hw'⟩ => by subst hw'; exact nil _ _ _ _ he (Below.refl _ _), .inr ⟨rfl, rfl, rfl⟩⟩
theorem packN_congr (k : Nat) (l r : Nat → Nat) : ∀ n, (∀ i, i < n → l i = r i) → packN k l n = packN k r n
  | 0, _ => rfl
  | n + 1, h => by simp only [packN]; rw [packN_congr k l r n (fun i hi => h i (by omega)), h n (by omega)]
theorem text_beq (s t : ByteArray) : (s.toList == t.toList) = decide (s = t) := by
  rw [← beq_toListBytes]
  by_cases h : s = t
  · rw [decide_eq_true h]; exact (Go.MapKept.bytes_beq s t).2 h
  · rw [decide_eq_false h]
    cases hb : (s == t) with
    | false => rfl
    | true => exact absurd ((Go.MapKept.bytes_beq s t).1 hb) h
/-- What Unpack tells, of any bytes. -/
theorem unpack_tells (a : Option Addr) (len cap : Nat) (z : Nat → Int) (width n : Int) (hz : ∀ i, i < len → 0 ≤ z i ∧ z i ≤ 255) : ∃ m ys er, m ≤ 1024 ∧ (∀ i, i < m → ys i < 18446744073709551616) ∧ (∀ w, RowOf w a len (fun i => .int .u8 (z i)) →
    Calls Try.prog 32 #[.slice a len cap, .int .i64 width, .int .i64 n] w (TellsU64 m ys er w)) ∧
    ((er = 0 ∧ ∃ k : Nat, width = k ∧ k ≤ 64 ∧ len = need m k ∧ ys = unN k (num z len) ∧ num z len < 2 ^ (m * k)) ∨ ((er == 0) = false ∧ (er != 0) = true ∧ m = 0)) := by
  have nil : ∀ (w w' : World), w = w' → w'.ownsRow w.heap.size 29 1 (.slice none 0 0) 0 (rowV (fun i => .int .u64 ((0 : Nat) : Int)) 0) ∧ Below w.heap.size w w' := fun w w' h => by subst h; exact ⟨World.ownsRow_nil _ _ _ _, Below.refl _ _⟩
  by_cases hw : 0 ≤ width ∧ width ≤ 64
  · obtain ⟨k, rfl⟩ : ∃ k : Nat, width = k := ⟨width.toNat, by omega⟩
    by_cases hn : 0 ≤ n ∧ n ≤ 1024
    · obtain ⟨m, rfl⟩ : ∃ m : Nat, n = m := ⟨n.toNat, by omega⟩
      by_cases hl : len = need m k
      · subst hl
        by_cases hM : num z (need m k) < 2 ^ (m * k)
        · exact ⟨m, unN k (num z (need m k)), 0, by omega, fun i _ => unN_lt k _ i (by omega), fun w h => (unpack_any a cap k m z hz (by omega) (by omega) w h).mono fun e w' he => by unfold UnpackEnd at he; rw [if_pos hM] at he; exact he, .inl ⟨rfl, k, rfl, by omega, rfl, rfl, hM⟩⟩
        · exact ⟨0, fun _ => 0, 3, by omega, fun i hi => by omega, fun w h => (unpack_any a cap k m z hz (by omega) (by omega) w h).mono fun e w' he => by unfold UnpackEnd at he; rw [if_neg hM] at he; exact ⟨_, he.1, World.ownsRow_nil _ _ _ _, he.2⟩, .inr ⟨rfl, rfl, rfl⟩⟩
      · exact ⟨0, fun _ => 0, _, by omega, fun i hi => by omega, fun w h => (unpack_size a len cap k m (by omega) (by omega) hl w).mono fun e w' ⟨he, hw'⟩ => ⟨_, he, nil w w' hw'⟩, .inr ⟨by split <;> rfl, by split <;> rfl, rfl⟩⟩
    · exact ⟨0, fun _ => 0, 7, by omega, fun i hi => by omega, fun w h => (unpack_count _ _ n hw hn w).mono fun e w' ⟨he, hw'⟩ => ⟨_, he, nil w w' hw'⟩, .inr ⟨rfl, rfl, rfl⟩⟩
  · exact ⟨0, fun _ => 0, 6, by omega, fun i hi => by omega, fun w h => (unpack_width _ width n hw w).mono fun e w' ⟨he, hw'⟩ => ⟨_, he, nil w w' hw'⟩, .inr ⟨rfl, rfl, rfl⟩⟩
/-- WHAT IS PACKED IS UNPACKED AS IT WAS. -/
theorem unpack_packed (a : Option Addr) (cap k n : Nat) (l : Nat → Nat) (hk : k ≤ 64) (hn : n ≤ 1024) (hl : ∀ i, i < n → l i < 2 ^ k) (w : World) (h : RowOf w a (need n k) (fun i => .int .u8 ((packN k l n / 256 ^ i % 256 : Nat) : Int))) :
    Calls Try.prog 32 #[.slice a (need n k : Nat) cap, .int .i64 k, .int .i64 n] w (TellsU64 n l 0 w) := by
  have hM := pack_small k n l hl
  have e1 : num (fun i => ((packN k l n / 256 ^ i % 256 : Nat) : Int)) (need n k) = packN k l n := by
    rw [num_of (packN k l n) _ _ (fun i _ => rfl), Nat.mod_eq_of_lt hM]
  have h2 := unpack_any a cap k n (fun i => ((packN k l n / 256 ^ i % 256 : Nat) : Int)) (fun i _ => by omega) hk hn w h
  rw [e1] at h2
  refine h2.mono fun e w' he => ?_
  unfold UnpackEnd at he
  rw [if_pos (packN_lt k l n hl)] at he
  obtain ⟨v, he, ho, hb⟩ := he
  refine ⟨v, he, ?_, hb⟩
  rw [rowV_congr (g := fun i => .int .u64 (unN k (packN k l n) i : Nat)) (fun i hi => by rw [unN_packN k l n hl i hi])]
  exact ho
/-- Packed texts are alike just where the numbers are. -/
theorem pack_text (k n : Nat) (l r : Nat → Nat) (hl : ∀ i, i < n → l i < 2 ^ k) (hr : ∀ i, i < n → r i < 2 ^ k) :
    ((strOfNums (bytesOf (need n k) (packN k l n))).toList == (strOfNums (bytesOf (need n k) (packN k r n))).toList) = decide (n = n ∧ ∀ i, i < n → l i = r i) := by
  rw [text_beq]
  by_cases he : ∀ i, i < n → l i = r i
  · rw [packN_congr k l r n he, decide_eq_true (show n = n ∧ ∀ i, i < n → l i = r i from ⟨rfl, he⟩)]; exact decide_eq_true rfl
  · have hne : strOfNums (bytesOf (need n k) (packN k l n)) ≠ strOfNums (bytesOf (need n k) (packN k r n)) := fun hs => he (by
      have := text_inj _ _ _ (pack_small k n l hl) (pack_small k n r hr) hs
      intro i hi
      rw [← unN_packN k l n hl i hi, this, unN_packN k r n hr i hi])
    have h3 : ¬ (n = n ∧ ∀ i, i < n → l i = r i) := fun h => he h.2
    rw [decide_eq_false h3, decide_eq_false hne]
end Go.Proofs.Ytmfcopfcebacdaa
