/-
  WORDS FOR MEMORY, my own: a block known whole, what has turned from one world to the next, a row that reads so. No condition.
-/
import Derived.Test.YtelcaejiipibpaaDoorRows
import Derived.WalkKit
import Derived.Below
import Derived.Laws.OwnMore
import Derived.Laws.Rows
import Derived.Maps.AppendAt
import Derived.Deep.AppendLies
import Derived.Deep.Draws
import Derived.OwnWalk
import Derived.RegionTactic
namespace Go.Proofs.YtelcaejiipibpaaDoor
open Go.RowKit
set_option linter.unusedVariables false
theorem ret_int {k : IntKind} {a b : Int} (h : a = b) : Ending.returned (.int k a) = .returned (.int k b) := by rw [h]
theorem u64Info : (Tryd.prog.info? 48).map (fun i => (i.zero, i.size, i.bytes)) = some (some (.int .u64 0), 1, 8) := by kernel_rfl
/-- Block g is just these cells. -/
def Lies (w : World) (g : Nat) (t : TypeId) (cs : Array Value) : Prop := w.heap[g]? = some (.cells cs t (0, 0))
/-- From w to w' only the blocks that S names have turned, and new ones have come. -/
structure Turned (S : Nat → Prop) (w w' : World) : Prop where
  os : w'.os = w.os
  tape : w'.tape = w.tape
  output : w'.output = w.output
  size : w.heap.size ≤ w'.heap.size
  block : ∀ k, k < w.heap.size → ¬ S k → w'.heap[k]? = w.heap[k]?
section
variable {w w' w'' : World} {S : Nat → Prop} {g : Nat} {t : TypeId} {cs : Array Value}
theorem Lies.lt (h : Lies w g t cs) : g < w.heap.size := (Array.getElem?_eq_some_iff.1 h).1
theorem Lies.cell (h : Lies w g t cs) (i : Nat) : w.cell? ⟨g, i, none⟩ = cs[i]? := cell_of_row w g i cs t (0, 0) h
theorem Lies.frozen (h : Lies w g t cs) (i : Nat) : w.frozen? ⟨g, i, none⟩ = false := frozen_of_row w g i cs t h
theorem Lies.new (w : World) (t : TypeId) (cs : Array Value) : Lies (w.alloc (.cells cs t)) w.heap.size t cs := heap_alloc_new w _
theorem Lies.drew (h : Lies w g t cs) : Lies w.drew g t cs := h
theorem Lies.alloc (h : Lies w g t cs) (o : Obj) : Lies (w.alloc o) g t cs := (heap_alloc_old w o h.lt).trans h
theorem Lies.set_ (h : Lies w g t cs) (i : Nat) (u : Value) : Lies (w.setCell ⟨g, i, none⟩ u) g t (cs.setIfInBounds i u) := by
  unfold Lies at h ⊢
  simp [World.setCell, Array.getElem?_modify, h]
theorem Lies.far (h : Lies w g t cs) {p : Addr} (hp : g ≠ p.block) (u : Value) : Lies (w.setCell p u) g t cs := (heap_setCell_other w p g u hp).trans h
theorem Lies.turned (h : Lies w g t cs) (k : Turned S w w') (hn : ¬ S g) : Lies w' g t cs := (k.block g h.lt hn).trans h
theorem Lies.below {B : Nat} (h : Lies w g t cs) (k : Below B w w') (hn : g < B) : Lies w' g t cs := (k.block g hn).trans h
theorem Lies.row (h : Lies w g t cs) (c' : Array Value) : Lies (w.setRow g c') g t c' := setRow_heap w g cs c' t (0, 0) h
theorem Lies.rowFar {b : Nat} (h : Lies w g t cs) (hb : g ≠ b) (c' : Array Value) : Lies (w.setRow b c') g t cs := (setRow_other w b g c' hb).trans h
theorem Turned.refl (S : Nat → Prop) (w : World) : Turned S w w := ⟨rfl, rfl, rfl, Nat.le_refl _, fun _ _ _ => rfl⟩
theorem Turned.trans (h : Turned S w w') (k : Turned S w' w'') : Turned S w w'' :=
  ⟨k.os.trans h.os, k.tape.trans h.tape, k.output.trans h.output, Nat.le_trans h.size k.size, fun i hi hn => (k.block i (Nat.lt_of_lt_of_le hi h.size) hn).trans (h.block i hi hn)⟩
/-- Two steps of which the second may turn what the first has made. -/
theorem Turned.trans' {S' : Nat → Prop} (h : Turned S w w') (k : Turned S' w' w'') (hs : ∀ i, i < w.heap.size → S' i → S i) : Turned S w w'' :=
  ⟨k.os.trans h.os, k.tape.trans h.tape, k.output.trans h.output, Nat.le_trans h.size k.size, fun i hi hn => (k.block i (Nat.lt_of_lt_of_le hi h.size) (fun hk => hn (hs i hi hk))).trans (h.block i hi hn)⟩
theorem Turned.mono {S' : Nat → Prop} (h : Turned S w w') (hs : ∀ i, i < w.heap.size → S i → S' i) : Turned S' w w' :=
  ⟨h.os, h.tape, h.output, h.size, fun i hi hn => h.block i hi (fun k => hn (hs i hi k))⟩
theorem Turned.drew (h : Turned S w w') : Turned S w w'.drew := ⟨h.os, h.tape, h.output, h.size, h.block⟩
theorem Turned.drewN (h : Turned S w w') (n : Nat) : Turned S w (w'.drewN n) := ⟨h.os, h.tape, h.output, h.size, h.block⟩
theorem Turned.alloc (h : Turned S w w') (o : Obj) : Turned S w (w'.alloc o) :=
  ⟨h.os, h.tape, h.output, Nat.le_trans h.size (by simp), fun i hi hn => (heap_alloc_old w' o (Nat.lt_of_lt_of_le hi h.size)).trans (h.block i hi hn)⟩
theorem Turned.setCell (h : Turned S w w') {p : Addr} (hp : S p.block ∨ w.heap.size ≤ p.block) (u : Value) : Turned S w (w'.setCell p u) :=
  ⟨h.os, h.tape, h.output, by simpa [World.setCell] using h.size, fun i hi hn => (heap_setCell_other w' p i u (by
    rintro rfl
    rcases hp with hp | hp
    · exact hn hp
    · omega)).trans (h.block i hi hn)⟩
theorem Turned.setRow (h : Turned S w w') {b : Nat} (hb : S b ∨ w.heap.size ≤ b) (c' : Array Value) : Turned S w (w'.setRow b c') :=
  ⟨h.os, h.tape, h.output, by simpa using h.size, fun i hi hn => (setRow_other w' b i c' (by
    rintro rfl
    rcases hb with hb | hb
    · exact hn hb
    · omega)).trans (h.block i hi hn)⟩
theorem Turned.grown (h : Turned S w w') {row : Option Nat} (k : w'.grownBy w'' row) (hr : ∀ i, row = some i → S i ∨ w.heap.size ≤ i) : Turned S w w'' :=
  ⟨k.os.trans h.os, k.tape.trans h.tape, k.output.trans h.output, Nat.le_trans h.size k.size, fun i hi hn => (k.block i (Nat.lt_of_lt_of_le hi h.size) (fun e => by
    rcases hr i e.symm with h1 | h1
    · exact hn h1
    · omega)).trans (h.block i hi hn)⟩
theorem Turned.of_below {B : Nat} (h : Below B w w') (hB : ∀ i, i < w.heap.size → ¬ S i → i < B) : Turned S w w' :=
  ⟨h.os, h.tape, h.output, h.size, fun i hi hn => h.block i (hB i hi hn)⟩
theorem Turned.below {B : Nat} (h : Turned S w w') (hB : ∀ i, i < B → i < w.heap.size ∧ ¬ S i) : Below B w w' :=
  ⟨h.os, h.tape, h.output, h.size, fun i hi => h.block i (hB i hi).1 (hB i hi).2⟩
theorem Turned.cell (h : Turned S w w') {p : Addr} (hp : p.block < w.heap.size) (hn : ¬ S p.block) : w'.cell? p = w.cell? p := World.cell?_of_block (h.block p.block hp hn)
theorem Turned.frozen (h : Turned S w w') {p : Addr} (hp : p.block < w.heap.size) (hn : ¬ S p.block) : w'.frozen? p = w.frozen? p := World.frozen?_of_block (h.block p.block hp hn)
theorem lies_set {i : Nat} {v : Value} {cs' : Array Value} (h : Lies w g t cs) (e : w.setCell ⟨g, i, none⟩ v = w') (he : cs.setIfInBounds i v = cs') : Lies w' g t cs' := by subst e he; exact h.set_ i v
theorem lies_far {b i : Nat} {v : Value} (h : Lies w g t cs) (hb : g ≠ b) (e : w.setCell ⟨b, i, none⟩ v = w') : Lies w' g t cs := by subst e; exact h.far (p := ⟨b, i, none⟩) hb v
theorem below_set {B b i : Nat} {v : Value} (h : Below B w w') (hb : B ≤ b) (e : w'.setCell ⟨b, i, none⟩ v = w'') : Below B w w'' := by subst e; exact Below.setCell h (by exact hb) v
theorem lies_row {cs' : Array Value} (h : Lies w g t cs) (e : w.setRow g cs' = w') : Lies w' g t cs' := by subst e; exact h.row cs'
theorem lies_rowFar {b : Nat} {cs' : Array Value} (h : Lies w g t cs) (hb : g ≠ b) (e : w.setRow b cs' = w') : Lies w' g t cs := by subst e; exact h.rowFar hb cs'
theorem below_row {B b : Nat} {cs' : Array Value} (h : Below B w w') (hb : B ≤ b) (e : w'.setRow b cs' = w'') : Below B w w'' := by
  subst e
  exact ⟨h.os, h.tape, h.output, by simpa using h.size, fun i hi => (setRow_other w' b i cs' (by omega)).trans (h.block i hi)⟩
theorem owns_turned {base : Nat} {e : TypeId} {size n : Nat} {v : Value} {xs : List Value} (h : w.ownsRow base e size v n xs) (k : Turned S w w') (hn : ∀ i, v.ownBlock = some i → ¬ S i) : w'.ownsRow base e size v n xs := by
  refine ⟨h.1, ?_⟩
  rcases h.2 with h2 | ⟨g, cap, cur, rfl, hb, hg, rest⟩
  · exact .inl h2
  · exact .inr ⟨g, cap, cur, rfl, hb, (k.block g (Array.getElem?_eq_some_iff.1 hg).1 (hn g rfl)).trans hg, rest⟩
theorem owns_base {base base' : Nat} {e : TypeId} {size n : Nat} {v : Value} {xs : List Value} (h : w.ownsRow base e size v n xs) (hb : ∀ i, v.ownBlock = some i → base' ≤ i) : w.ownsRow base' e size v n xs := by
  refine ⟨h.1, ?_⟩
  rcases h.2 with h2 | ⟨g, cap, cur, rfl, _, rest⟩
  · exact .inl h2
  · exact .inr ⟨g, cap, cur, rfl, hb g rfl, rest⟩
/-- Blocks of two element types are two blocks. -/
theorem owns_apart {base : Nat} {e : TypeId} {size n : Nat} {v : Value} {xs : List Value} (h : w.ownsRow base e size v n xs) (hg : Lies w g t cs) (hne : e ≠ t) : v.ownBlock ≠ some g := by
  rcases h.2 with ⟨rfl, _⟩ | ⟨g', cap, cur, rfl, _, hh, _⟩
  · simp [Value.ownBlock]
  · intro he
    obtain rfl : g' = g := by simpa [Value.ownBlock] using he
    unfold Lies at hg
    rw [hh] at hg
    injection hg with hg
    injection hg with _ ht
    exact hne ht
end
/-- A row of n cells that reads as f. -/
def RowOf (w : World) (a : Option Addr) (n : Nat) (f : Nat → Value) : Prop :=
  n = 0 ∨ ∃ b off, a = some ⟨b, off, none⟩ ∧ ∀ i, i < n → w.cell? ⟨b, off + i, none⟩ = some (f i)
section
variable {w w' : World} {S : Nat → Prop} {a : Option Addr} {n : Nat} {f : Nat → Value}
theorem RowOf.at_ (h : RowOf w a n f) {i : Nat} (hi : i < n) : ∃ b off, a = some ⟨b, off, none⟩ ∧ b < w.heap.size ∧ ∀ i, i < n → w.cell? ⟨b, off + i, none⟩ = some (f i) := by
  rcases h with h | ⟨b, off, ha, h⟩
  · omega
  · exact ⟨b, off, ha, World.block_lt_of_cell? w _ (h i hi), h⟩
/-- The rows that a slice's address names lie in no block that S names. -/
def Clear (S : Nat → Prop) (a : Option Addr) : Prop := ∀ p, a = some p → ¬ S p.block
theorem RowOf.turned (h : RowOf w a n f) (k : Turned S w w') (hn : Clear S a) : RowOf w' a n f := by
  rcases h with h | ⟨b, off, ha, h⟩
  · exact .inl h
  · exact .inr ⟨b, off, ha, fun i hi => (k.cell (p := ⟨b, off + i, none⟩) (World.block_lt_of_cell? w _ (h i hi)) (hn ⟨b, off, none⟩ ha)).trans (h i hi)⟩
theorem RowOf.below (h : RowOf w a n f) (k : Below w.heap.size w w') : RowOf w' a n f := by
  rcases h with h | ⟨b, off, ha, h⟩
  · exact .inl h
  · exact .inr ⟨b, off, ha, fun i hi => (k.cell (p := ⟨b, off + i, none⟩) (World.block_lt_of_cell? w _ (h i hi))).trans (h i hi)⟩
theorem RowOf.drew (h : RowOf w a n f) : RowOf w.drew a n f := h
theorem RowOf.of_owns {base : Nat} {e : TypeId} {c : Nat} {xs : List Value} (h : w.ownsRow base e 1 (.slice a n c) n xs) (hf : ∀ i, i < n → xs[i]? = some (f i)) : RowOf w a n f := by
  rcases Nat.eq_zero_or_pos n with h0 | h0
  · exact .inl h0
  · obtain ⟨g, cap, hv, _, hlt⟩ := h.form h0
    obtain rfl : a = some ⟨g, 0, none⟩ := by injection hv
    refine .inr ⟨g, 0, rfl, fun i hi => ?_⟩
    have := h.cells (g := g) rfl i _ (hf i hi)
    rw [Nat.zero_add]
    by_cases h1 : i = 0
    · subst h1; simpa [Addr.add] using this
    · simpa [Addr.add, h1] using this
theorem RowOf.congr {f' : Nat → Value} (h : RowOf w a n f) (e : ∀ i, i < n → f i = f' i) : RowOf w a n f' := by
  rcases h with h | ⟨b, off, ha, h⟩
  · exact .inl h
  · exact .inr ⟨b, off, ha, fun i hi => (h i hi).trans (by rw [e i hi])⟩
end
theorem RowOf.drewN {w : World} {a : Option Addr} {n : Nat} {f : Nat → Value} (h : RowOf w a n f) (k : Nat) : RowOf (w.drewN k) a n f := h
theorem Lies.drewN {w : World} {g : Nat} {t : TypeId} {cs : Array Value} (h : Lies w g t cs) (k : Nat) : Lies (w.drewN k) g t cs := h
theorem RowOf.lit (w : World) (cs : Array Value) (t : TypeId) (f : Nat → Value) (n : Nat) (hn : cs.size = n) (hf : ∀ i, i < n → cs[i]? = some (f i)) : RowOf (w.alloc (.cells cs t)) (some ⟨w.heap.size, 0, none⟩) n f :=
  .inr ⟨_, 0, rfl, fun i hi => by rw [Nat.zero_add, (Lies.new w t cs).cell i]; exact hf i hi⟩
theorem RowOf.drawn {w : World} {a : Option Addr} {n : Nat} {f : Nat → Value} (h : RowOf w a n f) (k : Nat) : RowOf (w.drewN k) a n f := h
theorem Lies.drawn {w : World} {g : Nat} {t : TypeId} {cs : Array Value} (h : Lies w g t cs) (k : Nat) : Lies (w.drewN k) g t cs := h
theorem below_drawn {B : Nat} {w w' : World} (h : Below B w w') (k : Nat) : Below B w (w'.drewN k) := ⟨h.os, h.tape, h.output, h.size, h.block⟩
/-- A number of bytes, as cells. -/
def cellsOf (l : List Int) : List Value := l.map (Value.int .u8)
/-- The cells of a row. -/
def rowV (f : Nat → Value) (n : Nat) : List Value := (List.range n).map f
theorem rowV_length (f : Nat → Value) (n : Nat) : (rowV f n).length = n := by simp [rowV]
theorem rowV_get (f : Nat → Value) {n i : Nat} (h : i < n) : (rowV f n)[i]? = some (f i) := by simp [rowV, h]
theorem rowV_ge (f : Nat → Value) {n i : Nat} (h : n ≤ i) : (rowV f n)[i]? = none := List.getElem?_eq_none (by simp [rowV]; omega)
theorem rowV_succ (f : Nat → Value) (n : Nat) : rowV f (n + 1) = rowV f n ++ [f n] := by simp [rowV, List.range_succ]
theorem rowV_congr {f g : Nat → Value} {n : Nat} (h : ∀ i, i < n → f i = g i) : rowV f n = rowV g n := by
  simp only [rowV]
  exact List.map_congr_left fun i hi => h i (by simpa using hi)
theorem rowV_set (f : Nat → Value) (n j : Nat) (u : Value) : (rowV f n).set j u = rowV (fun i => if i = j then u else f i) n := by
  apply List.ext_getElem?
  intro i
  by_cases hi : i < n
  · by_cases e : i = j
    · subst e; rw [List.getElem?_set_self (by simpa [rowV] using hi), rowV_get _ hi, if_pos rfl]
    · rw [List.getElem?_set_ne (by omega), rowV_get _ hi, rowV_get _ hi, if_neg e]
  · rw [rowV_ge _ (by omega)]
    exact List.getElem?_eq_none (by simp [rowV]; omega)
theorem rowV_cells (l : List Int) : rowV (fun i => .int .u8 (l.getD i 0)) l.length = cellsOf l := by
  apply List.ext_getElem?
  intro i
  by_cases h : i < l.length
  · rw [rowV_get _ h]; simp [cellsOf, h]
  · rw [List.getElem?_eq_none (by simp [rowV]; omega), List.getElem?_eq_none (by simp [cellsOf]; omega)]
theorem rowV_bytes (z : Nat → Int) (n : Nat) : rowV (fun i => .int .u8 (z i)) n = cellsOf ((List.range n).map z) := by
  simp [rowV, cellsOf]
/-- What is one's own reads as a row. -/
theorem own_reads {w : World} {base n : Nat} {v : Value} {e : TypeId} {xs : List Value} (h : w.ownsRow base e 1 v n xs) :
    ∃ a cap, v = .slice a n cap ∧ RowOf w a n (fun i => xs.getD i undef) ∧ (∀ p, a = some p → base ≤ p.block ∧ p.block < w.heap.size) ∧ n ≤ cap ∧ (∀ p, a = some p → ∃ g, p = ⟨g, 0, none⟩) := by
  have hl := h.1
  rcases h.2 with ⟨rfl, rfl⟩ | ⟨g, cap, cur, rfl, hb, hg, hn, hc, hcs, hx⟩
  · exact ⟨none, 0, rfl, .inl rfl, (fun p hp => by cases hp), Nat.le_refl _, (fun p hp => by cases hp)⟩
  · refine ⟨_, cap, rfl, RowOf.of_owns h (fun i hi => ?_), fun p hp => ?_, hn, fun p hp => ⟨g, by injection hp with hp; exact hp.symm⟩⟩
    · have hi' : i < xs.length := by omega
      simp [hi']
    · obtain rfl : (⟨g, 0, none⟩ : Addr) = p := by injection hp
      exact ⟨hb, (Array.getElem?_eq_some_iff.1 hg).1⟩
theorem own_reads' {w : World} {base n : Nat} {v : Value} {e : TypeId} {f : Nat → Value} (h : w.ownsRow base e 1 v n (rowV f n)) :
    ∃ a cap, v = .slice a n cap ∧ RowOf w a n f ∧ (∀ p, a = some p → base ≤ p.block ∧ p.block < w.heap.size) := by
  obtain ⟨a, cap, e, hr, hb, _⟩ := own_reads h
  exact ⟨a, cap, e, hr.congr fun i hi => by simp [rowV, hi], hb⟩
/-- APPENDING ANY ROW to one's own. -/
theorem run_append_row {P : Program} (w : World) (base : Nat) (t ty e : TypeId) (i : TypeInfo) (z : Value) (bytes : Nat) (ht : P.underlying t = some (.slice e)) (hi : P.info? e = some i) (hz : i.zero = some z)
    (hs : i.size = 1) (hby : i.bytes = bytes) (hzs : z.cells.size = 1) (v : Value) (n : Nat) (xs : List Value) (hown : w.ownsRow base e 1 v n xs) (a : Option Addr) (m c : Nat) (f : Nat → Value) (hr : RowOf w a m f)
    (h1 : ∀ i, i < m → (f i).oneCell' = true) (h63 : n + m ≤ maxLen) (hbytes : (n + m) * bytes ≤ 140737488355328) (hbase : base ≤ w.heap.size) :
    ∃ v' w', (Builtin.append_ #[t, t] ty #[v, .slice a m c]).run P w = .ok v' w' ∧ w'.ownsRow base e 1 v' (n + m) (xs ++ rowV f m) ∧ w.grownBy w' v.ownBlock ∧ (v'.ownBlock = v.ownBlock ∨ v'.ownBlock = some w.heap.size) := by
  have hone : ∀ u ∈ rowV f m, u.oneCell' = true := by
    intro u hu
    obtain ⟨i, hi, rfl⟩ := List.mem_map.mp hu
    exact h1 i (by simpa using hi)
  cases a with
  | none =>
    have h0 : m = 0 := by
      rcases hr with h | ⟨_, _, h, _⟩
      · exact h
      · cases h
    subst h0
    refine ⟨v, w, ?_, by simpa [rowV] using hown, ⟨rfl, rfl, rfl, Nat.le_refl _, fun _ _ _ => rfl⟩, .inl rfl⟩
    rcases hown.2 with ⟨rfl, rfl⟩ | ⟨g, cap, cur, rfl, _, _, hnc, _⟩
    · simp [Builtin.append_, run_underlying ht, sizeOf, typeInfo, hi, Builtin.lenOf, Builtin.firstCells]
    · simp [Builtin.append_, run_underlying ht, sizeOf, typeInfo, hi, Builtin.lenOf, Builtin.firstCells, hnc, storeCells]
  | some ad =>
    have hnews : ∀ j u, (rowV f m)[j]? = some u → w.cell? (ad.add j) = some u := by
      intro j u hu
      have hj : j < m := by
        rcases Nat.lt_or_ge j m with h | h
        · exact h
        · rw [rowV_ge _ h] at hu; cases hu
      obtain ⟨b, off, ha, _, hc⟩ := hr.at_ hj
      have ha : ad = ⟨b, off, none⟩ := by injection ha
      subst ha
      have hadd : (⟨b, off, none⟩ : Addr).add j = ⟨b, off + j, none⟩ := by unfold Addr.add; split <;> simp_all
      rw [hadd, hc j hj, ← rowV_get f hj]
      exact hu
    obtain ⟨v', w', hrun, h2, h3, _, h5⟩ := run_append_own_at (P := P) w base t ty e i z 1 bytes ht hi hz hs hby hzs (by decide) v n xs hown ad m c (rowV f m) (by simp [rowV_length]) hnews hone h63 hbytes hbase
    exact ⟨v', w', hrun, h2, h3, h5⟩
theorem wp_append_ran {P : Program} (w w2 : World) {o : Oper} {a : Act} {K : Act → World → Prop} {Q : Exit → Act → World → Prop} (s x : Operand) (t : TypeId)
    (ho : o.op = .call { callee := .builtin .append, args := #[s, x], argTypes := #[t, t] }) (v vs vx : Value) (hs : a.eval s = vs) (hx : a.eval x = vx)
    (hr : (Builtin.append_ #[t, t] o.type #[vs, vx]).run P w = .ok v w2) (h : K (a.put o.dst v) w2) : o.wp P a w K Q := by
  unfold Oper.wp execOp
  simp only [ho, resolve, invoke, builtin, Sem.run_bind, Sem.run_pure, Result.andThen_ok, List.map_toArray, List.map_cons, List.map_nil, hs, hx, hr]
  exact h
/-- AN APPEND whose run is known. -/
theorem wpList_append_ran {P : Program} (w w2 : World) {ops : Array Oper} {rest : List Oper} {o : Oper} {a : Act} {Q : Exit → Act → World → Prop} (hgd : o.guard = none) (s x : Operand) (t : TypeId)
    (ho : o.op = .call { callee := .builtin .append, args := #[s, x], argTypes := #[t, t] }) (v vs vx : Value) (hs : a.eval s = vs) (hx : a.eval x = vx)
    (hr : (Builtin.append_ #[t, t] o.type #[vs, vx]).run P w = .ok v w2) (h : wpList P ops Q rest (a.put o.dst v) w2) : wpList P ops Q (o :: rest) a w :=
  wpList_plain hgd fun _ hK => wp_append_ran w w2 s x t ho v vs vx hs hx hr (hK _ _ h)
/-- The same, at a step of a region that draws its order. -/
theorem step_append_ran {P : Program} (w w2 : World) {ops : Array Oper} {o : Oper} {a : Act} {K : Act → World → Prop} {Q : Exit → Act → World → Prop} {E : Prop} (hgd : o.guard = none) (s x : Operand) (t : TypeId)
    (ho : o.op = .call { callee := .builtin .append, args := #[s, x], argTypes := #[t, t] }) (v vs vx : Value) (hs : a.eval s = vs) (hx : a.eval x = vx)
    (hr : (Builtin.append_ #[t, t] o.type #[vs, vx]).run P w = .ok v w2) (h : K (a.put o.dst v) w2) : if Region.wanted o (yielded ops a.tmps) = true then Oper.wp P o a w K Q else E := by
  have hw : Region.wanted o (yielded ops a.tmps) = true := by simp [Region.wanted, hgd]
  rw [if_pos hw]
  exact wp_append_ran w w2 s x t ho v vs vx hs hx hr h
end Go.Proofs.YtelcaejiipibpaaDoor
