/-
  WHAT A WALK IS TOLD OF A SLICE OF STRUCTS OF FOUR INTEGERS OF 64 BITS THAT CAME IN. No condition.
-/
import Derived.Test.YtgclhblglohjpaaIsRow
import Derived.Deep.SlicePairs
namespace Go.Proofs.Ytgclhblglohjpaa
open Go.ChangeShapes Go.WideShapes Go.ChangeAt Go.RowKit
/-- A row of cap fours of numbers from one place on, which lies in the heap; of none, there may be no place. -/
def IsQuads (w : World) (a : Option Addr) (len cap : Nat) (C L H S : Nat → Int) : Prop :=
  len ≤ cap ∧ cap ≤ maxLen ∧ (cap = 0 ∨ ∃ b off, a = some ⟨b, off, none⟩ ∧ b < w.heap.size ∧ ∀ i, i < cap → w.cell? ⟨b, off + i * 4, none⟩ = some (.int .i64 (C i)) ∧ w.cell? ⟨b, off + i * 4 + 1, none⟩ = some (.int .i64 (L i)) ∧ w.cell? ⟨b, off + i * 4 + 2, none⟩ = some (.int .i64 (H i)) ∧ w.cell? ⟨b, off + i * 4 + 3, none⟩ = some (.int .i64 (S i))) ∧
  ∀ i, i < cap → (-9223372036854775808 ≤ C i ∧ C i ≤ 9223372036854775807) ∧ (-9223372036854775808 ≤ L i ∧ L i ≤ 9223372036854775807) ∧ (-9223372036854775808 ≤ H i ∧ H i ≤ 9223372036854775807) ∧ (-9223372036854775808 ≤ S i ∧ S i ≤ 9223372036854775807)
theorem quads_bd {n : Int} (h : (Lit.int .i64 n).wf = true) : -9223372036854775808 ≤ n ∧ n ≤ 9223372036854775807 := by
  have := bounds_i64 h
  omega
theorem add_quad (b off i j : Nat) : (((⟨b, off, none⟩ : Addr).add i).add j) = ⟨b, off + i + j, none⟩ := by
  unfold Addr.add
  split <;> split <;> simp_all
theorem isQuads_of {H : Type} {enc : TypeId × Value → H} {P : Program} {w : World} {t e : TypeId} {f0 f1 f2 f3 : Field} {fuel : Nat} {a : Option Addr} {len cap : Nat} {x : DataW H × List MemPlace} (ht : P.underlying t = some (.slice e)) (he : P.underlying e = some (.struct #[f0, f1, f2, f3]))
    (ce : P.cellsOf e = 4) (o0 : f0.offset = 0) (o1 : f1.offset = 1) (o2 : f2.offset = 2) (o3 : f3.offset = 3) (c0 : P.cellsOf f0.type = 1) (c1 : P.cellsOf f1.type = 1) (c2 : P.cellsOf f2.type = 1) (c3 : P.cellsOf f3.type = 1)
    (u0 : P.underlying f0.type = some (.int .i64)) (u1 : P.underlying f1.type = some (.int .i64)) (u2 : P.underlying f2.type = some (.int .i64)) (u3 : P.underlying f3.type = some (.int .i64))
    (h : DataW.trod enc P w 0 (fun _ => true) true fuel t [.slice a len cap] = some x) :
    ∃ C L H S, IsQuads w a len cap C L H S := by
  rcases Go.Deep.open_slice ht h with ⟨hcs, _⟩ | ⟨p, l, c, m, n, D, Pl, hcs, _, hl, hm, hmm, _, hx⟩
  · simp at hcs
    obtain ⟨rfl, rfl, rfl⟩ := hcs
    exact ⟨fun _ => 0, fun _ => 0, fun _ => 0, fun _ => 0, Nat.le_refl _, Nat.zero_le _, .inl rfl, fun i hi => by omega⟩
  · simp at hcs
    obtain ⟨rfl, rfl, rfl⟩ := hcs
    obtain rfl : m = cap := by simpa using hmm
    have each : ∀ i, i < m → ∃ q : Int × Int × Int × Int, (w.cell? ((p.add (i * 4)).add 0) = some (.int .i64 q.1) ∧ w.cell? ((p.add (i * 4)).add 1) = some (.int .i64 q.2.1) ∧ w.cell? ((p.add (i * 4)).add 2) = some (.int .i64 q.2.2.1) ∧ w.cell? ((p.add (i * 4)).add 3) = some (.int .i64 q.2.2.2)) ∧
        (-9223372036854775808 ≤ q.1 ∧ q.1 ≤ 9223372036854775807) ∧ (-9223372036854775808 ≤ q.2.1 ∧ q.2.1 ≤ 9223372036854775807) ∧ (-9223372036854775808 ≤ q.2.2.1 ∧ q.2.2.1 ≤ 9223372036854775807) ∧ (-9223372036854775808 ≤ q.2.2.2 ∧ q.2.2.2 ≤ 9223372036854775807) := by
      intro i hi
      obtain ⟨cs', h1, h2⟩ := hx i hi
      rw [ce] at h1
      obtain ⟨_, hlen, hcell⟩ := World.cells?_some h1
      obtain ⟨xs, k, hk, hxy, _, hxl, hf⟩ := DataW.trod_struct he h2
      match xs, hxl, cs', hlen with
      | [y0, y1, y2, y3], _, [v0, v1, v2, v3], _ =>
        have g0 := hf 0 f0 rfl
        have g1 := hf 1 f1 rfl
        have g2 := hf 2 f2 rfl
        have g3 := hf 3 f3 rfl
        simp [o0, o1, o2, o3, c0, c1, c2, c3] at g0 g1 g2 g3
        obtain ⟨n0, e0, _, w0⟩ := DataW.trod_int u0 g0
        obtain ⟨n1, e1, _, w1⟩ := DataW.trod_int u1 g1
        obtain ⟨n2, e2, _, w2⟩ := DataW.trod_int u2 g2
        obtain ⟨n3, e3, _, w3⟩ := DataW.trod_int u3 g3
        simp at e0 e1 e2 e3
        subst e0 e1 e2 e3
        exact ⟨(n0, n1, n2, n3), ⟨hcell 0 (by omega), hcell 1 (by omega), hcell 2 (by omega), hcell 3 (by omega)⟩, quads_bd w0, quads_bd w1, quads_bd w2, quads_bd w3⟩
    obtain ⟨q, hq⟩ := Go.Deep.choose_lt each
    refine ⟨fun i => (q i).1, fun i => (q i).2.1, fun i => (q i).2.2.1, fun i => (q i).2.2.2, hl, hm, ?_, fun i hi => (hq i hi).2⟩
    by_cases h0 : m = 0
    · exact .inl h0
    · obtain ⟨b, off, spot⟩ := p
      have hc := (hq 0 (by omega)).1.2.1
      have hc0 := (hq 0 (by omega)).1.1
      rw [Nat.zero_mul] at hc0
      have hspot : spot = none := by
        have := World.cell?_spot hc0
        clear hq hc hc0 each hx hl hm
        simpa [Addr.add] using this
      clear hc0
      subst hspot
      refine .inr ⟨b, off, rfl, ?_, fun i hi => ?_⟩
      · rw [add_quad] at hc
        exact World.block_lt_of_cell? w _ hc
      · obtain ⟨h0, h1, h2, h3⟩ := (hq i hi).1
        rw [add_quad] at h0 h1 h2 h3
        exact ⟨h0, h1, h2, h3⟩
end Go.Proofs.Ytgclhblglohjpaa
