/-
  WHAT A ROW OF NESTED TRIES COMES TO, told from within: the error, the notes; a nest in memory; one note more. No condition.
-/
import Derived.Test.YtknpekpigiclkaaTrapWake
import Derived.Test.YtknpekpigiclkaaWords
import Derived.LoopTactic
namespace Go.Proofs.Ytknpekpigiclkaa
open Go.RowKit
set_option linter.unusedVariables false
theorem nintInfo : (Try.prog.info? 3).map (fun i => (i.zero, i.size, i.bytes)) = some (some (.int .i64 0), 1, 8) := by kernel_rfl
/-- The error that comes out of the last n of L steps. -/
def er (t : Nat → Bool) (E : Nat → Int) (L : Nat) : Nat → Int
  | 0 => 0
  | n + 1 => if t (L - (n + 1)) = true then E (L - (n + 1)) else if er t E L n = 0 then E (L - (n + 1)) else er t E L n
/-- What the tries of the last n steps note, from within. -/
def tl (t : Nat → Bool) (E : Nat → Int) (L : Nat) : Nat → List Int
  | 0 => []
  | n + 1 => tl t E L n ++ (if t (L - (n + 1)) = true then [IntKind.i64.wrap (100 + er t E L n)] else [])
/-- What the last n steps note. -/
def nts (t : Nat → Bool) (E : Nat → Int) (L : Nat) : Nat → List Int
  | 0 => []
  | n + 1 => ((L - (n + 1) : Nat) : Int) :: (nts t E L n ++ (if t (L - (n + 1)) = true then [IntKind.i64.wrap (100 + er t E L n)] else []))
theorem nts_eq (t : Nat → Bool) (E : Nat → Int) (L : Nat) : ∀ n, nts t E L n = (List.range' (L - n) (L - (L - n))).map (fun i => ((i : Nat) : Int)) ++ tl t E L n ∨ L < n
  | 0 => by simp [nts, tl]
  | n + 1 => by
    by_cases h : L < n + 1
    · exact .inr h
    · rcases nts_eq t E L n with e | e
      · left
        have h1 : L - (L - (n + 1)) = L - (L - n) + 1 := by omega
        have h2 : L - (n + 1) + 1 = L - n := by omega
        simp only [nts, tl, e, h1, List.range'_succ, h2, List.map_cons, List.cons_append, List.append_assoc]
      · omega
theorem nts_all (t : Nat → Bool) (E : Nat → Int) (L : Nat) : nts t E L L = (List.range' 0 L).map (fun i => ((i : Nat) : Int)) ++ tl t E L L := by
  rcases nts_eq t E L L with e | e
  · simpa using e
  · omega
theorem er_bounds (t : Nat → Bool) (E : Nat → Int) (L : Nat) (hE : ∀ i, i < L → -9223372036854775808 ≤ E i ∧ E i ≤ 9223372036854775807) : ∀ n, n ≤ L → -9223372036854775808 ≤ er t E L n ∧ er t E L n ≤ 9223372036854775807
  | 0, _ => by simp [er]
  | n + 1, h => by
    have h1 := hE (L - (n + 1)) (by omega)
    have h2 := er_bounds t E L hE n (by omega)
    unfold er
    split
    · exact h1
    · split
      · exact h1
      · exact h2
theorem nts_length (t : Nat → Bool) (E : Nat → Int) (L : Nat) : ∀ n, (nts t E L n).length ≤ 2 * n
  | 0 => by simp [nts]
  | n + 1 => by
    have := nts_length t E L n
    simp only [nts, List.length_cons, List.length_append]
    split <;> simp <;> omega
/-- The steps lie in memory. -/
def Steps (w : World) (a : Option Addr) (bn L : Nat) (t : Nat → Bool) (E : Nat → Int) : Prop :=
  L = 0 ∨ ∃ b off, a = some ⟨b, off, none⟩ ∧ b < bn ∧ ∀ i, i < L → w.cell? ⟨b, off + i * 2, none⟩ = some (.bool (t i)) ∧ w.cell? ⟨b, off + i * 2 + 1, none⟩ = some (.int .i64 (E i))
/-- A nest in memory, with what it has noted. -/
def NestAt (w : World) (bn : Nat) (a : Option Addr) (L lc : Nat) (t : Nat → Bool) (E : Nat → Int) (v : Value) (ns : List Int) : Prop :=
  Lies w bn 26 #[.slice a L lc, v] ∧ w.ownsRow (bn + 1) 3 1 v ns.length (ns.map (Value.int .i64)) ∧ Steps w a bn L t E
/-- The nest's own turn: the nest and its row alone; the new row is the old one, or new. -/
def Kept (bn : Nat) (v : Value) (w w' : World) (v' : Value) : Prop :=
  Turned (fun i => i = bn ∨ v.ownBlock = some i) w w' ∧ ∀ i, v'.ownBlock = some i → v.ownBlock = some i ∨ w.heap.size ≤ i
theorem Kept.trans {bn : Nat} {v v1 v2 : Value} {w w1 w2 : World} (h : Kept bn v w w1 v1) (k : Kept bn v1 w1 w2 v2) : Kept bn v w w2 v2 := by
  refine ⟨h.1.trans' k.1 fun i hi hs => ?_, fun i hi => ?_⟩
  · rcases hs with hs | hs
    · exact .inl hs
    · rcases h.2 i hs with e | e
      · exact .inr e
      · omega
  · rcases k.2 i hi with e | e
    · exact h.2 i e
    · exact .inr (Nat.le_trans h.1.size e)
theorem Kept.refl (bn : Nat) (v : Value) (w : World) : Kept bn v w w v := ⟨Turned.refl _ _, fun i h => .inl h⟩
/-- What turns none of it leaves the nest as it is. -/
theorem NestAt.apart {w w' : World} {S : Nat → Prop} {bn : Nat} {a : Option Addr} {L lc : Nat} {t : Nat → Bool} {E : Nat → Int} {v : Value} {ns : List Int} (h : NestAt w bn a L lc t E v ns) (k : Turned S w w')
    (hs : ∀ i, S i → bn < i ∧ v.ownBlock ≠ some i) : NestAt w' bn a L lc t E v ns := by
  obtain ⟨h1, h2, h3⟩ := h
  have hbn := h1.lt
  refine ⟨h1.turned k (fun e => by have := (hs _ e).1; omega), owns_turned h2 k (fun i hi e => (hs _ e).2 hi), ?_⟩
  rcases h3 with h3 | ⟨b, off, rfl, hb, hc⟩
  · exact .inl h3
  · have hn : ¬ S b := fun e => by have := (hs _ e).1; omega
    exact .inr ⟨b, off, rfl, hb, fun i hi => ⟨(k.cell (p := ⟨b, off + i * 2, none⟩) (by show b < _; omega) hn).trans (hc i hi).1, (k.cell (p := ⟨b, off + i * 2 + 1, none⟩) (by show b < _; omega) hn).trans (hc i hi).2⟩⟩
theorem NestAt.aside {w w' : World} {S : Nat → Prop} {bn : Nat} {a : Option Addr} {L lc : Nat} {t : Nat → Bool} {E : Nat → Int} {v : Value} {ns : List Int} (h : NestAt w bn a L lc t E v ns) (k : Turned S w w')
    (hs : ∀ i, S i → w.heap.size ≤ i) : NestAt w' bn a L lc t E v ns :=
  h.apart k fun i e => ⟨by have := hs i e; have := h.1.lt; omega, fun hi => by have := (h.2.1.lt i hi).2; have := hs i e; omega⟩
/-- ONE NOTE MORE: the append, and the store. -/
theorem note_on {W : World} {bn : Nat} {a : Option Addr} {L lc : Nat} {t : Nat → Bool} {E : Nat → Int} {v : Value} {ns : List Int} (h : NestAt W bn a L lc t E v ns) (hn : ns.length ≤ 1000) (x : Int) (o : Obj)
    (ho : (W.alloc o).cell? ⟨W.heap.size, 0, none⟩ = some (.int .i64 x)) :
    ∃ v2 w2, (∃ g2 l2 c2, v2 = .slice (some ⟨g2, 0, none⟩) l2 c2) ∧ (Builtin.append_ #[24, 24] 24 #[v, .slice (some ⟨W.heap.size, 0, none⟩) 1 1]).run Try.prog (W.alloc o) = .ok v2 w2 ∧ Lies w2 bn 26 #[.slice a L lc, v] ∧
      Turned (fun i => v.ownBlock = some i) W w2 ∧ NestAt (w2.setCell ⟨bn, 1, none⟩ v2) bn a L lc t E v2 (ns ++ [x]) ∧ Kept bn v W (w2.setCell ⟨bn, 1, none⟩ v2) v2 := by
  obtain ⟨i0, hi, hz0, hz1, hz2⟩ := info_parts nintInfo
  have hA : Turned (fun _ => False) W (W.alloc o) := (Turned.refl _ _).alloc o
  have h' : NestAt (W.alloc o) bn a L lc t E v ns := h.aside hA (fun _ e => e.elim)
  obtain ⟨h1, h2, h3⟩ := h'
  have hbn := h.1.lt
  have hsz : (W.alloc o).heap.size = W.heap.size + 1 := by simp
  obtain ⟨v2, w2, hrun, ho2, hg2, ha2⟩ := run_append_row (P := Try.prog) (W.alloc o) (bn + 1) 24 24 3 i0 (.int .i64 0) 8 Try.underlying24 hi hz0 hz1 hz2 rfl v ns.length _ h2 (some ⟨W.heap.size, 0, none⟩) 1 1 (fun _ => .int .i64 x)
    (.inr ⟨_, _, rfl, fun i hi => (by obtain rfl : i = 0 := (by omega); exact ho)⟩) (fun _ _ => rfl) (by unfold maxLen; omega) (by omega) (by omega)
  have hown : ∀ i, v.ownBlock = some i → bn + 1 ≤ i ∧ i < W.heap.size := fun i hi => h.2.1.lt i hi
  have hT : Turned (fun i => v.ownBlock = some i) W w2 := (hA.mono (fun _ _ e => e.elim)).grown hg2 (fun i hi => .inl hi)
  have hl2 : Lies w2 bn 26 #[.slice a L lc, v] := h.1.turned hT (fun e => by have := hown _ e; omega)
  have hl3 := hl2.set_ 1 v2
  have hK : Kept bn v W (w2.setCell ⟨bn, 1, none⟩ v2) v2 := by
    refine ⟨(hT.mono (fun i _ e => .inr e)).setCell (.inl (.inl rfl)) _, fun i hi => ?_⟩
    rcases ha2 with e | e
    · exact .inl (e ▸ hi)
    · rw [e] at hi
      injection hi with hi
      exact .inr (by omega)
  refine ⟨v2, w2, ?_, hrun, hl2, hT, ⟨hl3, ?_, ?_⟩, hK⟩
  · obtain ⟨g2, cap2, e, _, _⟩ := ho2.form (by omega)
    exact ⟨g2, _, cap2, e⟩
  · have h5 : (ns ++ [x]).map (Value.int .i64) = ns.map (Value.int .i64) ++ rowV (fun _ => .int .i64 x) 1 := by simp [rowV]
    rw [h5, List.length_append]
    exact ownsRow_setCell_below ho2 (by simp) _
  · rcases h.2.2 with h3 | ⟨b, off, rfl, hb, hc⟩
    · exact .inl h3
    · have kp : ∀ p : Addr, p.block = b → (w2.setCell ⟨bn, 1, none⟩ v2).cell? p = W.cell? p := fun p hp =>
        hK.1.cell (by omega) (fun e => by
          rcases e with e | e
          · omega
          · have := hown _ e; omega)
      exact .inr ⟨b, off, rfl, hb, fun i hi => ⟨(kp _ rfl).trans (hc i hi).1, (kp _ rfl).trans (hc i hi).2⟩⟩
/-- A level at work: its two boxes, the nest, and what has turned since its beginning. -/
structure Level (w W : World) (s bn : Nat) (i : Int) (a : Option Addr) (L lc : Nat) (t : Nat → Bool) (E : Nat → Int) (v0 v : Value) (ns : List Int) : Prop where
  at0 : w.heap.size = s
  box : Lies W s 23 #[.pointer (some ⟨bn, 0, none⟩)]
  idx : Lies W (s + 1) 3 #[.int .i64 i]
  nest : NestAt W bn a L lc t E v ns
  kept : Kept bn v0 w W v
  old : bn < s
  own : ∀ k, v.ownBlock = some k → k ≠ s ∧ k ≠ s + 1
section
variable {w W W' : World} {s bn : Nat} {i : Int} {a : Option Addr} {L lc : Nat} {t : Nat → Bool} {E : Nat → Int} {v0 v v' : Value} {ns ns' : List Int}
theorem Level.start (h : NestAt w bn a L lc t E v ns) (i : Int) (hs : w.heap.size = s) :
    Level w ((w.alloc (.cells #[.pointer (some ⟨bn, 0, none⟩)] 23)).alloc (.cells #[.int .i64 i] 3)) s bn i a L lc t E v v ns := by
  subst hs
  have hT : Turned (fun _ => False) w ((w.alloc (.cells #[.pointer (some ⟨bn, 0, none⟩)] 23)).alloc (.cells #[.int .i64 i] 3)) := ((Turned.refl _ _).alloc _).alloc _
  refine ⟨rfl, (Lies.new _ _ _).alloc _, ?_, h.aside hT (fun _ e => e.elim), ⟨hT.mono (fun _ _ e => e.elim), fun i h => .inl h⟩, h.1.lt, fun k hk => ?_⟩
  · have := Lies.new (w.alloc (.cells #[.pointer (some ⟨bn, 0, none⟩)] 23)) 3 #[.int .i64 i]
    simpa using this
  · have := (h.2.1.lt k hk).2
    omega
theorem Level.on (h : Level w W s bn i a L lc t E v0 v ns) (hn : NestAt W' bn a L lc t E v' ns') (hk : Kept bn v W W' v') : Level w W' s bn i a L lc t E v0 v' ns' := by
  have h1 := h.box.lt
  have h2 := h.idx.lt
  have h3 := h.old
  refine ⟨h.at0, h.box.turned hk.1 (fun e => ?_), h.idx.turned hk.1 (fun e => ?_), hn, h.kept.trans hk, h3, fun k e => ?_⟩
  · rcases e with e | e
    · omega
    · exact (h.own _ e).1 rfl
  · rcases e with e | e
    · omega
    · exact (h.own _ e).2 rfl
  · rcases hk.2 k e with e | e
    · exact h.own k e
    · omega
theorem Level.drew (h : Level w W s bn i a L lc t E v0 v ns) : Level w W.drew s bn i a L lc t E v0 v ns :=
  ⟨h.at0, h.box, h.idx, ⟨h.nest.1, h.nest.2.1, h.nest.2.2⟩, ⟨h.kept.1.drew, h.kept.2⟩, h.old, h.own⟩
theorem Level.c2 (h : Level w W s bn i a L lc t E v0 v ns) : W.cell? ⟨s, 0, none⟩ = some (.pointer (some ⟨bn, 0, none⟩)) := h.box.cell 0
theorem Level.c3 (h : Level w W s bn i a L lc t E v0 v ns) : W.cell? ⟨s + 1, 0, none⟩ = some (.int .i64 i) := h.idx.cell 0
theorem Level.n0 (h : Level w W s bn i a L lc t E v0 v ns) : W.cell? ⟨bn, 0, none⟩ = some (.slice a L lc) := h.nest.1.cell 0
theorem Level.n1 (h : Level w W s bn i a L lc t E v0 v ns) : W.cell? ⟨bn, 1, none⟩ = some v := h.nest.1.cell 1
end
theorem NestAt.step {W : World} {bn b off : Nat} {L lc : Nat} {t : Nat → Bool} {E : Nat → Int} {v : Value} {ns : List Int} (h : NestAt W bn (some ⟨b, off, none⟩) L lc t E v ns) {j : Nat} (hj : j < L) :
    W.cell? ⟨b, off + j * 2, none⟩ = some (.bool (t j)) ∧ W.cell? ⟨b, off + j * 2 + 1, none⟩ = some (.int .i64 (E j)) := by
  rcases h.2.2 with e | ⟨b', off', e, _, hc⟩
  · omega
  · injection e with e
    injection e with e1 e2
    subst e1 e2
    exact hc j hj
theorem NestAt.some_ {W : World} {bn : Nat} {a : Option Addr} {L lc : Nat} {t : Nat → Bool} {E : Nat → Int} {v : Value} {ns : List Int} (h : NestAt W bn a L lc t E v ns) {j : Nat} (hj : j < L) : ∃ b off, a = some ⟨b, off, none⟩ := by
  rcases h.2.2 with e | ⟨b', off', e, _, hc⟩
  · omega
  · exact ⟨b', off', e⟩
/-- Behind a try: what was within, and the try's own block. -/
theorem tried_on {W w3 w4 : World} {bn : Nat} {a : Option Addr} {L lc : Nat} {t : Nat → Bool} {E : Nat → Int} {v v4 : Value} {ns ns4 : List Int} {o : Obj} (h : NestAt W bn a L lc t E v ns) (hn : NestAt w3 bn a L lc t E v4 ns4)
    (hk : Kept bn v (W.alloc o) w3 v4) (ha : Aside W.heap.size w3 w4) : NestAt w4 bn a L lc t E v4 ns4 ∧ Kept bn v W w4 v4 := by
  have hsz : (W.alloc o).heap.size = W.heap.size + 1 := by simp
  have hbn := h.1.lt
  have T3 : Turned (fun i => i = W.heap.size) w3 w4 := ⟨ha.1, ha.2.1, ha.2.2.1, ha.size, fun k hk hn => ha.block hk hn⟩
  have hv : ∀ i, v4.ownBlock = some i → v.ownBlock = some i ∨ W.heap.size < i := fun i hi => by
    rcases hk.2 i hi with e | e
    · exact .inl e
    · exact .inr (by omega)
  refine ⟨hn.apart T3 (fun i e => ⟨by omega, fun hi => ?_⟩), (((Turned.refl _ W).alloc o).trans hk.1).trans' T3 (fun i hi e => by omega), fun i hi => ?_⟩
  · rcases hv i hi with e' | e'
    · have := (h.2.1.lt i e').2; omega
    · omega
  · rcases hv i hi with e' | e'
    · exact .inl e'
    · exact .inr (by omega)
theorem er_try {t : Nat → Bool} {E : Nat → Int} {L n j : Nat} (hj : L - (n + 1) = j) (h : t j = true) : er t E L (n + 1) = E j := by simp [er, hj, h]
theorem er_plain {t : Nat → Bool} {E : Nat → Int} {L n j : Nat} (hj : L - (n + 1) = j) (h : t j = false) : er t E L (n + 1) = if er t E L n = 0 then E j else er t E L n := by simp [er, hj, h]
theorem nts_try {t : Nat → Bool} {E : Nat → Int} {L n j : Nat} (hj : L - (n + 1) = j) (h : t j = true) (ns : List Int) : ns ++ nts t E L (n + 1) = ns ++ [(j : Int)] ++ nts t E L n ++ [IntKind.i64.wrap (100 + er t E L n)] := by simp [nts, hj, h]
theorem nts_plain {t : Nat → Bool} {E : Nat → Int} {L n j : Nat} (hj : L - (n + 1) = j) (h : t j = false) (ns : List Int) : ns ++ nts t E L (n + 1) = ns ++ [(j : Int)] ++ nts t E L n := by simp [nts, hj, h]
end Go.Proofs.Ytknpekpigiclkaa
