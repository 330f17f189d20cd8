/-
  THE STATEMENT corduroylaw01.BitsRead: for any numbers and any widths the call returns true and leaves its arguments as they were. No condition.
-/
import Derived.Test.YtmfcopfcebacdaaBitsBoth
namespace Go.Proofs.Ytmfcopfcebacdaa.bitsRead
open Go.ChangeShapes Go.WideShapes Go.ChangeAt Go.RowKit
set_option linter.unusedVariables false
theorem intInfo : (Try.prog.info? 3).map (fun i => (i.zero, i.size, i.bytes)) = some (some (.int .i64 0), 1, 8) := by kernel_rfl
theorem read_skip (a0 a1 : Option Addr) (len0 cap0 len1 cap1 : Nat) (w : World) (h : 60 < len0 ∨ 60 < len1) :
    Calls Try.prog 8 #[.slice a0 len0 cap0, .slice a1 len1 cap1] w fun e w' => e = .returned (.bool true) ∧ Below w.heap.size w w' := by
  by_cases h1 : 60 < len0
  · have h' : (60 : Int) < len0 := by omega
    clear h
    go_enter Try.func8, Try.ntmps8
    go_wp2
    go_ret
    exact ⟨rfl, Below.refl _ _⟩
  · have h' : ¬ (60 : Int) < len0 := by omega
    have h2 : (60 : Int) < len1 := by omega
    clear h
    go_enter Try.func8, Try.ntmps8
    go_wp2
    go_ret
    exact ⟨rfl, Below.refl _ _⟩
theorem owns_two {w : World} {b b' : Nat} {e e' : TypeId} {n n' : Nat} {v v' : Value} {xs xs' : List Value} (h : w.ownsRow b e 1 v n xs) (h' : w.ownsRow b' e' 1 v' n' xs') (hne : e ≠ e') : ∀ i, v.ownBlock = some i → v'.ownBlock ≠ some i := by
  intro i hi hi'
  rcases h.2 with ⟨rfl, _⟩ | ⟨g, c, cur, rfl, _, hg, _⟩
  · cases hi
  · rcases h'.2 with ⟨rfl, _⟩ | ⟨g', c', cur', rfl, _, hg', _⟩
    · cases hi'
    · injection hi with hi
      injection hi' with hi'
      simp only at hi hi'
      subst hi hi'
      rw [hg] at hg'
      injection hg' with hg'
      injection hg' with _ ht
      exact hne ht
theorem put_keeps {w wr w2 : World} {bw c m : Nat} {v va : Value} {N : Nat} {xs : List Value} (hw : WriterAt wr bw v N c) (ho : wr.ownsRow w.heap.size 3 1 va m xs) (hb : Below w.heap.size w wr) (hbw : w.heap.size ≤ bw)
    (ht : Turned (fun i => i = bw ∨ v.ownBlock = some i) wr w2) : w2.ownsRow w.heap.size 3 1 va m xs ∧ Below w.heap.size w w2 :=
  ⟨owns_turned ho ht (fun i hi hs => by
    rcases hs with rfl | hs
    · exact owns_apart ho hw.1 (by decide) hi
    · exact owns_two ho hw.2.1 (by decide) i hi hs), hb.trans (put_below hw ht hbw |>.mono (Nat.le_refl _))⟩
theorem writer_grown {w2 w3 : World} {bw : Nat} {v va : Value} {N c m base : Nat} {xs : List Value} (hw : WriterAt w2 bw v N c) (ho : w2.ownsRow base 3 1 va m xs) (hg : w2.grownBy w3 va.ownBlock) : WriterAt w3 bw v N c :=
  ⟨(hg.block bw hw.1.lt (fun e => owns_apart ho hw.1 (by decide) e.symm)).trans hw.1, owns_turned hw.2.1 (S := fun i => va.ownBlock = some i) ⟨hg.os, hg.tape, hg.output, hg.size, fun k hk hn => hg.block k hk (fun e => hn e.symm)⟩ (fun i hi hs => owns_two hw.2.1 ho (by decide) i hi hs), hw.2.2⟩
theorem writer_below {w w' : World} {bw : Nat} {v : Value} {N c : Nat} (h : WriterAt w bw v N c) (hb : Below w.heap.size w w') : WriterAt w' bw v N c :=
  ⟨h.1.below hb h.1.lt, owns_turned h.2.1 (S := fun _ => False) (Turned.of_below hb (fun i hi _ => hi)) (fun _ _ h => h), h.2.2⟩
theorem owns_below {w w' : World} {b : Nat} {e : TypeId} {n : Nat} {v : Value} {xs : List Value} (h : w.ownsRow b e 1 v n xs) (hb : Below w.heap.size w w') : w'.ownsRow b e 1 v n xs :=
  owns_turned h (S := fun _ => False) (Turned.of_below hb (fun i hi _ => hi)) (fun _ _ h => h)
theorem part_low (N u c p k : Nat) (h : p + k ≤ c) : (N + u * 2 ^ c) / 2 ^ p % 2 ^ k = N / 2 ^ p % 2 ^ k := by
  obtain ⟨d, rfl⟩ : ∃ d, c = p + k + d := ⟨c - p - k, by omega⟩
  have e : u * 2 ^ (p + k + d) = 2 ^ k * (u * 2 ^ d) * 2 ^ p := by rw [Nat.pow_add, Nat.pow_add]; ac_rfl
  rw [e, Nat.add_mul_div_right _ _ (Nat.pow_pos (by decide)), Nat.add_mul_mod_self_left]
theorem part_top (N u c k : Nat) (hN : N < 2 ^ c) (hu : u < 2 ^ k) : (N + u * 2 ^ c) / 2 ^ c % 2 ^ k = u := by
  rw [Nat.add_mul_div_right _ _ (Nat.pow_pos (by decide)), Nat.div_eq_of_lt hN, Nat.zero_add, Nat.mod_eq_of_lt hu]
/-- What was put, and where it lies. -/
def PutAt (n m : Nat) (l : Nat → Nat) (y : Nat → Int) (N c mm : Nat) (ps pos : Nat → Nat) : Prop :=
  pos 0 = 0 ∧ pos mm = c ∧ ∀ j, j < mm → ps j < n ∧ ps j < m ∧ 0 ≤ y (ps j) ∧ y (ps j) ≤ 64 ∧ pos (j + 1) = pos j + (y (ps j)).toNat ∧ pos (j + 1) ≤ c ∧ N / 2 ^ pos j % 2 ^ (y (ps j)).toNat = l (ps j)
theorem PutAt.more {n m N c mm i k : Nat} {l : Nat → Nat} {y : Nat → Int} {ps pos : Nat → Nat} (h : PutAt n m l y N c mm ps pos) (hN : N < 2 ^ c) (hn : i < n) (hm : i < m) (hy : y i = k) (hk : k ≤ 64) (hu : l i < 2 ^ k) :
    PutAt n m l y (N + l i * 2 ^ c) (c + k) (mm + 1) (fun j => if j = mm then i else ps j) (fun j => if j = mm + 1 then c + k else pos j) := by
  obtain ⟨h1, h2, h3⟩ := h
  have hyk : (y i).toNat = k := by omega
  refine ⟨by simp [h1], by simp, fun j hj => ?_⟩
  by_cases e : j = mm
  · subst e
    have e1 : (if j = j + 1 then c + k else pos j) = pos j := if_neg (by omega)
    simp only [e1]
    simp only [if_pos, h2, hyk]
    exact ⟨hn, hm, by omega, by omega, trivial, Nat.le_refl _, part_top N (l i) c k hN hu⟩
  · have e1 : (if j = mm then i else ps j) = ps j := if_neg e
    have e2 : (if j + 1 = mm + 1 then c + k else pos (j + 1)) = pos (j + 1) := if_neg (by omega)
    have e3 : (if j = mm + 1 then c + k else pos j) = pos j := if_neg (by omega)
    simp only [e1, e2, e3]
    obtain ⟨a1, a2, a3, a4, a5, a6, a7⟩ := h3 j (by omega)
    exact ⟨a1, a2, a3, a4, a5, by omega, by rw [part_low _ _ _ _ _ (by omega)]; exact a7⟩
set_option maxRecDepth 100000 in
set_option maxHeartbeats 4000000 in
theorem read_walk (a0 a1 : Option Addr) (n cap0 m cap1 : Nat) (l : Nat → Nat) (y : Nat → Int) (w : World) (hn : n ≤ 60) (hm : m ≤ 60) (H0 : U64s w a0 n l) (H1 : RowOf w a1 m (fun i => .int .i64 (y i))) :
    Calls Try.prog 8 #[.slice a0 n cap0, .slice a1 m cap1] w fun e w' => e = .returned (.bool true) ∧ Below w.heap.size w w' := by
  obtain ⟨i0, hi, hz0, hz1, hz2⟩ := info_parts intInfo
  have h' : ¬ (60 : Int) < n := by omega
  have h'' : ¬ (60 : Int) < m := by omega
  have HLU := Lib.hid H0.2
  have H0 := Lib.hid H0.1
  have H1 := Lib.hid H1
  have NW := Lib.hid (newWriter_any w)
  go_enter Try.func8, Try.ntmps8
  go_wp2_with (go_at_call 15; refine NW.out.mono ?_; rintro e w1 ⟨rfl, hw, hb⟩; have HW := Lib.hid hw; have HB := Lib.hid hb; clear hw hb)
  obtain ⟨bw, hbw⟩ : ∃ bw, w.heap.size = bw := ⟨_, rfl⟩
  rw [hbw] at HW
  rw [hbw]
  have HBW := Lib.hid hbw
  clear hbw
  go_loopw [6, 7] (fun va x wr => ∃ (i c N mm : Nat) (v : Value) (ps pos : Nat → Nat), i ≤ n ∧ i ≤ m ∧ x = .int .i64 i ∧ c ≤ 64 * i ∧ mm ≤ i ∧ WriterAt wr bw v N c ∧ PutAt n m l y N c mm ps pos ∧ wr.ownsRow w.heap.size 3 1 va mm (rowV (fun j => .int .i64 (ps j : Nat)) mm) ∧ Below w.heap.size w wr) (fun _ x wr => n - (intOf x).toNat)
  case atStart => exact ⟨0, 0, 0, 0, _, fun _ => 0, fun _ => 0, by omega, by omega, rfl, by omega, by omega, HW.out, ⟨rfl, rfl, fun j hj => by omega⟩, World.ownsRow_nil _ _ _ _, HB.out⟩
  case round =>
    obtain ⟨i, c, N, mm, v, ps, pos, hin, him, rfl, hc, hmm, hw, hp, ho, hb⟩ := hrel
    by_cases hlt : i < n ∧ i < m
    · obtain ⟨h1, h2⟩ := hlt
      have i1 : (i : Int) < n := by omega
      have i2 : (i : Int) < m := by omega
      have i0' : (0 : Int) ≤ i := by omega
      obtain ⟨b0, off0, rfl, hb0, hc0⟩ := H0.out.at_ h1
      obtain ⟨b1, off1, rfl, hb1, hc1⟩ := H1.out.at_ h2
      have CC : ∀ W, Below w.heap.size w W → W.cell? ⟨b0, off0 + i, none⟩ = some (.int .u64 (l i : Nat)) ∧ W.cell? ⟨b1, off1 + i, none⟩ = some (.int .i64 (y i)) := fun W hW =>
        ⟨(hW.cell (p := ⟨b0, off0 + i, none⟩) hb0).trans (hc0 i h1), (hW.cell (p := ⟨b1, off1 + i, none⟩) hb1).trans (hc1 i h2)⟩
      have CC := Lib.hid CC
      obtain ⟨c0, c1⟩ := CC.out wr hb
      have hu := HLU.out i h1
      clear hc0 hc1
      have HWR := Lib.hid hw
      have HO := Lib.hid ho
      have HB2 := Lib.hid hb
      have HP := Lib.hid hp
      clear hw ho hb hp
      by_cases hx : 0 ≤ y i ∧ y i ≤ 64
      · obtain ⟨k, hyk⟩ : ∃ k : Nat, y i = k := ⟨(y i).toNat, by omega⟩
        have hk : k ≤ 64 := by omega
        rw [hyk] at c1 CC
        clear hx
        by_cases hf : l i < 2 ^ k
        · have PU := Lib.hid (fun W hW => put_ok bw v N c (l i) k hu hk hf (by omega) W hW)
          have PM := Lib.hid (HP.out.more HWR.out.2.2 h1 h2 hyk hk hf)
          have HYK := Lib.hid hyk
          clear hu hf hyk
          generalize l i = u at *
          have WD : WriterAt wr.drew bw v N c := HWR.out
          have WD := Lib.hid WD
          have RS := Lib.hid (rowV_succ (fun j => Value.int .i64 ((if j = mm then i else ps j : Nat) : Int)) mm)
          go_wp2
          go_region_held3 (fun w' => w'.cell? ⟨b0, off0 + i, none⟩ = some (.int .u64 (u : Nat)) ∧ w'.cell? ⟨b1, off1 + i, none⟩ = some (.int .i64 k)) (first | (exact ⟨q1, q2⟩) | go_keep)
            ((go_at_call 16; refine (PU.out _ WD.out).mono ?_; rintro e w2 ⟨rfl, v2, hw2, ht2, _⟩; obtain ⟨ho2, hb2⟩ := put_keeps (wr := wr.drew) HWR.out HO.out HB2.out.drew (by have := HBW.out; omega) ht2; obtain ⟨q1, q2⟩ := CC.out w2 hb2; have HW2 := Lib.hid hw2; have HO2 := Lib.hid ho2; have HB3 := Lib.hid hb2; clear hw2 ht2 ho2 hb2))
          go_wp2_with (at_builtin; go_must (refine wpList_append_own_at _ rfl _ _ 23 rfl w.heap.size 3 i0 (.int .i64 0) 1 8 Try.underlying23 hi hz0 hz1 hz2 rfl (by decide) _ _ _ rfl (HO2.out.alloc _) ⟨w2.heap.size, 0, none⟩ 1 1 [.int .i64 i] rfl rfl (cell_one_new _ _ _) (by simp [Value.oneCell']) (by unfold maxLen; omega) (by omega) (by have := HB3.out.size; simp; omega) ?_); intro v4 w4 hown4 hgrow4 _ _; have HO4 := Lib.hid hown4; have HG4 := Lib.hid hgrow4; clear hown4 hgrow4)
          go_roundw
          case rel =>
            refine ⟨i + 1, c + k, N + u * 2 ^ c, mm + 1, v2, _, _, by omega, by omega, by go_num, by omega, by omega, writer_grown (writer_below HW2.out ((Below.refl _ _).alloc (Nat.le_refl _) _)) (HO2.out.alloc _) HG4.out, PM.out, ?_, (HB3.out.alloc HB3.out.size _).grown HG4.out (by have := HB3.out.size; simp; omega) (fun j hj => (HO2.out.lt j hj).1)⟩
            rw [RS.out, if_pos trivial, rowV_congr (g := fun j => .int .i64 (ps j : Nat)) (fun j hj => by rw [if_neg (by omega)])]
            exact HO4.out
          case measure => simp [intOf]; omega
        · have PU := Lib.hid (fun W => put_range bw (l i) k hu hk hf W)
          clear hu hf
          go_wp2
          go_region_held3 (fun w' => w'.cell? ⟨b0, off0 + i, none⟩ = some (.int .u64 (l i : Nat)) ∧ w'.cell? ⟨b1, off1 + i, none⟩ = some (.int .i64 k)) (go_keep)
            ((go_at_call 16; refine (PU.out _).mono ?_; rintro e w2 ⟨rfl, rfl⟩))
          go_wp2
          go_roundw
          case rel => exact ⟨i + 1, c, N, mm, v, ps, pos, by omega, by omega, by go_num, by omega, by omega, HWR.out, HP.out, HO.out, HB2.out.drew⟩
          case measure => simp [intOf]; omega
      · have PU := Lib.hid (fun W => put_width bw (l i) (y i) hx W)
        clear hu hx
        go_wp2
        go_region_held3 (fun w' => w'.cell? ⟨b0, off0 + i, none⟩ = some (.int .u64 (l i : Nat)) ∧ w'.cell? ⟨b1, off1 + i, none⟩ = some (.int .i64 (y i))) (go_keep)
          ((go_at_call 16; refine (PU.out _).mono ?_; rintro e w2 ⟨rfl, rfl⟩))
        go_wp2
        go_roundw
        case rel => exact ⟨i + 1, c, N, mm, v, ps, pos, by omega, by omega, by go_num, by omega, by omega, HWR.out, HP.out, HO.out, HB2.out.drew⟩
        case measure => simp [intOf]; omega
    · have hc4 : c ≤ 3840 := by omega
      have WB := Lib.hid (wbytes_any bw v N c (by omega) wr hw)
      obtain ⟨n5, hn5⟩ : ∃ n5, (c + 7) / 8 = n5 := ⟨_, rfl⟩
      rw [hn5] at WB
      have h5a : c ≤ 8 * n5 := by omega
      have h5b : 8 * n5 - c < 8 := by omega
      have h5c : n5 ≤ 1000 := by omega
      have hNM : num (fun i => ((N / 256 ^ i % 256 : Nat) : Int)) n5 = N := by
        rw [num_of N _ n5 (fun i _ => rfl), Nat.mod_eq_of_lt]
        have e : (256 : Nat) ^ n5 = 2 ^ (8 * n5) := by rw [Nat.pow_mul]
        rw [e]
        exact Nat.lt_of_lt_of_le hw.2.2 (Nat.pow_le_pow_right (by decide) h5a)
      have HNM := Lib.hid hNM
      have HZ5 : ∀ i, i < n5 → 0 ≤ ((N / 256 ^ i % 256 : Nat) : Int) ∧ ((N / 256 ^ i % 256 : Nat) : Int) ≤ 255 := fun i _ => by omega
      have HZ5 := Lib.hid HZ5
      obtain ⟨a9, cap9, rfl, hr9, hb9⟩ := own_reads' ho
      have HR9 := Lib.hid hr9
      have HB9 := Lib.hid hb9
      have HO := Lib.hid ho
      have HP := Lib.hid hp
      have HB2 := Lib.hid hb
      have hbs := hb.size
      obtain ⟨wo, rfl⟩ : ∃ wo : World, wo = wr := ⟨_, rfl⟩
      clear hw ho hb hp hn5 hNM hr9 hb9
      by_cases h1 : i < n
      case' pos =>
        have i1 : (i : Int) < n := by omega
        have i2 : ¬ (i : Int) < m := by omega
      case' neg =>
        have i1 : ¬ (i : Int) < n := by omega
      all_goals
        clear hlt
        go_wp2_with (go_at_call 21; refine WB.out.mono ?_; rintro e w5 ⟨v5, rfl, ho5, hb5⟩; rw [show cellsOf (bytesOf n5 N) = rowV (fun i => .int .u8 ((N / 256 ^ i % 256 : Nat) : Int)) n5 from by simp [cellsOf, bytesOf, rowV]] at ho5; obtain ⟨a5, c5, rfl, hr5, _⟩ := own_reads' ho5; have NR := Lib.hid (newReader_any a5 n5 c5 _ (by omega) w5 hr5); have HB5 := Lib.hid hb5; clear ho5 hb5 hr5)
        refine NR.out.mono ?_
        rintro e w6 ⟨br, rfl, hr6, hbr6, hb6⟩
        have HR6 := Lib.hid hr6
        have HBR := Lib.hid (Nat.le_trans HB5.out.size hbr6)
        have hb56 : Below wo.heap.size wo w6 := HB5.out.trans (hb6.mono HB5.out.size)
        have HB6 := Lib.hid (HB2.out.trans (hb56.mono hbs))
        have HO6 := Lib.hid (HR9.out.below hb56)
        clear hr6 hbr6 hb6 hb56 NR
        go_wp2
        go_loopw [9] (fun x wr => ∃ t : Nat, t ≤ mm ∧ x = .int .i64 t ∧ ReaderAt wr br n5 (fun i => ((N / 256 ^ i % 256 : Nat) : Int)) (pos t) ∧ RowOf wr a9 mm (fun j => .int .i64 (ps j : Nat)) ∧ Below w.heap.size w wr) (fun x _ => mm - (intOf x).toNat)
        case atStart => exact ⟨0, by omega, rfl, by rw [HP.out.1]; exact HR6.out, HO6.out, HB6.out⟩
        case round =>
          obtain ⟨t, htm, rfl, hr, hro, hb⟩ := hrel
          by_cases htl : t < mm
          · have t1 : (t : Int) < mm := by omega
            obtain ⟨p1, p2, p3, p4, p5, p6, p7⟩ := HP.out.2.2 t htl
            obtain ⟨k, hyk⟩ : ∃ k : Nat, y (ps t) = k := ⟨(y (ps t)).toNat, by omega⟩
            rw [hyk, Int.toNat_natCast] at p5 p7
            have GO := Lib.hid (get_ok br n5 _ (pos t) k HZ5.out (by omega) (by omega) (by omega) wr hr)
            rw [HNM.out, p7, ← p5] at GO
            obtain ⟨b0, off0, rfl, hb0, hc0⟩ := H0.out.at_ p1
            obtain ⟨b1, off1, rfl, hb1, hc1⟩ := H1.out.at_ p2
            obtain ⟨g, og, ha9, hgl, hcg⟩ := hro.at_ htl
            subst ha9
            have q1 := hc0 (ps t) p1
            have q2 := hc1 (ps t) p2
            rw [hyk] at q2
            have hgb : g < wo.heap.size := (HB9.out _ rfl).2
            have CC : ∀ W, Below w.heap.size w W → W.cell? ⟨b0, off0 + ps t, none⟩ = some (.int .u64 (l (ps t) : Nat)) ∧ W.cell? ⟨b1, off1 + ps t, none⟩ = some (.int .i64 k) := fun W hW =>
              ⟨(hW.cell (p := ⟨b0, off0 + ps t, none⟩) hb0).trans q1, (hW.cell (p := ⟨b1, off1 + ps t, none⟩) hb1).trans q2⟩
            have CC := Lib.hid CC
            have KB := Lib.hid (fun w2 (ht : Turned (· = br) wr w2) => (hb.trans (ht.below fun i hi => ⟨by have := hb.size; omega, fun e => by have := HBR.out; omega⟩) : Below w.heap.size w w2))
            have KR := Lib.hid (fun w2 (ht : Turned (· = br) wr w2) => hro.turned ht (fun p hp (e : p.block = br) => by injection hp with hp; subst hp; have := HBR.out; simp only at e; omega))
            have KC := Lib.hid (fun (w2 : World) (ht : Turned (· = br) wr w2) => (ht.cell (p := ⟨g, og + t, none⟩) hgl (fun e => by have := HBR.out; simp only at e; omega)).trans (hcg t htl))
            obtain ⟨c0, c1⟩ := CC.out wr hb
            have c2 := hcg t htl
            have l1 : (ps t : Int) < n := by omega
            have l2 : (ps t : Int) < m := by omega
            have HPN := Lib.hid p5
            clear hr hro hb hc0 hc1 hcg q1 q2 hyk p3 p4 p5 p6 p7
            generalize ps t = q at *
            generalize l q = u at *
            go_wp2_with (go_at_call 25; refine GO.out.mono ?_; rintro e w7 ⟨rfl, hr7, ht7⟩; have HR7 := Lib.hid hr7; have HB7 := Lib.hid (KB.out w7 ht7); have HO7 := Lib.hid (KR.out w7 ht7); obtain ⟨d0, d1⟩ := CC.out w7 HB7.out; have d2 := KC.out w7 ht7; clear hr7 ht7)
            go_roundw
            case rel => exact ⟨t + 1, by omega, by go_num, HR7.out, HO7.out, HB7.out⟩
            case measure => simp [intOf]; omega
          · obtain rfl : t = mm := by omega
            rw [HP.out.2.1] at hr
            have LE := Lib.hid (left_any br n5 _ c (by omega) h5a wr hr)
            have HB7 := Lib.hid hb
            have hL : ((8 * n5 - c : Nat) : Int) < 8 := by omega
            clear hr hro hb
            generalize 8 * n5 - c = L at *
            go_wp2_with (first | (go_at_call 27; refine LE.out.mono ?_; rintro e w8 ⟨rfl, j8, rfl⟩) | (go_at_call 23; refine (awake_any _).mono ?_; rintro e w4 ⟨rfl, hb4⟩; have HB4 := Lib.hid hb4; clear hb4))
            go_ret
            refine ⟨rfl, ?_⟩
            have t1 : Below w.heap.size w (wr.drewN j8) := ⟨HB7.out.os, HB7.out.tape, HB7.out.output, HB7.out.size, HB7.out.block⟩
            exact t1.trans (HB4.out.mono t1.size)
theorem walk (a0 : Option Addr) (len0 cap0 : Nat) (z0 : List Int) (a1 : Option Addr) (len1 cap1 : Nat) (z1 : List Int) (w : World) (b0 : IsRow .u64 w a0 len0 cap0 z0) (b1 : IsRow .i64 w a1 len1 cap1 z1) :
    Calls Try.prog 8 #[.slice a0 len0 cap0, .slice a1 len1 cap1] w fun e w' => e = .returned (.bool true) ∧ Below w.heap.size w w' := by
  by_cases h : 60 < len0 ∨ 60 < len1
  · exact read_skip a0 a1 len0 cap0 len1 cap1 w h
  · exact read_walk a0 a1 len0 cap0 len1 cap1 _ (fun i => z1.getD i 0) w (by omega) (by omega) b0.u64s b1.ints
theorem own : ownKnob Try.prog.godebug = none := by kernel_rfl
set_option maxRecDepth 100000 in
theorem contract (H : Type) (enc : TypeId × Value → H) (W : World) (base : Nat) (args : Array Value) (ds gs : List (DataW H)) (before : List MemPlace)
    (hval : ∀ (j : Nat) t v, Try.f8.params[j]? = some t → args[j]? = some v → Value.okWide Try.prog W .any base t v)
    (hW : DataW.Whole enc Try.prog Try.f8.params.toList Rows.bitsReadSpec.vars false W args.toList ds gs before) :
    Calls Try.prog 8 args W fun e W' => ∃ v, e = .returned v ∧ Rows.bitsReadSpec.post enc Try.prog Try.f8 false true false false W args v W' := by
  have hW' := hW
  obtain ⟨p, q, hA0, hV, rfl, hfz, hnd⟩ := hW
  have hA : DataW.TrodAll enc Try.prog W 0 (fun _ => true) true Try.f8.params.toList args.toList ds p := hA0
  rw [Try.params8] at hA hval
  obtain ⟨v0, vs0, d0, ds0, p0, q0, hargs, rfl, rfl, h0, r0⟩ := trodAll_cons hA
  obtain ⟨v1, vs1, d1, ds1, p1, q1, rfl, rfl, rfl, h1, r1⟩ := trodAll_cons r0
  obtain ⟨rfl, rfl, rfl⟩ := trodAll_nil r1
  obtain rfl : args = #[v0, v1] := by cases args; simp_all
  obtain ⟨rfl, rfl⟩ := trodVars_none hV
  have hWhole := hW'
  obtain ⟨a0, len0, cap0, rfl⟩ := okWide_slice Try.underlying22 (hval 0 22 v0 rfl rfl)
  have k0 := h0
  have lt0 : ∀ x ∈ p0, x.block < W.heap.size := by obtain ⟨m, hm⟩ := k0; exact DataW.trod_lt m _ _ _ hm
  obtain ⟨z0, b0⟩ : ∃ zs, IsRow .u64 W a0 len0 cap0 zs := by
    obtain ⟨fuel, hf⟩ := h0
    rcases open_ints Try.underlying22 Try.underlying29 (by kernel_rfl) hf with ⟨hcs, _⟩ | ⟨x, l, c, zs, hcs, _, hl, hm, hz, _, hcell, hwz⟩
    · simp [Value.cells] at hcs
      obtain ⟨rfl, rfl, rfl⟩ := hcs
      exact ⟨[], isRow_nil _ _⟩
    · simp [Value.cells] at hcs
      obtain ⟨rfl, rfl, rfl⟩ := hcs
      exact ⟨zs, isRow_of hl hm (by simpa using hz) hcell hwz⟩
  obtain ⟨a1, len1, cap1, rfl⟩ := okWide_slice Try.underlying23 (hval 1 23 v1 rfl rfl)
  have k1 := h1
  have lt1 : ∀ x ∈ p1, x.block < W.heap.size := by obtain ⟨m, hm⟩ := k1; exact DataW.trod_lt m _ _ _ hm
  obtain ⟨z1, b1⟩ : ∃ zs, IsRow .i64 W a1 len1 cap1 zs := by
    obtain ⟨fuel, hf⟩ := h1
    rcases open_ints Try.underlying23 Try.underlying3 (by kernel_rfl) hf with ⟨hcs, _⟩ | ⟨x, l, c, zs, hcs, _, hl, hm, hz, _, hcell, hwz⟩
    · simp [Value.cells] at hcs
      obtain ⟨rfl, rfl, rfl⟩ := hcs
      exact ⟨[], isRow_nil _ _⟩
    · simp [Value.cells] at hcs
      obtain ⟨rfl, rfl, rfl⟩ := hcs
      exact ⟨zs, isRow_of hl hm (by simpa using hz) hcell hwz⟩
  clear hA0
  refine (walk a0 len0 cap0 z0 a1 len1 cap1 z1 W b0 b1).mono fun e W' ⟨he, hg⟩ => ?_
  subst he
  exact ⟨_, rfl, _, _, _, [], _, [], hW', trodAll_mk1 (shut_bool Try.underlying4 _), (trodAll_cons_mk (Below.trod laidOut (by kernel_rfl) (of_decide_eq_true (by kernel_rfl)) k0 hg lt0) (trodAll_cons_mk (Below.trod laidOut (by kernel_rfl) (of_decide_eq_true (by kernel_rfl)) k1 hg lt1) trodAll_mk0)), rfl, hg.frame _, fun h => by cases h⟩

set_option maxRecDepth 100000 in
theorem lifted (os : Os) (started : os.Started) (H : Type) (enc : TypeId × Value → H) :
    ReturnsInHanded {} Try.checked os 8 .any (Rows.bitsReadSpec.pre6 enc Try.prog Try.f8 Rows.bitsReadRow.domain false) (Rows.bitsReadSpec.post enc Try.prog Try.f8 false true false false) := by
  refine returnsInHanded_of_change (C := Try.checked) own started (by kernel_rfl) Try.func8
    (ChangeSpec.witness6 (enc := enc) (C := Try.checked) false ⟨#[], #[.slice none 0 0, .slice none 0 0], []⟩ 8 (by kernel_rfl) (by kernel_rfl) (by kernel_rfl) (by kernel_rfl)) ?_
  intro W base args ds gs before hval hW _ _
  exact contract H enc W base args ds gs before hval hW

/-- ████ THE STATEMENT ████ -/
theorem proved : Rows.BitsReadSaid :=
  OpenClaim.holds_of_wide 8 Try.f8 rfl rfl rfl rfl rfl rfl rfl ⟨rfl, rfl, rfl, rfl, rfl⟩ rfl rfl rfl rfl rfl (by kernel_rfl) Try.func8 (by kernel_rfl)
    (of_decide_eq_true (by kernel_rfl)) (by unfold Func.isWrapper; first | (rw [if_pos (by decide +kernel)]; kernel_rfl) | (rw [if_neg (by decide +kernel)]; exact ⟨rfl, rfl⟩))
    (fun os started H enc _ => lifted os started H enc)
end Go.Proofs.Ytmfcopfcebacdaa.bitsRead
