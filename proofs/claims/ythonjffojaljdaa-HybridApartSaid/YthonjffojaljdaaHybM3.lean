/-
  TEXTS OF THIS PROOF, one behind the other: XHybG XHybH.
-/
import Derived.Test.YthonjffojaljdaaHybC
import Derived.Test.YthonjffojaljdaaHybE
import Derived.Test.YthonjffojaljdaaHybF
import Derived.Test.YthonjffojaljdaaBoxApp
import Derived.Test.YthonjffojaljdaaWordsI
import Derived.RangeFuncNested
import Derived.Sort.CutIn
/-
  CONTRACT OF Hybrid's Encode of a block that is taken, in any world. Condition: numbers of 64 bits, which lie in memory as told.
-/
namespace Go.Proofs.Ythonjffojaljdaa
open Go.RowKit Go.Shelf Go.BigFrame
set_option linter.unusedVariables false
/-- The width of the form. -/
def hq (x : Nat → Int) (n : Nat) : Nat := most (hz x) n
/-- The form. -/
def hfm (x : Nat → Int) (n : Nat) : List Int := [(hq x n : Int)] ++ hB (hz x) n (hq x n) (runsN (hz x) n)
/-- How many bytes it has. -/
def hln (x : Nat → Int) (n : Nat) : Nat := (hfm x n).length
theorem own_row {W : World} {g n c : Nat} {f : Nat → Value} {b : Nat} {e : TypeId} (h : W.ownsRow b e 1 (.slice (some ⟨g, 0, none⟩) n c) n (rowV f n)) : RowOf W (some ⟨g, 0, none⟩) n f := by
  obtain ⟨a3, c3, he, hr3, _⟩ := own_reads' h
  cases he
  exact hr3
theorem kt_of {A C : World} {B : Nat} (hs : A.heap.size ≤ C.heap.size) (h : ∀ (b : Nat) cs t fr, A.heap[b]? = some (.cells cs t fr) → b ≠ B → t ≠ 5 → C.heap[b]? = some (.cells cs t fr)) (hB : ∃ v, Boxed A B 26 v) : KT A C := by
  refine ⟨hs, fun i cs t fr h1 h2 => h i cs t fr h1 (fun e => ?_) (fun e => ?_)⟩
  · subst e
    obtain ⟨v, hv⟩ := hB
    rw [show A.heap[i]? = _ from hv] at h1
    have := Option.some.inj h1
    simp at this
    rcases h2 with h2 | h2 | h2 <;> · rw [← this.2.1] at h2; revert h2; decide
  · subst e; revert h2; decide
theorem hput_any (u : Nat) (hu : u < 18446744073709551616) (W : World) : Calls Try.prog 56 #[.slice none 0 0, .int .u64 u] W fun e W' => ∃ x, e = .returned x ∧ W'.ownsRow W.heap.size 5 1 x (digs 9 u).length (cellsOf (digs 9 u)) ∧ Below W.heap.size W W' :=
  put_none u hu W
theorem wide_fn' (f : FuncId) : Fence.wide.fn f = True := rfl
attribute [local go_sem] Oper.semAt_some wide_fn'
set_option maxRecDepth 100000 in
set_option maxHeartbeats 2000000 in
theorem hencode_in (a : Option Addr) (n cap : Nat) (x : Nat → Int) (hx : ∀ i, i < n → -9223372036854775808 ≤ x i ∧ x i ≤ 9223372036854775807) (hbk : blk n = true) (w : World) (h : RowOf w a n (fun i => .int .i64 (x i))) :
    Calls Try.prog 23 #[.agg #[], .slice a n cap] w fun e w' => ∃ v, e = .returned (.tuple #[v, .int .i64 0]) ∧ w'.ownsRow w.heap.size 5 1 v (hln x n) (cellsOf (hfm x n)) ∧ Below w.heap.size w w' := by
  obtain ⟨i0, hi, hz0, hz1, hz2⟩ := info_parts byteInfo
  have hn : 1 ≤ n ∧ n ≤ 1024 := by have := of_decide_eq_true hbk; omega
  obtain ⟨hn1, hn2⟩ := hn
  have WR := hwrong_any a n cap
  rw [show wrg n = 0 by simp [wrg, hbk]] at WR
  have WR := Lib.hid WR
  have ZI := Lib.hid (fun (W : World) (hW : Below w.heap.size w W) => zigs_any a n cap x hn2 hx W (h.below hW))
  have hzl : ∀ i, i < n → hz x i < 18446744073709551616 := fun i hi => hz_lt x i (hx i hi)
  have MO := Lib.hid (fun (a2 : Option Addr) (c2 : Nat) (W : World) (hr : RowOf W a2 n (fun i => .int .u64 (hz x i : Nat))) => most_any a2 n c2 (hz x) hzl (by omega) W hr)
  have hq64 : hq x n ≤ 64 := most_le (hz x) n
  have HFB := Lib.hid (show hfm x n = [(hq x n : Int)] ++ hB (hz x) n (hq x n) (runsN (hz x) n) from rfl)
  have HFL := Lib.hid (show hln x n = (hfm x n).length from rfl)
  have HB := Lib.hid ((Below.refl w.heap.size w).alloc (Nat.le_refl _) (.cells #[] 25))
  have HMQ := Lib.hid (show most (hz x) n = hq x n from rfl)
  clear hbk h
  rw [HMQ.out] at MO
  generalize hfm x n = FB at *
  generalize hln x n = FLN at *
  generalize hq x n = q at *
  generalize hz x = z at *
  have hqw : IntKind.u8.wrap (q : Int) = (q : Int) := by simp [IntKind.wrap, IntKind.bits, IntKind.signed]; omega
  refine (callsIn_wide (n := 3)).1 ?_
  refine callsIn_of_wp_marks Try.func23 rfl trivial ?_ rfl
  simp only [Try.ntmps23, List.size_toArray, List.length_cons, List.length_nil, Nat.reduceAdd, Nat.reduceSub, Array.replicate_succ, Array.replicate_zero, List.push_toArray, List.append_toArray, List.nil_append, List.cons_append]
  gi_wp2_with (first
    | (gi_at_call 33; refine (callsIn_wide.2 (WR.out _)).mono ?_; rintro e w1 ⟨rfl, hb⟩; have HB1 := Lib.hid (HB.out.trans (hb.mono HB.out.size)); clear hb)
    | (gi_at_call 50; refine (callsIn_wide.2 (ZI.out _ HB1.out)).mono ?_; rintro e w2 ⟨rfl, ho, hb⟩; have HO2 := Lib.hid ho; have HB2 := Lib.hid (HB1.out.trans (hb.mono HB1.out.size)); clear ho hb)
    | (gi_at_call 51; refine (callsIn_wide.2 (MO.out _ _ _ (own_row HO2.out))).mono ?_; rintro e w3 ⟨rfl, rfl⟩)
    | (gi_at_call 52; refine (runs_in _ _ _ _ _).mono ?_; rintro e w' ⟨rfl, rfl⟩))
  have hB2 := HB2.out
  have hs1 := HB1.out.size
  have hgl := (HO2.out.lt w1.heap.size rfl).2
  obtain ⟨S, hS⟩ : ∃ S, w2.heap.size = S := ⟨_, rfl⟩
  have bw0 := (((Boxed.new w2 3 (.int .i64 q)).alloc (.cells #[.int .u8 q] 5)).alloc (.cells #[.slice (some ⟨w2.heap.size + 1, 0, none⟩) 1 1] 26)).alloc (.cells #[.slice (some ⟨w1.heap.size, 0, none⟩) n n] 58)
  have hv0 := (Boxed.new ((w2.alloc (.cells #[.int .i64 q] 3)).alloc (.cells #[.int .u8 q] 5)) 26 (.slice (some ⟨w2.heap.size + 1, 0, none⟩) 1 1)).alloc (.cells #[.slice (some ⟨w1.heap.size, 0, none⟩) n n] 58)
  have hr0 : ((w2.alloc (.cells #[.int .i64 q] 3)).alloc (.cells #[.int .u8 q] 5)).ownsRow w2.heap.size 5 1 (.slice (some ⟨(w2.alloc (.cells #[.int .i64 q] 3)).heap.size, 0, none⟩) 1 1) 1 [.int .u8 q] := World.ownsRow_lit (w2.alloc (.cells #[.int .i64 q] 3)) #[.int .u8 q] 1 (by simp) (by decide) rfl
  have hr0 := (hr0.alloc (.cells #[.slice (some ⟨w2.heap.size + 1, 0, none⟩) 1 1] 26)).alloc (.cells #[.slice (some ⟨w1.heap.size, 0, none⟩) n n] 58)
  have c1 := Boxed.new (((w2.alloc (.cells #[.int .i64 q] 3)).alloc (.cells #[.int .u8 q] 5)).alloc (.cells #[.slice (some ⟨w2.heap.size + 1, 0, none⟩) 1 1] 26)) 58 (.slice (some ⟨w1.heap.size, 0, none⟩) n n)
  have hbX := ((((Below.refl w2.heap.size w2).alloc (Nat.le_refl _) (.cells #[.int .i64 q] 3)).alloc (by simp) (.cells #[.int .u8 q] 5)).alloc (by simp; omega) (.cells #[.slice (some ⟨w2.heap.size + 1, 0, none⟩) 1 1] 26)).alloc (by simp; omega) (.cells #[.slice (some ⟨w1.heap.size, 0, none⟩) n n] 58)
  have hsX : ((((w2.alloc (.cells #[.int .i64 q] 3)).alloc (.cells #[.int .u8 q] 5)).alloc (.cells #[.slice (some ⟨w2.heap.size + 1, 0, none⟩) 1 1] 26)).alloc (.cells #[.slice (some ⟨w1.heap.size, 0, none⟩) n n] 58)).heap.size = w2.heap.size + 4 := by simp
  simp only [World.size_alloc] at hv0 hr0 c1
  rw [hS] at hgl bw0 hv0 hr0 c1 hbX hsX ⊢
  obtain ⟨G, hG⟩ : ∃ G, w1.heap.size = G := ⟨_, rfl⟩
  have HO2 := HO2.out
  rw [hG] at HO2
  rw [hG] at hgl hv0 hr0 c1 bw0 hbX hsX ⊢
  generalize (((w2.alloc (.cells #[.int .i64 q] 3)).alloc (.cells #[.int .u8 q] 5)).alloc (.cells #[.slice (some ⟨S + 1, 0, none⟩) 1 1] 26)).alloc (.cells #[.slice (some ⟨G, 0, none⟩) n n] 58) = WX at *
  obtain ⟨cur, hcur⟩ : ∃ cur, w2.heap[G]? = some (.cells cur 40 (0, 0)) := by
    rcases HO2.2 with ⟨h0, _⟩ | ⟨g', cap', cur, he, _, hg, _⟩
    · cases h0
    · cases he; exact ⟨cur, hg⟩
  have HRW := Lib.hid (own_row HO2)
  have hcurX : WX.heap[G]? = some (.cells cur 40 (0, 0)) := (hbX.block G hgl).trans hcur
  have hrowX : RowOf WX (some ⟨G, 0, none⟩) n (fun i => .int .u64 (z i : Nat)) := row_block (own_row HO2) ((hbX.block G hgl))
  have hBl := hB_length z n q
  have hWl := hW_le z n q (by omega) hn2 hq64
  have hne1 : (83 : Nat) ≠ 5 := by decide
  have hne2 : (58 : Nat) ≠ 5 := by decide
  have hne3 : (40 : Nat) ≠ 5 := by decide
  have hne4 : (83 : Nat) ≠ 26 := by decide
  have hne5 : (58 : Nat) ≠ 26 := by decide
  have hne6 : (40 : Nat) ≠ 26 := by decide
  have hne7 : (3 : Nat) ≠ 5 := by decide
  refine wpIn_rangeFunc_ownH rfl (by decide) (gf := 95) (lb := #[.pointer (some ⟨S + 3, 0, none⟩)]) rfl trivial (enters_of Try.func95 (by kernel_rfl) rfl)
    (runs_stops 2 (by decide) (S + 3) G n n cur (0, 0) z hn2 (Nat.le_refl _) WX c1 hcurX hrowX) (fun h k => KT.trans h k) (fun W l o o' _ hl hc _ => KT.put hl hc) (Below.refl _ _) (fun _ => rfl)
    (fun pre W => ((∃ v, Boxed W (S + 2) 26 v ∧ W.ownsRow S 5 1 v ([(q : Int)] ++ hB z n q pre).length (cellsOf ([(q : Int)] ++ hB z n q pre)) ∧ ∃ g c, v = .slice (some ⟨g, 0, none⟩) ([(q : Int)] ++ hB z n q pre).length c) ∧ Boxed W S 3 (.int .i64 q)) ∧ Below S w2 W ∧ WX.heap.size ≤ W.heap.size)
    (fun _ _ _ => False)
    (fun s W W' row hs hg hr => ⟨⟨holdsRow_own S (S + 2) 26 5 1 (fun pre => ([(q : Int)] ++ hB z n q pre).length) (fun pre => cellsOf ([(q : Int)] ++ hB z n q pre)) (fun pre v => ∃ g c, v = .slice (some ⟨g, 0, none⟩) ([(q : Int)] ++ hB z n q pre).length c) s W W' row hs.1.1 hg (fun r e => (hr r e).2), hs.1.2.kept hg (fun e => by have := (hr _ e.symm).1; omega)⟩, hs.2.1.grown hg (by omega) (fun k e => by have := (hr _ e).1; omega), Nat.le_trans hs.2.2 hg.size⟩)
    (fun _ _ _ _ _ hs _ _ => hs)
    ⟨⟨⟨_, hv0, by simpa [hB, cellsOf] using hr0, ⟨S + 1, 1, by simp [hB]⟩⟩, bw0⟩, hbX, Nat.le_refl _⟩
    (fun x a' W => ∃ br : Nat, WX.heap.size ≤ br ∧ Lies W br 83 #[.bool (clr z n x).1, .slice (some ⟨G, (clr z n x).2.1, none⟩) (clr z n x).2.2 (n - (clr z n x).2.1)] ∧
      a' = { tmps := #[.agg #[], .slice a n cap, .pointer (some ⟨w.heap.size, 0, none⟩), undef, .slice none 0 0, .int .i64 0, .int .i64 0, .slice (some ⟨G, 0, none⟩) n n, .pointer (some ⟨S, 0, none⟩), .pointer (some ⟨S + 1 + 1, 0, none⟩), .pointer (some ⟨br, 0, none⟩), .agg #[], .iface 25 (.agg #[]), .slice a n cap, .int .i64 0, .int .i64 0, .bool false, undef, .slice a n cap, .slice (some ⟨G, 0, none⟩) n n, .slice (some ⟨G, 0, none⟩) n n, .int .i64 q, .int .i64 q, .int .u8 q, .slice (some ⟨S + 1, 0, none⟩) 1 1, .slice (some ⟨G, 0, none⟩) n n, .func (.func 95) #[] #[.pointer (some ⟨S + 1 + 1 + 1, 0, none⟩)], rv G n (clr z n x), undef, undef, undef, undef, undef, undef, undef, undef, undef, undef, undef], defers := [] })
    (fun x a' _ W W' row hs hg hr => by
      obtain ⟨br, h1, h2, h3⟩ := hs
      refine ⟨br, h1, (hg.block br h2.lt (fun e => ?_)).trans h2, h3⟩
      obtain ⟨o, ho, hc⟩ := (hr br e.symm).2
      rw [show W.heap[br]? = _ from h2] at ho
      cases ho; cases hc) ?assign ?body ?done ?stop
  case assign =>
    intro l pre x W K hI hK
    obtain ⟨y, hy⟩ : ∃ y, clr z n x = y := ⟨_, rfl⟩
    rw [hy] at hK
    have HK := Lib.hid hK
    have HI := Lib.hid hI
    obtain ⟨o, p, len⟩ := y
    clear hK hI
    simp [hy, rv]
    gi_wp2
    obtain ⟨⟨⟨v, hv, hrow, hf⟩, hbw⟩, hB3, hs⟩ := HI.out
    have hsW := hB3.size
    refine HK.out _ _ ((KeepsOthers.alloc W _).from _) (KT.below ((Below.refl _ W).alloc (Nat.le_refl _) _)) ⟨⟨⟨v, hv.alloc _, hrow.alloc _, hf⟩, hbw.alloc _⟩, hB3.alloc (by omega) _, by simp; omega⟩ ⟨W.heap.size, hs, Lies.new W _ _, rfl⟩
  case body =>
    rintro l pre x a' W hlW ⟨rr, hrr⟩ ⟨⟨⟨v, hv, hrow, ⟨gg, cc, rfl⟩⟩, hbw⟩, hB3, hs⟩ ⟨br, hbr, hlr, rfl⟩ hlt
    have hmx : Try.prog.follows .mixedOrders = true := by kernel_rfl
    have hbd := clr_bd z n x (by omega)
    have hrl : (runsN z n).length ≤ n := by have := runsF_len z n n 0; unfold runsN; omega
    have hsS : S ≤ W.heap.size := by have := hB3.size; omega
    have hWp := hWl pre
    have hBp := hBl pre
    have hmm := hB_more z n q x pre
    obtain ⟨y, hy⟩ : ∃ y, clr z n x = y := ⟨_, rfl⟩
    rw [hy] at hbd hmm hlr ⊢
    obtain ⟨o, p, len⟩ := y
    dsimp only at hbd hlr
    obtain ⟨hb1, hb2⟩ := hbd
    have hl1 : len ≤ 1024 := by omega
    have HD := Lib.hid (fun V => head_any o (some ⟨G, p, none⟩) p len (n - p) hl1 V)
    have PT := Lib.hid (fun V => hput_any (hd1 (o, p, len)) (by have := hd1_le (o, p, len) hl1; omega) V)
    have BD := Lib.hid (fun (V : World) (hV : Below S w2 V) => (show Calls Try.prog 57 #[.agg #[.bool o, .slice (some ⟨G, p, none⟩) len (n - p)], .int .i64 q] V fun e w' => ∃ v, e = .returned v ∧ w'.ownsRow V.heap.size 5 1 v (bd1 z q (o, p, len)).length (cellsOf (bd1 z q (o, p, len))) ∧ Below V.heap.size V w' from by
      have hR : RowOf V (some ⟨G, 0, none⟩) n (fun i => .int .u64 (z i : Nat)) := row_block HRW.out (hV.block G hgl)
      have hRp := row_from hR p (by omega)
      have hmp := hmost_pow z n hzl
      rw [HMQ.out] at hmp
      rw [bd1_length]
      cases o
      · have hRl : RowOf V (some ⟨G, p, none⟩) len (fun i => .int .u64 ((fun j => z (p + j)) i : Nat)) := by
          obtain ⟨b', o', he, _, hc⟩ := hRp.at_ (i := 0) (by omega)
          cases he
          exact .inr ⟨G, p, rfl, fun i hi => hc i (by omega)⟩
        exact body_many G p len (n - p) q z hb1 hl1 hq64 (fun i hi => hmp (p + i) (by omega)) V hRl
      · obtain ⟨b', o', he, hlt', hc⟩ := hRp.at_ (i := 0) (by omega)
        cases he
        have c0 := hc 0 (by omega)
        exact body_one G p len (n - p) q (z p) hb1 hq64 (hmp p (by omega)) V c0 hlt'))
    have hd9 : (digs 9 (hd1 (o, p, len))).length ≤ 10 := digs_len 9 _
    have hbb := bs1_le q (o, p, len) hq64 hl1
    rw [← bd1_length z q (o, p, len)] at hbb
    obtain ⟨X, hX⟩ : ∃ X, [(q : Int)] ++ hB z n q pre = X := ⟨_, rfl⟩
    have HX2 := Lib.hid (show [(q : Int)] ++ hB z n q (pre ++ [x]) = X ++ digs 9 (hd1 (o, p, len)) ++ bd1 z q (o, p, len) by rw [hmm, ← hX]; simp)
    have hXl : X.length = 1 + (hB z n q pre).length := by rw [← hX, List.length_append]; rfl
    have hX1 : 1 ≤ X.length ∧ X.length ≤ 9000000 := by
      have : pre.length ≤ 1024 := by omega
      omega
    rw [hX] at hv hrow
    clear hmm hX hXl hWp hBp hrl hlt
    have hvc := hv.cell
    have q0 := hlr.cell 0
    have q1 := hlr.cell 1
    have hwc := hbw.cell
    have hsW := hB3.size
    generalize digs 9 (hd1 (o, p, len)) = dG at *
    generalize bd1 z q (o, p, len) = dH at *
    generalize hd1 (o, p, len) = hd at *
    gi_wp2
    gi_cut [] from 28 (fun wx => ∃ g c, Boxed wx (S + 2) 26 (.slice (some ⟨g, 0, none⟩) (X ++ dG).length c) ∧ wx.ownsRow S 5 1 (.slice (some ⟨g, 0, none⟩) (X ++ dG).length c) (X ++ dG).length (cellsOf (X ++ dG)) ∧ (Lies wx br 83 #[.bool o, .slice (some ⟨G, p, none⟩) len (n - p)] ∧ Boxed wx S 3 (.int .i64 q)) ∧ KeepsOthers W wx ∧ Below S W wx ∧ KT W wx)
    case first =>
      refine wpIn_region_any hmx ?_
      (try (change wpAnyIn _ _ _ _ _ _ _ _ _ (World.drew _)))
      refine wpAnyIn_ready (rs := [0, 1]) (by kernel_rfl) (by simp) ?_
      refine AllReadyIn.cons rfl (fun K hK => ?_) ?_
      · go_simp
        refine hK _ _ ?_
        clear hK K
        refine wpAnyIn_ready (rs := [1]) (by kernel_rfl) (by simp) ?_
        refine AllReadyIn.cons rfl (fun K hK => ?_) ?_
        · go_simp
          refine hK _ _ ?_
          clear hK K
          refine wpAnyIn_ready (rs := [2]) (by kernel_rfl) (by simp) ?_
          refine AllReadyIn.cons rfl (fun K hK => ?_) ?_
          · go_simp
            refine (CallsIn.inRound l (callsIn_wide.2 (HD.out _))).mono ?_
            rintro e w8 ⟨rfl, hb8⟩
            have hv8 : Boxed w8 (S + 2) 26 _ := (hb8.block (S + 2) hv.lt).trans hv
            have hrow8 := owns_turned hrow.drew (S := fun i => W.heap.size ≤ i) (Turned.of_below hb8 (fun i _ hi => by show i < W.heap.size; omega)) (fun i hi hs => by have := (hrow.lt i hi).2; omega)
            have hc8 := hv8.cell
            have hs8 : W.heap.size ≤ w8.heap.size := hb8.size
            (try dsimp only)
            refine hK _ _ ?_
            clear hK K
            refine wpAnyIn_ready (rs := [3]) (by kernel_rfl) (by simp) ?_
            refine AllReadyIn.cons rfl (fun K hK => ?_) ?_
            · go_simp
              refine (CallsIn.inRound l (callsIn_wide.2 (PT.out _))).mono ?_
              rintro e w9 ⟨v9, rfl, ho9, hb9⟩
              obtain ⟨a4, c4, g5, c5, w10, rfl, hrun, hcB, hc5, hf5, hv6, hrow6, hk6, hbel, hoth⟩ := box_append_all w8 w9 S (S + 2) gg cc v9 X dG hv8 hrow8 hX1.1 (Nat.le_trans hsS hs8) (Nat.le_add_right _ _) ho9 hb9 (by omega)
              (try dsimp only)
              refine hK _ _ ?_
              clear hK K
              refine wpAnyIn_ready (rs := [4]) (by kernel_rfl) (by simp) ?_
              refine AllReadyIn.cons rfl (fun K hK => ?_) ?_
              · refine stepIn_append_ran _ _ rfl _ _ 26 rfl _ _ _ rfl rfl hrun ?_
                refine hK _ _ ?_
                clear hK K
                refine wpAnyIn_ready (rs := [5]) (by kernel_rfl) (by simp) ?_
                refine AllReadyIn.cons rfl (fun K hK => ?_) ?_
                · go_simp
                  refine hK _ _ ?_
                  clear hK K
                  refine wpAnyIn_done (by kernel_rfl) ?_ _
                  gi_wp2
                  gi_meet
                  rw [show X.length + dG.length = (X ++ dG).length from List.length_append.symm]
                  have hKW : KT W w8 := KT.below ((Below.refl _ W).drew.trans hb8)
                  have hKF := hKW.trans (kt_of hk6.size hoth ⟨_, hv8⟩)
                  exact ⟨g5, c5, hv6, hrow6, ⟨hKF.lies hlr, hoth _ _ _ _ ((hb8.block S hbw.lt).trans hbw) (by omega) hne7⟩, ((KeepsOthers.drew W).trans (keeps_below hb8)).trans hk6, ((Below.refl _ W).drew.trans (hb8.mono hsS)).trans hbel, hKF⟩
                exact AllReadyIn.nil
              exact AllReadyIn.nil
            exact AllReadyIn.nil
          exact AllReadyIn.nil
        exact AllReadyIn.nil
      refine AllReadyIn.cons rfl (fun K hK => ?_) ?_
      · go_simp
        refine hK _ _ ?_
        clear hK K
        refine wpAnyIn_ready (rs := [0, 2]) (by kernel_rfl) (by simp) ?_
        refine AllReadyIn.cons rfl (fun K hK => ?_) ?_
        · go_simp
          refine hK _ _ ?_
          clear hK K
          refine wpAnyIn_ready (rs := [2]) (by kernel_rfl) (by simp) ?_
          refine AllReadyIn.cons rfl (fun K hK => ?_) ?_
          · go_simp
            refine (CallsIn.inRound l (callsIn_wide.2 (HD.out _))).mono ?_
            rintro e w8 ⟨rfl, hb8⟩
            have hv8 : Boxed w8 (S + 2) 26 _ := (hb8.block (S + 2) hv.lt).trans hv
            have hrow8 := owns_turned hrow.drew (S := fun i => W.heap.size ≤ i) (Turned.of_below hb8 (fun i _ hi => by show i < W.heap.size; omega)) (fun i hi hs => by have := (hrow.lt i hi).2; omega)
            have hc8 := hv8.cell
            have hs8 : W.heap.size ≤ w8.heap.size := hb8.size
            (try dsimp only)
            refine hK _ _ ?_
            clear hK K
            refine wpAnyIn_ready (rs := [3]) (by kernel_rfl) (by simp) ?_
            refine AllReadyIn.cons rfl (fun K hK => ?_) ?_
            · go_simp
              refine (CallsIn.inRound l (callsIn_wide.2 (PT.out _))).mono ?_
              rintro e w9 ⟨v9, rfl, ho9, hb9⟩
              obtain ⟨a4, c4, g5, c5, w10, rfl, hrun, hcB, hc5, hf5, hv6, hrow6, hk6, hbel, hoth⟩ := box_append_all w8 w9 S (S + 2) gg cc v9 X dG hv8 hrow8 hX1.1 (Nat.le_trans hsS hs8) (Nat.le_add_right _ _) ho9 hb9 (by omega)
              (try dsimp only)
              refine hK _ _ ?_
              clear hK K
              refine wpAnyIn_ready (rs := [4]) (by kernel_rfl) (by simp) ?_
              refine AllReadyIn.cons rfl (fun K hK => ?_) ?_
              · refine stepIn_append_ran _ _ rfl _ _ 26 rfl _ _ _ rfl rfl hrun ?_
                refine hK _ _ ?_
                clear hK K
                refine wpAnyIn_ready (rs := [5]) (by kernel_rfl) (by simp) ?_
                refine AllReadyIn.cons rfl (fun K hK => ?_) ?_
                · go_simp
                  refine hK _ _ ?_
                  clear hK K
                  refine wpAnyIn_done (by kernel_rfl) ?_ _
                  gi_wp2
                  gi_meet
                  rw [show X.length + dG.length = (X ++ dG).length from List.length_append.symm]
                  have hKW : KT W w8 := KT.below ((Below.refl _ W).drew.trans hb8)
                  have hKF := hKW.trans (kt_of hk6.size hoth ⟨_, hv8⟩)
                  exact ⟨g5, c5, hv6, hrow6, ⟨hKF.lies hlr, hoth _ _ _ _ ((hb8.block S hbw.lt).trans hbw) (by omega) hne7⟩, ((KeepsOthers.drew W).trans (keeps_below hb8)).trans hk6, ((Below.refl _ W).drew.trans (hb8.mono hsS)).trans hbel, hKF⟩
                exact AllReadyIn.nil
              exact AllReadyIn.nil
            exact AllReadyIn.nil
          exact AllReadyIn.nil
        refine AllReadyIn.cons rfl (fun K hK => ?_) ?_
        · go_simp
          refine (CallsIn.inRound l (callsIn_wide.2 (HD.out _))).mono ?_
          rintro e w8 ⟨rfl, hb8⟩
          have hv8 : Boxed w8 (S + 2) 26 _ := (hb8.block (S + 2) hv.lt).trans hv
          have hrow8 := owns_turned hrow.drew (S := fun i => W.heap.size ≤ i) (Turned.of_below hb8 (fun i _ hi => by show i < W.heap.size; omega)) (fun i hi hs => by have := (hrow.lt i hi).2; omega)
          have hc8 := hv8.cell
          have hs8 : W.heap.size ≤ w8.heap.size := hb8.size
          (try dsimp only)
          refine hK _ _ ?_
          clear hK K
          refine wpAnyIn_ready (rs := [0, 3]) (by kernel_rfl) (by simp) ?_
          refine AllReadyIn.cons rfl (fun K hK => ?_) ?_
          · go_simp
            refine hK _ _ ?_
            clear hK K
            refine wpAnyIn_ready (rs := [3]) (by kernel_rfl) (by simp) ?_
            refine AllReadyIn.cons rfl (fun K hK => ?_) ?_
            · go_simp
              refine (CallsIn.inRound l (callsIn_wide.2 (PT.out _))).mono ?_
              rintro e w9 ⟨v9, rfl, ho9, hb9⟩
              obtain ⟨a4, c4, g5, c5, w10, rfl, hrun, hcB, hc5, hf5, hv6, hrow6, hk6, hbel, hoth⟩ := box_append_all w8 w9 S (S + 2) gg cc v9 X dG hv8 hrow8 hX1.1 (Nat.le_trans hsS hs8) (Nat.le_add_right _ _) ho9 hb9 (by omega)
              (try dsimp only)
              refine hK _ _ ?_
              clear hK K
              refine wpAnyIn_ready (rs := [4]) (by kernel_rfl) (by simp) ?_
              refine AllReadyIn.cons rfl (fun K hK => ?_) ?_
              · refine stepIn_append_ran _ _ rfl _ _ 26 rfl _ _ _ rfl rfl hrun ?_
                refine hK _ _ ?_
                clear hK K
                refine wpAnyIn_ready (rs := [5]) (by kernel_rfl) (by simp) ?_
                refine AllReadyIn.cons rfl (fun K hK => ?_) ?_
                · go_simp
                  refine hK _ _ ?_
                  clear hK K
                  refine wpAnyIn_done (by kernel_rfl) ?_ _
                  gi_wp2
                  gi_meet
                  rw [show X.length + dG.length = (X ++ dG).length from List.length_append.symm]
                  have hKW : KT W w8 := KT.below ((Below.refl _ W).drew.trans hb8)
                  have hKF := hKW.trans (kt_of hk6.size hoth ⟨_, hv8⟩)
                  exact ⟨g5, c5, hv6, hrow6, ⟨hKF.lies hlr, hoth _ _ _ _ ((hb8.block S hbw.lt).trans hbw) (by omega) hne7⟩, ((KeepsOthers.drew W).trans (keeps_below hb8)).trans hk6, ((Below.refl _ W).drew.trans (hb8.mono hsS)).trans hbel, hKF⟩
                exact AllReadyIn.nil
              exact AllReadyIn.nil
            exact AllReadyIn.nil
          refine AllReadyIn.cons rfl (fun K hK => ?_) ?_
          · go_simp
            refine (CallsIn.inRound l (callsIn_wide.2 (PT.out _))).mono ?_
            rintro e w9 ⟨v9, rfl, ho9, hb9⟩
            obtain ⟨a4, c4, g5, c5, w10, rfl, hrun, hcB, hc5, hf5, hv6, hrow6, hk6, hbel, hoth⟩ := box_append_all w8 w9 S (S + 2) gg cc v9 X dG hv8 hrow8 hX1.1 (Nat.le_trans hsS hs8) (Nat.le_add_right _ _) ho9 hb9 (by omega)
            (try dsimp only)
            refine hK _ _ ?_
            clear hK K
            refine wpAnyIn_ready (rs := [0]) (by kernel_rfl) (by simp) ?_
            refine AllReadyIn.cons rfl (fun K hK => ?_) ?_
            · go_simp
              refine hK _ _ ?_
              clear hK K
              refine wpAnyIn_ready (rs := [4]) (by kernel_rfl) (by simp) ?_
              refine AllReadyIn.cons rfl (fun K hK => ?_) ?_
              · refine stepIn_append_ran _ _ rfl _ _ 26 rfl _ _ _ rfl rfl hrun ?_
                refine hK _ _ ?_
                clear hK K
                refine wpAnyIn_ready (rs := [5]) (by kernel_rfl) (by simp) ?_
                refine AllReadyIn.cons rfl (fun K hK => ?_) ?_
                · go_simp
                  refine hK _ _ ?_
                  clear hK K
                  refine wpAnyIn_done (by kernel_rfl) ?_ _
                  gi_wp2
                  gi_meet
                  rw [show X.length + dG.length = (X ++ dG).length from List.length_append.symm]
                  have hKW : KT W w8 := KT.below ((Below.refl _ W).drew.trans hb8)
                  have hKF := hKW.trans (kt_of hk6.size hoth ⟨_, hv8⟩)
                  exact ⟨g5, c5, hv6, hrow6, ⟨hKF.lies hlr, hoth _ _ _ _ ((hb8.block S hbw.lt).trans hbw) (by omega) hne7⟩, ((KeepsOthers.drew W).trans (keeps_below hb8)).trans hk6, ((Below.refl _ W).drew.trans (hb8.mono hsS)).trans hbel, hKF⟩
                exact AllReadyIn.nil
              exact AllReadyIn.nil
            exact AllReadyIn.nil
          exact AllReadyIn.nil
        exact AllReadyIn.nil
      exact AllReadyIn.nil
    case rest =>
      obtain ⟨g2, c2', hv2, hrow2, ⟨hlr2, hbw2⟩, hk2, hbl2, hkt2⟩ := hcut
      obtain ⟨Y, hY⟩ : ∃ Y, X ++ dG = Y := ⟨_, rfl⟩
      have hYl : 1 ≤ Y.length ∧ Y.length ≤ 9000010 := by rw [← hY, List.length_append]; omega
      rw [hY] at hv2 hrow2 HX2
      clear hY
      have hvc2 := hv2.cell
      have q02 := hlr2.cell 0
      have q12 := hlr2.cell 1
      have hwc2 := hbw2.cell
      have hsW2 := hbl2.size
      have hBc := hB3.trans hbl2
      gi_wp2
      refine wpIn_region_any hmx ?_
      (try (change wpAnyIn _ _ _ _ _ _ _ _ _ (World.drew _)))
      refine wpAnyIn_ready (rs := [0, 1, 2]) (by kernel_rfl) (by simp) ?_
      refine AllReadyIn.cons rfl (fun K hK => ?_) ?_
      · go_simp
        refine hK _ _ ?_
        clear hK K
        refine wpAnyIn_ready (rs := [1, 2]) (by kernel_rfl) (by simp) ?_
        refine AllReadyIn.cons rfl (fun K hK => ?_) ?_
        · go_simp
          refine hK _ _ ?_
          clear hK K
          refine wpAnyIn_ready (rs := [2]) (by kernel_rfl) (by simp) ?_
          refine AllReadyIn.cons rfl (fun K hK => ?_) ?_
          · go_simp
            refine hK _ _ ?_
            clear hK K
            refine wpAnyIn_ready (rs := [3]) (by kernel_rfl) (by simp) ?_
            refine AllReadyIn.cons rfl (fun K hK => ?_) ?_
            · go_simp
              refine (CallsIn.inRound l (callsIn_wide.2 (BD.out _ hBc.drew))).mono ?_
              rintro e w9 ⟨v9, rfl, ho9, hb9⟩
              obtain ⟨a4, c4, g5, c5, w10, rfl, hrun, hcB, hc5, hf5, hv6, hrow6, hk6, hbel, hoth⟩ := box_append_all wc.drew w9 S (S + 2) g2 c2' v9 Y dH hv2 hrow2.drew hYl.1 (Nat.le_trans hsS hsW2) (Nat.le_add_right _ _) ho9 hb9 (by omega)
              (try dsimp only)
              refine hK _ _ ?_
              clear hK K
              refine wpAnyIn_ready (rs := [4]) (by kernel_rfl) (by simp) ?_
              refine AllReadyIn.cons rfl (fun K hK => ?_) ?_
              · refine stepIn_append_ran _ _ rfl _ _ 26 rfl _ _ _ rfl rfl hrun ?_
                refine hK _ _ ?_
                clear hK K
                refine wpAnyIn_ready (rs := [5]) (by kernel_rfl) (by simp) ?_
                refine AllReadyIn.cons rfl (fun K hK => ?_) ?_
                · go_simp
                  refine hK _ _ ?_
                  clear hK K
                  refine wpAnyIn_done (by kernel_rfl) ?_ _
                  gi_wp2
                  rw [show Y.length + dH.length = (Y ++ dH).length from List.length_append.symm]
                  have hKF : KT wc _ := kt_of hk6.size hoth ⟨_, hv2⟩
                  have hsz := hbel.size
                  have hsz2 : wc.heap.size ≤ (w10.setCell ⟨S + 2, 0, none⟩ (.slice (some ⟨g5, 0, none⟩) (Y ++ dH).length c5)).heap.size := hsz
                  refine ⟨(hk2.trans ((KeepsOthers.drew wc).trans hk6)).from _, hkt2.trans hKF, ⟨⟨_, hv6, ?_, ⟨g5, c5, ?_⟩⟩, hoth _ _ _ _ hbw2 (by omega) hne7⟩, hBc.drew.trans hbel, Nat.le_trans hs (Nat.le_trans hsW2 hsz)⟩
                  · show World.ownsRow _ _ _ _ _ ([(q : Int)] ++ hB z n q (pre ++ [x])).length (cellsOf ([(q : Int)] ++ hB z n q (pre ++ [x])))
                    rw [HX2.out]
                    exact hrow6
                  · show _ = Value.slice _ ([(q : Int)] ++ hB z n q (pre ++ [x])).length _
                    rw [HX2.out]
                exact AllReadyIn.nil
              exact AllReadyIn.nil
            exact AllReadyIn.nil
          exact AllReadyIn.nil
        refine AllReadyIn.cons rfl (fun K hK => ?_) ?_
        · go_simp
          refine hK _ _ ?_
          clear hK K
          refine wpAnyIn_ready (rs := [1]) (by kernel_rfl) (by simp) ?_
          refine AllReadyIn.cons rfl (fun K hK => ?_) ?_
          · go_simp
            refine hK _ _ ?_
            clear hK K
            refine wpAnyIn_ready (rs := [3]) (by kernel_rfl) (by simp) ?_
            refine AllReadyIn.cons rfl (fun K hK => ?_) ?_
            · go_simp
              refine (CallsIn.inRound l (callsIn_wide.2 (BD.out _ hBc.drew))).mono ?_
              rintro e w9 ⟨v9, rfl, ho9, hb9⟩
              obtain ⟨a4, c4, g5, c5, w10, rfl, hrun, hcB, hc5, hf5, hv6, hrow6, hk6, hbel, hoth⟩ := box_append_all wc.drew w9 S (S + 2) g2 c2' v9 Y dH hv2 hrow2.drew hYl.1 (Nat.le_trans hsS hsW2) (Nat.le_add_right _ _) ho9 hb9 (by omega)
              (try dsimp only)
              refine hK _ _ ?_
              clear hK K
              refine wpAnyIn_ready (rs := [4]) (by kernel_rfl) (by simp) ?_
              refine AllReadyIn.cons rfl (fun K hK => ?_) ?_
              · refine stepIn_append_ran _ _ rfl _ _ 26 rfl _ _ _ rfl rfl hrun ?_
                refine hK _ _ ?_
                clear hK K
                refine wpAnyIn_ready (rs := [5]) (by kernel_rfl) (by simp) ?_
                refine AllReadyIn.cons rfl (fun K hK => ?_) ?_
                · go_simp
                  refine hK _ _ ?_
                  clear hK K
                  refine wpAnyIn_done (by kernel_rfl) ?_ _
                  gi_wp2
                  rw [show Y.length + dH.length = (Y ++ dH).length from List.length_append.symm]
                  have hKF : KT wc _ := kt_of hk6.size hoth ⟨_, hv2⟩
                  have hsz := hbel.size
                  have hsz2 : wc.heap.size ≤ (w10.setCell ⟨S + 2, 0, none⟩ (.slice (some ⟨g5, 0, none⟩) (Y ++ dH).length c5)).heap.size := hsz
                  refine ⟨(hk2.trans ((KeepsOthers.drew wc).trans hk6)).from _, hkt2.trans hKF, ⟨⟨_, hv6, ?_, ⟨g5, c5, ?_⟩⟩, hoth _ _ _ _ hbw2 (by omega) hne7⟩, hBc.drew.trans hbel, Nat.le_trans hs (Nat.le_trans hsW2 hsz)⟩
                  · show World.ownsRow _ _ _ _ _ ([(q : Int)] ++ hB z n q (pre ++ [x])).length (cellsOf ([(q : Int)] ++ hB z n q (pre ++ [x])))
                    rw [HX2.out]
                    exact hrow6
                  · show _ = Value.slice _ ([(q : Int)] ++ hB z n q (pre ++ [x])).length _
                    rw [HX2.out]
                exact AllReadyIn.nil
              exact AllReadyIn.nil
            exact AllReadyIn.nil
          exact AllReadyIn.nil
        exact AllReadyIn.nil
      refine AllReadyIn.cons rfl (fun K hK => ?_) ?_
      · go_simp
        refine hK _ _ ?_
        clear hK K
        refine wpAnyIn_ready (rs := [0, 2]) (by kernel_rfl) (by simp) ?_
        refine AllReadyIn.cons rfl (fun K hK => ?_) ?_
        · go_simp
          refine hK _ _ ?_
          clear hK K
          refine wpAnyIn_ready (rs := [2]) (by kernel_rfl) (by simp) ?_
          refine AllReadyIn.cons rfl (fun K hK => ?_) ?_
          · go_simp
            refine hK _ _ ?_
            clear hK K
            refine wpAnyIn_ready (rs := [3]) (by kernel_rfl) (by simp) ?_
            refine AllReadyIn.cons rfl (fun K hK => ?_) ?_
            · go_simp
              refine (CallsIn.inRound l (callsIn_wide.2 (BD.out _ hBc.drew))).mono ?_
              rintro e w9 ⟨v9, rfl, ho9, hb9⟩
              obtain ⟨a4, c4, g5, c5, w10, rfl, hrun, hcB, hc5, hf5, hv6, hrow6, hk6, hbel, hoth⟩ := box_append_all wc.drew w9 S (S + 2) g2 c2' v9 Y dH hv2 hrow2.drew hYl.1 (Nat.le_trans hsS hsW2) (Nat.le_add_right _ _) ho9 hb9 (by omega)
              (try dsimp only)
              refine hK _ _ ?_
              clear hK K
              refine wpAnyIn_ready (rs := [4]) (by kernel_rfl) (by simp) ?_
              refine AllReadyIn.cons rfl (fun K hK => ?_) ?_
              · refine stepIn_append_ran _ _ rfl _ _ 26 rfl _ _ _ rfl rfl hrun ?_
                refine hK _ _ ?_
                clear hK K
                refine wpAnyIn_ready (rs := [5]) (by kernel_rfl) (by simp) ?_
                refine AllReadyIn.cons rfl (fun K hK => ?_) ?_
                · go_simp
                  refine hK _ _ ?_
                  clear hK K
                  refine wpAnyIn_done (by kernel_rfl) ?_ _
                  gi_wp2
                  rw [show Y.length + dH.length = (Y ++ dH).length from List.length_append.symm]
                  have hKF : KT wc _ := kt_of hk6.size hoth ⟨_, hv2⟩
                  have hsz := hbel.size
                  have hsz2 : wc.heap.size ≤ (w10.setCell ⟨S + 2, 0, none⟩ (.slice (some ⟨g5, 0, none⟩) (Y ++ dH).length c5)).heap.size := hsz
                  refine ⟨(hk2.trans ((KeepsOthers.drew wc).trans hk6)).from _, hkt2.trans hKF, ⟨⟨_, hv6, ?_, ⟨g5, c5, ?_⟩⟩, hoth _ _ _ _ hbw2 (by omega) hne7⟩, hBc.drew.trans hbel, Nat.le_trans hs (Nat.le_trans hsW2 hsz)⟩
                  · show World.ownsRow _ _ _ _ _ ([(q : Int)] ++ hB z n q (pre ++ [x])).length (cellsOf ([(q : Int)] ++ hB z n q (pre ++ [x])))
                    rw [HX2.out]
                    exact hrow6
                  · show _ = Value.slice _ ([(q : Int)] ++ hB z n q (pre ++ [x])).length _
                    rw [HX2.out]
                exact AllReadyIn.nil
              exact AllReadyIn.nil
            exact AllReadyIn.nil
          exact AllReadyIn.nil
        refine AllReadyIn.cons rfl (fun K hK => ?_) ?_
        · go_simp
          refine hK _ _ ?_
          clear hK K
          refine wpAnyIn_ready (rs := [0, 3]) (by kernel_rfl) (by simp) ?_
          refine AllReadyIn.cons rfl (fun K hK => ?_) ?_
          · go_simp
            refine hK _ _ ?_
            clear hK K
            refine wpAnyIn_ready (rs := [3]) (by kernel_rfl) (by simp) ?_
            refine AllReadyIn.cons rfl (fun K hK => ?_) ?_
            · go_simp
              refine (CallsIn.inRound l (callsIn_wide.2 (BD.out _ hBc.drew))).mono ?_
              rintro e w9 ⟨v9, rfl, ho9, hb9⟩
              obtain ⟨a4, c4, g5, c5, w10, rfl, hrun, hcB, hc5, hf5, hv6, hrow6, hk6, hbel, hoth⟩ := box_append_all wc.drew w9 S (S + 2) g2 c2' v9 Y dH hv2 hrow2.drew hYl.1 (Nat.le_trans hsS hsW2) (Nat.le_add_right _ _) ho9 hb9 (by omega)
              (try dsimp only)
              refine hK _ _ ?_
              clear hK K
              refine wpAnyIn_ready (rs := [4]) (by kernel_rfl) (by simp) ?_
              refine AllReadyIn.cons rfl (fun K hK => ?_) ?_
              · refine stepIn_append_ran _ _ rfl _ _ 26 rfl _ _ _ rfl rfl hrun ?_
                refine hK _ _ ?_
                clear hK K
                refine wpAnyIn_ready (rs := [5]) (by kernel_rfl) (by simp) ?_
                refine AllReadyIn.cons rfl (fun K hK => ?_) ?_
                · go_simp
                  refine hK _ _ ?_
                  clear hK K
                  refine wpAnyIn_done (by kernel_rfl) ?_ _
                  gi_wp2
                  rw [show Y.length + dH.length = (Y ++ dH).length from List.length_append.symm]
                  have hKF : KT wc _ := kt_of hk6.size hoth ⟨_, hv2⟩
                  have hsz := hbel.size
                  have hsz2 : wc.heap.size ≤ (w10.setCell ⟨S + 2, 0, none⟩ (.slice (some ⟨g5, 0, none⟩) (Y ++ dH).length c5)).heap.size := hsz
                  refine ⟨(hk2.trans ((KeepsOthers.drew wc).trans hk6)).from _, hkt2.trans hKF, ⟨⟨_, hv6, ?_, ⟨g5, c5, ?_⟩⟩, hoth _ _ _ _ hbw2 (by omega) hne7⟩, hBc.drew.trans hbel, Nat.le_trans hs (Nat.le_trans hsW2 hsz)⟩
                  · show World.ownsRow _ _ _ _ _ ([(q : Int)] ++ hB z n q (pre ++ [x])).length (cellsOf ([(q : Int)] ++ hB z n q (pre ++ [x])))
                    rw [HX2.out]
                    exact hrow6
                  · show _ = Value.slice _ ([(q : Int)] ++ hB z n q (pre ++ [x])).length _
                    rw [HX2.out]
                exact AllReadyIn.nil
              exact AllReadyIn.nil
            exact AllReadyIn.nil
          refine AllReadyIn.cons rfl (fun K hK => ?_) ?_
          · go_simp
            refine (CallsIn.inRound l (callsIn_wide.2 (BD.out _ hBc.drew))).mono ?_
            rintro e w9 ⟨v9, rfl, ho9, hb9⟩
            obtain ⟨a4, c4, g5, c5, w10, rfl, hrun, hcB, hc5, hf5, hv6, hrow6, hk6, hbel, hoth⟩ := box_append_all wc.drew w9 S (S + 2) g2 c2' v9 Y dH hv2 hrow2.drew hYl.1 (Nat.le_trans hsS hsW2) (Nat.le_add_right _ _) ho9 hb9 (by omega)
            (try dsimp only)
            refine hK _ _ ?_
            clear hK K
            refine wpAnyIn_ready (rs := [0]) (by kernel_rfl) (by simp) ?_
            refine AllReadyIn.cons rfl (fun K hK => ?_) ?_
            · go_simp
              refine hK _ _ ?_
              clear hK K
              refine wpAnyIn_ready (rs := [4]) (by kernel_rfl) (by simp) ?_
              refine AllReadyIn.cons rfl (fun K hK => ?_) ?_
              · refine stepIn_append_ran _ _ rfl _ _ 26 rfl _ _ _ rfl rfl hrun ?_
                refine hK _ _ ?_
                clear hK K
                refine wpAnyIn_ready (rs := [5]) (by kernel_rfl) (by simp) ?_
                refine AllReadyIn.cons rfl (fun K hK => ?_) ?_
                · go_simp
                  refine hK _ _ ?_
                  clear hK K
                  refine wpAnyIn_done (by kernel_rfl) ?_ _
                  gi_wp2
                  rw [show Y.length + dH.length = (Y ++ dH).length from List.length_append.symm]
                  have hKF : KT wc _ := kt_of hk6.size hoth ⟨_, hv2⟩
                  have hsz := hbel.size
                  have hsz2 : wc.heap.size ≤ (w10.setCell ⟨S + 2, 0, none⟩ (.slice (some ⟨g5, 0, none⟩) (Y ++ dH).length c5)).heap.size := hsz
                  refine ⟨(hk2.trans ((KeepsOthers.drew wc).trans hk6)).from _, hkt2.trans hKF, ⟨⟨_, hv6, ?_, ⟨g5, c5, ?_⟩⟩, hoth _ _ _ _ hbw2 (by omega) hne7⟩, hBc.drew.trans hbel, Nat.le_trans hs (Nat.le_trans hsW2 hsz)⟩
                  · show World.ownsRow _ _ _ _ _ ([(q : Int)] ++ hB z n q (pre ++ [x])).length (cellsOf ([(q : Int)] ++ hB z n q (pre ++ [x])))
                    rw [HX2.out]
                    exact hrow6
                  · show _ = Value.slice _ ([(q : Int)] ++ hB z n q (pre ++ [x])).length _
                    rw [HX2.out]
                exact AllReadyIn.nil
              exact AllReadyIn.nil
            exact AllReadyIn.nil
          exact AllReadyIn.nil
        exact AllReadyIn.nil
      refine AllReadyIn.cons rfl (fun K hK => ?_) ?_
      · go_simp
        refine hK _ _ ?_
        clear hK K
        refine wpAnyIn_ready (rs := [0, 1]) (by kernel_rfl) (by simp) ?_
        refine AllReadyIn.cons rfl (fun K hK => ?_) ?_
        · go_simp
          refine hK _ _ ?_
          clear hK K
          refine wpAnyIn_ready (rs := [1]) (by kernel_rfl) (by simp) ?_
          refine AllReadyIn.cons rfl (fun K hK => ?_) ?_
          · go_simp
            refine hK _ _ ?_
            clear hK K
            refine wpAnyIn_ready (rs := [3]) (by kernel_rfl) (by simp) ?_
            refine AllReadyIn.cons rfl (fun K hK => ?_) ?_
            · go_simp
              refine (CallsIn.inRound l (callsIn_wide.2 (BD.out _ hBc.drew))).mono ?_
              rintro e w9 ⟨v9, rfl, ho9, hb9⟩
              obtain ⟨a4, c4, g5, c5, w10, rfl, hrun, hcB, hc5, hf5, hv6, hrow6, hk6, hbel, hoth⟩ := box_append_all wc.drew w9 S (S + 2) g2 c2' v9 Y dH hv2 hrow2.drew hYl.1 (Nat.le_trans hsS hsW2) (Nat.le_add_right _ _) ho9 hb9 (by omega)
              (try dsimp only)
              refine hK _ _ ?_
              clear hK K
              refine wpAnyIn_ready (rs := [4]) (by kernel_rfl) (by simp) ?_
              refine AllReadyIn.cons rfl (fun K hK => ?_) ?_
              · refine stepIn_append_ran _ _ rfl _ _ 26 rfl _ _ _ rfl rfl hrun ?_
                refine hK _ _ ?_
                clear hK K
                refine wpAnyIn_ready (rs := [5]) (by kernel_rfl) (by simp) ?_
                refine AllReadyIn.cons rfl (fun K hK => ?_) ?_
                · go_simp
                  refine hK _ _ ?_
                  clear hK K
                  refine wpAnyIn_done (by kernel_rfl) ?_ _
                  gi_wp2
                  rw [show Y.length + dH.length = (Y ++ dH).length from List.length_append.symm]
                  have hKF : KT wc _ := kt_of hk6.size hoth ⟨_, hv2⟩
                  have hsz := hbel.size
                  have hsz2 : wc.heap.size ≤ (w10.setCell ⟨S + 2, 0, none⟩ (.slice (some ⟨g5, 0, none⟩) (Y ++ dH).length c5)).heap.size := hsz
                  refine ⟨(hk2.trans ((KeepsOthers.drew wc).trans hk6)).from _, hkt2.trans hKF, ⟨⟨_, hv6, ?_, ⟨g5, c5, ?_⟩⟩, hoth _ _ _ _ hbw2 (by omega) hne7⟩, hBc.drew.trans hbel, Nat.le_trans hs (Nat.le_trans hsW2 hsz)⟩
                  · show World.ownsRow _ _ _ _ _ ([(q : Int)] ++ hB z n q (pre ++ [x])).length (cellsOf ([(q : Int)] ++ hB z n q (pre ++ [x])))
                    rw [HX2.out]
                    exact hrow6
                  · show _ = Value.slice _ ([(q : Int)] ++ hB z n q (pre ++ [x])).length _
                    rw [HX2.out]
                exact AllReadyIn.nil
              exact AllReadyIn.nil
            exact AllReadyIn.nil
          exact AllReadyIn.nil
        refine AllReadyIn.cons rfl (fun K hK => ?_) ?_
        · go_simp
          refine hK _ _ ?_
          clear hK K
          refine wpAnyIn_ready (rs := [0, 3]) (by kernel_rfl) (by simp) ?_
          refine AllReadyIn.cons rfl (fun K hK => ?_) ?_
          · go_simp
            refine hK _ _ ?_
            clear hK K
            refine wpAnyIn_ready (rs := [3]) (by kernel_rfl) (by simp) ?_
            refine AllReadyIn.cons rfl (fun K hK => ?_) ?_
            · go_simp
              refine (CallsIn.inRound l (callsIn_wide.2 (BD.out _ hBc.drew))).mono ?_
              rintro e w9 ⟨v9, rfl, ho9, hb9⟩
              obtain ⟨a4, c4, g5, c5, w10, rfl, hrun, hcB, hc5, hf5, hv6, hrow6, hk6, hbel, hoth⟩ := box_append_all wc.drew w9 S (S + 2) g2 c2' v9 Y dH hv2 hrow2.drew hYl.1 (Nat.le_trans hsS hsW2) (Nat.le_add_right _ _) ho9 hb9 (by omega)
              (try dsimp only)
              refine hK _ _ ?_
              clear hK K
              refine wpAnyIn_ready (rs := [4]) (by kernel_rfl) (by simp) ?_
              refine AllReadyIn.cons rfl (fun K hK => ?_) ?_
              · refine stepIn_append_ran _ _ rfl _ _ 26 rfl _ _ _ rfl rfl hrun ?_
                refine hK _ _ ?_
                clear hK K
                refine wpAnyIn_ready (rs := [5]) (by kernel_rfl) (by simp) ?_
                refine AllReadyIn.cons rfl (fun K hK => ?_) ?_
                · go_simp
                  refine hK _ _ ?_
                  clear hK K
                  refine wpAnyIn_done (by kernel_rfl) ?_ _
                  gi_wp2
                  rw [show Y.length + dH.length = (Y ++ dH).length from List.length_append.symm]
                  have hKF : KT wc _ := kt_of hk6.size hoth ⟨_, hv2⟩
                  have hsz := hbel.size
                  have hsz2 : wc.heap.size ≤ (w10.setCell ⟨S + 2, 0, none⟩ (.slice (some ⟨g5, 0, none⟩) (Y ++ dH).length c5)).heap.size := hsz
                  refine ⟨(hk2.trans ((KeepsOthers.drew wc).trans hk6)).from _, hkt2.trans hKF, ⟨⟨_, hv6, ?_, ⟨g5, c5, ?_⟩⟩, hoth _ _ _ _ hbw2 (by omega) hne7⟩, hBc.drew.trans hbel, Nat.le_trans hs (Nat.le_trans hsW2 hsz)⟩
                  · show World.ownsRow _ _ _ _ _ ([(q : Int)] ++ hB z n q (pre ++ [x])).length (cellsOf ([(q : Int)] ++ hB z n q (pre ++ [x])))
                    rw [HX2.out]
                    exact hrow6
                  · show _ = Value.slice _ ([(q : Int)] ++ hB z n q (pre ++ [x])).length _
                    rw [HX2.out]
                exact AllReadyIn.nil
              exact AllReadyIn.nil
            exact AllReadyIn.nil
          refine AllReadyIn.cons rfl (fun K hK => ?_) ?_
          · go_simp
            refine (CallsIn.inRound l (callsIn_wide.2 (BD.out _ hBc.drew))).mono ?_
            rintro e w9 ⟨v9, rfl, ho9, hb9⟩
            obtain ⟨a4, c4, g5, c5, w10, rfl, hrun, hcB, hc5, hf5, hv6, hrow6, hk6, hbel, hoth⟩ := box_append_all wc.drew w9 S (S + 2) g2 c2' v9 Y dH hv2 hrow2.drew hYl.1 (Nat.le_trans hsS hsW2) (Nat.le_add_right _ _) ho9 hb9 (by omega)
            (try dsimp only)
            refine hK _ _ ?_
            clear hK K
            refine wpAnyIn_ready (rs := [0]) (by kernel_rfl) (by simp) ?_
            refine AllReadyIn.cons rfl (fun K hK => ?_) ?_
            · go_simp
              refine hK _ _ ?_
              clear hK K
              refine wpAnyIn_ready (rs := [4]) (by kernel_rfl) (by simp) ?_
              refine AllReadyIn.cons rfl (fun K hK => ?_) ?_
              · refine stepIn_append_ran _ _ rfl _ _ 26 rfl _ _ _ rfl rfl hrun ?_
                refine hK _ _ ?_
                clear hK K
                refine wpAnyIn_ready (rs := [5]) (by kernel_rfl) (by simp) ?_
                refine AllReadyIn.cons rfl (fun K hK => ?_) ?_
                · go_simp
                  refine hK _ _ ?_
                  clear hK K
                  refine wpAnyIn_done (by kernel_rfl) ?_ _
                  gi_wp2
                  rw [show Y.length + dH.length = (Y ++ dH).length from List.length_append.symm]
                  have hKF : KT wc _ := kt_of hk6.size hoth ⟨_, hv2⟩
                  have hsz := hbel.size
                  have hsz2 : wc.heap.size ≤ (w10.setCell ⟨S + 2, 0, none⟩ (.slice (some ⟨g5, 0, none⟩) (Y ++ dH).length c5)).heap.size := hsz
                  refine ⟨(hk2.trans ((KeepsOthers.drew wc).trans hk6)).from _, hkt2.trans hKF, ⟨⟨_, hv6, ?_, ⟨g5, c5, ?_⟩⟩, hoth _ _ _ _ hbw2 (by omega) hne7⟩, hBc.drew.trans hbel, Nat.le_trans hs (Nat.le_trans hsW2 hsz)⟩
                  · show World.ownsRow _ _ _ _ _ ([(q : Int)] ++ hB z n q (pre ++ [x])).length (cellsOf ([(q : Int)] ++ hB z n q (pre ++ [x])))
                    rw [HX2.out]
                    exact hrow6
                  · show _ = Value.slice _ ([(q : Int)] ++ hB z n q (pre ++ [x])).length _
                    rw [HX2.out]
                exact AllReadyIn.nil
              exact AllReadyIn.nil
            exact AllReadyIn.nil
          exact AllReadyIn.nil
        exact AllReadyIn.nil
      exact AllReadyIn.nil
  case done =>
    rintro D ys W hD hys ⟨⟨⟨v, hv, hrow, ⟨gg, cc, rfl⟩⟩, hbw⟩, hB3, hs⟩ hK
    have hHF := HFB.out
    rw [← hys] at hHF
    obtain ⟨X, hX⟩ : ∃ X, [(q : Int)] ++ hB z n q ys = X := ⟨_, rfl⟩
    rw [hX] at hv hrow hHF
    have HHF := Lib.hid hHF
    have HHL := Lib.hid HFL.out
    clear hHF hX hys
    have hc := hv.cell
    have hsw : w.heap.size ≤ S := by have := hB2.size; omega
    gi_wp2
    refine ⟨by simp, .inl ⟨_, _, rfl, run_takeDeferred hK, ?_⟩⟩
    refine ⟨_, results_tmp2 rfl _ _ _, _, rfl, ?_, (hB2.trans (hB3.mono hsw)).trans (belowK_b (w := w) (Nat.le_refl _) W D _ _ (by omega) hK rfl rfl)⟩
    rw [HHL.out, HHF.out]
    exact ownsRow_putObj (owns_base hrow (fun j hj => Nat.le_trans hsw (hrow.lt j hj).1)) _ hK rfl
  case stop =>
    rintro D c pre W _ _ h _
    exact h.elim
end Go.Proofs.Ythonjffojaljdaa


/-
  CONTRACT OF Hybrid's Size, in any world. Condition: numbers of 64 bits, which lie in memory as told.
-/
namespace Go.Proofs.Ythonjffojaljdaa
open Go.RowKit Go.Shelf Go.BigFrame
set_option linter.unusedVariables false
attribute [local go_sem] Oper.semAt_some wide_fn'
theorem merge_any {F : Fence} {m : Nat} {P : Program} {md : Region.Mode} {ops : Array Oper} {Q : Exit → Act → World → Prop} {f0 : Nat} {l0 : Array Bool} {a0 : Act} {W0 : World} (Inv : World → Prop) (fuel : Nat) (l : Array Bool) (a : Act) (h1 : ∀ W, Inv W → wpAnyIn F m P md ops Q fuel l a W)
    (h2 : (∀ W, Inv W → wpAnyIn F m P md ops Q fuel l a W) → wpAnyIn F m P md ops Q f0 l0 a0 W0) : wpAnyIn F m P md ops Q f0 l0 a0 W0 := h2 h1
theorem kt_int {V : World} {B : Nat} {u : Value} (h : Boxed V B 3 u) (v : Value) : KT V (V.setCell ⟨B, 0, none⟩ v) := by
  refine ⟨by simp, fun i cs t fr h1 h2 => ((grownBy_setCell' V B v).block i (Array.getElem?_eq_some_iff.1 h1).1 (fun e => ?_)).trans h1⟩
  have e' : i = B := by simpa using e
  subst e'
  rw [show V.heap[i]? = _ from h] at h1
  have := Option.some.inj h1
  simp at this
  rcases h2 with h2 | h2 | h2 <;> · rw [← this.2.1] at h2; revert h2; decide
theorem hl_eq (x : Nat → Int) (n : Nat) : hln x n = 1 + hW (hz x) n (hq x n) (runsN (hz x) n) := by
  unfold hln hfm
  rw [List.length_append, hB_length]; rfl
theorem hsize_u (u : Nat) (h : u < 18446744073709551616) (W : World) : Calls Try.prog 53 #[.int .u64 u] W fun e w' => e = .returned (.int .i64 ((digs 9 u).length : Nat)) ∧ W = w' := by
  have h := size_any (u : Int) (by omega) (by omega) W
  rwa [Int.toNat_natCast] at h
set_option maxRecDepth 100000 in
theorem hsize_out (a : Option Addr) (n cap : Nat) (hbk : blk n = false) (w : World) : Calls Try.prog 20 #[.agg #[], .slice a n cap] w fun e w' => e = .returned (.int .i64 0) ∧ Below w.heap.size w w' := by
  have HB := Lib.hid ((Below.refl w.heap.size w).alloc (Nat.le_refl _) (.cells #[] 25))
  have TK := fun W => htakes_any a n cap W
  rw [hbk] at TK
  have TK := Lib.hid TK
  clear hbk
  go_enter Try.func20, Try.ntmps20
  go_wp2_with (go_at_call 24; refine (TK.out _).mono ?_; rintro e w1 ⟨rfl, hb⟩; have HB1 := Lib.hid (HB.out.trans (hb.mono HB.out.size)); clear hb)
  go_ret
  exact ⟨rfl, HB1.out⟩
set_option maxRecDepth 100000 in
set_option maxHeartbeats 4000000 in
theorem hsize_in (a : Option Addr) (n cap : Nat) (x : Nat → Int) (hx : ∀ i, i < n → -9223372036854775808 ≤ x i ∧ x i ≤ 9223372036854775807) (hbk : blk n = true) (w : World) (h : RowOf w a n (fun i => .int .i64 (x i))) :
    Calls Try.prog 20 #[.agg #[], .slice a n cap] w fun e w' => e = .returned (.int .i64 (hln x n : Nat)) ∧ Below w.heap.size w w' := by
  have hn : 1 ≤ n ∧ n ≤ 1024 := by have := of_decide_eq_true hbk; omega
  obtain ⟨hn1, hn2⟩ := hn
  have TK := fun W => htakes_any a n cap W
  rw [hbk] at TK
  have TK := Lib.hid TK
  have ZI := Lib.hid (fun (W : World) (hW : Below w.heap.size w W) => zigs_any a n cap x hn2 hx W (h.below hW))
  have hzl : ∀ i, i < n → hz x i < 18446744073709551616 := fun i hi => hz_lt x i (hx i hi)
  have MO := Lib.hid (fun (a2 : Option Addr) (c2 : Nat) (W : World) (hr : RowOf W a2 n (fun i => .int .u64 (hz x i : Nat))) => most_any a2 n c2 (hz x) hzl (by omega) W hr)
  have hq64 : hq x n ≤ 64 := most_le (hz x) n
  have HFL := Lib.hid (hl_eq x n)
  have HB := Lib.hid ((Below.refl w.heap.size w).alloc (Nat.le_refl _) (.cells #[] 25))
  have HMQ := Lib.hid (show most (hz x) n = hq x n from rfl)
  clear hbk h
  rw [HMQ.out] at MO
  generalize hln x n = FLN at *
  generalize hq x n = q at *
  generalize hz x = z at *
  refine (callsIn_wide (n := 3)).1 ?_
  refine callsIn_of_wp_marks Try.func20 rfl trivial ?_ rfl
  simp only [Try.ntmps20, List.size_toArray, List.length_cons, List.length_nil, Nat.reduceAdd, Nat.reduceSub, Array.replicate_succ, Array.replicate_zero, List.push_toArray, List.append_toArray, List.nil_append, List.cons_append]
  gi_wp2_with (first
    | (gi_at_call 24; refine (callsIn_wide.2 (TK.out _)).mono ?_; rintro e w1 ⟨rfl, hb⟩; have HB1 := Lib.hid (HB.out.trans (hb.mono HB.out.size)); clear hb)
    | (gi_at_call 50; refine (callsIn_wide.2 (ZI.out _ HB1.out)).mono ?_; rintro e w2 ⟨rfl, ho, hb⟩; have HO2 := Lib.hid ho; have HB2 := Lib.hid (HB1.out.trans (hb.mono HB1.out.size)); clear ho hb)
    | (gi_at_call 51; refine (callsIn_wide.2 (MO.out _ _ _ (own_row HO2.out))).mono ?_; rintro e w3 ⟨rfl, rfl⟩)
    | (gi_at_call 52; refine (runs_in _ _ _ _ _).mono ?_; rintro e w' ⟨rfl, rfl⟩))
  have hB2 := HB2.out
  have hs1 := HB1.out.size
  have hgl := (HO2.out.lt w1.heap.size rfl).2
  obtain ⟨S, hS⟩ : ∃ S, w2.heap.size = S := ⟨_, rfl⟩
  have bw0 := ((Boxed.new w2 3 (.int .i64 q)).alloc (.cells #[.int .i64 1] 3)).alloc (.cells #[.slice (some ⟨w1.heap.size, 0, none⟩) n n] 58)
  have bs0 := (Boxed.new (w2.alloc (.cells #[.int .i64 q] 3)) 3 (.int .i64 1)).alloc (.cells #[.slice (some ⟨w1.heap.size, 0, none⟩) n n] 58)
  have c1 := Boxed.new ((w2.alloc (.cells #[.int .i64 q] 3)).alloc (.cells #[.int .i64 1] 3)) 58 (.slice (some ⟨w1.heap.size, 0, none⟩) n n)
  have hbX := (((Below.refl w2.heap.size w2).alloc (Nat.le_refl _) (.cells #[.int .i64 q] 3)).alloc (by simp) (.cells #[.int .i64 1] 3)).alloc (by simp; omega) (.cells #[.slice (some ⟨w1.heap.size, 0, none⟩) n n] 58)
  have hsX : (((w2.alloc (.cells #[.int .i64 q] 3)).alloc (.cells #[.int .i64 1] 3)).alloc (.cells #[.slice (some ⟨w1.heap.size, 0, none⟩) n n] 58)).heap.size = w2.heap.size + 3 := by simp
  simp only [World.size_alloc] at bs0 c1
  rw [hS] at hgl bw0 bs0 c1 hbX hsX ⊢
  obtain ⟨G, hG⟩ : ∃ G, w1.heap.size = G := ⟨_, rfl⟩
  have HO2 := HO2.out
  rw [hG] at HO2
  rw [hG] at hgl bs0 c1 bw0 hbX hsX ⊢
  generalize ((w2.alloc (.cells #[.int .i64 q] 3)).alloc (.cells #[.int .i64 1] 3)).alloc (.cells #[.slice (some ⟨G, 0, none⟩) n n] 58) = WX at *
  obtain ⟨cur, hcur⟩ : ∃ cur, w2.heap[G]? = some (.cells cur 40 (0, 0)) := by
    rcases HO2.2 with ⟨h0, _⟩ | ⟨g', cap', cur, he, _, hg, _⟩
    · cases h0
    · cases he; exact ⟨cur, hg⟩
  have hcurX : WX.heap[G]? = some (.cells cur 40 (0, 0)) := (hbX.block G hgl).trans hcur
  have hrowX : RowOf WX (some ⟨G, 0, none⟩) n (fun i => .int .u64 (z i : Nat)) := row_block (own_row HO2) ((hbX.block G hgl))
  have hWl := hW_le z n q (by omega) hn2 hq64
  refine wpIn_rangeFunc_ownH rfl (by decide) (gf := 95) (lb := #[.pointer (some ⟨S + 2, 0, none⟩)]) rfl trivial (enters_of Try.func95 (by kernel_rfl) rfl)
    (runs_stops 2 (by decide) (S + 2) G n n cur (0, 0) z hn2 (Nat.le_refl _) WX c1 hcurX hrowX) (fun h k => KT.trans h k) (fun W l o o' _ hl hc _ => KT.put hl hc) (Below.refl _ _) (fun _ => rfl)
    (fun pre W => (Boxed W (S + 1) 3 (.int .i64 ((1 + hW z n q pre : Nat) : Int)) ∧ Boxed W S 3 (.int .i64 q)) ∧ Below S w2 W ∧ WX.heap.size ≤ W.heap.size)
    (fun _ _ _ => False)
    (fun s W W' row hs hg hr => ⟨⟨hs.1.1.kept hg (fun e => by have := (hr _ e.symm).1; omega), hs.1.2.kept hg (fun e => by have := (hr _ e.symm).1; omega)⟩, hs.2.1.grown hg (by omega) (fun k e => by have := (hr _ e).1; omega), Nat.le_trans hs.2.2 hg.size⟩)
    (fun _ _ _ _ _ hs _ _ => hs)
    ⟨⟨bs0, bw0⟩, hbX, Nat.le_refl _⟩
    (fun x a' W => ∃ br : Nat, WX.heap.size ≤ br ∧ Lies W br 83 #[.bool (clr z n x).1, .slice (some ⟨G, (clr z n x).2.1, none⟩) (clr z n x).2.2 (n - (clr z n x).2.1)] ∧
      a' = { tmps := #[.agg #[], .slice a n cap, .pointer (some ⟨w.heap.size, 0, none⟩), undef, .int .i64 0, .slice (some ⟨G, 0, none⟩) n n, .pointer (some ⟨S, 0, none⟩), .pointer (some ⟨S + 1, 0, none⟩), .pointer (some ⟨br, 0, none⟩), .agg #[], .slice a n cap, .bool true, .bool false, .slice a n cap, .slice (some ⟨G, 0, none⟩) n n, .slice (some ⟨G, 0, none⟩) n n, .int .i64 q, .slice (some ⟨G, 0, none⟩) n n, .func (.func 95) #[] #[.pointer (some ⟨S + 1 + 1, 0, none⟩)], rv G n (clr z n x), undef, undef, undef, undef, undef, undef, undef, undef, undef, undef], defers := [] })
    (fun x a' _ W W' row hs hg hr => by
      obtain ⟨br, h1, h2, h3⟩ := hs
      refine ⟨br, h1, (hg.block br h2.lt (fun e => ?_)).trans h2, h3⟩
      obtain ⟨o, ho, hc⟩ := (hr br e.symm).2
      rw [show W.heap[br]? = _ from h2] at ho
      cases ho; cases hc) ?assign ?body ?done ?stop
  case assign =>
    intro l pre x W K hI hK
    obtain ⟨y, hy⟩ : ∃ y, clr z n x = y := ⟨_, rfl⟩
    rw [hy] at hK
    have HK := Lib.hid hK
    have HI := Lib.hid hI
    obtain ⟨o, p, len⟩ := y
    clear hK hI
    simp [hy, rv]
    gi_wp2
    obtain ⟨⟨hv, hbw⟩, hB3, hs⟩ := HI.out
    have hsW := hB3.size
    refine HK.out _ _ ((KeepsOthers.alloc W _).from _) (KT.below ((Below.refl _ W).alloc (Nat.le_refl _) _)) ⟨⟨hv.alloc _, hbw.alloc _⟩, hB3.alloc (by omega) _, by simp; omega⟩ ⟨W.heap.size, hs, Lies.new W _ _, rfl⟩
  case body =>
    rintro l pre x a' W hlW ⟨rr, hrr⟩ ⟨⟨hv, hbw⟩, hB3, hs⟩ ⟨br, hbr, hlr, rfl⟩ hlt
    have hmx : Try.prog.follows .mixedOrders = true := by kernel_rfl
    have hbd := clr_bd z n x (by omega)
    have hrl : (runsN z n).length ≤ n := by have := runsF_len z n n 0; unfold runsN; omega
    have hsS : S ≤ W.heap.size := by have := hB3.size; omega
    have hWp := hWl pre
    have hmm := hW_more z n q x pre
    obtain ⟨y, hy⟩ : ∃ y, clr z n x = y := ⟨_, rfl⟩
    rw [hy] at hbd hmm hlr ⊢
    obtain ⟨o, p, len⟩ := y
    dsimp only at hbd hlr
    obtain ⟨hb1, hb2⟩ := hbd
    have hl1 : len ≤ 1024 := by omega
    have HD := Lib.hid (fun V => head_any o (some ⟨G, p, none⟩) p len (n - p) hl1 V)
    have PT := Lib.hid (fun V => hsize_u (hd1 (o, p, len)) (by have := hd1_le (o, p, len) hl1; omega) V)
    have BD := Lib.hid (fun V => rsize_any o (some ⟨G, p, none⟩) p len (n - p) q hl1 hq64 V)
    have hd9 : (digs 9 (hd1 (o, p, len))).length ≤ 10 := digs_len 9 _
    have hbb := bs1_le q (o, p, len) hq64 hl1
    have HM := Lib.hid hmm
    clear hmm
    have hE : 1 + hW z n q pre ≤ 9000000 := by
      have : pre.length ≤ 1024 := by omega
      omega
    generalize hd1 (o, p, len) = hd at *
    obtain ⟨D, hD⟩ : ∃ D, (digs 9 hd).length = D := ⟨_, rfl⟩
    obtain ⟨Z, hZ⟩ : ∃ Z, bs1 q (o, p, len) = Z := ⟨_, rfl⟩
    obtain ⟨E, hEE⟩ : ∃ E, 1 + hW z n q pre = E := ⟨_, rfl⟩
    rw [hD] at PT hd9 HM
    rw [hZ] at BD hbb HM
    rw [hEE] at hv hE
    have HEE := Lib.hid hEE
    clear hD hZ hEE hWp hrl hlt
    have HW1 := Lib.hid (show IntKind.i64.wrap ((D : Int) + (Z : Int)) = (D : Int) + (Z : Int) from IntWalk.i64_in _ (by omega))
    have HW2 := Lib.hid (show IntKind.i64.wrap ((E : Int) + ((D : Int) + (Z : Int))) = (E : Int) + ((D : Int) + (Z : Int)) from IntWalk.i64_in _ (by omega))
    have INVB : ∀ {V V' : World}, (Boxed V (S + 1) 3 (.int .i64 E) ∧ Boxed V S 3 (.int .i64 q) ∧ Lies V br 83 #[.bool o, .slice (some ⟨G, p, none⟩) len (n - p)] ∧ KeepsOthers W V ∧ Below S W V ∧ KT W V) → Below V.heap.size V V' → (Boxed V' (S + 1) 3 (.int .i64 E) ∧ Boxed V' S 3 (.int .i64 q) ∧ Lies V' br 83 #[.bool o, .slice (some ⟨G, p, none⟩) len (n - p)] ∧ KeepsOthers W V' ∧ Below S W V' ∧ KT W V') := by
      rintro V V' ⟨i1, i2, i3, i4, i5, i6⟩ hb
      exact ⟨(hb.block _ i1.lt).trans i1, (hb.block _ i2.lt).trans i2, i3.below hb i3.lt, i4.trans (keeps_below hb), i5.trans (hb.mono (Nat.le_trans hsS i5.size)), i6.trans (KT.below hb)⟩
    have fin8 : ∀ (V : World), (Boxed V (S + 1) 3 (.int .i64 E) ∧ Boxed V S 3 (.int .i64 q) ∧ Lies V br 83 #[.bool o, .slice (some ⟨G, p, none⟩) len (n - p)] ∧ KeepsOthers W V ∧ Below S W V ∧ KT W V) → (KeepsFrom WX.heap.size W (V.setCell ⟨S + 1, 0, none⟩ (.int .i64 ((E : Int) + ((D : Int) + (Z : Int))))) ∧ KT W (V.setCell ⟨S + 1, 0, none⟩ (.int .i64 ((E : Int) + ((D : Int) + (Z : Int))))) ∧ ((Boxed (V.setCell ⟨S + 1, 0, none⟩ (.int .i64 ((E : Int) + ((D : Int) + (Z : Int))))) (S + 1) 3 (.int .i64 ((1 + hW z n q (pre ++ [x]) : Nat) : Int)) ∧ Boxed (V.setCell ⟨S + 1, 0, none⟩ (.int .i64 ((E : Int) + ((D : Int) + (Z : Int))))) S 3 (.int .i64 q)) ∧ Below S w2 (V.setCell ⟨S + 1, 0, none⟩ (.int .i64 ((E : Int) + ((D : Int) + (Z : Int))))) ∧ WX.heap.size ≤ (V.setCell ⟨S + 1, 0, none⟩ (.int .i64 ((E : Int) + ((D : Int) + (Z : Int))))).heap.size)) := by
      rintro V ⟨i1, i2, i3, i4, i5, i6⟩
      have hsz : (V.setCell ⟨S + 1, 0, none⟩ (.int .i64 ((E : Int) + ((D : Int) + (Z : Int))))).heap.size = V.heap.size := by simp
      have e1 : (E : Int) + ((D : Int) + (Z : Int)) = ((1 + hW z n q (pre ++ [x]) : Nat) : Int) := by have := HEE.out; rw [HM.out]; omega
      refine ⟨(i4.trans (KeepsOthers.setCell V _ _)).from _, i6.trans (kt_int i1 _), ⟨⟨?_, i2.kept (grownBy_setCell' V (S + 1) _) (by simp)⟩, (hB3.trans i5).grown (grownBy_setCell' V (S + 1) _) (Nat.le_trans hsS i5.size) (fun k e => by cases e; omega), Nat.le_trans (Nat.le_trans hs i5.size) (Nat.le_of_eq hsz.symm)⟩⟩
      have := i1.set (.int .i64 ((E : Int) + ((D : Int) + (Z : Int))))
      rw [e1] at this ⊢
      exact this
    gi_wp2
    refine wpIn_region_any hmx ?_
    (try (change wpAnyIn _ _ _ _ _ _ _ _ _ (World.drew _)))
    refine merge_any (fun V : World => Boxed V (S + 1) 3 (.int .i64 E) ∧ Boxed V S 3 (.int .i64 q) ∧ Lies V br 83 #[.bool o, .slice (some ⟨G, p, none⟩) len (n - p)] ∧ KeepsOthers W V ∧ Below S W V ∧ KT W V) 3 #[true, true, true, true, true, true, true, false, false, false] { tmps := #[.agg #[], .slice a n cap, .pointer (some ⟨w.heap.size, 0, none⟩), undef, .int .i64 0, .slice (some ⟨G, 0, none⟩) n n, .pointer (some ⟨S, 0, none⟩), .pointer (some ⟨S + 1, 0, none⟩), .pointer (some ⟨br, 0, none⟩), .agg #[], .slice a n cap, .bool true, .bool false, .slice a n cap, .slice (some ⟨G, 0, none⟩) n n, .slice (some ⟨G, 0, none⟩) n n, .int .i64 q, .slice (some ⟨G, 0, none⟩) n n, .func (.func 95) #[] #[.pointer (some ⟨S + 1 + 1, 0, none⟩)], .agg #[.bool o, .slice (some ⟨G, p, none⟩) len (n - p)], .int .i64 E, .agg #[.bool o, .slice (some ⟨G, p, none⟩) len (n - p)], .int .u64 hd, .int .i64 D, .agg #[.bool o, .slice (some ⟨G, p, none⟩) len (n - p)], .int .i64 q, .int .i64 Z, undef, undef, undef], defers := [] } ?xT0123456 ?_
    case xT0123456 =>
      intro V hV
      have hVc := hV.1.cell
      have hVf := hV.1.frozen
      have hVw := hV.2.1.cell
      have hVq := hV.2.2.1.cell 0
      have hVr := hV.2.2.1.cell 1
      refine wpAnyIn_ready (rs := [7]) (by kernel_rfl) (by simp) ?_
      refine AllReadyIn.cons rfl (fun K hK => ?_) ?_
      · go_simp
        refine hK _ _ ?_
        clear hK K
        refine wpAnyIn_ready (rs := [8]) (by kernel_rfl) (by simp) ?_
        refine AllReadyIn.cons rfl (fun K hK => ?_) ?_
        · go_simp
          refine hK _ _ ?_
          clear hK K
          refine wpAnyIn_ready (rs := [9]) (by kernel_rfl) (by simp) ?_
          refine AllReadyIn.cons rfl (fun K hK => ?_) ?_
          · go_simp
            refine hK _ _ ?_
            clear hK K
            refine wpAnyIn_done (by kernel_rfl) ?_ _
            gi_wp2
            rw [HW1.out, HW2.out]
            exact fin8 V hV
          exact AllReadyIn.nil
        exact AllReadyIn.nil
      exact AllReadyIn.nil
    intro T0123456
    refine merge_any (fun V : World => Boxed V (S + 1) 3 (.int .i64 E) ∧ Boxed V S 3 (.int .i64 q) ∧ Lies V br 83 #[.bool o, .slice (some ⟨G, p, none⟩) len (n - p)] ∧ KeepsOthers W V ∧ Below S W V ∧ KT W V) 4 #[true, true, true, true, true, true, false, false, false, false] { tmps := #[.agg #[], .slice a n cap, .pointer (some ⟨w.heap.size, 0, none⟩), undef, .int .i64 0, .slice (some ⟨G, 0, none⟩) n n, .pointer (some ⟨S, 0, none⟩), .pointer (some ⟨S + 1, 0, none⟩), .pointer (some ⟨br, 0, none⟩), .agg #[], .slice a n cap, .bool true, .bool false, .slice a n cap, .slice (some ⟨G, 0, none⟩) n n, .slice (some ⟨G, 0, none⟩) n n, .int .i64 q, .slice (some ⟨G, 0, none⟩) n n, .func (.func 95) #[] #[.pointer (some ⟨S + 1 + 1, 0, none⟩)], .agg #[.bool o, .slice (some ⟨G, p, none⟩) len (n - p)], .int .i64 E, .agg #[.bool o, .slice (some ⟨G, p, none⟩) len (n - p)], .int .u64 hd, .int .i64 D, .agg #[.bool o, .slice (some ⟨G, p, none⟩) len (n - p)], .int .i64 q, undef, undef, undef, undef], defers := [] } ?xT012345 ?_
    case xT012345 =>
      intro V hV
      have hVc := hV.1.cell
      have hVf := hV.1.frozen
      have hVw := hV.2.1.cell
      have hVq := hV.2.2.1.cell 0
      have hVr := hV.2.2.1.cell 1
      refine wpAnyIn_ready (rs := [6]) (by kernel_rfl) (by simp) ?_
      refine AllReadyIn.cons rfl (fun K hK => ?_) ?_
      · go_simp
        refine (CallsIn.inRound l (callsIn_wide.2 (BD.out _))).mono ?_
        rintro e w8 ⟨rfl, hb8⟩
        (try dsimp only)
        refine hK _ _ ?_
        exact T0123456 _ (INVB hV hb8)
      exact AllReadyIn.nil
    intro T012345
    refine merge_any (fun V : World => Boxed V (S + 1) 3 (.int .i64 E) ∧ Boxed V S 3 (.int .i64 q) ∧ Lies V br 83 #[.bool o, .slice (some ⟨G, p, none⟩) len (n - p)] ∧ KeepsOthers W V ∧ Below S W V ∧ KT W V) 4 #[false, true, true, true, true, true, true, false, false, false] { tmps := #[.agg #[], .slice a n cap, .pointer (some ⟨w.heap.size, 0, none⟩), undef, .int .i64 0, .slice (some ⟨G, 0, none⟩) n n, .pointer (some ⟨S, 0, none⟩), .pointer (some ⟨S + 1, 0, none⟩), .pointer (some ⟨br, 0, none⟩), .agg #[], .slice a n cap, .bool true, .bool false, .slice a n cap, .slice (some ⟨G, 0, none⟩) n n, .slice (some ⟨G, 0, none⟩) n n, .int .i64 q, .slice (some ⟨G, 0, none⟩) n n, .func (.func 95) #[] #[.pointer (some ⟨S + 1 + 1, 0, none⟩)], .agg #[.bool o, .slice (some ⟨G, p, none⟩) len (n - p)], undef, .agg #[.bool o, .slice (some ⟨G, p, none⟩) len (n - p)], .int .u64 hd, .int .i64 D, .agg #[.bool o, .slice (some ⟨G, p, none⟩) len (n - p)], .int .i64 q, .int .i64 Z, undef, undef, undef], defers := [] } ?xT123456 ?_
    case xT123456 =>
      intro V hV
      have hVc := hV.1.cell
      have hVf := hV.1.frozen
      have hVw := hV.2.1.cell
      have hVq := hV.2.2.1.cell 0
      have hVr := hV.2.2.1.cell 1
      refine wpAnyIn_ready (rs := [0, 7]) (by kernel_rfl) (by simp) ?_
      refine AllReadyIn.cons rfl (fun K hK => ?_) ?_
      · go_simp
        refine hK _ _ ?_
        clear hK K
        refine wpAnyIn_ready (rs := [7]) (by kernel_rfl) (by simp) ?_
        refine AllReadyIn.cons rfl (fun K hK => ?_) ?_
        · go_simp
          refine hK _ _ ?_
          clear hK K
          refine wpAnyIn_ready (rs := [8]) (by kernel_rfl) (by simp) ?_
          refine AllReadyIn.cons rfl (fun K hK => ?_) ?_
          · go_simp
            refine hK _ _ ?_
            clear hK K
            refine wpAnyIn_ready (rs := [9]) (by kernel_rfl) (by simp) ?_
            refine AllReadyIn.cons rfl (fun K hK => ?_) ?_
            · go_simp
              refine hK _ _ ?_
              clear hK K
              refine wpAnyIn_done (by kernel_rfl) ?_ _
              gi_wp2
              rw [HW1.out, HW2.out]
              exact fin8 V hV
            exact AllReadyIn.nil
          exact AllReadyIn.nil
        exact AllReadyIn.nil
      refine AllReadyIn.cons rfl (fun K hK => ?_) ?_
      · go_simp
        refine hK _ _ ?_
        clear hK K
        refine wpAnyIn_ready (rs := [0]) (by kernel_rfl) (by simp) ?_
        refine AllReadyIn.cons rfl (fun K hK => ?_) ?_
        · go_simp
          refine hK _ _ ?_
          clear hK K
          refine wpAnyIn_ready (rs := [8]) (by kernel_rfl) (by simp) ?_
          refine AllReadyIn.cons rfl (fun K hK => ?_) ?_
          · go_simp
            refine hK _ _ ?_
            clear hK K
            refine wpAnyIn_ready (rs := [9]) (by kernel_rfl) (by simp) ?_
            refine AllReadyIn.cons rfl (fun K hK => ?_) ?_
            · go_simp
              refine hK _ _ ?_
              clear hK K
              refine wpAnyIn_done (by kernel_rfl) ?_ _
              gi_wp2
              rw [HW1.out, HW2.out]
              exact fin8 V hV
            exact AllReadyIn.nil
          exact AllReadyIn.nil
        exact AllReadyIn.nil
      exact AllReadyIn.nil
    intro T123456
    refine merge_any (fun V : World => Boxed V (S + 1) 3 (.int .i64 E) ∧ Boxed V S 3 (.int .i64 q) ∧ Lies V br 83 #[.bool o, .slice (some ⟨G, p, none⟩) len (n - p)] ∧ KeepsOthers W V ∧ Below S W V ∧ KT W V) 5 #[true, true, true, true, true, false, false, false, false, false] { tmps := #[.agg #[], .slice a n cap, .pointer (some ⟨w.heap.size, 0, none⟩), undef, .int .i64 0, .slice (some ⟨G, 0, none⟩) n n, .pointer (some ⟨S, 0, none⟩), .pointer (some ⟨S + 1, 0, none⟩), .pointer (some ⟨br, 0, none⟩), .agg #[], .slice a n cap, .bool true, .bool false, .slice a n cap, .slice (some ⟨G, 0, none⟩) n n, .slice (some ⟨G, 0, none⟩) n n, .int .i64 q, .slice (some ⟨G, 0, none⟩) n n, .func (.func 95) #[] #[.pointer (some ⟨S + 1 + 1, 0, none⟩)], .agg #[.bool o, .slice (some ⟨G, p, none⟩) len (n - p)], .int .i64 E, .agg #[.bool o, .slice (some ⟨G, p, none⟩) len (n - p)], .int .u64 hd, .int .i64 D, .agg #[.bool o, .slice (some ⟨G, p, none⟩) len (n - p)], undef, undef, undef, undef, undef], defers := [] } ?xT01234 ?_
    case xT01234 =>
      intro V hV
      have hVc := hV.1.cell
      have hVf := hV.1.frozen
      have hVw := hV.2.1.cell
      have hVq := hV.2.2.1.cell 0
      have hVr := hV.2.2.1.cell 1
      refine wpAnyIn_ready (rs := [5]) (by kernel_rfl) (by simp) ?_
      refine AllReadyIn.cons rfl (fun K hK => ?_) ?_
      · go_simp
        refine hK _ _ ?_
        exact T012345 _ hV
      exact AllReadyIn.nil
    intro T01234
    refine merge_any (fun V : World => Boxed V (S + 1) 3 (.int .i64 E) ∧ Boxed V S 3 (.int .i64 q) ∧ Lies V br 83 #[.bool o, .slice (some ⟨G, p, none⟩) len (n - p)] ∧ KeepsOthers W V ∧ Below S W V ∧ KT W V) 5 #[true, true, true, true, false, true, false, false, false, false] { tmps := #[.agg #[], .slice a n cap, .pointer (some ⟨w.heap.size, 0, none⟩), undef, .int .i64 0, .slice (some ⟨G, 0, none⟩) n n, .pointer (some ⟨S, 0, none⟩), .pointer (some ⟨S + 1, 0, none⟩), .pointer (some ⟨br, 0, none⟩), .agg #[], .slice a n cap, .bool true, .bool false, .slice a n cap, .slice (some ⟨G, 0, none⟩) n n, .slice (some ⟨G, 0, none⟩) n n, .int .i64 q, .slice (some ⟨G, 0, none⟩) n n, .func (.func 95) #[] #[.pointer (some ⟨S + 1 + 1, 0, none⟩)], .agg #[.bool o, .slice (some ⟨G, p, none⟩) len (n - p)], .int .i64 E, .agg #[.bool o, .slice (some ⟨G, p, none⟩) len (n - p)], .int .u64 hd, .int .i64 D, undef, .int .i64 q, undef, undef, undef, undef], defers := [] } ?xT01235 ?_
    case xT01235 =>
      intro V hV
      have hVc := hV.1.cell
      have hVf := hV.1.frozen
      have hVw := hV.2.1.cell
      have hVq := hV.2.2.1.cell 0
      have hVr := hV.2.2.1.cell 1
      refine wpAnyIn_ready (rs := [4]) (by kernel_rfl) (by simp) ?_
      refine AllReadyIn.cons rfl (fun K hK => ?_) ?_
      · go_simp
        refine hK _ _ ?_
        exact T012345 _ hV
      exact AllReadyIn.nil
    intro T01235
    refine merge_any (fun V : World => Boxed V (S + 1) 3 (.int .i64 E) ∧ Boxed V S 3 (.int .i64 q) ∧ Lies V br 83 #[.bool o, .slice (some ⟨G, p, none⟩) len (n - p)] ∧ KeepsOthers W V ∧ Below S W V ∧ KT W V) 5 #[true, true, true, false, true, true, false, false, false, false] { tmps := #[.agg #[], .slice a n cap, .pointer (some ⟨w.heap.size, 0, none⟩), undef, .int .i64 0, .slice (some ⟨G, 0, none⟩) n n, .pointer (some ⟨S, 0, none⟩), .pointer (some ⟨S + 1, 0, none⟩), .pointer (some ⟨br, 0, none⟩), .agg #[], .slice a n cap, .bool true, .bool false, .slice a n cap, .slice (some ⟨G, 0, none⟩) n n, .slice (some ⟨G, 0, none⟩) n n, .int .i64 q, .slice (some ⟨G, 0, none⟩) n n, .func (.func 95) #[] #[.pointer (some ⟨S + 1 + 1, 0, none⟩)], .agg #[.bool o, .slice (some ⟨G, p, none⟩) len (n - p)], .int .i64 E, .agg #[.bool o, .slice (some ⟨G, p, none⟩) len (n - p)], .int .u64 hd, undef, .agg #[.bool o, .slice (some ⟨G, p, none⟩) len (n - p)], .int .i64 q, undef, undef, undef, undef], defers := [] } ?xT01245 ?_
    case xT01245 =>
      intro V hV
      have hVc := hV.1.cell
      have hVf := hV.1.frozen
      have hVw := hV.2.1.cell
      have hVq := hV.2.2.1.cell 0
      have hVr := hV.2.2.1.cell 1
      refine wpAnyIn_ready (rs := [3]) (by kernel_rfl) (by simp) ?_
      refine AllReadyIn.cons rfl (fun K hK => ?_) ?_
      · go_simp
        refine (CallsIn.inRound l (callsIn_wide.2 (PT.out _))).mono ?_
        rintro e w8 ⟨rfl, rfl⟩
        (try dsimp only)
        refine hK _ _ ?_
        exact T012345 _ hV
      exact AllReadyIn.nil
    intro T01245
    refine merge_any (fun V : World => Boxed V (S + 1) 3 (.int .i64 E) ∧ Boxed V S 3 (.int .i64 q) ∧ Lies V br 83 #[.bool o, .slice (some ⟨G, p, none⟩) len (n - p)] ∧ KeepsOthers W V ∧ Below S W V ∧ KT W V) 5 #[false, true, true, true, true, true, false, false, false, false] { tmps := #[.agg #[], .slice a n cap, .pointer (some ⟨w.heap.size, 0, none⟩), undef, .int .i64 0, .slice (some ⟨G, 0, none⟩) n n, .pointer (some ⟨S, 0, none⟩), .pointer (some ⟨S + 1, 0, none⟩), .pointer (some ⟨br, 0, none⟩), .agg #[], .slice a n cap, .bool true, .bool false, .slice a n cap, .slice (some ⟨G, 0, none⟩) n n, .slice (some ⟨G, 0, none⟩) n n, .int .i64 q, .slice (some ⟨G, 0, none⟩) n n, .func (.func 95) #[] #[.pointer (some ⟨S + 1 + 1, 0, none⟩)], .agg #[.bool o, .slice (some ⟨G, p, none⟩) len (n - p)], undef, .agg #[.bool o, .slice (some ⟨G, p, none⟩) len (n - p)], .int .u64 hd, .int .i64 D, .agg #[.bool o, .slice (some ⟨G, p, none⟩) len (n - p)], .int .i64 q, undef, undef, undef, undef], defers := [] } ?xT12345 ?_
    case xT12345 =>
      intro V hV
      have hVc := hV.1.cell
      have hVf := hV.1.frozen
      have hVw := hV.2.1.cell
      have hVq := hV.2.2.1.cell 0
      have hVr := hV.2.2.1.cell 1
      refine wpAnyIn_ready (rs := [0, 6]) (by kernel_rfl) (by simp) ?_
      refine AllReadyIn.cons rfl (fun K hK => ?_) ?_
      · go_simp
        refine hK _ _ ?_
        exact T012345 _ hV
      refine AllReadyIn.cons rfl (fun K hK => ?_) ?_
      · go_simp
        refine (CallsIn.inRound l (callsIn_wide.2 (BD.out _))).mono ?_
        rintro e w8 ⟨rfl, hb8⟩
        (try dsimp only)
        refine hK _ _ ?_
        exact T123456 _ (INVB hV hb8)
      exact AllReadyIn.nil
    intro T12345
    refine merge_any (fun V : World => Boxed V (S + 1) 3 (.int .i64 E) ∧ Boxed V S 3 (.int .i64 q) ∧ Lies V br 83 #[.bool o, .slice (some ⟨G, p, none⟩) len (n - p)] ∧ KeepsOthers W V ∧ Below S W V ∧ KT W V) 6 #[true, true, true, true, false, false, false, false, false, false] { tmps := #[.agg #[], .slice a n cap, .pointer (some ⟨w.heap.size, 0, none⟩), undef, .int .i64 0, .slice (some ⟨G, 0, none⟩) n n, .pointer (some ⟨S, 0, none⟩), .pointer (some ⟨S + 1, 0, none⟩), .pointer (some ⟨br, 0, none⟩), .agg #[], .slice a n cap, .bool true, .bool false, .slice a n cap, .slice (some ⟨G, 0, none⟩) n n, .slice (some ⟨G, 0, none⟩) n n, .int .i64 q, .slice (some ⟨G, 0, none⟩) n n, .func (.func 95) #[] #[.pointer (some ⟨S + 1 + 1, 0, none⟩)], .agg #[.bool o, .slice (some ⟨G, p, none⟩) len (n - p)], .int .i64 E, .agg #[.bool o, .slice (some ⟨G, p, none⟩) len (n - p)], .int .u64 hd, .int .i64 D, undef, undef, undef, undef, undef, undef], defers := [] } ?xT0123 ?_
    case xT0123 =>
      intro V hV
      have hVc := hV.1.cell
      have hVf := hV.1.frozen
      have hVw := hV.2.1.cell
      have hVq := hV.2.2.1.cell 0
      have hVr := hV.2.2.1.cell 1
      refine wpAnyIn_ready (rs := [4, 5]) (by kernel_rfl) (by simp) ?_
      refine AllReadyIn.cons rfl (fun K hK => ?_) ?_
      · go_simp
        refine hK _ _ ?_
        exact T01234 _ hV
      refine AllReadyIn.cons rfl (fun K hK => ?_) ?_
      · go_simp
        refine hK _ _ ?_
        exact T01235 _ hV
      exact AllReadyIn.nil
    intro T0123
    refine merge_any (fun V : World => Boxed V (S + 1) 3 (.int .i64 E) ∧ Boxed V S 3 (.int .i64 q) ∧ Lies V br 83 #[.bool o, .slice (some ⟨G, p, none⟩) len (n - p)] ∧ KeepsOthers W V ∧ Below S W V ∧ KT W V) 6 #[true, true, true, false, true, false, false, false, false, false] { tmps := #[.agg #[], .slice a n cap, .pointer (some ⟨w.heap.size, 0, none⟩), undef, .int .i64 0, .slice (some ⟨G, 0, none⟩) n n, .pointer (some ⟨S, 0, none⟩), .pointer (some ⟨S + 1, 0, none⟩), .pointer (some ⟨br, 0, none⟩), .agg #[], .slice a n cap, .bool true, .bool false, .slice a n cap, .slice (some ⟨G, 0, none⟩) n n, .slice (some ⟨G, 0, none⟩) n n, .int .i64 q, .slice (some ⟨G, 0, none⟩) n n, .func (.func 95) #[] #[.pointer (some ⟨S + 1 + 1, 0, none⟩)], .agg #[.bool o, .slice (some ⟨G, p, none⟩) len (n - p)], .int .i64 E, .agg #[.bool o, .slice (some ⟨G, p, none⟩) len (n - p)], .int .u64 hd, undef, .agg #[.bool o, .slice (some ⟨G, p, none⟩) len (n - p)], undef, undef, undef, undef, undef], defers := [] } ?xT0124 ?_
    case xT0124 =>
      intro V hV
      have hVc := hV.1.cell
      have hVf := hV.1.frozen
      have hVw := hV.2.1.cell
      have hVq := hV.2.2.1.cell 0
      have hVr := hV.2.2.1.cell 1
      refine wpAnyIn_ready (rs := [3, 5]) (by kernel_rfl) (by simp) ?_
      refine AllReadyIn.cons rfl (fun K hK => ?_) ?_
      · go_simp
        refine (CallsIn.inRound l (callsIn_wide.2 (PT.out _))).mono ?_
        rintro e w8 ⟨rfl, rfl⟩
        (try dsimp only)
        refine hK _ _ ?_
        exact T01234 _ hV
      refine AllReadyIn.cons rfl (fun K hK => ?_) ?_
      · go_simp
        refine hK _ _ ?_
        exact T01245 _ hV
      exact AllReadyIn.nil
    intro T0124
    refine merge_any (fun V : World => Boxed V (S + 1) 3 (.int .i64 E) ∧ Boxed V S 3 (.int .i64 q) ∧ Lies V br 83 #[.bool o, .slice (some ⟨G, p, none⟩) len (n - p)] ∧ KeepsOthers W V ∧ Below S W V ∧ KT W V) 6 #[true, true, true, false, false, true, false, false, false, false] { tmps := #[.agg #[], .slice a n cap, .pointer (some ⟨w.heap.size, 0, none⟩), undef, .int .i64 0, .slice (some ⟨G, 0, none⟩) n n, .pointer (some ⟨S, 0, none⟩), .pointer (some ⟨S + 1, 0, none⟩), .pointer (some ⟨br, 0, none⟩), .agg #[], .slice a n cap, .bool true, .bool false, .slice a n cap, .slice (some ⟨G, 0, none⟩) n n, .slice (some ⟨G, 0, none⟩) n n, .int .i64 q, .slice (some ⟨G, 0, none⟩) n n, .func (.func 95) #[] #[.pointer (some ⟨S + 1 + 1, 0, none⟩)], .agg #[.bool o, .slice (some ⟨G, p, none⟩) len (n - p)], .int .i64 E, .agg #[.bool o, .slice (some ⟨G, p, none⟩) len (n - p)], .int .u64 hd, undef, undef, .int .i64 q, undef, undef, undef, undef], defers := [] } ?xT0125 ?_
    case xT0125 =>
      intro V hV
      have hVc := hV.1.cell
      have hVf := hV.1.frozen
      have hVw := hV.2.1.cell
      have hVq := hV.2.2.1.cell 0
      have hVr := hV.2.2.1.cell 1
      refine wpAnyIn_ready (rs := [3, 4]) (by kernel_rfl) (by simp) ?_
      refine AllReadyIn.cons rfl (fun K hK => ?_) ?_
      · go_simp
        refine (CallsIn.inRound l (callsIn_wide.2 (PT.out _))).mono ?_
        rintro e w8 ⟨rfl, rfl⟩
        (try dsimp only)
        refine hK _ _ ?_
        exact T01235 _ hV
      refine AllReadyIn.cons rfl (fun K hK => ?_) ?_
      · go_simp
        refine hK _ _ ?_
        exact T01245 _ hV
      exact AllReadyIn.nil
    intro T0125
    refine merge_any (fun V : World => Boxed V (S + 1) 3 (.int .i64 E) ∧ Boxed V S 3 (.int .i64 q) ∧ Lies V br 83 #[.bool o, .slice (some ⟨G, p, none⟩) len (n - p)] ∧ KeepsOthers W V ∧ Below S W V ∧ KT W V) 6 #[true, true, false, false, true, true, false, false, false, false] { tmps := #[.agg #[], .slice a n cap, .pointer (some ⟨w.heap.size, 0, none⟩), undef, .int .i64 0, .slice (some ⟨G, 0, none⟩) n n, .pointer (some ⟨S, 0, none⟩), .pointer (some ⟨S + 1, 0, none⟩), .pointer (some ⟨br, 0, none⟩), .agg #[], .slice a n cap, .bool true, .bool false, .slice a n cap, .slice (some ⟨G, 0, none⟩) n n, .slice (some ⟨G, 0, none⟩) n n, .int .i64 q, .slice (some ⟨G, 0, none⟩) n n, .func (.func 95) #[] #[.pointer (some ⟨S + 1 + 1, 0, none⟩)], .agg #[.bool o, .slice (some ⟨G, p, none⟩) len (n - p)], .int .i64 E, .agg #[.bool o, .slice (some ⟨G, p, none⟩) len (n - p)], undef, undef, .agg #[.bool o, .slice (some ⟨G, p, none⟩) len (n - p)], .int .i64 q, undef, undef, undef, undef], defers := [] } ?xT0145 ?_
    case xT0145 =>
      intro V hV
      have hVc := hV.1.cell
      have hVf := hV.1.frozen
      have hVw := hV.2.1.cell
      have hVq := hV.2.2.1.cell 0
      have hVr := hV.2.2.1.cell 1
      refine wpAnyIn_ready (rs := [2]) (by kernel_rfl) (by simp) ?_
      refine AllReadyIn.cons rfl (fun K hK => ?_) ?_
      · go_simp
        refine (CallsIn.inRound l (callsIn_wide.2 (HD.out _))).mono ?_
        rintro e w8 ⟨rfl, hb8⟩
        (try dsimp only)
        refine hK _ _ ?_
        exact T01245 _ (INVB hV hb8)
      exact AllReadyIn.nil
    intro T0145
    refine merge_any (fun V : World => Boxed V (S + 1) 3 (.int .i64 E) ∧ Boxed V S 3 (.int .i64 q) ∧ Lies V br 83 #[.bool o, .slice (some ⟨G, p, none⟩) len (n - p)] ∧ KeepsOthers W V ∧ Below S W V ∧ KT W V) 6 #[false, true, true, true, true, false, false, false, false, false] { tmps := #[.agg #[], .slice a n cap, .pointer (some ⟨w.heap.size, 0, none⟩), undef, .int .i64 0, .slice (some ⟨G, 0, none⟩) n n, .pointer (some ⟨S, 0, none⟩), .pointer (some ⟨S + 1, 0, none⟩), .pointer (some ⟨br, 0, none⟩), .agg #[], .slice a n cap, .bool true, .bool false, .slice a n cap, .slice (some ⟨G, 0, none⟩) n n, .slice (some ⟨G, 0, none⟩) n n, .int .i64 q, .slice (some ⟨G, 0, none⟩) n n, .func (.func 95) #[] #[.pointer (some ⟨S + 1 + 1, 0, none⟩)], .agg #[.bool o, .slice (some ⟨G, p, none⟩) len (n - p)], undef, .agg #[.bool o, .slice (some ⟨G, p, none⟩) len (n - p)], .int .u64 hd, .int .i64 D, .agg #[.bool o, .slice (some ⟨G, p, none⟩) len (n - p)], undef, undef, undef, undef, undef], defers := [] } ?xT1234 ?_
    case xT1234 =>
      intro V hV
      have hVc := hV.1.cell
      have hVf := hV.1.frozen
      have hVw := hV.2.1.cell
      have hVq := hV.2.2.1.cell 0
      have hVr := hV.2.2.1.cell 1
      refine wpAnyIn_ready (rs := [0, 5]) (by kernel_rfl) (by simp) ?_
      refine AllReadyIn.cons rfl (fun K hK => ?_) ?_
      · go_simp
        refine hK _ _ ?_
        exact T01234 _ hV
      refine AllReadyIn.cons rfl (fun K hK => ?_) ?_
      · go_simp
        refine hK _ _ ?_
        exact T12345 _ hV
      exact AllReadyIn.nil
    intro T1234
    refine merge_any (fun V : World => Boxed V (S + 1) 3 (.int .i64 E) ∧ Boxed V S 3 (.int .i64 q) ∧ Lies V br 83 #[.bool o, .slice (some ⟨G, p, none⟩) len (n - p)] ∧ KeepsOthers W V ∧ Below S W V ∧ KT W V) 6 #[false, true, true, true, false, true, false, false, false, false] { tmps := #[.agg #[], .slice a n cap, .pointer (some ⟨w.heap.size, 0, none⟩), undef, .int .i64 0, .slice (some ⟨G, 0, none⟩) n n, .pointer (some ⟨S, 0, none⟩), .pointer (some ⟨S + 1, 0, none⟩), .pointer (some ⟨br, 0, none⟩), .agg #[], .slice a n cap, .bool true, .bool false, .slice a n cap, .slice (some ⟨G, 0, none⟩) n n, .slice (some ⟨G, 0, none⟩) n n, .int .i64 q, .slice (some ⟨G, 0, none⟩) n n, .func (.func 95) #[] #[.pointer (some ⟨S + 1 + 1, 0, none⟩)], .agg #[.bool o, .slice (some ⟨G, p, none⟩) len (n - p)], undef, .agg #[.bool o, .slice (some ⟨G, p, none⟩) len (n - p)], .int .u64 hd, .int .i64 D, undef, .int .i64 q, undef, undef, undef, undef], defers := [] } ?xT1235 ?_
    case xT1235 =>
      intro V hV
      have hVc := hV.1.cell
      have hVf := hV.1.frozen
      have hVw := hV.2.1.cell
      have hVq := hV.2.2.1.cell 0
      have hVr := hV.2.2.1.cell 1
      refine wpAnyIn_ready (rs := [0, 4]) (by kernel_rfl) (by simp) ?_
      refine AllReadyIn.cons rfl (fun K hK => ?_) ?_
      · go_simp
        refine hK _ _ ?_
        exact T01235 _ hV
      refine AllReadyIn.cons rfl (fun K hK => ?_) ?_
      · go_simp
        refine hK _ _ ?_
        exact T12345 _ hV
      exact AllReadyIn.nil
    intro T1235
    refine merge_any (fun V : World => Boxed V (S + 1) 3 (.int .i64 E) ∧ Boxed V S 3 (.int .i64 q) ∧ Lies V br 83 #[.bool o, .slice (some ⟨G, p, none⟩) len (n - p)] ∧ KeepsOthers W V ∧ Below S W V ∧ KT W V) 6 #[false, true, true, false, true, true, false, false, false, false] { tmps := #[.agg #[], .slice a n cap, .pointer (some ⟨w.heap.size, 0, none⟩), undef, .int .i64 0, .slice (some ⟨G, 0, none⟩) n n, .pointer (some ⟨S, 0, none⟩), .pointer (some ⟨S + 1, 0, none⟩), .pointer (some ⟨br, 0, none⟩), .agg #[], .slice a n cap, .bool true, .bool false, .slice a n cap, .slice (some ⟨G, 0, none⟩) n n, .slice (some ⟨G, 0, none⟩) n n, .int .i64 q, .slice (some ⟨G, 0, none⟩) n n, .func (.func 95) #[] #[.pointer (some ⟨S + 1 + 1, 0, none⟩)], .agg #[.bool o, .slice (some ⟨G, p, none⟩) len (n - p)], undef, .agg #[.bool o, .slice (some ⟨G, p, none⟩) len (n - p)], .int .u64 hd, undef, .agg #[.bool o, .slice (some ⟨G, p, none⟩) len (n - p)], .int .i64 q, undef, undef, undef, undef], defers := [] } ?xT1245 ?_
    case xT1245 =>
      intro V hV
      have hVc := hV.1.cell
      have hVf := hV.1.frozen
      have hVw := hV.2.1.cell
      have hVq := hV.2.2.1.cell 0
      have hVr := hV.2.2.1.cell 1
      refine wpAnyIn_ready (rs := [0, 3]) (by kernel_rfl) (by simp) ?_
      refine AllReadyIn.cons rfl (fun K hK => ?_) ?_
      · go_simp
        refine hK _ _ ?_
        exact T01245 _ hV
      refine AllReadyIn.cons rfl (fun K hK => ?_) ?_
      · go_simp
        refine (CallsIn.inRound l (callsIn_wide.2 (PT.out _))).mono ?_
        rintro e w8 ⟨rfl, rfl⟩
        (try dsimp only)
        refine hK _ _ ?_
        exact T12345 _ hV
      exact AllReadyIn.nil
    intro T1245
    refine merge_any (fun V : World => Boxed V (S + 1) 3 (.int .i64 E) ∧ Boxed V S 3 (.int .i64 q) ∧ Lies V br 83 #[.bool o, .slice (some ⟨G, p, none⟩) len (n - p)] ∧ KeepsOthers W V ∧ Below S W V ∧ KT W V) 7 #[true, true, true, false, false, false, false, false, false, false] { tmps := #[.agg #[], .slice a n cap, .pointer (some ⟨w.heap.size, 0, none⟩), undef, .int .i64 0, .slice (some ⟨G, 0, none⟩) n n, .pointer (some ⟨S, 0, none⟩), .pointer (some ⟨S + 1, 0, none⟩), .pointer (some ⟨br, 0, none⟩), .agg #[], .slice a n cap, .bool true, .bool false, .slice a n cap, .slice (some ⟨G, 0, none⟩) n n, .slice (some ⟨G, 0, none⟩) n n, .int .i64 q, .slice (some ⟨G, 0, none⟩) n n, .func (.func 95) #[] #[.pointer (some ⟨S + 1 + 1, 0, none⟩)], .agg #[.bool o, .slice (some ⟨G, p, none⟩) len (n - p)], .int .i64 E, .agg #[.bool o, .slice (some ⟨G, p, none⟩) len (n - p)], .int .u64 hd, undef, undef, undef, undef, undef, undef, undef], defers := [] } ?xT012 ?_
    case xT012 =>
      intro V hV
      have hVc := hV.1.cell
      have hVf := hV.1.frozen
      have hVw := hV.2.1.cell
      have hVq := hV.2.2.1.cell 0
      have hVr := hV.2.2.1.cell 1
      refine wpAnyIn_ready (rs := [3, 4, 5]) (by kernel_rfl) (by simp) ?_
      refine AllReadyIn.cons rfl (fun K hK => ?_) ?_
      · go_simp
        refine (CallsIn.inRound l (callsIn_wide.2 (PT.out _))).mono ?_
        rintro e w8 ⟨rfl, rfl⟩
        (try dsimp only)
        refine hK _ _ ?_
        exact T0123 _ hV
      refine AllReadyIn.cons rfl (fun K hK => ?_) ?_
      · go_simp
        refine hK _ _ ?_
        exact T0124 _ hV
      refine AllReadyIn.cons rfl (fun K hK => ?_) ?_
      · go_simp
        refine hK _ _ ?_
        exact T0125 _ hV
      exact AllReadyIn.nil
    intro T012
    refine merge_any (fun V : World => Boxed V (S + 1) 3 (.int .i64 E) ∧ Boxed V S 3 (.int .i64 q) ∧ Lies V br 83 #[.bool o, .slice (some ⟨G, p, none⟩) len (n - p)] ∧ KeepsOthers W V ∧ Below S W V ∧ KT W V) 7 #[true, true, false, false, true, false, false, false, false, false] { tmps := #[.agg #[], .slice a n cap, .pointer (some ⟨w.heap.size, 0, none⟩), undef, .int .i64 0, .slice (some ⟨G, 0, none⟩) n n, .pointer (some ⟨S, 0, none⟩), .pointer (some ⟨S + 1, 0, none⟩), .pointer (some ⟨br, 0, none⟩), .agg #[], .slice a n cap, .bool true, .bool false, .slice a n cap, .slice (some ⟨G, 0, none⟩) n n, .slice (some ⟨G, 0, none⟩) n n, .int .i64 q, .slice (some ⟨G, 0, none⟩) n n, .func (.func 95) #[] #[.pointer (some ⟨S + 1 + 1, 0, none⟩)], .agg #[.bool o, .slice (some ⟨G, p, none⟩) len (n - p)], .int .i64 E, .agg #[.bool o, .slice (some ⟨G, p, none⟩) len (n - p)], undef, undef, .agg #[.bool o, .slice (some ⟨G, p, none⟩) len (n - p)], undef, undef, undef, undef, undef], defers := [] } ?xT014 ?_
    case xT014 =>
      intro V hV
      have hVc := hV.1.cell
      have hVf := hV.1.frozen
      have hVw := hV.2.1.cell
      have hVq := hV.2.2.1.cell 0
      have hVr := hV.2.2.1.cell 1
      refine wpAnyIn_ready (rs := [2, 5]) (by kernel_rfl) (by simp) ?_
      refine AllReadyIn.cons rfl (fun K hK => ?_) ?_
      · go_simp
        refine (CallsIn.inRound l (callsIn_wide.2 (HD.out _))).mono ?_
        rintro e w8 ⟨rfl, hb8⟩
        (try dsimp only)
        refine hK _ _ ?_
        exact T0124 _ (INVB hV hb8)
      refine AllReadyIn.cons rfl (fun K hK => ?_) ?_
      · go_simp
        refine hK _ _ ?_
        exact T0145 _ hV
      exact AllReadyIn.nil
    intro T014
    refine merge_any (fun V : World => Boxed V (S + 1) 3 (.int .i64 E) ∧ Boxed V S 3 (.int .i64 q) ∧ Lies V br 83 #[.bool o, .slice (some ⟨G, p, none⟩) len (n - p)] ∧ KeepsOthers W V ∧ Below S W V ∧ KT W V) 7 #[true, true, false, false, false, true, false, false, false, false] { tmps := #[.agg #[], .slice a n cap, .pointer (some ⟨w.heap.size, 0, none⟩), undef, .int .i64 0, .slice (some ⟨G, 0, none⟩) n n, .pointer (some ⟨S, 0, none⟩), .pointer (some ⟨S + 1, 0, none⟩), .pointer (some ⟨br, 0, none⟩), .agg #[], .slice a n cap, .bool true, .bool false, .slice a n cap, .slice (some ⟨G, 0, none⟩) n n, .slice (some ⟨G, 0, none⟩) n n, .int .i64 q, .slice (some ⟨G, 0, none⟩) n n, .func (.func 95) #[] #[.pointer (some ⟨S + 1 + 1, 0, none⟩)], .agg #[.bool o, .slice (some ⟨G, p, none⟩) len (n - p)], .int .i64 E, .agg #[.bool o, .slice (some ⟨G, p, none⟩) len (n - p)], undef, undef, undef, .int .i64 q, undef, undef, undef, undef], defers := [] } ?xT015 ?_
    case xT015 =>
      intro V hV
      have hVc := hV.1.cell
      have hVf := hV.1.frozen
      have hVw := hV.2.1.cell
      have hVq := hV.2.2.1.cell 0
      have hVr := hV.2.2.1.cell 1
      refine wpAnyIn_ready (rs := [2, 4]) (by kernel_rfl) (by simp) ?_
      refine AllReadyIn.cons rfl (fun K hK => ?_) ?_
      · go_simp
        refine (CallsIn.inRound l (callsIn_wide.2 (HD.out _))).mono ?_
        rintro e w8 ⟨rfl, hb8⟩
        (try dsimp only)
        refine hK _ _ ?_
        exact T0125 _ (INVB hV hb8)
      refine AllReadyIn.cons rfl (fun K hK => ?_) ?_
      · go_simp
        refine hK _ _ ?_
        exact T0145 _ hV
      exact AllReadyIn.nil
    intro T015
    refine merge_any (fun V : World => Boxed V (S + 1) 3 (.int .i64 E) ∧ Boxed V S 3 (.int .i64 q) ∧ Lies V br 83 #[.bool o, .slice (some ⟨G, p, none⟩) len (n - p)] ∧ KeepsOthers W V ∧ Below S W V ∧ KT W V) 7 #[true, false, false, false, true, true, false, false, false, false] { tmps := #[.agg #[], .slice a n cap, .pointer (some ⟨w.heap.size, 0, none⟩), undef, .int .i64 0, .slice (some ⟨G, 0, none⟩) n n, .pointer (some ⟨S, 0, none⟩), .pointer (some ⟨S + 1, 0, none⟩), .pointer (some ⟨br, 0, none⟩), .agg #[], .slice a n cap, .bool true, .bool false, .slice a n cap, .slice (some ⟨G, 0, none⟩) n n, .slice (some ⟨G, 0, none⟩) n n, .int .i64 q, .slice (some ⟨G, 0, none⟩) n n, .func (.func 95) #[] #[.pointer (some ⟨S + 1 + 1, 0, none⟩)], .agg #[.bool o, .slice (some ⟨G, p, none⟩) len (n - p)], .int .i64 E, undef, undef, undef, .agg #[.bool o, .slice (some ⟨G, p, none⟩) len (n - p)], .int .i64 q, undef, undef, undef, undef], defers := [] } ?xT045 ?_
    case xT045 =>
      intro V hV
      have hVc := hV.1.cell
      have hVf := hV.1.frozen
      have hVw := hV.2.1.cell
      have hVq := hV.2.2.1.cell 0
      have hVr := hV.2.2.1.cell 1
      refine wpAnyIn_ready (rs := [1]) (by kernel_rfl) (by simp) ?_
      refine AllReadyIn.cons rfl (fun K hK => ?_) ?_
      · go_simp
        refine hK _ _ ?_
        exact T0145 _ hV
      exact AllReadyIn.nil
    intro T045
    refine merge_any (fun V : World => Boxed V (S + 1) 3 (.int .i64 E) ∧ Boxed V S 3 (.int .i64 q) ∧ Lies V br 83 #[.bool o, .slice (some ⟨G, p, none⟩) len (n - p)] ∧ KeepsOthers W V ∧ Below S W V ∧ KT W V) 7 #[false, true, true, true, false, false, false, false, false, false] { tmps := #[.agg #[], .slice a n cap, .pointer (some ⟨w.heap.size, 0, none⟩), undef, .int .i64 0, .slice (some ⟨G, 0, none⟩) n n, .pointer (some ⟨S, 0, none⟩), .pointer (some ⟨S + 1, 0, none⟩), .pointer (some ⟨br, 0, none⟩), .agg #[], .slice a n cap, .bool true, .bool false, .slice a n cap, .slice (some ⟨G, 0, none⟩) n n, .slice (some ⟨G, 0, none⟩) n n, .int .i64 q, .slice (some ⟨G, 0, none⟩) n n, .func (.func 95) #[] #[.pointer (some ⟨S + 1 + 1, 0, none⟩)], .agg #[.bool o, .slice (some ⟨G, p, none⟩) len (n - p)], undef, .agg #[.bool o, .slice (some ⟨G, p, none⟩) len (n - p)], .int .u64 hd, .int .i64 D, undef, undef, undef, undef, undef, undef], defers := [] } ?xT123 ?_
    case xT123 =>
      intro V hV
      have hVc := hV.1.cell
      have hVf := hV.1.frozen
      have hVw := hV.2.1.cell
      have hVq := hV.2.2.1.cell 0
      have hVr := hV.2.2.1.cell 1
      refine wpAnyIn_ready (rs := [0, 4, 5]) (by kernel_rfl) (by simp) ?_
      refine AllReadyIn.cons rfl (fun K hK => ?_) ?_
      · go_simp
        refine hK _ _ ?_
        exact T0123 _ hV
      refine AllReadyIn.cons rfl (fun K hK => ?_) ?_
      · go_simp
        refine hK _ _ ?_
        exact T1234 _ hV
      refine AllReadyIn.cons rfl (fun K hK => ?_) ?_
      · go_simp
        refine hK _ _ ?_
        exact T1235 _ hV
      exact AllReadyIn.nil
    intro T123
    refine merge_any (fun V : World => Boxed V (S + 1) 3 (.int .i64 E) ∧ Boxed V S 3 (.int .i64 q) ∧ Lies V br 83 #[.bool o, .slice (some ⟨G, p, none⟩) len (n - p)] ∧ KeepsOthers W V ∧ Below S W V ∧ KT W V) 7 #[false, true, true, false, true, false, false, false, false, false] { tmps := #[.agg #[], .slice a n cap, .pointer (some ⟨w.heap.size, 0, none⟩), undef, .int .i64 0, .slice (some ⟨G, 0, none⟩) n n, .pointer (some ⟨S, 0, none⟩), .pointer (some ⟨S + 1, 0, none⟩), .pointer (some ⟨br, 0, none⟩), .agg #[], .slice a n cap, .bool true, .bool false, .slice a n cap, .slice (some ⟨G, 0, none⟩) n n, .slice (some ⟨G, 0, none⟩) n n, .int .i64 q, .slice (some ⟨G, 0, none⟩) n n, .func (.func 95) #[] #[.pointer (some ⟨S + 1 + 1, 0, none⟩)], .agg #[.bool o, .slice (some ⟨G, p, none⟩) len (n - p)], undef, .agg #[.bool o, .slice (some ⟨G, p, none⟩) len (n - p)], .int .u64 hd, undef, .agg #[.bool o, .slice (some ⟨G, p, none⟩) len (n - p)], undef, undef, undef, undef, undef], defers := [] } ?xT124 ?_
    case xT124 =>
      intro V hV
      have hVc := hV.1.cell
      have hVf := hV.1.frozen
      have hVw := hV.2.1.cell
      have hVq := hV.2.2.1.cell 0
      have hVr := hV.2.2.1.cell 1
      refine wpAnyIn_ready (rs := [0, 3, 5]) (by kernel_rfl) (by simp) ?_
      refine AllReadyIn.cons rfl (fun K hK => ?_) ?_
      · go_simp
        refine hK _ _ ?_
        exact T0124 _ hV
      refine AllReadyIn.cons rfl (fun K hK => ?_) ?_
      · go_simp
        refine (CallsIn.inRound l (callsIn_wide.2 (PT.out _))).mono ?_
        rintro e w8 ⟨rfl, rfl⟩
        (try dsimp only)
        refine hK _ _ ?_
        exact T1234 _ hV
      refine AllReadyIn.cons rfl (fun K hK => ?_) ?_
      · go_simp
        refine hK _ _ ?_
        exact T1245 _ hV
      exact AllReadyIn.nil
    intro T124
    refine merge_any (fun V : World => Boxed V (S + 1) 3 (.int .i64 E) ∧ Boxed V S 3 (.int .i64 q) ∧ Lies V br 83 #[.bool o, .slice (some ⟨G, p, none⟩) len (n - p)] ∧ KeepsOthers W V ∧ Below S W V ∧ KT W V) 7 #[false, true, true, false, false, true, false, false, false, false] { tmps := #[.agg #[], .slice a n cap, .pointer (some ⟨w.heap.size, 0, none⟩), undef, .int .i64 0, .slice (some ⟨G, 0, none⟩) n n, .pointer (some ⟨S, 0, none⟩), .pointer (some ⟨S + 1, 0, none⟩), .pointer (some ⟨br, 0, none⟩), .agg #[], .slice a n cap, .bool true, .bool false, .slice a n cap, .slice (some ⟨G, 0, none⟩) n n, .slice (some ⟨G, 0, none⟩) n n, .int .i64 q, .slice (some ⟨G, 0, none⟩) n n, .func (.func 95) #[] #[.pointer (some ⟨S + 1 + 1, 0, none⟩)], .agg #[.bool o, .slice (some ⟨G, p, none⟩) len (n - p)], undef, .agg #[.bool o, .slice (some ⟨G, p, none⟩) len (n - p)], .int .u64 hd, undef, undef, .int .i64 q, undef, undef, undef, undef], defers := [] } ?xT125 ?_
    case xT125 =>
      intro V hV
      have hVc := hV.1.cell
      have hVf := hV.1.frozen
      have hVw := hV.2.1.cell
      have hVq := hV.2.2.1.cell 0
      have hVr := hV.2.2.1.cell 1
      refine wpAnyIn_ready (rs := [0, 3, 4]) (by kernel_rfl) (by simp) ?_
      refine AllReadyIn.cons rfl (fun K hK => ?_) ?_
      · go_simp
        refine hK _ _ ?_
        exact T0125 _ hV
      refine AllReadyIn.cons rfl (fun K hK => ?_) ?_
      · go_simp
        refine (CallsIn.inRound l (callsIn_wide.2 (PT.out _))).mono ?_
        rintro e w8 ⟨rfl, rfl⟩
        (try dsimp only)
        refine hK _ _ ?_
        exact T1235 _ hV
      refine AllReadyIn.cons rfl (fun K hK => ?_) ?_
      · go_simp
        refine hK _ _ ?_
        exact T1245 _ hV
      exact AllReadyIn.nil
    intro T125
    refine merge_any (fun V : World => Boxed V (S + 1) 3 (.int .i64 E) ∧ Boxed V S 3 (.int .i64 q) ∧ Lies V br 83 #[.bool o, .slice (some ⟨G, p, none⟩) len (n - p)] ∧ KeepsOthers W V ∧ Below S W V ∧ KT W V) 7 #[false, true, false, false, true, true, false, false, false, false] { tmps := #[.agg #[], .slice a n cap, .pointer (some ⟨w.heap.size, 0, none⟩), undef, .int .i64 0, .slice (some ⟨G, 0, none⟩) n n, .pointer (some ⟨S, 0, none⟩), .pointer (some ⟨S + 1, 0, none⟩), .pointer (some ⟨br, 0, none⟩), .agg #[], .slice a n cap, .bool true, .bool false, .slice a n cap, .slice (some ⟨G, 0, none⟩) n n, .slice (some ⟨G, 0, none⟩) n n, .int .i64 q, .slice (some ⟨G, 0, none⟩) n n, .func (.func 95) #[] #[.pointer (some ⟨S + 1 + 1, 0, none⟩)], .agg #[.bool o, .slice (some ⟨G, p, none⟩) len (n - p)], undef, .agg #[.bool o, .slice (some ⟨G, p, none⟩) len (n - p)], undef, undef, .agg #[.bool o, .slice (some ⟨G, p, none⟩) len (n - p)], .int .i64 q, undef, undef, undef, undef], defers := [] } ?xT145 ?_
    case xT145 =>
      intro V hV
      have hVc := hV.1.cell
      have hVf := hV.1.frozen
      have hVw := hV.2.1.cell
      have hVq := hV.2.2.1.cell 0
      have hVr := hV.2.2.1.cell 1
      refine wpAnyIn_ready (rs := [0, 2]) (by kernel_rfl) (by simp) ?_
      refine AllReadyIn.cons rfl (fun K hK => ?_) ?_
      · go_simp
        refine hK _ _ ?_
        exact T0145 _ hV
      refine AllReadyIn.cons rfl (fun K hK => ?_) ?_
      · go_simp
        refine (CallsIn.inRound l (callsIn_wide.2 (HD.out _))).mono ?_
        rintro e w8 ⟨rfl, hb8⟩
        (try dsimp only)
        refine hK _ _ ?_
        exact T1245 _ (INVB hV hb8)
      exact AllReadyIn.nil
    intro T145
    refine merge_any (fun V : World => Boxed V (S + 1) 3 (.int .i64 E) ∧ Boxed V S 3 (.int .i64 q) ∧ Lies V br 83 #[.bool o, .slice (some ⟨G, p, none⟩) len (n - p)] ∧ KeepsOthers W V ∧ Below S W V ∧ KT W V) 8 #[true, true, false, false, false, false, false, false, false, false] { tmps := #[.agg #[], .slice a n cap, .pointer (some ⟨w.heap.size, 0, none⟩), undef, .int .i64 0, .slice (some ⟨G, 0, none⟩) n n, .pointer (some ⟨S, 0, none⟩), .pointer (some ⟨S + 1, 0, none⟩), .pointer (some ⟨br, 0, none⟩), .agg #[], .slice a n cap, .bool true, .bool false, .slice a n cap, .slice (some ⟨G, 0, none⟩) n n, .slice (some ⟨G, 0, none⟩) n n, .int .i64 q, .slice (some ⟨G, 0, none⟩) n n, .func (.func 95) #[] #[.pointer (some ⟨S + 1 + 1, 0, none⟩)], .agg #[.bool o, .slice (some ⟨G, p, none⟩) len (n - p)], .int .i64 E, .agg #[.bool o, .slice (some ⟨G, p, none⟩) len (n - p)], undef, undef, undef, undef, undef, undef, undef, undef], defers := [] } ?xT01 ?_
    case xT01 =>
      intro V hV
      have hVc := hV.1.cell
      have hVf := hV.1.frozen
      have hVw := hV.2.1.cell
      have hVq := hV.2.2.1.cell 0
      have hVr := hV.2.2.1.cell 1
      refine wpAnyIn_ready (rs := [2, 4, 5]) (by kernel_rfl) (by simp) ?_
      refine AllReadyIn.cons rfl (fun K hK => ?_) ?_
      · go_simp
        refine (CallsIn.inRound l (callsIn_wide.2 (HD.out _))).mono ?_
        rintro e w8 ⟨rfl, hb8⟩
        (try dsimp only)
        refine hK _ _ ?_
        exact T012 _ (INVB hV hb8)
      refine AllReadyIn.cons rfl (fun K hK => ?_) ?_
      · go_simp
        refine hK _ _ ?_
        exact T014 _ hV
      refine AllReadyIn.cons rfl (fun K hK => ?_) ?_
      · go_simp
        refine hK _ _ ?_
        exact T015 _ hV
      exact AllReadyIn.nil
    intro T01
    refine merge_any (fun V : World => Boxed V (S + 1) 3 (.int .i64 E) ∧ Boxed V S 3 (.int .i64 q) ∧ Lies V br 83 #[.bool o, .slice (some ⟨G, p, none⟩) len (n - p)] ∧ KeepsOthers W V ∧ Below S W V ∧ KT W V) 8 #[true, false, false, false, true, false, false, false, false, false] { tmps := #[.agg #[], .slice a n cap, .pointer (some ⟨w.heap.size, 0, none⟩), undef, .int .i64 0, .slice (some ⟨G, 0, none⟩) n n, .pointer (some ⟨S, 0, none⟩), .pointer (some ⟨S + 1, 0, none⟩), .pointer (some ⟨br, 0, none⟩), .agg #[], .slice a n cap, .bool true, .bool false, .slice a n cap, .slice (some ⟨G, 0, none⟩) n n, .slice (some ⟨G, 0, none⟩) n n, .int .i64 q, .slice (some ⟨G, 0, none⟩) n n, .func (.func 95) #[] #[.pointer (some ⟨S + 1 + 1, 0, none⟩)], .agg #[.bool o, .slice (some ⟨G, p, none⟩) len (n - p)], .int .i64 E, undef, undef, undef, .agg #[.bool o, .slice (some ⟨G, p, none⟩) len (n - p)], undef, undef, undef, undef, undef], defers := [] } ?xT04 ?_
    case xT04 =>
      intro V hV
      have hVc := hV.1.cell
      have hVf := hV.1.frozen
      have hVw := hV.2.1.cell
      have hVq := hV.2.2.1.cell 0
      have hVr := hV.2.2.1.cell 1
      refine wpAnyIn_ready (rs := [1, 5]) (by kernel_rfl) (by simp) ?_
      refine AllReadyIn.cons rfl (fun K hK => ?_) ?_
      · go_simp
        refine hK _ _ ?_
        exact T014 _ hV
      refine AllReadyIn.cons rfl (fun K hK => ?_) ?_
      · go_simp
        refine hK _ _ ?_
        exact T045 _ hV
      exact AllReadyIn.nil
    intro T04
    refine merge_any (fun V : World => Boxed V (S + 1) 3 (.int .i64 E) ∧ Boxed V S 3 (.int .i64 q) ∧ Lies V br 83 #[.bool o, .slice (some ⟨G, p, none⟩) len (n - p)] ∧ KeepsOthers W V ∧ Below S W V ∧ KT W V) 8 #[true, false, false, false, false, true, false, false, false, false] { tmps := #[.agg #[], .slice a n cap, .pointer (some ⟨w.heap.size, 0, none⟩), undef, .int .i64 0, .slice (some ⟨G, 0, none⟩) n n, .pointer (some ⟨S, 0, none⟩), .pointer (some ⟨S + 1, 0, none⟩), .pointer (some ⟨br, 0, none⟩), .agg #[], .slice a n cap, .bool true, .bool false, .slice a n cap, .slice (some ⟨G, 0, none⟩) n n, .slice (some ⟨G, 0, none⟩) n n, .int .i64 q, .slice (some ⟨G, 0, none⟩) n n, .func (.func 95) #[] #[.pointer (some ⟨S + 1 + 1, 0, none⟩)], .agg #[.bool o, .slice (some ⟨G, p, none⟩) len (n - p)], .int .i64 E, undef, undef, undef, undef, .int .i64 q, undef, undef, undef, undef], defers := [] } ?xT05 ?_
    case xT05 =>
      intro V hV
      have hVc := hV.1.cell
      have hVf := hV.1.frozen
      have hVw := hV.2.1.cell
      have hVq := hV.2.2.1.cell 0
      have hVr := hV.2.2.1.cell 1
      refine wpAnyIn_ready (rs := [1, 4]) (by kernel_rfl) (by simp) ?_
      refine AllReadyIn.cons rfl (fun K hK => ?_) ?_
      · go_simp
        refine hK _ _ ?_
        exact T015 _ hV
      refine AllReadyIn.cons rfl (fun K hK => ?_) ?_
      · go_simp
        refine hK _ _ ?_
        exact T045 _ hV
      exact AllReadyIn.nil
    intro T05
    refine merge_any (fun V : World => Boxed V (S + 1) 3 (.int .i64 E) ∧ Boxed V S 3 (.int .i64 q) ∧ Lies V br 83 #[.bool o, .slice (some ⟨G, p, none⟩) len (n - p)] ∧ KeepsOthers W V ∧ Below S W V ∧ KT W V) 8 #[false, true, true, false, false, false, false, false, false, false] { tmps := #[.agg #[], .slice a n cap, .pointer (some ⟨w.heap.size, 0, none⟩), undef, .int .i64 0, .slice (some ⟨G, 0, none⟩) n n, .pointer (some ⟨S, 0, none⟩), .pointer (some ⟨S + 1, 0, none⟩), .pointer (some ⟨br, 0, none⟩), .agg #[], .slice a n cap, .bool true, .bool false, .slice a n cap, .slice (some ⟨G, 0, none⟩) n n, .slice (some ⟨G, 0, none⟩) n n, .int .i64 q, .slice (some ⟨G, 0, none⟩) n n, .func (.func 95) #[] #[.pointer (some ⟨S + 1 + 1, 0, none⟩)], .agg #[.bool o, .slice (some ⟨G, p, none⟩) len (n - p)], undef, .agg #[.bool o, .slice (some ⟨G, p, none⟩) len (n - p)], .int .u64 hd, undef, undef, undef, undef, undef, undef, undef], defers := [] } ?xT12 ?_
    case xT12 =>
      intro V hV
      have hVc := hV.1.cell
      have hVf := hV.1.frozen
      have hVw := hV.2.1.cell
      have hVq := hV.2.2.1.cell 0
      have hVr := hV.2.2.1.cell 1
      refine wpAnyIn_ready (rs := [0, 3, 4, 5]) (by kernel_rfl) (by simp) ?_
      refine AllReadyIn.cons rfl (fun K hK => ?_) ?_
      · go_simp
        refine hK _ _ ?_
        exact T012 _ hV
      refine AllReadyIn.cons rfl (fun K hK => ?_) ?_
      · go_simp
        refine (CallsIn.inRound l (callsIn_wide.2 (PT.out _))).mono ?_
        rintro e w8 ⟨rfl, rfl⟩
        (try dsimp only)
        refine hK _ _ ?_
        exact T123 _ hV
      refine AllReadyIn.cons rfl (fun K hK => ?_) ?_
      · go_simp
        refine hK _ _ ?_
        exact T124 _ hV
      refine AllReadyIn.cons rfl (fun K hK => ?_) ?_
      · go_simp
        refine hK _ _ ?_
        exact T125 _ hV
      exact AllReadyIn.nil
    intro T12
    refine merge_any (fun V : World => Boxed V (S + 1) 3 (.int .i64 E) ∧ Boxed V S 3 (.int .i64 q) ∧ Lies V br 83 #[.bool o, .slice (some ⟨G, p, none⟩) len (n - p)] ∧ KeepsOthers W V ∧ Below S W V ∧ KT W V) 8 #[false, true, false, false, true, false, false, false, false, false] { tmps := #[.agg #[], .slice a n cap, .pointer (some ⟨w.heap.size, 0, none⟩), undef, .int .i64 0, .slice (some ⟨G, 0, none⟩) n n, .pointer (some ⟨S, 0, none⟩), .pointer (some ⟨S + 1, 0, none⟩), .pointer (some ⟨br, 0, none⟩), .agg #[], .slice a n cap, .bool true, .bool false, .slice a n cap, .slice (some ⟨G, 0, none⟩) n n, .slice (some ⟨G, 0, none⟩) n n, .int .i64 q, .slice (some ⟨G, 0, none⟩) n n, .func (.func 95) #[] #[.pointer (some ⟨S + 1 + 1, 0, none⟩)], .agg #[.bool o, .slice (some ⟨G, p, none⟩) len (n - p)], undef, .agg #[.bool o, .slice (some ⟨G, p, none⟩) len (n - p)], undef, undef, .agg #[.bool o, .slice (some ⟨G, p, none⟩) len (n - p)], undef, undef, undef, undef, undef], defers := [] } ?xT14 ?_
    case xT14 =>
      intro V hV
      have hVc := hV.1.cell
      have hVf := hV.1.frozen
      have hVw := hV.2.1.cell
      have hVq := hV.2.2.1.cell 0
      have hVr := hV.2.2.1.cell 1
      refine wpAnyIn_ready (rs := [0, 2, 5]) (by kernel_rfl) (by simp) ?_
      refine AllReadyIn.cons rfl (fun K hK => ?_) ?_
      · go_simp
        refine hK _ _ ?_
        exact T014 _ hV
      refine AllReadyIn.cons rfl (fun K hK => ?_) ?_
      · go_simp
        refine (CallsIn.inRound l (callsIn_wide.2 (HD.out _))).mono ?_
        rintro e w8 ⟨rfl, hb8⟩
        (try dsimp only)
        refine hK _ _ ?_
        exact T124 _ (INVB hV hb8)
      refine AllReadyIn.cons rfl (fun K hK => ?_) ?_
      · go_simp
        refine hK _ _ ?_
        exact T145 _ hV
      exact AllReadyIn.nil
    intro T14
    refine merge_any (fun V : World => Boxed V (S + 1) 3 (.int .i64 E) ∧ Boxed V S 3 (.int .i64 q) ∧ Lies V br 83 #[.bool o, .slice (some ⟨G, p, none⟩) len (n - p)] ∧ KeepsOthers W V ∧ Below S W V ∧ KT W V) 8 #[false, true, false, false, false, true, false, false, false, false] { tmps := #[.agg #[], .slice a n cap, .pointer (some ⟨w.heap.size, 0, none⟩), undef, .int .i64 0, .slice (some ⟨G, 0, none⟩) n n, .pointer (some ⟨S, 0, none⟩), .pointer (some ⟨S + 1, 0, none⟩), .pointer (some ⟨br, 0, none⟩), .agg #[], .slice a n cap, .bool true, .bool false, .slice a n cap, .slice (some ⟨G, 0, none⟩) n n, .slice (some ⟨G, 0, none⟩) n n, .int .i64 q, .slice (some ⟨G, 0, none⟩) n n, .func (.func 95) #[] #[.pointer (some ⟨S + 1 + 1, 0, none⟩)], .agg #[.bool o, .slice (some ⟨G, p, none⟩) len (n - p)], undef, .agg #[.bool o, .slice (some ⟨G, p, none⟩) len (n - p)], undef, undef, undef, .int .i64 q, undef, undef, undef, undef], defers := [] } ?xT15 ?_
    case xT15 =>
      intro V hV
      have hVc := hV.1.cell
      have hVf := hV.1.frozen
      have hVw := hV.2.1.cell
      have hVq := hV.2.2.1.cell 0
      have hVr := hV.2.2.1.cell 1
      refine wpAnyIn_ready (rs := [0, 2, 4]) (by kernel_rfl) (by simp) ?_
      refine AllReadyIn.cons rfl (fun K hK => ?_) ?_
      · go_simp
        refine hK _ _ ?_
        exact T015 _ hV
      refine AllReadyIn.cons rfl (fun K hK => ?_) ?_
      · go_simp
        refine (CallsIn.inRound l (callsIn_wide.2 (HD.out _))).mono ?_
        rintro e w8 ⟨rfl, hb8⟩
        (try dsimp only)
        refine hK _ _ ?_
        exact T125 _ (INVB hV hb8)
      refine AllReadyIn.cons rfl (fun K hK => ?_) ?_
      · go_simp
        refine hK _ _ ?_
        exact T145 _ hV
      exact AllReadyIn.nil
    intro T15
    refine merge_any (fun V : World => Boxed V (S + 1) 3 (.int .i64 E) ∧ Boxed V S 3 (.int .i64 q) ∧ Lies V br 83 #[.bool o, .slice (some ⟨G, p, none⟩) len (n - p)] ∧ KeepsOthers W V ∧ Below S W V ∧ KT W V) 8 #[false, false, false, false, true, true, false, false, false, false] { tmps := #[.agg #[], .slice a n cap, .pointer (some ⟨w.heap.size, 0, none⟩), undef, .int .i64 0, .slice (some ⟨G, 0, none⟩) n n, .pointer (some ⟨S, 0, none⟩), .pointer (some ⟨S + 1, 0, none⟩), .pointer (some ⟨br, 0, none⟩), .agg #[], .slice a n cap, .bool true, .bool false, .slice a n cap, .slice (some ⟨G, 0, none⟩) n n, .slice (some ⟨G, 0, none⟩) n n, .int .i64 q, .slice (some ⟨G, 0, none⟩) n n, .func (.func 95) #[] #[.pointer (some ⟨S + 1 + 1, 0, none⟩)], .agg #[.bool o, .slice (some ⟨G, p, none⟩) len (n - p)], undef, undef, undef, undef, .agg #[.bool o, .slice (some ⟨G, p, none⟩) len (n - p)], .int .i64 q, undef, undef, undef, undef], defers := [] } ?xT45 ?_
    case xT45 =>
      intro V hV
      have hVc := hV.1.cell
      have hVf := hV.1.frozen
      have hVw := hV.2.1.cell
      have hVq := hV.2.2.1.cell 0
      have hVr := hV.2.2.1.cell 1
      refine wpAnyIn_ready (rs := [0, 1]) (by kernel_rfl) (by simp) ?_
      refine AllReadyIn.cons rfl (fun K hK => ?_) ?_
      · go_simp
        refine hK _ _ ?_
        exact T045 _ hV
      refine AllReadyIn.cons rfl (fun K hK => ?_) ?_
      · go_simp
        refine hK _ _ ?_
        exact T145 _ hV
      exact AllReadyIn.nil
    intro T45
    refine merge_any (fun V : World => Boxed V (S + 1) 3 (.int .i64 E) ∧ Boxed V S 3 (.int .i64 q) ∧ Lies V br 83 #[.bool o, .slice (some ⟨G, p, none⟩) len (n - p)] ∧ KeepsOthers W V ∧ Below S W V ∧ KT W V) 9 #[true, false, false, false, false, false, false, false, false, false] { tmps := #[.agg #[], .slice a n cap, .pointer (some ⟨w.heap.size, 0, none⟩), undef, .int .i64 0, .slice (some ⟨G, 0, none⟩) n n, .pointer (some ⟨S, 0, none⟩), .pointer (some ⟨S + 1, 0, none⟩), .pointer (some ⟨br, 0, none⟩), .agg #[], .slice a n cap, .bool true, .bool false, .slice a n cap, .slice (some ⟨G, 0, none⟩) n n, .slice (some ⟨G, 0, none⟩) n n, .int .i64 q, .slice (some ⟨G, 0, none⟩) n n, .func (.func 95) #[] #[.pointer (some ⟨S + 1 + 1, 0, none⟩)], .agg #[.bool o, .slice (some ⟨G, p, none⟩) len (n - p)], .int .i64 E, undef, undef, undef, undef, undef, undef, undef, undef, undef], defers := [] } ?xT0 ?_
    case xT0 =>
      intro V hV
      have hVc := hV.1.cell
      have hVf := hV.1.frozen
      have hVw := hV.2.1.cell
      have hVq := hV.2.2.1.cell 0
      have hVr := hV.2.2.1.cell 1
      refine wpAnyIn_ready (rs := [1, 4, 5]) (by kernel_rfl) (by simp) ?_
      refine AllReadyIn.cons rfl (fun K hK => ?_) ?_
      · go_simp
        refine hK _ _ ?_
        exact T01 _ hV
      refine AllReadyIn.cons rfl (fun K hK => ?_) ?_
      · go_simp
        refine hK _ _ ?_
        exact T04 _ hV
      refine AllReadyIn.cons rfl (fun K hK => ?_) ?_
      · go_simp
        refine hK _ _ ?_
        exact T05 _ hV
      exact AllReadyIn.nil
    intro T0
    refine merge_any (fun V : World => Boxed V (S + 1) 3 (.int .i64 E) ∧ Boxed V S 3 (.int .i64 q) ∧ Lies V br 83 #[.bool o, .slice (some ⟨G, p, none⟩) len (n - p)] ∧ KeepsOthers W V ∧ Below S W V ∧ KT W V) 9 #[false, true, false, false, false, false, false, false, false, false] { tmps := #[.agg #[], .slice a n cap, .pointer (some ⟨w.heap.size, 0, none⟩), undef, .int .i64 0, .slice (some ⟨G, 0, none⟩) n n, .pointer (some ⟨S, 0, none⟩), .pointer (some ⟨S + 1, 0, none⟩), .pointer (some ⟨br, 0, none⟩), .agg #[], .slice a n cap, .bool true, .bool false, .slice a n cap, .slice (some ⟨G, 0, none⟩) n n, .slice (some ⟨G, 0, none⟩) n n, .int .i64 q, .slice (some ⟨G, 0, none⟩) n n, .func (.func 95) #[] #[.pointer (some ⟨S + 1 + 1, 0, none⟩)], .agg #[.bool o, .slice (some ⟨G, p, none⟩) len (n - p)], undef, .agg #[.bool o, .slice (some ⟨G, p, none⟩) len (n - p)], undef, undef, undef, undef, undef, undef, undef, undef], defers := [] } ?xT1 ?_
    case xT1 =>
      intro V hV
      have hVc := hV.1.cell
      have hVf := hV.1.frozen
      have hVw := hV.2.1.cell
      have hVq := hV.2.2.1.cell 0
      have hVr := hV.2.2.1.cell 1
      refine wpAnyIn_ready (rs := [0, 2, 4, 5]) (by kernel_rfl) (by simp) ?_
      refine AllReadyIn.cons rfl (fun K hK => ?_) ?_
      · go_simp
        refine hK _ _ ?_
        exact T01 _ hV
      refine AllReadyIn.cons rfl (fun K hK => ?_) ?_
      · go_simp
        refine (CallsIn.inRound l (callsIn_wide.2 (HD.out _))).mono ?_
        rintro e w8 ⟨rfl, hb8⟩
        (try dsimp only)
        refine hK _ _ ?_
        exact T12 _ (INVB hV hb8)
      refine AllReadyIn.cons rfl (fun K hK => ?_) ?_
      · go_simp
        refine hK _ _ ?_
        exact T14 _ hV
      refine AllReadyIn.cons rfl (fun K hK => ?_) ?_
      · go_simp
        refine hK _ _ ?_
        exact T15 _ hV
      exact AllReadyIn.nil
    intro T1
    refine merge_any (fun V : World => Boxed V (S + 1) 3 (.int .i64 E) ∧ Boxed V S 3 (.int .i64 q) ∧ Lies V br 83 #[.bool o, .slice (some ⟨G, p, none⟩) len (n - p)] ∧ KeepsOthers W V ∧ Below S W V ∧ KT W V) 9 #[false, false, false, false, true, false, false, false, false, false] { tmps := #[.agg #[], .slice a n cap, .pointer (some ⟨w.heap.size, 0, none⟩), undef, .int .i64 0, .slice (some ⟨G, 0, none⟩) n n, .pointer (some ⟨S, 0, none⟩), .pointer (some ⟨S + 1, 0, none⟩), .pointer (some ⟨br, 0, none⟩), .agg #[], .slice a n cap, .bool true, .bool false, .slice a n cap, .slice (some ⟨G, 0, none⟩) n n, .slice (some ⟨G, 0, none⟩) n n, .int .i64 q, .slice (some ⟨G, 0, none⟩) n n, .func (.func 95) #[] #[.pointer (some ⟨S + 1 + 1, 0, none⟩)], .agg #[.bool o, .slice (some ⟨G, p, none⟩) len (n - p)], undef, undef, undef, undef, .agg #[.bool o, .slice (some ⟨G, p, none⟩) len (n - p)], undef, undef, undef, undef, undef], defers := [] } ?xT4 ?_
    case xT4 =>
      intro V hV
      have hVc := hV.1.cell
      have hVf := hV.1.frozen
      have hVw := hV.2.1.cell
      have hVq := hV.2.2.1.cell 0
      have hVr := hV.2.2.1.cell 1
      refine wpAnyIn_ready (rs := [0, 1, 5]) (by kernel_rfl) (by simp) ?_
      refine AllReadyIn.cons rfl (fun K hK => ?_) ?_
      · go_simp
        refine hK _ _ ?_
        exact T04 _ hV
      refine AllReadyIn.cons rfl (fun K hK => ?_) ?_
      · go_simp
        refine hK _ _ ?_
        exact T14 _ hV
      refine AllReadyIn.cons rfl (fun K hK => ?_) ?_
      · go_simp
        refine hK _ _ ?_
        exact T45 _ hV
      exact AllReadyIn.nil
    intro T4
    refine merge_any (fun V : World => Boxed V (S + 1) 3 (.int .i64 E) ∧ Boxed V S 3 (.int .i64 q) ∧ Lies V br 83 #[.bool o, .slice (some ⟨G, p, none⟩) len (n - p)] ∧ KeepsOthers W V ∧ Below S W V ∧ KT W V) 9 #[false, false, false, false, false, true, false, false, false, false] { tmps := #[.agg #[], .slice a n cap, .pointer (some ⟨w.heap.size, 0, none⟩), undef, .int .i64 0, .slice (some ⟨G, 0, none⟩) n n, .pointer (some ⟨S, 0, none⟩), .pointer (some ⟨S + 1, 0, none⟩), .pointer (some ⟨br, 0, none⟩), .agg #[], .slice a n cap, .bool true, .bool false, .slice a n cap, .slice (some ⟨G, 0, none⟩) n n, .slice (some ⟨G, 0, none⟩) n n, .int .i64 q, .slice (some ⟨G, 0, none⟩) n n, .func (.func 95) #[] #[.pointer (some ⟨S + 1 + 1, 0, none⟩)], .agg #[.bool o, .slice (some ⟨G, p, none⟩) len (n - p)], undef, undef, undef, undef, undef, .int .i64 q, undef, undef, undef, undef], defers := [] } ?xT5 ?_
    case xT5 =>
      intro V hV
      have hVc := hV.1.cell
      have hVf := hV.1.frozen
      have hVw := hV.2.1.cell
      have hVq := hV.2.2.1.cell 0
      have hVr := hV.2.2.1.cell 1
      refine wpAnyIn_ready (rs := [0, 1, 4]) (by kernel_rfl) (by simp) ?_
      refine AllReadyIn.cons rfl (fun K hK => ?_) ?_
      · go_simp
        refine hK _ _ ?_
        exact T05 _ hV
      refine AllReadyIn.cons rfl (fun K hK => ?_) ?_
      · go_simp
        refine hK _ _ ?_
        exact T15 _ hV
      refine AllReadyIn.cons rfl (fun K hK => ?_) ?_
      · go_simp
        refine hK _ _ ?_
        exact T45 _ hV
      exact AllReadyIn.nil
    intro T5
    refine merge_any (fun V : World => Boxed V (S + 1) 3 (.int .i64 E) ∧ Boxed V S 3 (.int .i64 q) ∧ Lies V br 83 #[.bool o, .slice (some ⟨G, p, none⟩) len (n - p)] ∧ KeepsOthers W V ∧ Below S W V ∧ KT W V) 10 #[false, false, false, false, false, false, false, false, false, false] { tmps := #[.agg #[], .slice a n cap, .pointer (some ⟨w.heap.size, 0, none⟩), undef, .int .i64 0, .slice (some ⟨G, 0, none⟩) n n, .pointer (some ⟨S, 0, none⟩), .pointer (some ⟨S + 1, 0, none⟩), .pointer (some ⟨br, 0, none⟩), .agg #[], .slice a n cap, .bool true, .bool false, .slice a n cap, .slice (some ⟨G, 0, none⟩) n n, .slice (some ⟨G, 0, none⟩) n n, .int .i64 q, .slice (some ⟨G, 0, none⟩) n n, .func (.func 95) #[] #[.pointer (some ⟨S + 1 + 1, 0, none⟩)], .agg #[.bool o, .slice (some ⟨G, p, none⟩) len (n - p)], undef, undef, undef, undef, undef, undef, undef, undef, undef, undef], defers := [] } ?xT_ ?_
    case xT_ =>
      intro V hV
      have hVc := hV.1.cell
      have hVf := hV.1.frozen
      have hVw := hV.2.1.cell
      have hVq := hV.2.2.1.cell 0
      have hVr := hV.2.2.1.cell 1
      refine wpAnyIn_ready (rs := [0, 1, 4, 5]) (by kernel_rfl) (by simp) ?_
      refine AllReadyIn.cons rfl (fun K hK => ?_) ?_
      · go_simp
        refine hK _ _ ?_
        exact T0 _ hV
      refine AllReadyIn.cons rfl (fun K hK => ?_) ?_
      · go_simp
        refine hK _ _ ?_
        exact T1 _ hV
      refine AllReadyIn.cons rfl (fun K hK => ?_) ?_
      · go_simp
        refine hK _ _ ?_
        exact T4 _ hV
      refine AllReadyIn.cons rfl (fun K hK => ?_) ?_
      · go_simp
        refine hK _ _ ?_
        exact T5 _ hV
      exact AllReadyIn.nil
    intro T_
    exact T_ _ ⟨hv, hbw, hlr, KeepsOthers.drew W, (Below.refl _ W).drew, KT.refl W⟩
  case done =>
    rintro D ys W hD hys ⟨⟨hv, hbw⟩, hB3, hs⟩ hK
    have hHL := HFL.out
    rw [← hys] at hHL
    have hWy := hWl ys
    have hc := hv.cell
    have hsw : w.heap.size ≤ S := by have := hB2.size; omega
    have HHL := Lib.hid hHL
    clear hHL hWy hys
    gi_wp2
    refine ⟨by simp, .inl ⟨_, _, rfl, run_takeDeferred hK, ?_⟩⟩
    refine ⟨_, results_tmp rfl _ _ _, ?_, (hB2.trans (hB3.mono hsw)).trans (belowK_b (w := w) (Nat.le_refl _) W D _ _ (by omega) hK rfl rfl)⟩
    rw [HHL.out]
    simp
  case stop =>
    rintro D c pre W _ _ h _
    exact h.elim
end Go.Proofs.Ythonjffojaljdaa

