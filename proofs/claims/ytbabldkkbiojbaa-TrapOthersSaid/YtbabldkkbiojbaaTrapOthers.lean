/-
  THE STATEMENT corduroylaw02.TrapOthers: for every number of tries, every text and every error the call returns true and leaves its arguments as they were. No condition.
-/
import Derived.Test.YtbabldkkbiojbaaTrapLaw
import Derived.LoopTactic
import Derived.Laws.EntriesVeiled
namespace Go.Proofs.Ytbabldkkbiojbaa.trapOthers
open Go.ChangeShapes Go.WideShapes Go.ChangeAt Go.RowKit
set_option linter.unusedVariables false

/-- The panics that are told when a text's panic has gone through n tries: itself, and those that were caught and went on. -/
def chain (x : Value) (n : Nat) : List PanicEntry := { v := .iface 9 x, recovered := false } :: List.replicate n { v := .iface 9 x, recovered := true }
def Panics (x : Value) (n : Nat) (w : World) (e : Ending) (w' : World) : Prop := e = .panicked (chain x n) ∧ Below w.heap.size w w'
theorem below_alive {w w1 : World} (h : Below (w.alloc (.cells #[.int .i64 0] 27)).heap.size (w.alloc (.cells #[.int .i64 0] 27)) w1) : Alive w w1 := by
  have hA := alive_new w
  exact ⟨(h.cell (p := ⟨w.heap.size, 0, none⟩) (by simp)).trans hA.1, (h.frozen (p := ⟨w.heap.size, 0, none⟩) (by simp)).trans hA.2.1, by have := h.size; simp at this; omega⟩
theorem try_text (f : FuncId) (caps : Array Value) (x : Value) (n : Nat) (w : World) (he : ∀ w, (callFunc f caps).run Try.prog w = .ok (.enter f caps) w)
    (h : Calls Try.prog f caps (w.alloc (.cells #[.int .i64 0] 27)) (Panics x n (w.alloc (.cells #[.int .i64 0] 27)))) :
    Calls Try.prog 35 #[.func (.func f) #[] caps] w (Panics x (n + 1) w) := by
  have hmf : ∀ (fn : Fn) (first cap : Array Value) (w : World), (Instr.makeFunc fn first cap).run Try.prog w = .ok (.func fn first cap) w := fun _ _ _ _ => rfl
  have H := Lib.hid h
  clear h
  go_enter_defers Try.func35, Try.ntmps35
  go_wp2_with fail
  refine H.out.mono ?_
  rintro e w1 ⟨rfl, hb⟩
  show Leaves Try.prog Try.f35 _ _ _ _ _
  refine leaves_cons (f := 57) (args := #[.pointer (some ⟨w.heap.size, 0, none⟩)]) (by simp) (by simp [go_sem]) ?_
  refine (catch_text _ x _ w1).mono ?_
  rintro e u' w'' ⟨rfl, rfl, rfl⟩
  refine ⟨rfl, ?_⟩
  have hs := hb.size
  exact (((Below.refl _ w).alloc (Nat.le_refl _) _).trans (hb.mono (by simp))).alloc (by simp at hs; omega) _
/-- What the closure that throws comes to. -/
def Throws (n : Int) (w : World) (e : Ending) (w' : World) : Prop :=
  w = w' ∧ ((n = 0 ∧ e = .returned (.tuple #[])) ∨ ((n != 0) = true ∧ e = .panicked [{ v := .iface 88 (.agg #[.int .i64 n]), recovered := false }]))
theorem throws46 (a : Nat) (n : Int) (w : World) (ha : w.cell? ⟨a, 0, none⟩ = some (.int .i64 n)) : Calls Try.prog 46 #[.pointer (some ⟨a, 0, none⟩)] w (Throws n w) := by
  by_cases h : n = 0
  · subst h
    go_enter Try.func46, Try.ntmps46
    go_wp2_with fail
    refine (throw_ok _).mono ?_
    rintro e w' ⟨rfl, rfl⟩
    go_wp2
    go_end0
    exact ⟨rfl, .inl ⟨rfl, rfl⟩⟩
  · have hn : (n != 0) = true := by simpa using h
    have HN := Lib.hid hn
    clear hn h
    go_enter Try.func46, Try.ntmps46
    go_wp2_with fail
    refine (throw_some _ HN.out _).mono ?_
    rintro e w' ⟨rfl, rfl⟩
    go_wp2
    exact ⟨rfl, rfl, .inr ⟨HN.out, rfl⟩⟩
/-- What lies behind a thing to do, n tries deep. -/
def Nest (s : ByteArray) (pe ps : Nat) : Nat → World → Value → Prop
  | 0, w, v => v = .func (.func 45) #[] #[.pointer (some ⟨pe, 0, none⟩), .pointer (some ⟨ps, 0, none⟩)] ∧ pe < w.heap.size ∧ ps < w.heap.size ∧ (∃ n, w.cell? ⟨pe, 0, none⟩ = some (.int .i64 n)) ∧ w.cell? ⟨ps, 0, none⟩ = some (.string s)
  | n + 1, w, v => ∃ b u, b < w.heap.size ∧ v = .func (.func 48) #[] #[.pointer (some ⟨b, 0, none⟩)] ∧ w.cell? ⟨b, 0, none⟩ = some u ∧ Nest s pe ps n w u
theorem Nest.below {s : ByteArray} {pe ps : Nat} : ∀ {n : Nat} {w w' : World} {v : Value}, Nest s pe ps n w v → Below w.heap.size w w' → Nest s pe ps n w' v
  | 0, w, w', v, ⟨h1, h2, h3, ⟨n, h4⟩, h5⟩, hb => ⟨h1, by have := hb.size; omega, by have := hb.size; omega, ⟨n, (hb.cell (p := ⟨pe, 0, none⟩) h2).trans h4⟩, (hb.cell (p := ⟨ps, 0, none⟩) h3).trans h5⟩
  | n + 1, w, w', v, ⟨b, u, h1, h2, h3, h4⟩, hb => ⟨b, u, by have := hb.size; omega, h2, (hb.cell (p := ⟨b, 0, none⟩) h1).trans h3, h4.below hb⟩
theorem innermost (s : ByteArray) (pe ps : Nat) (n : Int) (w : World) (h1 : pe < w.heap.size) (h2 : ps < w.heap.size) (hc : w.cell? ⟨pe, 0, none⟩ = some (.int .i64 n)) (hs : w.cell? ⟨ps, 0, none⟩ = some (.string s)) :
    Calls Try.prog 45 #[.pointer (some ⟨pe, 0, none⟩), .pointer (some ⟨ps, 0, none⟩)] w (Panics (.string s) 0 w) := by
  have hmf : ∀ (fn : Fn) (first cap : Array Value) (w : World), (Instr.makeFunc fn first cap).run Try.prog w = .ok (.func fn first cap) w := fun _ _ _ _ => rfl
  have HS := Lib.hid hs
  clear hs
  go_enter Try.func45, Try.ntmps45
  go_wp2_with fail
  refine (try_any 46 _ w (fun k w1 => k = n ∧ w1 = w.alloc (.cells #[.int .i64 0] 27)) (fun _ => by simp [go_sem]) ((throws46 pe n _ ?_).mono ?_)).mono ?_
  · rw [World.cell?_alloc_past _ _ _ h1]; exact hc
  · rintro e w1 ⟨rfl, ⟨h0, rfl⟩ | ⟨hn, rfl⟩⟩
    · exact ⟨alive_new w, .inl ⟨rfl, h0.symm, rfl⟩⟩
    · exact ⟨alive_new w, .inr ⟨_, hn, rfl, rfl, rfl⟩⟩
  rintro e w' ⟨k, w1, rfl, ⟨rfl, rfl⟩, hd⟩
  have hb : Below w.heap.size w w' := ((Below.refl _ w).alloc (Nat.le_refl _) _).trans (hd.below (Nat.le_refl _) (by simp))
  have hs' := (hb.cell (p := ⟨ps, 0, none⟩) h2).trans HS.out
  have HB := Lib.hid hb
  clear hb hd
  go_wp2
  exact ⟨rfl, rfl, HB.out⟩
/-- A thing to do, as a value that can be called, and what comes of it wherever what lies behind it lies. -/
def Does (s : ByteArray) (pe ps n : Nat) (v : Value) : Prop :=
  ∃ f caps, v = .func (.func f) #[] caps ∧ (∀ w, (callFunc f caps).run Try.prog w = .ok (.enter f caps) w) ∧ ∀ w, Nest s pe ps n w v → Calls Try.prog f caps w (Panics (.string s) n w)
theorem does (s : ByteArray) (pe ps : Nat) : ∀ (n : Nat) (w : World) (v : Value), Nest s pe ps n w v → Does s pe ps n v
  | 0, w, v, ⟨h1, h2, h3, ⟨n, h4⟩, h5⟩ => by
    refine ⟨45, _, h1, fun _ => by simp [go_sem], ?_⟩
    rintro w ⟨_, a1, a2, ⟨m, a3⟩, a4⟩
    exact innermost s pe ps m w a1 a2 a3 a4
  | n + 1, w, v, ⟨b, u, h1, h2, h3, h4⟩ => by
    refine ⟨48, _, h2, fun _ => by simp [go_sem], ?_⟩
    rintro w ⟨b', u', a1, a2, a3, a4⟩
    obtain rfl : b' = b := by rw [h2] at a2; simpa using a2.symm
    obtain ⟨f, caps, rfl, he, hd⟩ := does s pe ps n w u' a4
    have HD := Lib.hid hd
    have HE := Lib.hid he
    have H4 := Lib.hid a4
    clear hd he a4
    go_enter Try.func48, Try.ntmps48
    go_wp2_with fail
    refine (try_text f caps (.string s) n w HE.out ?_).mono ?_
    · exact HD.out _ (H4.out.below ((Below.refl _ w).alloc (Nat.le_refl _) _))
    rintro e w' ⟨rfl, hb⟩
    go_wp2
    exact ⟨rfl, rfl, hb⟩
theorem assert_string (x : Value) (w : World) : (Instr.typeAssert (.iface 9 x) 20 9 true).run Try.prog w = .ok (.tuple #[x, .bool true]) w := by kernel_rfl
theorem catches62 (a b : Nat) (s : ByteArray) (u : ByteArray) (t : Bool) (older : List PanicEntry) (w : World) (ha : w.cell? ⟨a, 0, none⟩ = some (.string u)) (hb : w.cell? ⟨b, 0, none⟩ = some (.bool t)) (za : w.frozen? ⟨a, 0, none⟩ = false) (zb : w.frozen? ⟨b, 0, none⟩ = false) (hab : b ≠ a) :
    CallsD Try.prog 62 #[.pointer (some ⟨a, 0, none⟩), .pointer (some ⟨b, 0, none⟩)] (.panicking ({ v := .iface 9 (.string s), recovered := false } :: older)) w fun e u' w' =>
      e = .returned (.tuple #[]) ∧ u' = .panicking ({ v := .iface 9 (.string s), recovered := true } :: older) ∧ w' = (w.setCell ⟨a, 0, none⟩ (.string s)).setCell ⟨b, 0, none⟩ (.bool true) := by
  have ta := assert_string
  have hb' : (w.setCell ⟨a, 0, none⟩ (.string s)).cell? ⟨b, 0, none⟩ = some (.bool t) := by rw [World.cell?_setCell_other _ _ _ _ (by simp)]; exact hb
  refine callsD_of_wpS Try.func62 rfl fun c₀ cs hu => ?_
  apply wpS_seq
  apply wpS_region
  simp [wpOpsS, go_sem, recoverD, hu, Try.ntmps62, Exit.thenS]
  refine wpS_of_wp ?_
  simp only [Array.replicate_succ, Array.replicate_zero, List.push_toArray, List.append_toArray, List.nil_append, List.cons_append, List.setIfInBounds_toArray, List.set_cons_succ, List.set_cons_zero]
  go_wp2
  cases c₀
  simp_all [bodyPostS, results, Try.results62]
theorem drop_chain (x : Value) (n : Nat) : (List.replicate n ({ v := .iface 9 x, recovered := true } : PanicEntry)).dropWhile (!·.goexit) = [] := by
  induction n with
  | zero => rfl
  | succ n ih => simp [List.replicate_succ]
theorem caught_any (f : FuncId) (caps : Array Value) (s : ByteArray) (n : Nat) (w : World) (he : ∀ w, (callFunc f caps).run Try.prog w = .ok (.enter f caps) w)
    (h : ∀ W, Below w.heap.size w W → Calls Try.prog f caps W (Panics (.string s) n W)) :
    Calls Try.prog 49 #[.func (.func f) #[] caps] w fun e w' => e = .returned (.tuple #[.string s, .bool true]) ∧ Below w.heap.size w w' := by
  have hmf : ∀ (fn : Fn) (first cap : Array Value) (w : World), (Instr.makeFunc fn first cap).run Try.prog w = .ok (.func fn first cap) w := fun _ _ _ _ => rfl
  have H := Lib.hid h
  clear h
  go_enter_defers Try.func49, Try.ntmps49
  go_wp2_with fail
  have e1 : Below w.heap.size w ((w.alloc (.cells #[.string ⟨#[]⟩] 9)).alloc (.cells #[.bool false] 4)) := ((Below.refl _ w).alloc (Nat.le_refl _) _).alloc (by simp) _
  have e2 : ((w.alloc (.cells #[.string ⟨#[]⟩] 9)).alloc (.cells #[.bool false] 4)).cell? ⟨w.heap.size, 0, none⟩ = some (.string ⟨#[]⟩) := by simp [go_sem]
  have e3 : ((w.alloc (.cells #[.string ⟨#[]⟩] 9)).alloc (.cells #[.bool false] 4)).cell? ⟨w.heap.size + 1, 0, none⟩ = some (.bool false) := by simp [go_sem]
  have e4 : ((w.alloc (.cells #[.string ⟨#[]⟩] 9)).alloc (.cells #[.bool false] 4)).frozen? ⟨w.heap.size, 0, none⟩ = false := by simp [go_sem]
  have e5 : ((w.alloc (.cells #[.string ⟨#[]⟩] 9)).alloc (.cells #[.bool false] 4)).frozen? ⟨w.heap.size + 1, 0, none⟩ = false := by simp [go_sem]
  have e6 : ((w.alloc (.cells #[.string ⟨#[]⟩] 9)).alloc (.cells #[.bool false] 4)).heap.size = w.heap.size + 2 := by simp
  generalize ((w.alloc (.cells #[.string ⟨#[]⟩] 9)).alloc (.cells #[.bool false] 4)) = W at *
  refine (H.out W e1).mono ?_
  rintro e w1 ⟨rfl, hb⟩
  show Leaves Try.prog Try.f49 _ _ _ _ _
  refine leaves_cons (f := 62) (args := #[.pointer (some ⟨w.heap.size, 0, none⟩), .pointer (some ⟨w.heap.size + 1, 0, none⟩)]) (by simp) (by simp [go_sem]) ?_
  have d2 := (hb.cell (p := ⟨w.heap.size, 0, none⟩) (by simp; omega)).trans e2
  have d3 := (hb.cell (p := ⟨w.heap.size + 1, 0, none⟩) (by simp; omega)).trans e3
  refine (catches62 _ _ s _ _ _ w1 d2 d3 ((hb.frozen (p := ⟨w.heap.size, 0, none⟩) (by simp; omega)).trans e4) ((hb.frozen (p := ⟨w.heap.size + 1, 0, none⟩) (by simp; omega)).trans e5) (by omega)).mono ?_
  rintro e u' w'' ⟨rfl, rfl, rfl⟩
  have h2 : ((w1.setCell ⟨w.heap.size, 0, none⟩ (.string s)).setCell ⟨w.heap.size + 1, 0, none⟩ (.bool true)).cell? ⟨w.heap.size, 0, none⟩ = some (.string s) := by
    rw [World.cell?_setCell_other _ _ _ _ (by simp)]; exact World.cell?_setCell_same' _ _ _ (by rw [d2]; rfl)
  have h3 : ((w1.setCell ⟨w.heap.size, 0, none⟩ (.string s)).setCell ⟨w.heap.size + 1, 0, none⟩ (.bool true)).cell? ⟨w.heap.size + 1, 0, none⟩ = some (.bool true) :=
    World.cell?_setCell_same' _ _ _ (by rw [World.cell?_setCell_other _ _ _ _ (by simp), d3]; rfl)
  simp only [Leaves, settle, drop_chain]
  refine ⟨.tuple #[.string s, .bool true], by simp [results, Try.results49, go_sem, h2, h3], rfl, ?_⟩
  exact ((e1.trans (hb.mono (by omega))).setCell (by simp) _).setCell (by simp) _

theorem others_deep (d : Int) (s : ByteArray) (n : Int) (h : 20 < d) (w : World) :
    Calls Try.prog 13 #[.int .u8 d, .string s, .int .i64 n] w fun e w' => e = .returned (.bool true) ∧ Below w.heap.size w w' := by
  go_enter Try.func13, Try.ntmps13
  go_wp2
  go_ret
  exact ⟨rfl, ((Below.refl _ _).alloc (Nat.le_refl _) _).alloc (by simp) _⟩
theorem others_long (d : Int) (s : ByteArray) (n : Int) (h : ¬ 20 < d) (hs : 100 < (s.size : Int)) (w : World) :
    Calls Try.prog 13 #[.int .u8 d, .string s, .int .i64 n] w fun e w' => e = .returned (.bool true) ∧ Below w.heap.size w w' := by
  go_enter Try.func13, Try.ntmps13
  go_wp2
  go_ret
  exact ⟨rfl, ((Below.refl _ _).alloc (Nat.le_refl _) _).alloc (by simp) _⟩
theorem others_walk (d : Nat) (s : ByteArray) (n : Int) (h : ¬ 20 < (d : Int)) (hs : ¬ 100 < (s.size : Int)) (w : World) :
    Calls Try.prog 13 #[.int .u8 d, .string s, .int .i64 n] w fun e w' => e = .returned (.bool true) ∧ Below w.heap.size w w' := by
  have hmf : ∀ (fn : Fn) (first cap : Array Value) (w : World), (Instr.makeFunc fn first cap).run Try.prog w = .ok (.func fn first cap) w := fun _ _ _ _ => rfl
  have e1 : Below w.heap.size w ((w.alloc (.cells #[.string s] 9)).alloc (.cells #[.int .i64 n] 3)) := ((Below.refl _ w).alloc (Nat.le_refl _) _).alloc (by simp) _
  have e2 : ((w.alloc (.cells #[.string s] 9)).alloc (.cells #[.int .i64 n] 3)).cell? ⟨w.heap.size, 0, none⟩ = some (.string s) := by simp [go_sem]
  have e3 : ((w.alloc (.cells #[.string s] 9)).alloc (.cells #[.int .i64 n] 3)).cell? ⟨w.heap.size + 1, 0, none⟩ = some (.int .i64 n) := by simp [go_sem]
  have e4 : ((w.alloc (.cells #[.string s] 9)).alloc (.cells #[.int .i64 n] 3)).heap.size = w.heap.size + 2 := by simp
  have E1 := Lib.hid e1
  have E2 := Lib.hid e2
  have E3 := Lib.hid e3
  have E4 := Lib.hid e4
  clear e1 e2 e3 e4
  go_enter Try.func13, Try.ntmps13
  go_wp2
  generalize ((w.alloc (.cells #[.string s] 9)).alloc (.cells #[.int .i64 n] 3)) = W at *
  go_loopw [7, 8] (fun v i wr => ∃ k : Nat, k ≤ d ∧ i = .int .i64 k ∧ Nest s (w.heap.size + 1) w.heap.size k wr v ∧ Below (w.heap.size + 2) W wr) (fun _ i _ => d - (intOf i).toNat)
  case atStart => exact ⟨0, by omega, rfl, ⟨rfl, by have := E4.out; omega, by have := E4.out; omega, ⟨n, E3.out⟩, E2.out⟩, Below.refl _ _⟩
  case round =>
    obtain ⟨k, hk, rfl, hn, hb⟩ := hrel
    have HN := Lib.hid hn
    have HB := Lib.hid hb
    clear hn hb
    obtain ⟨f, caps, rfl, he, hd⟩ := does s _ _ k wr _ HN.out
    have HE := Lib.hid he
    have HD := Lib.hid hd
    clear he hd
    by_cases hlt : k < d
    · have hlt' : (k : Int) < d := by omega
      go_wp2
      go_roundw
      case rel =>
        refine ⟨k + 1, by omega, by go_num, ⟨wr.heap.size, .func (.func f) #[] caps, by simp, rfl, ?_, ?_⟩, ?_⟩
        · simp [go_sem]
        · exact HN.out.below ((Below.refl _ _).alloc (Nat.le_refl _) _)
        · exact HB.out.alloc (by have := HB.out.size; have := E4.out; omega) _
      case measure => simp [intOf]; omega
    · obtain rfl : k = d := by omega
      have hlt' : ¬ (k : Int) < k := by omega
      go_wp2_with fail
      refine (caught_any f caps s k wr HE.out (fun W' hW' => HD.out W' (HN.out.below hW'))).mono ?_
      rintro e w2 ⟨rfl, hb2⟩
      have c2 : w2.cell? ⟨w.heap.size, 0, none⟩ = some (.string s) := by
        have h1 := HB.out.size
        have h2 := E4.out
        exact (hb2.cell (p := ⟨w.heap.size, 0, none⟩) (by simp; omega)).trans ((HB.out.cell (p := ⟨w.heap.size, 0, none⟩) (by simp)).trans E2.out)
      have hfin : Below w.heap.size w w2 := (E1.out.trans (HB.out.mono (by omega))).trans (hb2.mono (by have h1 := HB.out.size; have h2 := E4.out; omega))
      clear hb2
      go_wp2_with fail
      refine (awake_any w2).mono ?_
      rintro e w3 ⟨rfl, hb3⟩
      have hfin := hfin.trans (hb3.mono (by have := hfin.size; omega))
      clear hb3
      go_wp2
      go_ret
      exact ⟨rfl, hfin⟩
theorem walk (a0 : Int) (a1 : ByteArray) (a2 : Int) (b0 : 0 ≤ a0 ∧ a0 ≤ 255) (b1 : a1.size ≤ maxLen) (b2 : -9223372036854775808 ≤ a2 ∧ a2 ≤ 9223372036854775807) (w : World) :
    Calls Try.prog 13 #[.int .u8 a0, .string a1, .int .i64 a2] w fun e w' => e = .returned (.bool true) ∧ Below w.heap.size w w' := by
  by_cases h : 20 < a0
  · exact others_deep a0 a1 a2 h w
  · by_cases hs : 100 < (a1.size : Int)
    · exact others_long a0 a1 a2 h hs w
    · obtain ⟨d, rfl⟩ := Int.eq_ofNat_of_zero_le b0.1
      exact others_walk d a1 a2 h hs w
theorem own : ownKnob Try.prog.godebug = none := by kernel_rfl
theorem contract (H : Type) (enc : TypeId × Value → H) (W : World) (base : Nat) (args : Array Value) (ds gs : List (DataW H)) (before : List MemPlace)
    (hval : ∀ (j : Nat) t v, Try.f13.params[j]? = some t → args[j]? = some v → Value.okWide Try.prog W .any base t v)
    (hW : DataW.Whole enc Try.prog Try.f13.params.toList Rows.trapOthersSpec.vars false W args.toList ds gs before) :
    Calls Try.prog 13 args W fun e W' => ∃ v, e = .returned v ∧ Rows.trapOthersSpec.post enc Try.prog Try.f13 false true false false W args v W' := by
  have hW' := hW
  obtain ⟨p, q, hA0, hV, rfl, hfz, hnd⟩ := hW
  have hA : DataW.TrodAll enc Try.prog W 0 (fun _ => true) true Try.f13.params.toList args.toList ds p := hA0
  rw [Try.params13] at hA hval
  obtain ⟨v0, vs0, d0, ds0, p0, q0, hargs, rfl, rfl, h0, r0⟩ := trodAll_cons hA
  obtain ⟨v1, vs1, d1, ds1, p1, q1, rfl, rfl, rfl, h1, r1⟩ := trodAll_cons r0
  obtain ⟨v2, vs2, d2, ds2, p2, q2, rfl, rfl, rfl, h2, r2⟩ := trodAll_cons r1
  obtain ⟨rfl, rfl, rfl⟩ := trodAll_nil r2
  obtain rfl : args = #[v0, v1, v2] := by cases args; simp_all
  obtain ⟨rfl, rfl⟩ := trodVars_none hV
  obtain ⟨a0, rfl, rfl, rfl, w0⟩ := open_int Try.underlying5 (hval 0 5 v0 rfl rfl) h0
  have b0 := bounds_u8 w0
  obtain ⟨a1, rfl, rfl, rfl, b1⟩ := Go.ChangeMaps.open_string Try.underlying9 (hval 1 9 v1 rfl rfl) h1
  obtain ⟨a2, rfl, rfl, rfl, w2⟩ := open_int Try.underlying3 (hval 2 3 v2 rfl rfl) h2
  have b2 := bounds_i64 w2
  clear hA0
  simp only [List.append_nil] at hW'
  refine (walk a0 a1 a2 b0 b1 b2 W).mono fun e W' ⟨he, hg⟩ => ?_
  subst he
  exact ⟨_, rfl, _, _, _, [], [], [], hW', trodAll_mk1 (shut_bool Try.underlying4 _), (trodAll_cons_mk (shut_int Try.underlying5 w0) (trodAll_cons_mk (Go.ChangeMaps.shut_string Try.underlying9 b1) (trodAll_cons_mk (shut_int Try.underlying3 w2) trodAll_mk0))), rfl, hg.frame _, fun h => by cases h⟩

set_option maxRecDepth 100000 in
theorem lifted (os : Os) (started : os.Started) (H : Type) (enc : TypeId × Value → H) :
    ReturnsInHanded {} Try.checked os 13 .any (Rows.trapOthersSpec.pre6 enc Try.prog Try.f13 Rows.trapOthersRow.domain false) (Rows.trapOthersSpec.post enc Try.prog Try.f13 false true false false) := by
  refine returnsInHanded_of_change (C := Try.checked) own started (by kernel_rfl) Try.func13
    (ChangeSpec.witness6 (enc := enc) (C := Try.checked) false ⟨#[], #[.int .u8 0, .string ByteArray.empty, .int .i64 0], []⟩ 8 (by kernel_rfl) (by kernel_rfl) (by kernel_rfl) (by kernel_rfl)) ?_
  intro W base args ds gs before hval hW _ _
  exact contract H enc W base args ds gs before hval hW

/-- ████ THE STATEMENT ████ -/
theorem proved : Rows.TrapOthersSaid :=
  OpenClaim.holds_of_wide 13 Try.f13 rfl rfl rfl rfl rfl rfl rfl ⟨rfl, rfl, rfl, rfl, rfl⟩ rfl rfl rfl rfl rfl (by kernel_rfl) Try.func13 (by kernel_rfl)
    (of_decide_eq_true (by kernel_rfl)) (by unfold Func.isWrapper; first | (rw [if_pos (by decide +kernel)]; kernel_rfl) | (rw [if_neg (by decide +kernel)]; exact ⟨rfl, rfl⟩))
    (fun os started H enc _ => lifted os started H enc)
end Go.Proofs.Ytbabldkkbiojbaa.trapOthers
