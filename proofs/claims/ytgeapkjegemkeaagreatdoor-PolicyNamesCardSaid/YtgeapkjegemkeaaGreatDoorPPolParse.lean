/-
  The program's read of an expression, and ParseExpr: contracts. Conditions: those that each names.
-/
import Derived.Test.YtgeapkjegemkeaaGreatDoorPPolRead
namespace Go.Proofs.YtgeapkjegemkeaaGreatDoor
open Go Go.RowKit
set_option linter.unusedSimpArgs false
set_option linter.unusedVariables false

/-- What a text is read as, or why it is not. -/
def ParseP {α : Type} (V : α → Value → World → Prop) (zero : Value) (w : World) (g : Got α) (e : Ending) (w' : World) : Prop := match g with
  | .ok x _ => ∃ v, e = .returned (.tuple #[v, .int .i64 0, .int .i64 0]) ∧ V x v w' ∧ Below w.heap.size w w'
  | .bad er p => e = .returned (.tuple #[zero, .int .i64 er, .int .i64 (p : Int)]) ∧ Below w.heap.size w w'
  | .out => False
theorem below_grow {B b : Nat} {a w w' : World} (h : Below B a w) (hg : w.grownBy w' (some b)) (hb : B ≤ b) (hB : B ≤ a.heap.size) : Below B a w' :=
  h.trans ⟨hg.os, hg.tape, hg.output, hg.size, fun k hk => hg.block k (Nat.lt_of_lt_of_le hk (Nat.le_trans hB h.size)) (fun e => by injection e with e; omega)⟩
abbrev errO (v : Int) : Obj := .cells #[.int .i64 v] 30
abbrev intO (v : Int) : Obj := .cells #[.int .i64 v] 3
abbrev rdO (s : ByteArray) : Obj := .cells #[.string s, .int .i64 0, .string ⟨#[]⟩, .int .u64 0, .int .i64 0, .int .i64 0, .int .i64 0] 100
/-- The boxes of read, and its reader. -/
abbrev read3 (w : World) (o : Obj) : World := ((w.alloc o).alloc (errO 0)).alloc (intO 0)
abbrev read4 (w : World) (o : Obj) (s : ByteArray) : World := (read3 w o).alloc (rdO s)
theorem read4_at (w : World) (o : Obj) (s : ByteArray) : PAt (read4 w o s) (w.heap.size + 3) s noT 0 := by
  have h : PAt (read4 w o s) (read3 w o).heap.size s noT 0 := World.rowIs_alloc (read3 w o) _ 100 (prV s noT 0) (cases7 rfl rfl rfl rfl rfl rfl rfl)
  rw [show (read3 w o).heap.size = w.heap.size + 3 by simp] at h
  exact h
theorem read4_boxes (w : World) (o : Obj) (s : ByteArray) : (read4 w o s).heap[w.heap.size]? = some o ∧ (read4 w o s).heap[w.heap.size + 1]? = some (errO 0) ∧ (read4 w o s).heap[w.heap.size + 2]? = some (intO 0) ∧ Below w.heap.size w (read4 w o s) := by
  have h0 : (w.alloc o).heap.size = w.heap.size + 1 := by simp
  have h1 : ((w.alloc o).alloc (errO 0)).heap.size = w.heap.size + 2 := by simp
  have e1 := World.alloc_heap_new (w.alloc o) (errO 0)
  rw [h0] at e1
  have e2 := World.alloc_heap_new ((w.alloc o).alloc (errO 0)) (intO 0)
  rw [h1] at e2
  exact ⟨kept_alloc (kept_alloc (kept_alloc (World.alloc_heap_new w o) _) _) _, kept_alloc (kept_alloc e1 _) _, kept_alloc e2 _, (((lbox w o).trans ((lbox _ _).mono (by omega))).trans ((lbox _ _).mono (by omega))).trans ((lbox _ _).mono (by simp; omega))⟩
theorem refused_end (w : World) (s : ByteArray) (w2 : World) (er : Int) (p : Nat) (HB : (read4 w (exO 0 0 0 0 0) s).heap[w.heap.size]? = some (exO 0 0 0 0 0) ∧ (read4 w (exO 0 0 0 0 0) s).heap[w.heap.size + 1]? = some (errO 0) ∧ (read4 w (exO 0 0 0 0 0) s).heap[w.heap.size + 2]? = some (intO 0) ∧ Below w.heap.size w (read4 w (exO 0 0 0 0 0) s))
    (hg : (read4 w (exO 0 0 0 0 0) s).grownBy w2 (some (w.heap.size + 3))) (tm : Array Value) (h4 : tm[4]? = some (.pointer (some ⟨w.heap.size, 0, none⟩))) (h5 : tm[5]? = some (.pointer (some ⟨w.heap.size + 1, 0, none⟩))) (h6 : tm[6]? = some (.pointer (some ⟨w.heap.size + 1 + 1, 0, none⟩))) :
    Leaves Tryz.prog Tryz.f25 tm (ParseP (ExP w.heap.size) (leafVal 0 0 0 0 0) w (.bad er p)) [{ target := .fn (.func 58) #[.pointer (some ⟨w.heap.size + 1, 0, none⟩), .pointer (some ⟨w.heap.size + 1 + 1, 0, none⟩)], args := #[] }] (.panicking [{ v := .iface 98 (.agg #[.int .i64 er, .int .i64 (p : Int)]), recovered := false }]) w2 := by
  have k0 := kept_box HB.1 hg (by omega)
  have k1 : w2.heap[w.heap.size + 1]? = some (errO 0) := kept_box HB.2.1 hg (by omega)
  have k2 : w2.heap[w.heap.size + 1 + 1]? = some (intO 0) := kept_box HB.2.2.1 hg (by omega)
  have hb := below_grow HB.2.2.2 hg (by omega) (Nat.le_refl _)
  refine leaves_cons (f := 58) (args := #[.pointer (some ⟨w.heap.size + 1, 0, none⟩), .pointer (some ⟨w.heap.size + 1 + 1, 0, none⟩)]) (by simp) (by simp [go_sem]) ?_
  refine (caught_refusal (w.heap.size + 1) (w.heap.size + 1 + 1) er p w2 _ _ (cell6 k1 0 rfl) (cell6 k2 0 rfl) (frozen6 k1 0) (frozen6 k2 0) (by omega)).mono ?_
  rintro e u' w'' ⟨rfl, rfl, o, n, rfl⟩
  have d0 : ((w2.alloc o).drewN n).heap[w.heap.size]? = some (exO 0 0 0 0 0) := kept_alloc k0 o
  have d1 : ((w2.alloc o).drewN n).heap[w.heap.size + 1]? = some (errO 0) := kept_alloc k1 o
  have d2 : ((w2.alloc o).drewN n).heap[w.heap.size + 1 + 1]? = some (intO 0) := kept_alloc k2 o
  have hbd : Below w.heap.size w ((w2.alloc o).drewN n) := below_drawn (hb.trans ((lbox w2 o).mono hb.size)) n
  generalize (w2.alloc o).drewN n = V at d0 d1 d2 hbd ⊢
  have g0 := kept_set (kept_set d0 (C := w.heap.size + 1) (by omega) 0 (.int .i64 er)) (C := w.heap.size + 1 + 1) (by omega) 0 (.int .i64 (p : Int))
  have g1 := kept_set (heap_set1 d1 0 (.int .i64 er)) (C := w.heap.size + 1 + 1) (by omega) 0 (.int .i64 (p : Int))
  have g2 := heap_set1 (kept_set d2 (C := w.heap.size + 1) (by omega) 0 (.int .i64 er)) 0 (.int .i64 (p : Int))
  have hbb := (hbd.setCell (p := ⟨w.heap.size + 1, 0, none⟩) (show w.heap.size ≤ w.heap.size + 1 by omega) (.int .i64 er)).setCell (p := ⟨w.heap.size + 1 + 1, 0, none⟩) (show w.heap.size ≤ w.heap.size + 1 + 1 by omega) (.int .i64 (p : Int))
  have v0 := cell6 g0 0 rfl
  have v1 := cell6 g0 1 rfl
  have v2 := cell6 g0 2 rfl
  have v3 := cell6 g0 3 rfl
  have v4 := cell6 g0 4 rfl
  have v5 := cell6 g0 5 rfl
  have ve := cell6 g1 0 rfl
  have va := cell6 g2 0 rfl
  refine ⟨.tuple #[leafVal 0 0 0 0 0, .int .i64 er, .int .i64 (p : Int)], by simp [results, Tryz.results25, go_sem, h4, h5, h6, v0, v1, v2, v3, v4, v5, ve, va], rfl, hbb⟩
set_option maxHeartbeats 2000000 in
set_option maxRecDepth 100000 in
theorem pp_readExpr (w : World) (s : ByteArray) (n : Nat) (hsm : (srcF s).toks.length ≤ 65537) (hn : (srcF s).toks.length < n) :
    Calls Tryz.prog 25 #[.string s, .func (.func 26) #[] #[]] w (ParseP (ExP w.heap.size) (leafVal 0 0 0 0 0) w (readG (srcF s) (wholeG (srcF s) n))) := by
  have hmf : ∀ (fn : Fn) (first cap : Array Value) (w : World), (Instr.makeFunc fn first cap).run Tryz.prog w = .ok (.func fn first cap) w := fun _ _ _ _ => rfl
  have hP := read4_at w (exO 0 0 0 0 0) s
  have HB := Lib.hid (read4_boxes w (exO 0 0 0 0 0) s)
  unfold readG
  rcases nexts_first s with ⟨h1, h2, h3⟩ | ⟨h1, h2, h3, h4⟩
  · rw [if_pos h1]
    have hA : Calls Tryz.prog 49 #[.pointer (some ⟨w.heap.size + 3, 0, none⟩)] (read4 w (exO 0 0 0 0 0) s) (OkP (read4 w (exO 0 0 0 0 0) s) (w.heap.size + 3) s (.tuple #[]) (tk (srcF s) 0) 0) := by
      generalize tk (srcF s) 0 = y at h2 h3
      obtain ⟨kind, text, num, pos, next, err⟩ := y
      obtain rfl : err = 0 := h3
      exact pp_advance_ok _ _ s noT 0 hP h2
    have hW := fun (W : World) hp => pp_wholeExpr W (w.heap.size + 3) s n hsm hn h1 hp
    have HA := Lib.hid hA
    clear hA hP h1 h2 h3 hsm hn
    generalize wholeG (srcF s) n 0 = g at hW ⊢
    rcases g with ⟨x, j⟩ | ⟨er, p⟩ | _
    · have HW := Lib.hid hW
      clear hW
      go_enter_defers Tryz.func25, Tryz.ntmps25
      go_wp2_with (first | (go_at_call 49; (with_reducible refine HA.out.mono ?_); rintro e w1 ⟨rfl, hp, hg⟩; have H1 := Lib.hid (And.intro hp hg); clear hp hg))
      refine (HW.out _ H1.out.1).mono ?_
      rintro e w2 ⟨v, rfl, ⟨A, cap, rfl, hx⟩, hp2, hg2⟩
      have hg := grown_trans H1.out.2 hg2
      have k0 := kept_box HB.out.1 hg (by omega)
      have k1 : w2.heap[w.heap.size + 1]? = some (errO 0) := kept_box HB.out.2.1 hg (by omega)
      have k2 : w2.heap[w.heap.size + 1 + 1]? = some (intO 0) := kept_box HB.out.2.2.1 hg (by omega)
      have HX := Lib.hid (And.intro hx (And.intro (below_grow HB.out.2.2.2 hg (by omega) (Nat.le_refl _)) (And.intro k0 (And.intro k1 (And.intro k2 H1.out.2.size)))))
      have u0 := cell6 k0 0 rfl
      have u1 := cell6 k0 1 rfl
      have u2 := cell6 k0 2 rfl
      have u3 := cell6 k0 3 rfl
      have u4 := cell6 k0 4 rfl
      have u5 := cell6 k0 5 rfl
      have y0 := frozen6 k0 0
      have y1 := frozen6 k0 1
      have y2 := frozen6 k0 2
      have y3 := frozen6 k0 3
      have y4 := frozen6 k0 4
      have y5 := frozen6 k0 5
      have c1 := cell6 k1 0 rfl
      have z1 := frozen6 k1 0
      have c2 := cell6 k2 0 rfl
      have z2 := frozen6 k2 0
      clear hx hp2 hg2 hg k0 k1 k2
      go_wp2
      refine leaves_cons (f := 58) (args := #[.pointer (some ⟨w.heap.size + 1, 0, none⟩), .pointer (some ⟨w.heap.size + 1 + 1, 0, none⟩)]) (by simp) (by simp [go_sem]) ?_
      refine (caught_idle ⟨w.heap.size + 1, 0, none⟩ ⟨w.heap.size + 1 + 1, 0, none⟩ _).mono ?_
      rintro e u' w'' ⟨rfl, rfl, rfl⟩
      obtain ⟨hx, hb, k0, k1, k2, hsz⟩ := HX.out
      have s4 : (read4 w (exO 0 0 0 0 0) s).heap.size = w.heap.size + 4 := by simp
      have g0 := kept_set (kept_set (heap_set1 (heap_set1 (heap_set1 (heap_set1 (heap_set1 (heap_set1 k0 0 (.int .i64 x.op)) 1 (.slice A x.args.length cap)) 2 (.int .i64 x.field)) 3 (.int .u64 (x.mask : Int))) 4 (.int .i64 x.rel)) 5 (.int .u64 (x.value : Int))) (C := w.heap.size + 1) (by omega) 0 (.int .i64 0)) (C := w.heap.size + 1 + 1) (by omega) 0 (.int .i64 0)
      have g1 := kept_set (heap_set1 (kept_set (kept_set (kept_set (kept_set (kept_set (kept_set k1 (C := w.heap.size) (by omega) 0 (.int .i64 x.op)) (C := w.heap.size) (by omega) 1 (.slice A x.args.length cap)) (C := w.heap.size) (by omega) 2 (.int .i64 x.field)) (C := w.heap.size) (by omega) 3 (.int .u64 (x.mask : Int))) (C := w.heap.size) (by omega) 4 (.int .i64 x.rel)) (C := w.heap.size) (by omega) 5 (.int .u64 (x.value : Int))) 0 (.int .i64 0)) (C := w.heap.size + 1 + 1) (by omega) 0 (.int .i64 0)
      have g2 := heap_set1 (kept_set (kept_set (kept_set (kept_set (kept_set (kept_set (kept_set k2 (C := w.heap.size) (by omega) 0 (.int .i64 x.op)) (C := w.heap.size) (by omega) 1 (.slice A x.args.length cap)) (C := w.heap.size) (by omega) 2 (.int .i64 x.field)) (C := w.heap.size) (by omega) 3 (.int .u64 (x.mask : Int))) (C := w.heap.size) (by omega) 4 (.int .i64 x.rel)) (C := w.heap.size) (by omega) 5 (.int .u64 (x.value : Int))) (C := w.heap.size + 1) (by omega) 0 (.int .i64 0)) 0 (.int .i64 0)
      have hxx := (ex_set (ex_set (ex_set6 hx (R := w.heap.size) (fun k hk => by omega) (.int .i64 x.op) (.slice A x.args.length cap) (.int .i64 x.field) (.int .u64 (x.mask : Int)) (.int .i64 x.rel) (.int .u64 (x.value : Int))) (R := w.heap.size + 1) (fun k hk => by omega) 0 (.int .i64 0)) (R := w.heap.size + 1 + 1) (fun k hk => by omega) 0 (.int .i64 0))
      have hbb := (((((((hb.setCell (p := ⟨w.heap.size, 0, none⟩) (Nat.le_refl _) (.int .i64 x.op)).setCell (p := ⟨w.heap.size, 1, none⟩) (Nat.le_refl _) (.slice A x.args.length cap)).setCell (p := ⟨w.heap.size, 2, none⟩) (Nat.le_refl _) (.int .i64 x.field)).setCell (p := ⟨w.heap.size, 3, none⟩) (Nat.le_refl _) (.int .u64 (x.mask : Int))).setCell (p := ⟨w.heap.size, 4, none⟩) (Nat.le_refl _) (.int .i64 x.rel)).setCell (p := ⟨w.heap.size, 5, none⟩) (Nat.le_refl _) (.int .u64 (x.value : Int))).setCell (p := ⟨w.heap.size + 1, 0, none⟩) (show w.heap.size ≤ w.heap.size + 1 by omega) (.int .i64 0)).setCell (p := ⟨w.heap.size + 1 + 1, 0, none⟩) (show w.heap.size ≤ w.heap.size + 1 + 1 by omega) (.int .i64 0)
      have v0 := cell6 g0 0 rfl
      have v1 := cell6 g0 1 rfl
      have v2 := cell6 g0 2 rfl
      have v3 := cell6 g0 3 rfl
      have v4 := cell6 g0 4 rfl
      have v5 := cell6 g0 5 rfl
      have ve := cell6 g1 0 rfl
      have va := cell6 g2 0 rfl
      refine ⟨.tuple #[exV x A cap, .int .i64 0, .int .i64 0], by simp [results, Tryz.results25, go_sem, v0, v1, v2, v3, v4, v5, ve, va], _, rfl, ⟨A, cap, rfl, hxx.keep (Nat.le_refl _) (fun k hk => by omega) (fun _ _ _ => rfl)⟩, hbb⟩
    · have HW := Lib.hid hW
      clear hW
      go_enter_defers Tryz.func25, Tryz.ntmps25
      go_wp2_with (first | (go_at_call 49; (with_reducible refine HA.out.mono ?_); rintro e w1 ⟨rfl, hp, hg⟩; have H1 := Lib.hid (And.intro hp hg); clear hp hg))
      refine (HW.out _ H1.out.1).mono ?_
      rintro e w2 ⟨rfl, hg2⟩
      have HX := Lib.hid (grown_trans H1.out.2 hg2)
      clear hg2
      go_wp2
      exact refused_end w s w2 er p HB.out HX.out _ rfl rfl rfl
    · have HW := Lib.hid hW
      clear hW
      go_enter_defers Tryz.func25, Tryz.ntmps25
      go_wp2_with (first | (go_at_call 49; (with_reducible refine HA.out.mono ?_); rintro e w1 ⟨rfl, hp, hg⟩; have H1 := Lib.hid (And.intro hp hg); clear hp hg))
      refine (HW.out _ H1.out.1).mono ?_
      intro e w2 hF
      exact hF.elim
  · rw [if_neg h1]
    generalize hy : nextF s ((0 : Nat) : Int) = y at h2 h4
    obtain ⟨kind, text, num, pos, next, err⟩ := y
    obtain rfl : err = (srcF s).err := h2
    obtain rfl : next = (srcF s).place := h4
    have HA := Lib.hid (pp_advance_no _ _ s noT 0 hP h3 hy)
    generalize (srcF s).err = er at HA ⊢
    generalize (srcF s).place = p at HA ⊢
    show Calls _ _ _ _ (ParseP (ExP w.heap.size) (leafVal 0 0 0 0 0) w (.bad er p))
    clear hP h1 h3 hy hsm hn
    go_enter_defers Tryz.func25, Tryz.ntmps25
    go_wp2_with (first | (go_at_call 49; (with_reducible refine HA.out.mono ?_); rintro e w1 ⟨rfl, hg⟩; have HX := Lib.hid hg; clear hg))
    exact refused_end w s w1 er p HB.out HX.out _ rfl rfl rfl
theorem toks_le {s : ByteArray} : ∀ k i, i ≤ s.size → (toksN s k i).1.length ≤ s.size - i + 1
  | 0, i, hi => by simp [toksN]
  | k + 1, i, hi => by
    by_cases h1 : (nextF s (i : Int)).err ≠ 0
    · simp [toksN, h1]
    by_cases h2 : (nextF s (i : Int)).kind = 1
    · simp [toksN, h1, h2]
    · simp only [toksN, if_neg h1, if_neg h2, List.length_cons]
      have h1' : (nextF s (i : Int)).err = 0 := by omega
      have hs : s.size ≤ 65536 := by
        apply Decidable.byContradiction
        intro hs
        have hn : nextF s (i : Int) = Nx.fail 0 54 := by unfold nextF; rw [if_pos (by omega)]
        rw [hn] at h1'; exact absurd h1' (by decide)
      have hg := next_goes hs hi h1' h2
      have ih := toks_le k (nextF s (i : Int)).next hg.2
      omega
theorem src_small (s : ByteArray) : (srcF s).toks.length ≤ 65537 := by
  by_cases hs : s.size ≤ 65536
  · have := toks_le (s := s) (s.size + 1) 0 (Nat.zero_le _)
    show (toksN s (s.size + 1) 0).1.length ≤ 65537
    omega
  · have hn : nextF s ((0 : Nat) : Int) = Nx.fail 0 54 := by unfold nextF; rw [if_pos (by omega)]
    have h1 : (nextF s ((0 : Nat) : Int)).err ≠ 0 := by rw [hn]; decide
    show (toksN s (s.size + 1) 0).1.length ≤ 65537
    simp only [toksN, if_pos h1]
    simp
/-- An expression's text as it is read. -/
def exprF (s : ByteArray) : Got Ex := readG (srcF s) (wholeG (srcF s) ((srcF s).toks.length + 1))
set_option maxHeartbeats 1000000 in
set_option maxRecDepth 100000 in
theorem p_ParseExpr (s : ByteArray) (w : World) : Calls Tryz.prog 10 #[.string s] w (ParseP (ExP w.heap.size) (leafVal 0 0 0 0 0) w (exprF s)) := by
  have hR := pp_readExpr (w.alloc (exO 0 0 0 0 0)) s ((srcF s).toks.length + 1) (src_small s) (Nat.lt_succ_self _)
  have HR0 := Lib.hid (World.alloc_heap_new w (exO 0 0 0 0 0))
  have s0 : (w.alloc (exO 0 0 0 0 0)).heap.size = w.heap.size + 1 := by simp
  have hlw : w.heap.size < (w.alloc (exO 0 0 0 0 0)).heap.size := by omega
  unfold exprF
  generalize readG (srcF s) (wholeG (srcF s) ((srcF s).toks.length + 1)) = g at hR ⊢
  rcases g with ⟨x, j⟩ | ⟨er, p⟩ | _
  · have HR := Lib.hid hR
    clear hR
    go_enter Tryz.func10, Tryz.ntmps10
    go_wp2_with (go_at_call 25; (with_reducible refine HR.out.mono ?_); rintro e w1 ⟨v, rfl, ⟨A, cap, rfl, hx⟩, hb⟩; have hr := (hb.block w.heap.size hlw).trans HR0.out; have u0 := cell6 hr 0 rfl; have u1 := cell6 hr 1 rfl; have u2 := cell6 hr 2 rfl; have u3 := cell6 hr 3 rfl; have u4 := cell6 hr 4 rfl; have u5 := cell6 hr 5 rfl; have y0 := frozen6 hr 0; have y1 := frozen6 hr 1; have y2 := frozen6 hr 2; have y3 := frozen6 hr 3; have y4 := frozen6 hr 4; have y5 := frozen6 hr 5; have H1 := Lib.hid (And.intro hx ((lbox w (exO 0 0 0 0 0)).trans (hb.mono (Nat.le_of_lt hlw)))); clear hx hb hr)
    exact bodyPost_ret (v := .tuple #[exV x A cap, .int .i64 0, .int .i64 0]) (by simp [results, Tryz.results10, go_sem, u0, u1, u2, u3, u4, u5, World.cell?_setCell_same']) rfl ⟨_, rfl, ⟨A, cap, rfl, (ex_set6 H1.out.1 (fun k hk => by omega) _ _ _ _ _ _).keep (Nat.le_refl _) (fun k hk => by omega) (fun _ _ _ => rfl)⟩, (((((H1.out.2.setCell (p := ⟨w.heap.size, 0, none⟩) (Nat.le_refl _) _).setCell (p := ⟨w.heap.size, 1, none⟩) (Nat.le_refl _) _).setCell (p := ⟨w.heap.size, 2, none⟩) (Nat.le_refl _) _).setCell (p := ⟨w.heap.size, 3, none⟩) (Nat.le_refl _) _).setCell (p := ⟨w.heap.size, 4, none⟩) (Nat.le_refl _) _).setCell (p := ⟨w.heap.size, 5, none⟩) (Nat.le_refl _) _⟩
  · have HR := Lib.hid hR
    clear hR
    go_enter Tryz.func10, Tryz.ntmps10
    go_wp2_with (go_at_call 25; (with_reducible refine HR.out.mono ?_); rintro e w1 ⟨rfl, hb⟩; have hr := (hb.block w.heap.size hlw).trans HR0.out; have u0 := cell6 hr 0 rfl; have u1 := cell6 hr 1 rfl; have u2 := cell6 hr 2 rfl; have u3 := cell6 hr 3 rfl; have u4 := cell6 hr 4 rfl; have u5 := cell6 hr 5 rfl; have y0 := frozen6 hr 0; have y1 := frozen6 hr 1; have y2 := frozen6 hr 2; have y3 := frozen6 hr 3; have y4 := frozen6 hr 4; have y5 := frozen6 hr 5; have H1 := Lib.hid ((lbox w (exO 0 0 0 0 0)).trans (hb.mono (Nat.le_of_lt hlw))); clear hb hr)
    exact bodyPost_ret (v := .tuple #[leafVal 0 0 0 0 0, .int .i64 er, .int .i64 (p : Int)]) (by simp [results, Tryz.results10, go_sem, u0, u1, u2, u3, u4, u5, World.cell?_setCell_same']) rfl ⟨rfl, (((((H1.out.setCell (p := ⟨w.heap.size, 0, none⟩) (Nat.le_refl _) _).setCell (p := ⟨w.heap.size, 1, none⟩) (Nat.le_refl _) _).setCell (p := ⟨w.heap.size, 2, none⟩) (Nat.le_refl _) _).setCell (p := ⟨w.heap.size, 3, none⟩) (Nat.le_refl _) _).setCell (p := ⟨w.heap.size, 4, none⟩) (Nat.le_refl _) _).setCell (p := ⟨w.heap.size, 5, none⟩) (Nat.le_refl _) _⟩
  · have HR := Lib.hid hR
    clear hR
    go_enter Tryz.func10, Tryz.ntmps10
    go_wp2_with (go_at_call 25; (with_reducible refine HR.out.mono ?_); intro e w1 hF; exact hF.elim)
end Go.Proofs.YtgeapkjegemkeaaGreatDoor
