/-
  The program's reader: at, skip, demand, take, name, number, open, close: contracts by values and places. Conditions: those that each names.
-/
import Derived.Test.YtgeapkjegemkeaaGreatDoorPPolRd
import Derived.Test.YtgeapkjegemkeaaGreatDoorPolIs
namespace Go.Proofs.YtgeapkjegemkeaaGreatDoor
open Go Go.RowKit
set_option linter.unusedSimpArgs false
set_option linter.unusedVariables false

/-- What a step tells and leaves: a value, and the reader behind it; or what is wrong. -/
def GotP {α : Type} (V : α → Value → World → Prop) (s : ByteArray) (w : World) (b d : Nat) (g : Got α) (e : Ending) (w' : World) : Prop := match g with
  | .ok x j => ∃ v, e = .returned v ∧ V x v w' ∧ PAt w' b s (tk (srcF s) j) d ∧ w.grownBy w' (some b)
  | .bad er p => e = noE er p ∧ w.grownBy w' (some b)
  | .out => False
/-- A value that is no memory's. -/
def Val {α : Type} (f : α → Value) (x : α) (v : Value) (_ : World) : Prop := v = f x
abbrev unitV : Unit → Value := fun _ => .tuple #[]
theorem below_two (w : World) (o o' : Obj) : Below w.heap.size w ((w.alloc o).alloc o') := (lbox w o).trans ((lbox (w.alloc o) o').mono (by simp))
theorem adv_ok {S : Src} {i : Nat} (h : i + 1 < S.toks.length) {α : Type} (x : α) : adv S i x = .ok x (i + 1) := if_pos h
theorem adv_no {S : Src} {i : Nat} (h : ¬ i + 1 < S.toks.length) {α : Type} (x : α) : adv S i x = .bad S.err S.place := if_neg h
section
variable (w : World) (b : Nat) (s : ByteArray) (i d : Nat) (hi : i < (srcF s).toks.length) (h : PAt w b s (tk (srcF s) i) d)
include hi h
theorem pp_advance (hk : (tk (srcF s) i).kind ≠ 1) : Calls Tryz.prog 49 #[.pointer (some ⟨b, 0, none⟩)] w (GotP (Val unitV) s w b d (adv (srcF s) i ())) := by
  rcases nexts_on hi hk with ⟨h1, h2, h3⟩ | ⟨h1, h2, h3, h4⟩
  · rw [adv_ok h1]
    generalize hy : tk (srcF s) (i + 1) = y at h2 h3
    obtain ⟨kind, text, num, pos, next, err⟩ := y
    obtain rfl : err = 0 := h3
    refine (pp_advance_ok w b s _ d h h2).mono ?_
    rintro e w' ⟨rfl, hp, hg⟩
    exact ⟨_, rfl, rfl, by rw [hy]; exact hp, hg⟩
  · rw [adv_no h1]
    generalize hy : nextF s ((tk (srcF s) i).next : Int) = y at h2 h4
    obtain ⟨kind, text, num, pos, next, err⟩ := y
    obtain rfl : err = (srcF s).err := h2
    obtain rfl : next = (srcF s).place := h4
    refine (pp_advance_no w b s _ d h h3 hy).mono ?_
    rintro e w' ⟨rfl, hg⟩
    exact ⟨rfl, hg⟩
omit hi
set_option maxRecDepth 100000 in
theorem pp_at_yes (t : ByteArray) (ht : (tk (srcF s) i).text = t) : Calls Tryz.prog 84 #[.pointer (some ⟨b, 0, none⟩), .string t] w fun e w' => e = .returned (.bool true) ∧ w = w' := by
  have c2 : w.cell? ⟨b, 2, none⟩ = some (.string (tk (srcF s) i).text) := World.rowIs.cell h (i := 2) (by decide)
  have hb := text_is6 ht
  clear h ht
  generalize (tk (srcF s) i).text = q at c2 hb
  go_enter Tryz.func84, Tryz.ntmps84
  go_wp2
  go_ret
  exact ⟨rfl, rfl⟩
set_option maxRecDepth 100000 in
theorem pp_at_no (t : ByteArray) (ht : ¬ (tk (srcF s) i).text = t) : Calls Tryz.prog 84 #[.pointer (some ⟨b, 0, none⟩), .string t] w fun e w' => e = .returned (.bool false) ∧ w = w' := by
  have c2 : w.cell? ⟨b, 2, none⟩ = some (.string (tk (srcF s) i).text) := World.rowIs.cell h (i := 2) (by decide)
  have hb := text_ne ht
  clear h ht
  generalize (tk (srcF s) i).text = q at c2 hb
  go_enter Tryz.func84, Tryz.ntmps84
  go_wp2
  go_ret
  exact ⟨rfl, rfl⟩
set_option maxRecDepth 100000 in
theorem pp_skip_no (t : ByteArray) (ht : ¬ (tk (srcF s) i).text = t) : Calls Tryz.prog 78 #[.pointer (some ⟨b, 0, none⟩), .string t] w fun e w' => e = .returned (.bool false) ∧ w = w' := by
  have HA := Lib.hid (pp_at_no w b s i d h t ht)
  clear h ht
  go_enter Tryz.func78, Tryz.ntmps78
  go_wp2_with (go_at_call 84; (with_reducible refine HA.out.mono ?_); rintro e w1 ⟨rfl, rfl⟩)
  go_ret
  exact ⟨rfl, rfl⟩
include hi
set_option maxRecDepth 100000 in
theorem pp_skip_yes (t : ByteArray) (ht : (tk (srcF s) i).text = t) (hk : (tk (srcF s) i).kind ≠ 1) : Calls Tryz.prog 78 #[.pointer (some ⟨b, 0, none⟩), .string t] w (GotP (Val fun _ : Unit => .bool true) s w b d (adv (srcF s) i ())) := by
  have HA := Lib.hid (pp_at_yes w b s i d h t ht)
  have HC := pp_advance w b s i d hi h hk
  clear h ht hk hi
  generalize adv (srcF s) i () = g at HC
  rcases g with ⟨x, j⟩ | ⟨er, p⟩ | _
  · have HC := Lib.hid HC
    go_enter Tryz.func78, Tryz.ntmps78
    go_wp2_with (first | (go_at_call 84; (with_reducible refine HA.out.mono ?_); rintro e w1 ⟨rfl, rfl⟩) | (go_at_call 49; (with_reducible refine HC.out.mono ?_); rintro e w1 ⟨v, rfl, rfl, hp, hg⟩; have HX := Lib.hid (And.intro hp hg); clear hp hg))
    go_ret
    exact ⟨_, rfl, rfl, HX.out.1, HX.out.2⟩
  · have HC := Lib.hid HC
    go_enter Tryz.func78, Tryz.ntmps78
    go_wp2_with (first | (go_at_call 84; (with_reducible refine HA.out.mono ?_); rintro e w1 ⟨rfl, rfl⟩) | (go_at_call 49; (with_reducible refine HC.out.mono ?_); rintro e w1 ⟨rfl, hg⟩; have HX := Lib.hid hg; clear hg))
    exact ⟨rfl, rfl, HX.out⟩
  · have HC := Lib.hid HC
    go_enter Tryz.func78, Tryz.ntmps78
    go_wp2_with (first | (go_at_call 84; (with_reducible refine HA.out.mono ?_); rintro e w1 ⟨rfl, rfl⟩) | (go_at_call 49; (with_reducible refine HC.out.mono ?_); intro e w1 hF; exact hF.elim))
set_option maxRecDepth 100000 in
theorem pp_demand (t : ByteArray) (htk : kindOf t ≠ 1) : Calls Tryz.prog 50 #[.pointer (some ⟨b, 0, none⟩), .string t] w (GotP (Val unitV) s w b d (demandG (srcF s) t i)) := by
  unfold demandG
  by_cases ht : (tk (srcF s) i).text = t
  · have hk : (tk (srcF s) i).kind ≠ 1 := by rw [(lexd s).kinds i hi, ht]; exact htk
    rw [if_pos ht]
    have HC := pp_skip_yes w b s i d hi h t ht hk
    clear h ht hk hi htk
    generalize adv (srcF s) i () = g at HC
    rcases g with ⟨x, j⟩ | ⟨er, p⟩ | _
    · have HC := Lib.hid HC
      go_enter Tryz.func50, Tryz.ntmps50
      go_wp2_with (go_at_call 78; (with_reducible refine HC.out.mono ?_); rintro e w1 ⟨v, rfl, rfl, hp, hg⟩; have HX := Lib.hid (And.intro hp hg); clear hp hg)
      go_end0
      exact ⟨_, rfl, rfl, HX.out.1, HX.out.2⟩
    · have HC := Lib.hid HC
      go_enter Tryz.func50, Tryz.ntmps50
      go_wp2_with (go_at_call 78; (with_reducible refine HC.out.mono ?_); rintro e w1 ⟨rfl, hg⟩; have HX := Lib.hid hg; clear hg)
      exact ⟨rfl, rfl, HX.out⟩
    · have HC := Lib.hid HC
      go_enter Tryz.func50, Tryz.ntmps50
      go_wp2_with (go_at_call 78; (with_reducible refine HC.out.mono ?_); intro e w1 hF; exact hF.elim)
  · rw [if_neg ht]
    have HA := Lib.hid (pp_skip_no w b s i d h t ht)
    have HR := Lib.hid (pp_refuse w b s _ d h 61)
    clear h ht hi htk
    unfold noG
    generalize (tk (srcF s) i).pos = q at HR ⊢
    go_enter Tryz.func50, Tryz.ntmps50
    go_wp2_with (first | (go_at_call 78; (with_reducible refine HA.out.mono ?_); rintro e w1 ⟨rfl, rfl⟩) | (go_at_call 60; (with_reducible refine HR.out.mono ?_); rintro e w1 ⟨rfl, hg⟩; have HX := Lib.hid hg; clear hg))
    exact ⟨rfl, rfl, HX.out⟩
/-- The two boxes of a step that copies the token ahead. -/
abbrev take1 (w : World) : World := w.alloc tokO6
abbrev take2 (w : World) (x : Nx) : World := (take1 w).alloc (.cells #[.int .i64 x.kind, .string x.text, .int .u64 (x.num : Int), .int .i64 (x.pos : Int)] 77)
omit hi h in
theorem take_boxes {w1 : World} {x : Nx} (hb : b < w.heap.size) (hg : (take2 w x).grownBy w1 (some b)) : w1.heap[w.heap.size + 1]? = some (.cells #[.int .i64 x.kind, .string x.text, .int .u64 (x.num : Int), .int .i64 (x.pos : Int)] 77 (0, 0)) ∧ w1.heap[w.heap.size]? = some (.cells #[.int .i64 0, .string ⟨#[]⟩, .int .u64 0, .int .i64 0] 77 (0, 0)) := by
  have e1 : (take1 w).heap.size = w.heap.size + 1 := by simp
  have hx := box_kept (W := take1 w) (b := b) (by omega) hg
  rw [e1] at hx
  refine ⟨hx, (hg.block w.heap.size (by simp; omega) (fun e => by injection e with e; omega)).trans ((Below.heap_alloc (take1 w) _ w.heap.size (by omega)).trans (World.alloc_heap_new w tokO6))⟩
set_option maxRecDepth 100000 in
theorem pp_take (k : Int) (hk1 : k ≠ 1) : Calls Tryz.prog 79 #[.pointer (some ⟨b, 0, none⟩), .int .i64 k] w (GotP (Val tkV) s w b d (takeG (srcF s) k i)) := by
  have hlt := h.lt
  have h1 := h.below (lbox w tokO6)
  have h2 := h1.below (lbox (take1 w) (.cells #[.int .i64 (tk (srcF s) i).kind, .string (tk (srcF s) i).text, .int .u64 ((tk (srcF s) i).num : Int), .int .i64 ((tk (srcF s) i).pos : Int)] 77))
  have c1 : (take1 w).cell? ⟨b, 1, none⟩ = some (.int .i64 (tk (srcF s) i).kind) := World.rowIs.cell h1 (i := 1) (by decide)
  have c2 : (take1 w).cell? ⟨b, 2, none⟩ = some (.string (tk (srcF s) i).text) := World.rowIs.cell h1 (i := 2) (by decide)
  have c3 : (take1 w).cell? ⟨b, 3, none⟩ = some (.int .u64 ((tk (srcF s) i).num : Int)) := World.rowIs.cell h1 (i := 3) (by decide)
  have c4 : (take1 w).cell? ⟨b, 4, none⟩ = some (.int .i64 ((tk (srcF s) i).pos : Int)) := World.rowIs.cell h1 (i := 4) (by decide)
  have HG0 := Lib.hid (grown_of_below (below_two w tokO6 (.cells #[.int .i64 (tk (srcF s) i).kind, .string (tk (srcF s) i).text, .int .u64 ((tk (srcF s) i).num : Int), .int .i64 ((tk (srcF s) i).pos : Int)] 77)) (some b))
  unfold takeG
  by_cases hk : (tk (srcF s) i).kind = k
  · have hkb : ((tk (srcF s) i).kind != k) = false := by rw [hk]; simp
    rw [if_pos hk]
    have HC := pp_advance (take2 w (tk (srcF s) i)) b s i d hi h2 (by rw [hk]; exact hk1)
    rcases hl : decide (i + 1 < (srcF s).toks.length) with _ | _
    · have hl := of_decide_eq_false hl
      rw [adv_no hl] at HC ⊢
      generalize tk (srcF s) i = q at *
      clear h h1 h2 hk hi hk1
      have HC := Lib.hid HC
      generalize (srcF s).err = er at HC ⊢
      generalize (srcF s).place = p at HC ⊢
      clear hl
      go_enter Tryz.func79, Tryz.ntmps79
      go_wp2_with (go_at_call 49; (with_reducible refine HC.out.mono ?_); rintro e w1 ⟨rfl, hg⟩; have HX := Lib.hid (grown_trans HG0.out hg); clear hg)
      exact ⟨rfl, rfl, HX.out⟩
    · have hl := of_decide_eq_true hl
      rw [adv_ok hl] at HC ⊢
      generalize tk (srcF s) i = q at *
      clear h h1 h2 hk hi hk1 hl
      have HC := Lib.hid HC
      go_enter Tryz.func79, Tryz.ntmps79
      go_wp2_with (go_at_call 49; (with_reducible refine HC.out.mono ?_); rintro e w1 ⟨v, rfl, rfl, hp, hg⟩; obtain ⟨hx, hr⟩ := take_boxes w b hlt hg; have d0 := cell6 hx 0 rfl; have d1 := cell6 hx 1 rfl; have d2 := cell6 hx 2 rfl; have d3 := cell6 hx 3 rfl; have u0 := cell6 hr 0 rfl; have u1 := cell6 hr 1 rfl; have u2 := cell6 hr 2 rfl; have u3 := cell6 hr 3 rfl; have y0 := frozen6 hr 0; have y1 := frozen6 hr 1; have y2 := frozen6 hr 2; have y3 := frozen6 hr 3; have HX := Lib.hid (And.intro hp (grown_trans HG0.out hg)); clear hp hg hx hr)
      exact bodyPost_ret (v := tkV q) (by simp [results, Tryz.results79, go_sem, u0, u1, u2, u3, World.cell?_setCell_same']) rfl ⟨_, rfl, rfl, pset HX.out.1 (by omega) _ _ _ _, grown_new (grown_new (grown_new (grown_new HX.out.2 (Nat.le_refl _) 0 _) (Nat.le_refl _) 1 _) (Nat.le_refl _) 2 _) (Nat.le_refl _) 3 _⟩
  · have hkb : ((tk (srcF s) i).kind != k) = true := bne_iff_ne.2 hk
    rw [if_neg hk]
    have HR := Lib.hid (pp_refuse (take2 w (tk (srcF s) i)) b s _ d h2 61)
    unfold noG
    generalize tk (srcF s) i = q at *
    clear h h1 h2 hk hi hk1
    go_enter Tryz.func79, Tryz.ntmps79
    go_wp2_with (go_at_call 60; (with_reducible refine HR.out.mono ?_); rintro e w1 ⟨rfl, hg⟩; have HX := Lib.hid (grown_trans HG0.out hg); clear hg)
    exact ⟨rfl, rfl, HX.out⟩
set_option maxRecDepth 100000 in
theorem pp_number : Calls Tryz.prog 83 #[.pointer (some ⟨b, 0, none⟩)] w (GotP (Val fun n : Nat => .int .u64 (n : Int)) s w b d (numG (srcF s) i)) := by
  have HC := pp_take w b s i d hi h 3 (by decide)
  unfold numG
  clear h hi
  generalize takeG (srcF s) 3 i = g at HC
  rcases g with ⟨⟨kind, text, num, pos, next, err⟩, j⟩ | ⟨er, p⟩ | _
  · have hfld : ∀ V : World, (Instr.field 77 (.agg #[.int .i64 kind, .string text, .int .u64 (num : Int), .int .i64 (pos : Int)]) 2).run Tryz.prog V = .ok (.int .u64 (num : Int)) V := fun _ => rfl
    have HC := Lib.hid HC
    go_enter Tryz.func83, Tryz.ntmps83
    go_wp2_with (go_at_call 79; (with_reducible refine HC.out.mono ?_); rintro e w1 ⟨v, rfl, hv, hp, hg⟩; obtain rfl : v = .agg #[.int .i64 kind, .string text, .int .u64 (num : Int), .int .i64 (pos : Int)] := hv; have HX := Lib.hid (And.intro hp hg); clear hp hg)
    go_ret
    exact ⟨_, rfl, rfl, HX.out.1, HX.out.2⟩
  · have HC := Lib.hid HC
    go_enter Tryz.func83, Tryz.ntmps83
    go_wp2_with (go_at_call 79; (with_reducible refine HC.out.mono ?_); rintro e w1 ⟨rfl, hg⟩; have HX := Lib.hid hg; clear hg)
    exact ⟨rfl, rfl, HX.out⟩
  · have HC := Lib.hid HC
    go_enter Tryz.func83, Tryz.ntmps83
    go_wp2_with (go_at_call 79; (with_reducible refine HC.out.mono ?_); intro e w1 hF; exact hF.elim)
set_option maxRecDepth 100000 in
theorem pp_name : Calls Tryz.prog 51 #[.pointer (some ⟨b, 0, none⟩)] w (GotP (Val fun t : ByteArray => .string t) s w b d (nameG (srcF s) i)) := by
  have HC := pp_take w b s i d hi h 2 (by decide)
  unfold nameG
  clear h hi
  generalize takeG (srcF s) 2 i = g at HC
  rcases g with ⟨⟨kind, text, num, pos, next, err⟩, j⟩ | ⟨er, p⟩ | _
  · have hfld : ∀ V : World, (Instr.field 77 (.agg #[.int .i64 kind, .string text, .int .u64 (num : Int), .int .i64 (pos : Int)]) 1).run Tryz.prog V = .ok (.string text) V := fun _ => rfl
    have HC := Lib.hid HC
    go_enter Tryz.func51, Tryz.ntmps51
    go_wp2_with (go_at_call 79; (with_reducible refine HC.out.mono ?_); rintro e w1 ⟨v, rfl, hv, hp, hg⟩; obtain rfl : v = .agg #[.int .i64 kind, .string text, .int .u64 (num : Int), .int .i64 (pos : Int)] := hv; have HX := Lib.hid (And.intro hp hg); clear hp hg)
    go_ret
    exact ⟨_, rfl, rfl, HX.out.1, HX.out.2⟩
  · have HC := Lib.hid HC
    go_enter Tryz.func51, Tryz.ntmps51
    go_wp2_with (go_at_call 79; (with_reducible refine HC.out.mono ?_); rintro e w1 ⟨rfl, hg⟩; have HX := Lib.hid hg; clear hg)
    exact ⟨rfl, rfl, HX.out⟩
  · have HC := Lib.hid HC
    go_enter Tryz.func51, Tryz.ntmps51
    go_wp2_with (go_at_call 79; (with_reducible refine HC.out.mono ?_); intro e w1 hF; exact hF.elim)
/-- What open leaves: one level deeper. -/
def OpenP (s : ByteArray) (w : World) (b d : Nat) (g : Got Unit) (e : Ending) (w' : World) : Prop := match g with
  | .ok _ j => e = .returned (.tuple #[]) ∧ PAt w' b s (tk (srcF s) j) (d + 1) ∧ w.grownBy w' (some b)
  | .bad er p => e = noE er p ∧ w.grownBy w' (some b)
  | .out => False
set_option maxRecDepth 100000 in
theorem pp_open (hk : (tk (srcF s) i).kind ≠ 1) (hd : d ≤ 64) : Calls Tryz.prog 146 #[.pointer (some ⟨b, 0, none⟩)] w (OpenP s w b d (openG (srcF s) d i)) := by
  have c6 : w.cell? ⟨b, 6, none⟩ = some (.int .i64 (d : Int)) := World.rowIs.cell h (i := 6) (by decide)
  unfold openG
  by_cases h64 : d = 64
  · have hb : ((d : Int) == 64) = true := by rw [h64]; rfl
    rw [if_pos h64]
    have HR := Lib.hid (pp_refuse w b s _ d h 62)
    clear h hi hk h64
    generalize (tk (srcF s) i).pos = q at HR ⊢
    go_enter Tryz.func146, Tryz.ntmps146
    go_wp2_with (go_at_call 60; (with_reducible refine HR.out.mono ?_); rintro e w1 ⟨rfl, hg⟩; have HX := Lib.hid hg; clear hg)
    exact ⟨rfl, rfl, HX.out⟩
  · have hb : ((d : Int) == 64) = false := beq_false_of_ne (by omega)
    have hb2 : (d == 64) = false := beq_false_of_ne h64
    rw [if_neg h64]
    have HC := pp_advance w b s i d hi h hk
    have hd2 : d < 64 := by omega
    clear h hi hk h64 hd
    generalize adv (srcF s) i () = g at HC
    rcases g with ⟨x, j⟩ | ⟨er, p⟩ | _
    · have HC := Lib.hid HC
      go_enter Tryz.func146, Tryz.ntmps146
      go_wp2_with (go_at_call 49; (with_reducible refine HC.out.mono ?_); rintro e w1 ⟨v, rfl, rfl, hp, hg⟩; have u6 : w1.cell? ⟨b, 6, none⟩ = some (.int .i64 (d : Int)) := World.rowIs.cell hp (i := 6) (by decide); have y6 := World.rowIs.frozen hp 6; have HX := Lib.hid (And.intro hp hg); clear hp hg)
      go_end0
      exact ⟨rfl, HX.out.1.within (d + 1), grown_set HX.out.2 6 _⟩
    · have HC := Lib.hid HC
      go_enter Tryz.func146, Tryz.ntmps146
      go_wp2_with (go_at_call 49; (with_reducible refine HC.out.mono ?_); rintro e w1 ⟨rfl, hg⟩; have HX := Lib.hid hg; clear hg)
      exact ⟨rfl, rfl, HX.out⟩
    · have HC := Lib.hid HC
      go_enter Tryz.func146, Tryz.ntmps146
      go_wp2_with (go_at_call 49; (with_reducible refine HC.out.mono ?_); intro e w1 hF; exact hF.elim)
omit hi h in
set_option maxRecDepth 100000 in
theorem pp_close (x : Nx) (h : PAt w b s x (d + 1)) (hd : d < 64) : Calls Tryz.prog 147 #[.pointer (some ⟨b, 0, none⟩)] w (OkP w b s (.tuple #[]) x d) := by
  have c6 : w.cell? ⟨b, 6, none⟩ = some (.int .i64 ((d + 1 : Nat) : Int)) := World.rowIs.cell h (i := 6) (by decide)
  have y6 := World.rowIs.frozen h 6
  have H := Lib.hid h
  clear h
  have hw : IntKind.i64.wrap (((d + 1 : Nat) : Int) - 1) = (d : Int) := by rw [IntWalk.i64_in _ (by omega)] <;> omega
  go_enter Tryz.func147, Tryz.ntmps147
  go_wp2
  go_end0
  exact ⟨rfl, by simpa using H.out.within d, by first | exact grown_set (World.grownBy.refl w _) 6 _ | skip⟩
end
end Go.Proofs.YtgeapkjegemkeaaGreatDoor
