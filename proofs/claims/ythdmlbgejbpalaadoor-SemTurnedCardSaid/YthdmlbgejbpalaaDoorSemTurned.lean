/-
  'SemTurned': for every expression and all data, the law of layer 7 on what is turned by not, by and, by or, and by an opposite relation returns true, and leaves memory as it was. Condition: the table of the kinds reads as the program's text lays it (the card ties it).
-/
import Derived.Test.YthdmlbgejbpalaaDoorGSemEnd
import Derived.Test.YthdmlbgejbpalaaDoorCards
import Derived.SevenTiedAt
namespace Go.Proofs.YthdmlbgejbpalaaDoor.semTurned
open Go Go.ChangeShapes Go.WideShapes Go.ChangeAt Go.RowKit
set_option linter.unusedSimpArgs false
set_option linter.unusedVariables false

theorem held_ok {d : Dat} {x : Ex} (h : exF 0 x = 0) : heldF d x = holdsF d x := by unfold heldF; rw [if_pos h]
theorem held_not {d : Dat} {x : Ex} (h : exF 0 (.mk 3 [x] 0 0 0 0) = 0) : heldF d (.mk 3 [x] 0 0 0 0) = !holdsF d x := by
  rw [held_ok h, holds_is, if_neg (by decide), if_neg (by decide), if_pos rfl, firstF]
theorem held_two {d : Dat} {x : Ex} (h : exF 0 (.mk 4 [x, x] 0 0 0 0) = 0) : heldF d (.mk 4 [x, x] 0 0 0 0) = holdsF d x := by
  rw [held_ok h, holds_is, if_neg (by decide), if_neg (by decide), if_neg (by decide), if_pos rfl, allF, allF, allF]
  cases holdsF d x <;> rfl
theorem one_two (x : Ex) : exF 0 (.mk 5 [x, x] 0 0 0 0) = exF 0 (.mk 4 [x, x] 0 0 0 0) := by
  rw [ex_is, ex_is]; rfl
theorem held_one7 {d : Dat} {x : Ex} (h : exF 0 (.mk 4 [x, x] 0 0 0 0) = 0) : heldF d (.mk 5 [x, x] 0 0 0 0) = holdsF d x := by
  rw [held_ok ((one_two x).trans h), holds_is, if_neg (by decide), if_neg (by decide), if_neg (by decide), if_neg (by decide), if_pos rfl, anyF, anyF, anyF]
  cases holdsF d x <;> rfl
/-- The opposite relation. -/
def flipR (r : Int) : Int := if r = 1 then 2 else if r = 2 then 1 else if r = 3 then 6 else if r = 6 then 3 else if r = 5 then 4 else 5
theorem flip_ok {l : List Ex} {f : Int} {m : Nat} {r : Int} {v : Nat} (h : exF 0 (.mk 6 l f m r v) = 0) : exF 0 (.mk 6 l f m (flipR r) v) = 0 ∧ (1 ≤ r ∧ r ≤ 6) := by
  rw [ex_is] at h
  by_cases h1 : 200 < 0 ∨ shapeB 6 l.length f r = false
  · rw [if_pos h1] at h; cases h
  · rw [if_neg h1] at h
    have hs : shapeB 6 l.length f r = true := by simpa using fun e => h1 (.inr e)
    have hs2 : l = [] ∧ 0 ≤ f ∧ f ≤ 6 ∧ 1 ≤ r ∧ r ≤ 6 := by simpa [shapeB] using hs
    have hf : shapeB 6 l.length f (flipR r) = true := by
      have : 1 ≤ flipR r ∧ flipR r ≤ 6 := by unfold flipR; split; decide; split; decide; split; decide; split; decide; split <;> decide
      simpa [shapeB] using ⟨hs2.1, hs2.2.1, hs2.2.2.1, this⟩
    rw [ex_is, if_neg (by rw [hf]; simp)]
    exact ⟨h, hs2.2.2.2⟩
theorem flip_held {d : Dat} {l : List Ex} {f : Int} {m : Nat} {r : Int} {v : Nat} (h : exF 0 (.mk 6 l f m r v) = 0) : heldF d (.mk 6 l f m (flipR r) v) = !heldF d (.mk 6 l f m r v) := by
  obtain ⟨h1, h2, h3⟩ := flip_ok h
  rw [held_ok h1, held_ok h, holds_is, holds_is]
  simp only [show ¬ (6 : Int) = 1 by decide, show ¬ (6 : Int) = 2 by decide, show ¬ (6 : Int) = 3 by decide, show ¬ (6 : Int) = 4 by decide, show ¬ (6 : Int) = 5 by decide, if_false]
  generalize maskN (fieldN d f) m = a
  have : r = 1 ∨ r = 2 ∨ r = 3 ∨ r = 4 ∨ r = 5 ∨ r = 6 := by omega
  rcases this with rfl | rfl | rfl | rfl | rfl | rfl <;> simp [flipR, relB] <;> (first | omega | skip)
  all_goals (by_cases hc : a < v <;> by_cases hd : v < a <;> simp_all <;> omega)
/-- Expressions made of one that lies somewhere. -/
theorem exL_one {w : World} {x : Ex} {A : Option Addr} {cap : Nat} (op : Int) (h : ExL w x A cap) : ExL (w.alloc (exCell x A cap)) (.mk op [x] 0 0 0 0) (some ⟨w.heap.size, 0, none⟩) 1 := by
  have hb := lbox w (exCell x A cap)
  refine ⟨by show 1 ≤ maxLen; unfold maxLen; decide, .inr ⟨w.heap.size, 0, rfl, by simp, ⟨A, cap, h.below hb, fun j u hj => ?_⟩, trivial⟩⟩
  have hx := World.alloc_heap_new w (exCell x A cap)
  match j, hj with
  | 0, hj => rw [← hj]; exact cell6 hx 0 rfl
  | 1, hj => rw [← hj]; exact cell6 hx 1 rfl
  | 2, hj => rw [← hj]; exact cell6 hx 2 rfl
  | 3, hj => rw [← hj]; exact cell6 hx 3 rfl
  | 4, hj => rw [← hj]; exact cell6 hx 4 rfl
  | 5, hj => rw [← hj]; exact cell6 hx 5 rfl
abbrev twoX (x : Ex) (A : Option Addr) (cap : Nat) : Obj := .cells #[.int .i64 x.op, .slice A x.args.length cap, .int .i64 x.field, .int .u64 (x.mask : Int), .int .i64 x.rel, .int .u64 (x.value : Int), .int .i64 x.op, .slice A x.args.length cap, .int .i64 x.field, .int .u64 (x.mask : Int), .int .i64 x.rel, .int .u64 (x.value : Int)] 48
theorem exL_two {w : World} {x : Ex} {A : Option Addr} {cap : Nat} (op : Int) (h : ExL w x A cap) : ExL (w.alloc (twoX x A cap)) (.mk op [x, x] 0 0 0 0) (some ⟨w.heap.size, 0, none⟩) 2 := by
  have hb := lbox w (twoX x A cap)
  have hx := World.alloc_heap_new w (twoX x A cap)
  refine ⟨by show 2 ≤ maxLen; unfold maxLen; decide, .inr ⟨w.heap.size, 0, rfl, by simp, ⟨A, cap, h.below hb, fun j u hj => ?_⟩, ⟨A, cap, h.below hb, fun j u hj => ?_⟩, trivial⟩⟩
  · match j, hj with
    | 0, hj => rw [← hj]; exact cell6 hx 0 rfl
    | 1, hj => rw [← hj]; exact cell6 hx 1 rfl
    | 2, hj => rw [← hj]; exact cell6 hx 2 rfl
    | 3, hj => rw [← hj]; exact cell6 hx 3 rfl
    | 4, hj => rw [← hj]; exact cell6 hx 4 rfl
    | 5, hj => rw [← hj]; exact cell6 hx 5 rfl
  · match j, hj with
    | 0, hj => rw [← hj]; exact cell6 hx 6 rfl
    | 1, hj => rw [← hj]; exact cell6 hx 7 rfl
    | 2, hj => rw [← hj]; exact cell6 hx 8 rfl
    | 3, hj => rw [← hj]; exact cell6 hx 9 rfl
    | 4, hj => rw [← hj]; exact cell6 hx 10 rfl
    | 5, hj => rw [← hj]; exact cell6 hx 11 rfl
/-- What is at hand: both boxes, and where the expression lies. -/
structure TuAt (w W : World) (x : Ex) (A : Option Addr) (cap : Nat) (d : Dat) : Prop where
  below : Below w.heap.size w W
  two : TwoAt W w.heap.size x A cap d
  ex : ExL W x A cap
  tab : Tab W
theorem TuAt.up {w W W' : World} {x : Ex} {A : Option Addr} {cap : Nat} {d : Dat} (h : TuAt w W x A cap d) (hb : Below W.heap.size W W') : TuAt w W' x A cap d := ⟨on7 h.below hb, h.two.up hb, h.ex.below hb, h.tab.up hb⟩
abbrev mk3 (op : Int) (b n : Nat) : Obj := .cells #[.int .i64 op, .slice (some ⟨b, 0, none⟩) n n, .int .i64 0, .int .u64 0, .int .i64 0, .int .u64 0] 48
theorem flip_ok7 {x : Ex} (h : exF 0 x = 0) (h6 : x.op = 6) : exF 0 (.mk x.op x.args x.field x.mask (flipR x.rel) x.value) = 0 ∧ (1 ≤ x.rel ∧ x.rel ≤ 6) := by
  obtain ⟨o, l, f, m, r, v⟩ := x
  obtain rfl : o = 6 := h6
  exact flip_ok h
theorem held_flip7 {x : Ex} {d : Dat} {A : Option Addr} {cap : Nat} (h : exF 0 x = 0) (h6 : x.op = 6) (k : Int) (hk : flipR x.rel = k) (V : World) (hx : ExL V x A cap) :
    Calls Tryd.prog 27 #[.agg #[.int .i64 x.op, .slice A x.args.length cap, .int .i64 x.field, .int .u64 (x.mask : Int), .int .i64 k, .int .u64 (x.value : Int)], datV d] V fun e w' => e = .returned (.bool (!holdsF d x)) ∧ Below V.heap.size V w' := by
  subst hk
  have e : heldF d (.mk x.op x.args x.field x.mask (flipR x.rel) x.value) = !holdsF d x := by
    obtain ⟨o, l, f, m, r, v⟩ := x
    obtain rfl : o = 6 := h6
    rw [← held_ok (d := d) h]
    exact flip_held h
  have := p_Holds7 d (.mk x.op x.args x.field x.mask (flipR x.rel) x.value) A cap V (by obtain ⟨o, l, f, m, r, v⟩ := x; exact hx)
  rw [e] at this
  exact this
set_option maxRecDepth 100000 in
set_option maxHeartbeats 16000000 in
theorem walk (x : Ex) (A : Option Addr) (cap : Nat) (d : Dat) (w : World) (h : ExL w x A cap) (hw : ExW x) (hd : DatW d) (hTab : Tab w) :
    Calls Tryd.prog 8 #[exV x A cap, datV d] w fun e w' => e = .returned (.bool true) ∧ Below w.heap.size w w' := by
  have hb := below_of w (w.alloc (exCell x A cap)) (datO d) (lbox w _)
  have HB : Hid (TuAt w ((w.alloc (exCell x A cap)).alloc (datO d)) x A cap d) := Lib.hid ⟨hb, twoAt_new w x A cap d, h.below hb, hTab.up hb⟩
  have HL := Lib.hid (fun V hV => lives7 V hV)
  have HE := Lib.hid (fun V hV => p_Expr7 x A cap V hV)
  have hH := fun V hV => p_Holds7 d x A cap V hV
  have hen := exF 0 (.mk 3 [x] 0 0 0 0)
  clear hen hb h hw hd hTab
  by_cases hee : exF 0 x = 0
  · have q0 : (exF 0 x != 0) = false := by rw [hee]; rfl
    rw [held_ok hee] at hH
    have HH := Lib.hid hH
    have HN : Hid (∀ V B c, ExL V (.mk 3 [x] 0 0 0 0) B c → Calls Tryd.prog 15 #[.agg #[.int .i64 3, .slice B 1 c, .int .i64 0, .int .u64 0, .int .i64 0, .int .u64 0]] V fun e w' => e = .returned (.int .i64 (exF 0 (.mk 3 [x] 0 0 0 0))) ∧ Below V.heap.size V w') := Lib.hid (fun V B c hV => p_Expr7 (.mk 3 [x] 0 0 0 0) B c V hV)
    have HN2 : Hid (exF 0 (.mk 3 [x] 0 0 0 0) = 0 → ∀ V B c, ExL V (.mk 3 [x] 0 0 0 0) B c → Calls Tryd.prog 27 #[.agg #[.int .i64 3, .slice B 1 c, .int .i64 0, .int .u64 0, .int .i64 0, .int .u64 0], datV d] V fun e w' => e = .returned (.bool (!holdsF d x)) ∧ Below V.heap.size V w') := Lib.hid (fun h0 V B c hV => by have := p_Holds7 d (.mk 3 [x] 0 0 0 0) B c V hV; rw [held_not h0] at this; exact this)
    have HT : Hid (∀ V B c, ExL V (.mk 4 [x, x] 0 0 0 0) B c → Calls Tryd.prog 15 #[.agg #[.int .i64 4, .slice B 2 c, .int .i64 0, .int .u64 0, .int .i64 0, .int .u64 0]] V fun e w' => e = .returned (.int .i64 (exF 0 (.mk 4 [x, x] 0 0 0 0))) ∧ Below V.heap.size V w') := Lib.hid (fun V B c hV => p_Expr7 (.mk 4 [x, x] 0 0 0 0) B c V hV)
    have HT2 : Hid (exF 0 (.mk 4 [x, x] 0 0 0 0) = 0 → ∀ V B c, ExL V (.mk 4 [x, x] 0 0 0 0) B c → Calls Tryd.prog 27 #[.agg #[.int .i64 4, .slice B 2 c, .int .i64 0, .int .u64 0, .int .i64 0, .int .u64 0], datV d] V fun e w' => e = .returned (.bool (holdsF d x)) ∧ Below V.heap.size V w') := Lib.hid (fun h0 V B c hV => by have := p_Holds7 d (.mk 4 [x, x] 0 0 0 0) B c V hV; rw [held_two h0] at this; exact this)
    have HO2 : Hid (exF 0 (.mk 4 [x, x] 0 0 0 0) = 0 → ∀ V B c, ExL V (.mk 5 [x, x] 0 0 0 0) B c → Calls Tryd.prog 27 #[.agg #[.int .i64 5, .slice B 2 c, .int .i64 0, .int .u64 0, .int .i64 0, .int .u64 0], datV d] V fun e w' => e = .returned (.bool (holdsF d x)) ∧ Below V.heap.size V w') := Lib.hid (fun h0 V B c hV => by have := p_Holds7 d (.mk 5 [x, x] 0 0 0 0) B c V hV; rw [held_one7 h0] at this; exact this)
    generalize exF 0 (.mk 3 [x] 0 0 0 0) = en at HN HN2
    generalize exF 0 (.mk 4 [x, x] 0 0 0 0) = et at HT HT2 HO2
    clear hH
    obtain ⟨hv, hvd⟩ : ∃ hv, holdsF d x = hv := ⟨_, rfl⟩
    rw [hvd] at HH HN2 HT2 HO2
    have tok : True := trivial
    have tok2 : True := trivial
    go_enter Tryd.func8, Tryd.ntmps8
    go_wp2_with (first
      | (go_at_call 10; (with_reducible refine (HL.out _ HB.out.tab).mono ?_); rintro e w1 ⟨rfl, hb⟩; have HB1 := Lib.hid (HB.out.up hb); clear hb; obtain ⟨x0, x1, x2, x3, x4, x5⟩ := two_x HB1.out.two)
      | (go_at_call 15; have _t := tok; clear tok; (with_reducible refine (HE.out _ HB1.out.ex).mono ?_); rintro e w2 ⟨rfl, hb⟩; have HB2 := Lib.hid (HB1.out.up hb); clear hb; obtain ⟨y0, y1, y2, y3, y4, y5⟩ := two_x HB2.out.two; obtain ⟨z0, z1, z2, z3, z4, z5, z6, z7, z8⟩ := two_d HB2.out.two)
      | (go_at_call 27; have _t := tok2; clear tok2; (with_reducible refine (HH.out _ HB2.out.ex).mono ?_); rintro e w3 ⟨rfl, hb⟩; have HB3 := Lib.hid (HB2.out.up hb); clear hb; obtain ⟨a0, a1, a2, a3, a4, a5⟩ := two_x HB3.out.two))
    clear x0 x1 x2 x3 x4 x5 y0 y1 y2 y3 y4 y5 z0 z1 z2 z3 z4 z5 z6 z7 z8
    have HV1 : Hid (TuAt w ((w3.alloc (exCell x A cap)).alloc (mk3 3 w3.heap.size 1)) x A cap d ∧ ((w3.alloc (exCell x A cap)).alloc (mk3 3 w3.heap.size 1)).heap[w3.heap.size + 1]? = some (mk3 3 w3.heap.size 1) ∧ ExL ((w3.alloc (exCell x A cap)).alloc (mk3 3 w3.heap.size 1)) (.mk 3 [x] 0 0 0 0) (some ⟨w3.heap.size, 0, none⟩) 1) := Lib.hid ⟨HB3.out.up (below_of w3 _ _ (lbox w3 _)), by simpa using World.alloc_heap_new (w3.alloc (exCell x A cap)) (mk3 3 w3.heap.size 1), (exL_one 3 HB3.out.ex).below (lbox _ _)⟩
    have tok3 : True := trivial
    have tok4 : True := trivial
    have qn : ((!hv) == hv) = false := by cases hv <;> rfl
    have qv : (hv != hv) = false := by cases hv <;> rfl
    have qo : ((!hv) != hv) = true := by cases hv <;> rfl
    refine (HN.out _ _ _ HV1.out.2.2).mono ?_
    rintro e w4 ⟨rfl, hb⟩
    have HB4 := Lib.hid (And.intro (HV1.out.1.up hb) (And.intro (keep7 HV1.out.2.1 hb) (HV1.out.2.2.below hb)))
    clear hb a0 a1 a2 a3 a4 a5
    by_cases hen : en = 0
    · have qe : (en == 0) = true := beq_iff_eq.2 hen
      have HN3 := Lib.hid (HN2.out hen)
      clear hen
      obtain ⟨z0, z1, z2, z3, z4, z5, z6, z7, z8⟩ := two_d HB4.out.1.two
      have c0 := cell6 HB4.out.2.1 0 rfl
      have c1 := cell6 HB4.out.2.1 1 rfl
      have c2 := cell6 HB4.out.2.1 2 rfl
      have c3 := cell6 HB4.out.2.1 3 rfl
      have c4 := cell6 HB4.out.2.1 4 rfl
      have c5 := cell6 HB4.out.2.1 5 rfl
      have tok5 : True := trivial
      go_wp2_with (fail)
      refine (HN3.out _ _ _ HB4.out.2.2).mono ?_
      rintro e w5 ⟨rfl, hb⟩
      have HP := Lib.hid (HB4.out.1.up hb)
      clear hb c0 c1 c2 c3 c4 c5 z0 z1 z2 z3 z4 z5 z6 z7 z8
      have HV2 : Hid (TuAt w ((w5.alloc (twoX x A cap)).alloc (mk3 4 w5.heap.size 2)) x A cap d) := Lib.hid (HP.out.up (below_of w5 _ _ (lbox w5 _)))
      have hs2 : ((w5.alloc (twoX x A cap)).alloc (mk3 4 w5.heap.size 2)).heap.size = w5.heap.size + 2 := by simp
      have HV3 : Hid (TuAt w ((((w5.alloc (twoX x A cap)).alloc (mk3 4 w5.heap.size 2)).alloc (twoX x A cap)).alloc (mk3 5 (w5.heap.size + 2) 2)) x A cap d) := Lib.hid (HV2.out.up (below_of ((w5.alloc (twoX x A cap)).alloc (mk3 4 w5.heap.size 2)) _ _ (lbox ((w5.alloc (twoX x A cap)).alloc (mk3 4 w5.heap.size 2)) _)))
      have HW2 : Hid (((w5.alloc (twoX x A cap)).alloc (mk3 4 w5.heap.size 2)).heap[w5.heap.size + 1]? = some (mk3 4 w5.heap.size 2) ∧ ExL ((w5.alloc (twoX x A cap)).alloc (mk3 4 w5.heap.size 2)) (.mk 4 [x, x] 0 0 0 0) (some ⟨w5.heap.size, 0, none⟩) 2) := Lib.hid ⟨by simpa using World.alloc_heap_new (w5.alloc (twoX x A cap)) (mk3 4 w5.heap.size 2), (exL_two 4 HP.out.ex).below (lbox _ _)⟩
      have HW3 : Hid (((((w5.alloc (twoX x A cap)).alloc (mk3 4 w5.heap.size 2)).alloc (twoX x A cap)).alloc (mk3 5 (w5.heap.size + 2) 2)).heap[w5.heap.size + 3]? = some (mk3 5 (w5.heap.size + 2) 2) ∧ ExL ((((w5.alloc (twoX x A cap)).alloc (mk3 4 w5.heap.size 2)).alloc (twoX x A cap)).alloc (mk3 5 (w5.heap.size + 2) 2)) (.mk 5 [x, x] 0 0 0 0) (some ⟨w5.heap.size + 2, 0, none⟩) 2) := Lib.hid ⟨by simpa using World.alloc_heap_new (((w5.alloc (twoX x A cap)).alloc (mk3 4 w5.heap.size 2)).alloc (twoX x A cap)) (mk3 5 (w5.heap.size + 2) 2), by have := exL_two 5 HV2.out.ex; rw [hs2] at this; exact this.below (lbox _ _)⟩
      have hb23 : Below ((w5.alloc (twoX x A cap)).alloc (mk3 4 w5.heap.size 2)).heap.size ((w5.alloc (twoX x A cap)).alloc (mk3 4 w5.heap.size 2)) ((((w5.alloc (twoX x A cap)).alloc (mk3 4 w5.heap.size 2)).alloc (twoX x A cap)).alloc (mk3 5 (w5.heap.size + 2) 2)) := below_of ((w5.alloc (twoX x A cap)).alloc (mk3 4 w5.heap.size 2)) _ _ (lbox ((w5.alloc (twoX x A cap)).alloc (mk3 4 w5.heap.size 2)) _)
      have HX3 : Hid (((((w5.alloc (twoX x A cap)).alloc (mk3 4 w5.heap.size 2)).alloc (twoX x A cap)).alloc (mk3 5 (w5.heap.size + 2) 2)).heap[w5.heap.size + 1]? = some (mk3 4 w5.heap.size 2) ∧ ExL ((((w5.alloc (twoX x A cap)).alloc (mk3 4 w5.heap.size 2)).alloc (twoX x A cap)).alloc (mk3 5 (w5.heap.size + 2) 2)) (.mk 4 [x, x] 0 0 0 0) (some ⟨w5.heap.size, 0, none⟩) 2) := Lib.hid ⟨keep7 HW2.out.1 hb23, HW2.out.2.below hb23⟩
      clear hb23 hs2
      obtain ⟨a0, a1, a2, a3, a4, a5⟩ := two_x HP.out.two
      obtain ⟨b0, b1, b2, b3, b4, b5⟩ := two_x HV2.out.two
      have c0 := cell6 HX3.out.1 0 rfl
      have c1 := cell6 HX3.out.1 1 rfl
      have c2 := cell6 HX3.out.1 2 rfl
      have c3 := cell6 HX3.out.1 3 rfl
      have c4 := cell6 HX3.out.1 4 rfl
      have c5 := cell6 HX3.out.1 5 rfl
      go_wp2_with (fail)
      refine (HT.out _ _ _ HX3.out.2).mono ?_
      rintro e w6 ⟨rfl, hb⟩
      have HB6 := Lib.hid (And.intro (HV3.out.up hb) (And.intro (keep7 HX3.out.1 hb) (And.intro (HX3.out.2.below hb) (And.intro (keep7 HW3.out.1 hb) (HW3.out.2.below hb)))))
      clear hb a0 a1 a2 a3 a4 a5 b0 b1 b2 b3 b4 b5 c0 c1 c2 c3 c4 c5
      obtain ⟨a0, a1, a2, a3, a4, a5⟩ := two_x HB6.out.1.two
      by_cases het : et = 0
      · have qt : (et == 0) = true := beq_iff_eq.2 het
        have HT3 := Lib.hid (HT2.out het)
        have HO3 := Lib.hid (HO2.out het)
        clear het
        obtain ⟨z0, z1, z2, z3, z4, z5, z6, z7, z8⟩ := two_d HB6.out.1.two
        have c0 := cell6 HB6.out.2.1 0 rfl
        have c1 := cell6 HB6.out.2.1 1 rfl
        have c2 := cell6 HB6.out.2.1 2 rfl
        have c3 := cell6 HB6.out.2.1 3 rfl
        have c4 := cell6 HB6.out.2.1 4 rfl
        have c5 := cell6 HB6.out.2.1 5 rfl
        by_cases h6 : x.op = 6
        · have q6 : (x.op != 6) = false := by rw [h6]; rfl
          have hrel := (flip_ok7 hee h6).2
          have HF7 := Lib.hid (fun k hk V hx => held_flip7 (d := d) (A := A) (cap := cap) hee h6 k hk V hx)
          rw [hvd] at HF7
          have : x.rel = 1 ∨ x.rel = 2 ∨ x.rel = 3 ∨ x.rel = 4 ∨ x.rel = 5 ∨ x.rel = 6 := by omega
          clear h6 hrel
          rcases this with hr | hr | hr | hr | hr | hr
          · have HK := Lib.hid (HF7.out 2 (by rw [hr]; rfl))
            have g0 : (x.rel == 1) = true := by rw [hr]; rfl
            clear HF7 hr
            go_wp2_with (first
              | (go_at_call 27; have _t := tok3; clear tok3; (with_reducible refine (HT3.out _ _ _ HB6.out.2.2.1).mono ?_); rintro e w7 ⟨rfl, hb⟩; have HB7 := Lib.hid (And.intro (TuAt.up HB6.out.1 hb) (ExL.below hb HB6.out.2.2.2.2)); have hk5 := keep7 HB6.out.2.2.2.1 hb; clear hb; obtain ⟨y0, y1, y2, y3, y4, y5, y6, y7, y8⟩ := two_d HB7.out.1.two; have f0 := cell6 hk5 0 rfl; have f1 := cell6 hk5 1 rfl; have f2 := cell6 hk5 2 rfl; have f3 := cell6 hk5 3 rfl; have f4 := cell6 hk5 4 rfl; have f5 := cell6 hk5 5 rfl; clear hk5)
              | (go_at_call 27; have _t := tok4; clear tok4; (with_reducible refine (HO3.out _ _ _ HB7.out.2).mono ?_); rintro e w8 ⟨rfl, hb⟩; have HX := Lib.hid (TuAt.up HB7.out.1 hb); clear hb; obtain ⟨d0, d1, d2, d3, d4, d5⟩ := two_x HX.out.two; obtain ⟨e0, e1, e2, e3, e4, e5, e6, e7, e8⟩ := two_d HX.out.two; have k4 := fun o => cell6 (kept_alloc HX.out.two.1 o) 4 rfl; have m0 := fun o => cell6 (kept_alloc HX.out.two.2 o) 0 rfl; have m1 := fun o => cell6 (kept_alloc HX.out.two.2 o) 1 rfl; have m2 := fun o => cell6 (kept_alloc HX.out.two.2 o) 2 rfl; have m3 := fun o => cell6 (kept_alloc HX.out.two.2 o) 3 rfl; have m4 := fun o => cell6 (kept_alloc HX.out.two.2 o) 4 rfl; have m5 := fun o => cell6 (kept_alloc HX.out.two.2 o) 5 rfl; have m6 := fun o => cell6 (kept_alloc HX.out.two.2 o) 6 rfl; have m7 := fun o => cell6 (kept_alloc HX.out.two.2 o) 7 rfl; have m8 := fun o => cell6 (kept_alloc HX.out.two.2 o) 8 rfl; skip)
              | (go_at_call 27; (with_reducible refine (HK.out _ (ExL.below (lbox _ _) HX.out.ex)).mono ?_); rintro e w9 ⟨rfl, hb⟩; have HZ := Lib.hid (on7 (on7 HX.out.below (lbox _ _)) hb); clear hb))
            go_ret
            exact ⟨by cases hv <;> rfl, HZ.out⟩
          · have HK := Lib.hid (HF7.out 1 (by rw [hr]; rfl))
            have g0 : (x.rel == 1) = false := by rw [hr]; rfl
            have g1 : (x.rel == 2) = true := by rw [hr]; rfl
            clear HF7 hr
            go_wp2_with (first
              | (go_at_call 27; have _t := tok3; clear tok3; (with_reducible refine (HT3.out _ _ _ HB6.out.2.2.1).mono ?_); rintro e w7 ⟨rfl, hb⟩; have HB7 := Lib.hid (And.intro (TuAt.up HB6.out.1 hb) (ExL.below hb HB6.out.2.2.2.2)); have hk5 := keep7 HB6.out.2.2.2.1 hb; clear hb; obtain ⟨y0, y1, y2, y3, y4, y5, y6, y7, y8⟩ := two_d HB7.out.1.two; have f0 := cell6 hk5 0 rfl; have f1 := cell6 hk5 1 rfl; have f2 := cell6 hk5 2 rfl; have f3 := cell6 hk5 3 rfl; have f4 := cell6 hk5 4 rfl; have f5 := cell6 hk5 5 rfl; clear hk5)
              | (go_at_call 27; have _t := tok4; clear tok4; (with_reducible refine (HO3.out _ _ _ HB7.out.2).mono ?_); rintro e w8 ⟨rfl, hb⟩; have HX := Lib.hid (TuAt.up HB7.out.1 hb); clear hb; obtain ⟨d0, d1, d2, d3, d4, d5⟩ := two_x HX.out.two; obtain ⟨e0, e1, e2, e3, e4, e5, e6, e7, e8⟩ := two_d HX.out.two; have k4 := fun o => cell6 (kept_alloc HX.out.two.1 o) 4 rfl; have m0 := fun o => cell6 (kept_alloc HX.out.two.2 o) 0 rfl; have m1 := fun o => cell6 (kept_alloc HX.out.two.2 o) 1 rfl; have m2 := fun o => cell6 (kept_alloc HX.out.two.2 o) 2 rfl; have m3 := fun o => cell6 (kept_alloc HX.out.two.2 o) 3 rfl; have m4 := fun o => cell6 (kept_alloc HX.out.two.2 o) 4 rfl; have m5 := fun o => cell6 (kept_alloc HX.out.two.2 o) 5 rfl; have m6 := fun o => cell6 (kept_alloc HX.out.two.2 o) 6 rfl; have m7 := fun o => cell6 (kept_alloc HX.out.two.2 o) 7 rfl; have m8 := fun o => cell6 (kept_alloc HX.out.two.2 o) 8 rfl; skip)
              | (go_at_call 27; (with_reducible refine (HK.out _ (ExL.below (lbox _ _) HX.out.ex)).mono ?_); rintro e w9 ⟨rfl, hb⟩; have HZ := Lib.hid (on7 (on7 HX.out.below (lbox _ _)) hb); clear hb))
            go_ret
            exact ⟨by cases hv <;> rfl, HZ.out⟩
          · have HK := Lib.hid (HF7.out 6 (by rw [hr]; rfl))
            have g0 : (x.rel == 1) = false := by rw [hr]; rfl
            have g1 : (x.rel == 2) = false := by rw [hr]; rfl
            have g2 : (x.rel == 3) = true := by rw [hr]; rfl
            clear HF7 hr
            go_wp2_with (first
              | (go_at_call 27; have _t := tok3; clear tok3; (with_reducible refine (HT3.out _ _ _ HB6.out.2.2.1).mono ?_); rintro e w7 ⟨rfl, hb⟩; have HB7 := Lib.hid (And.intro (TuAt.up HB6.out.1 hb) (ExL.below hb HB6.out.2.2.2.2)); have hk5 := keep7 HB6.out.2.2.2.1 hb; clear hb; obtain ⟨y0, y1, y2, y3, y4, y5, y6, y7, y8⟩ := two_d HB7.out.1.two; have f0 := cell6 hk5 0 rfl; have f1 := cell6 hk5 1 rfl; have f2 := cell6 hk5 2 rfl; have f3 := cell6 hk5 3 rfl; have f4 := cell6 hk5 4 rfl; have f5 := cell6 hk5 5 rfl; clear hk5)
              | (go_at_call 27; have _t := tok4; clear tok4; (with_reducible refine (HO3.out _ _ _ HB7.out.2).mono ?_); rintro e w8 ⟨rfl, hb⟩; have HX := Lib.hid (TuAt.up HB7.out.1 hb); clear hb; obtain ⟨d0, d1, d2, d3, d4, d5⟩ := two_x HX.out.two; obtain ⟨e0, e1, e2, e3, e4, e5, e6, e7, e8⟩ := two_d HX.out.two; have k4 := fun o => cell6 (kept_alloc HX.out.two.1 o) 4 rfl; have m0 := fun o => cell6 (kept_alloc HX.out.two.2 o) 0 rfl; have m1 := fun o => cell6 (kept_alloc HX.out.two.2 o) 1 rfl; have m2 := fun o => cell6 (kept_alloc HX.out.two.2 o) 2 rfl; have m3 := fun o => cell6 (kept_alloc HX.out.two.2 o) 3 rfl; have m4 := fun o => cell6 (kept_alloc HX.out.two.2 o) 4 rfl; have m5 := fun o => cell6 (kept_alloc HX.out.two.2 o) 5 rfl; have m6 := fun o => cell6 (kept_alloc HX.out.two.2 o) 6 rfl; have m7 := fun o => cell6 (kept_alloc HX.out.two.2 o) 7 rfl; have m8 := fun o => cell6 (kept_alloc HX.out.two.2 o) 8 rfl; skip)
              | (go_at_call 27; (with_reducible refine (HK.out _ (ExL.below (lbox _ _) HX.out.ex)).mono ?_); rintro e w9 ⟨rfl, hb⟩; have HZ := Lib.hid (on7 (on7 HX.out.below (lbox _ _)) hb); clear hb))
            go_ret
            exact ⟨by cases hv <;> rfl, HZ.out⟩
          · have HK := Lib.hid (HF7.out 5 (by rw [hr]; rfl))
            have g0 : (x.rel == 1) = false := by rw [hr]; rfl
            have g1 : (x.rel == 2) = false := by rw [hr]; rfl
            have g2 : (x.rel == 3) = false := by rw [hr]; rfl
            have g3 : (x.rel == 6) = false := by rw [hr]; rfl
            have g4 : (x.rel == 5) = false := by rw [hr]; rfl
            clear HF7 hr
            go_wp2_with (first
              | (go_at_call 27; have _t := tok3; clear tok3; (with_reducible refine (HT3.out _ _ _ HB6.out.2.2.1).mono ?_); rintro e w7 ⟨rfl, hb⟩; have HB7 := Lib.hid (And.intro (TuAt.up HB6.out.1 hb) (ExL.below hb HB6.out.2.2.2.2)); have hk5 := keep7 HB6.out.2.2.2.1 hb; clear hb; obtain ⟨y0, y1, y2, y3, y4, y5, y6, y7, y8⟩ := two_d HB7.out.1.two; have f0 := cell6 hk5 0 rfl; have f1 := cell6 hk5 1 rfl; have f2 := cell6 hk5 2 rfl; have f3 := cell6 hk5 3 rfl; have f4 := cell6 hk5 4 rfl; have f5 := cell6 hk5 5 rfl; clear hk5)
              | (go_at_call 27; have _t := tok4; clear tok4; (with_reducible refine (HO3.out _ _ _ HB7.out.2).mono ?_); rintro e w8 ⟨rfl, hb⟩; have HX := Lib.hid (TuAt.up HB7.out.1 hb); clear hb; obtain ⟨d0, d1, d2, d3, d4, d5⟩ := two_x HX.out.two; obtain ⟨e0, e1, e2, e3, e4, e5, e6, e7, e8⟩ := two_d HX.out.two; have k4 := fun o => cell6 (kept_alloc HX.out.two.1 o) 4 rfl; have m0 := fun o => cell6 (kept_alloc HX.out.two.2 o) 0 rfl; have m1 := fun o => cell6 (kept_alloc HX.out.two.2 o) 1 rfl; have m2 := fun o => cell6 (kept_alloc HX.out.two.2 o) 2 rfl; have m3 := fun o => cell6 (kept_alloc HX.out.two.2 o) 3 rfl; have m4 := fun o => cell6 (kept_alloc HX.out.two.2 o) 4 rfl; have m5 := fun o => cell6 (kept_alloc HX.out.two.2 o) 5 rfl; have m6 := fun o => cell6 (kept_alloc HX.out.two.2 o) 6 rfl; have m7 := fun o => cell6 (kept_alloc HX.out.two.2 o) 7 rfl; have m8 := fun o => cell6 (kept_alloc HX.out.two.2 o) 8 rfl; skip)
              | (go_at_call 27; (with_reducible refine (HK.out _ (ExL.below (lbox _ _) HX.out.ex)).mono ?_); rintro e w9 ⟨rfl, hb⟩; have HZ := Lib.hid (on7 (on7 HX.out.below (lbox _ _)) hb); clear hb))
            go_ret
            exact ⟨by cases hv <;> rfl, HZ.out⟩
          · have HK := Lib.hid (HF7.out 4 (by rw [hr]; rfl))
            have g0 : (x.rel == 1) = false := by rw [hr]; rfl
            have g1 : (x.rel == 2) = false := by rw [hr]; rfl
            have g2 : (x.rel == 3) = false := by rw [hr]; rfl
            have g3 : (x.rel == 6) = false := by rw [hr]; rfl
            have g4 : (x.rel == 5) = true := by rw [hr]; rfl
            clear HF7 hr
            go_wp2_with (first
              | (go_at_call 27; have _t := tok3; clear tok3; (with_reducible refine (HT3.out _ _ _ HB6.out.2.2.1).mono ?_); rintro e w7 ⟨rfl, hb⟩; have HB7 := Lib.hid (And.intro (TuAt.up HB6.out.1 hb) (ExL.below hb HB6.out.2.2.2.2)); have hk5 := keep7 HB6.out.2.2.2.1 hb; clear hb; obtain ⟨y0, y1, y2, y3, y4, y5, y6, y7, y8⟩ := two_d HB7.out.1.two; have f0 := cell6 hk5 0 rfl; have f1 := cell6 hk5 1 rfl; have f2 := cell6 hk5 2 rfl; have f3 := cell6 hk5 3 rfl; have f4 := cell6 hk5 4 rfl; have f5 := cell6 hk5 5 rfl; clear hk5)
              | (go_at_call 27; have _t := tok4; clear tok4; (with_reducible refine (HO3.out _ _ _ HB7.out.2).mono ?_); rintro e w8 ⟨rfl, hb⟩; have HX := Lib.hid (TuAt.up HB7.out.1 hb); clear hb; obtain ⟨d0, d1, d2, d3, d4, d5⟩ := two_x HX.out.two; obtain ⟨e0, e1, e2, e3, e4, e5, e6, e7, e8⟩ := two_d HX.out.two; have k4 := fun o => cell6 (kept_alloc HX.out.two.1 o) 4 rfl; have m0 := fun o => cell6 (kept_alloc HX.out.two.2 o) 0 rfl; have m1 := fun o => cell6 (kept_alloc HX.out.two.2 o) 1 rfl; have m2 := fun o => cell6 (kept_alloc HX.out.two.2 o) 2 rfl; have m3 := fun o => cell6 (kept_alloc HX.out.two.2 o) 3 rfl; have m4 := fun o => cell6 (kept_alloc HX.out.two.2 o) 4 rfl; have m5 := fun o => cell6 (kept_alloc HX.out.two.2 o) 5 rfl; have m6 := fun o => cell6 (kept_alloc HX.out.two.2 o) 6 rfl; have m7 := fun o => cell6 (kept_alloc HX.out.two.2 o) 7 rfl; have m8 := fun o => cell6 (kept_alloc HX.out.two.2 o) 8 rfl; skip)
              | (go_at_call 27; (with_reducible refine (HK.out _ (ExL.below (lbox _ _) HX.out.ex)).mono ?_); rintro e w9 ⟨rfl, hb⟩; have HZ := Lib.hid (on7 (on7 HX.out.below (lbox _ _)) hb); clear hb))
            go_ret
            exact ⟨by cases hv <;> rfl, HZ.out⟩
          · have HK := Lib.hid (HF7.out 3 (by rw [hr]; rfl))
            have g0 : (x.rel == 1) = false := by rw [hr]; rfl
            have g1 : (x.rel == 2) = false := by rw [hr]; rfl
            have g2 : (x.rel == 3) = false := by rw [hr]; rfl
            have g3 : (x.rel == 6) = true := by rw [hr]; rfl
            clear HF7 hr
            go_wp2_with (first
              | (go_at_call 27; have _t := tok3; clear tok3; (with_reducible refine (HT3.out _ _ _ HB6.out.2.2.1).mono ?_); rintro e w7 ⟨rfl, hb⟩; have HB7 := Lib.hid (And.intro (TuAt.up HB6.out.1 hb) (ExL.below hb HB6.out.2.2.2.2)); have hk5 := keep7 HB6.out.2.2.2.1 hb; clear hb; obtain ⟨y0, y1, y2, y3, y4, y5, y6, y7, y8⟩ := two_d HB7.out.1.two; have f0 := cell6 hk5 0 rfl; have f1 := cell6 hk5 1 rfl; have f2 := cell6 hk5 2 rfl; have f3 := cell6 hk5 3 rfl; have f4 := cell6 hk5 4 rfl; have f5 := cell6 hk5 5 rfl; clear hk5)
              | (go_at_call 27; have _t := tok4; clear tok4; (with_reducible refine (HO3.out _ _ _ HB7.out.2).mono ?_); rintro e w8 ⟨rfl, hb⟩; have HX := Lib.hid (TuAt.up HB7.out.1 hb); clear hb; obtain ⟨d0, d1, d2, d3, d4, d5⟩ := two_x HX.out.two; obtain ⟨e0, e1, e2, e3, e4, e5, e6, e7, e8⟩ := two_d HX.out.two; have k4 := fun o => cell6 (kept_alloc HX.out.two.1 o) 4 rfl; have m0 := fun o => cell6 (kept_alloc HX.out.two.2 o) 0 rfl; have m1 := fun o => cell6 (kept_alloc HX.out.two.2 o) 1 rfl; have m2 := fun o => cell6 (kept_alloc HX.out.two.2 o) 2 rfl; have m3 := fun o => cell6 (kept_alloc HX.out.two.2 o) 3 rfl; have m4 := fun o => cell6 (kept_alloc HX.out.two.2 o) 4 rfl; have m5 := fun o => cell6 (kept_alloc HX.out.two.2 o) 5 rfl; have m6 := fun o => cell6 (kept_alloc HX.out.two.2 o) 6 rfl; have m7 := fun o => cell6 (kept_alloc HX.out.two.2 o) 7 rfl; have m8 := fun o => cell6 (kept_alloc HX.out.two.2 o) 8 rfl; skip)
              | (go_at_call 27; (with_reducible refine (HK.out _ (ExL.below (lbox _ _) HX.out.ex)).mono ?_); rintro e w9 ⟨rfl, hb⟩; have HZ := Lib.hid (on7 (on7 HX.out.below (lbox _ _)) hb); clear hb))
            go_ret
            exact ⟨by cases hv <;> rfl, HZ.out⟩
        · have q6 : (x.op != 6) = true := bne_iff_ne.2 h6
          clear h6
          go_wp2_with (first
            | (go_at_call 27; have _t := tok3; clear tok3; (with_reducible refine (HT3.out _ _ _ HB6.out.2.2.1).mono ?_); rintro e w7 ⟨rfl, hb⟩; have HB7 := Lib.hid (And.intro (TuAt.up HB6.out.1 hb) (ExL.below hb HB6.out.2.2.2.2)); have hk5 := keep7 HB6.out.2.2.2.1 hb; clear hb; obtain ⟨y0, y1, y2, y3, y4, y5, y6, y7, y8⟩ := two_d HB7.out.1.two; have f0 := cell6 hk5 0 rfl; have f1 := cell6 hk5 1 rfl; have f2 := cell6 hk5 2 rfl; have f3 := cell6 hk5 3 rfl; have f4 := cell6 hk5 4 rfl; have f5 := cell6 hk5 5 rfl; clear hk5)
            | (go_at_call 27; have _t := tok4; clear tok4; (with_reducible refine (HO3.out _ _ _ HB7.out.2).mono ?_); rintro e w8 ⟨rfl, hb⟩; have HX := Lib.hid (TuAt.up HB7.out.1 hb); clear hb; obtain ⟨d0, d1, d2, d3, d4, d5⟩ := two_x HX.out.two; obtain ⟨e0, e1, e2, e3, e4, e5, e6, e7, e8⟩ := two_d HX.out.two; have k4 := fun o => cell6 (kept_alloc HX.out.two.1 o) 4 rfl; have m0 := fun o => cell6 (kept_alloc HX.out.two.2 o) 0 rfl; have m1 := fun o => cell6 (kept_alloc HX.out.two.2 o) 1 rfl; have m2 := fun o => cell6 (kept_alloc HX.out.two.2 o) 2 rfl; have m3 := fun o => cell6 (kept_alloc HX.out.two.2 o) 3 rfl; have m4 := fun o => cell6 (kept_alloc HX.out.two.2 o) 4 rfl; have m5 := fun o => cell6 (kept_alloc HX.out.two.2 o) 5 rfl; have m6 := fun o => cell6 (kept_alloc HX.out.two.2 o) 6 rfl; have m7 := fun o => cell6 (kept_alloc HX.out.two.2 o) 7 rfl; have m8 := fun o => cell6 (kept_alloc HX.out.two.2 o) 8 rfl; skip))
          go_ret
          exact ⟨rfl, HX.out.below⟩
      · have qt : (et == 0) = false := beq_false_of_ne het
        clear het
        have HX := Lib.hid HB6.out.1
        obtain ⟨z0, z1, z2, z3, z4, z5, z6, z7, z8⟩ := two_d HX.out.two
        have k4 := fun o => cell6 (kept_alloc HX.out.two.1 o) 4 rfl
        have m0 := fun o => cell6 (kept_alloc HX.out.two.2 o) 0 rfl
        have m1 := fun o => cell6 (kept_alloc HX.out.two.2 o) 1 rfl
        have m2 := fun o => cell6 (kept_alloc HX.out.two.2 o) 2 rfl
        have m3 := fun o => cell6 (kept_alloc HX.out.two.2 o) 3 rfl
        have m4 := fun o => cell6 (kept_alloc HX.out.two.2 o) 4 rfl
        have m5 := fun o => cell6 (kept_alloc HX.out.two.2 o) 5 rfl
        have m6 := fun o => cell6 (kept_alloc HX.out.two.2 o) 6 rfl
        have m7 := fun o => cell6 (kept_alloc HX.out.two.2 o) 7 rfl
        have m8 := fun o => cell6 (kept_alloc HX.out.two.2 o) 8 rfl
        by_cases h6 : x.op = 6
        · have q6 : (x.op != 6) = false := by rw [h6]; rfl
          have hrel := (flip_ok7 hee h6).2
          have HF7 := Lib.hid (fun k hk V hx => held_flip7 (d := d) (A := A) (cap := cap) hee h6 k hk V hx)
          rw [hvd] at HF7
          have : x.rel = 1 ∨ x.rel = 2 ∨ x.rel = 3 ∨ x.rel = 4 ∨ x.rel = 5 ∨ x.rel = 6 := by omega
          clear h6 hrel
          rcases this with hr | hr | hr | hr | hr | hr
          · have HK := Lib.hid (HF7.out 2 (by rw [hr]; rfl))
            have g0 : (x.rel == 1) = true := by rw [hr]; rfl
            clear HF7 hr
            go_wp2_with (go_at_call 27; (with_reducible refine (HK.out _ (ExL.below (lbox _ _) HX.out.ex)).mono ?_); rintro e w9 ⟨rfl, hb⟩; have HZ := Lib.hid (on7 (on7 HX.out.below (lbox _ _)) hb); clear hb)
            go_ret
            exact ⟨by cases hv <;> rfl, HZ.out⟩
          · have HK := Lib.hid (HF7.out 1 (by rw [hr]; rfl))
            have g0 : (x.rel == 1) = false := by rw [hr]; rfl
            have g1 : (x.rel == 2) = true := by rw [hr]; rfl
            clear HF7 hr
            go_wp2_with (go_at_call 27; (with_reducible refine (HK.out _ (ExL.below (lbox _ _) HX.out.ex)).mono ?_); rintro e w9 ⟨rfl, hb⟩; have HZ := Lib.hid (on7 (on7 HX.out.below (lbox _ _)) hb); clear hb)
            go_ret
            exact ⟨by cases hv <;> rfl, HZ.out⟩
          · have HK := Lib.hid (HF7.out 6 (by rw [hr]; rfl))
            have g0 : (x.rel == 1) = false := by rw [hr]; rfl
            have g1 : (x.rel == 2) = false := by rw [hr]; rfl
            have g2 : (x.rel == 3) = true := by rw [hr]; rfl
            clear HF7 hr
            go_wp2_with (go_at_call 27; (with_reducible refine (HK.out _ (ExL.below (lbox _ _) HX.out.ex)).mono ?_); rintro e w9 ⟨rfl, hb⟩; have HZ := Lib.hid (on7 (on7 HX.out.below (lbox _ _)) hb); clear hb)
            go_ret
            exact ⟨by cases hv <;> rfl, HZ.out⟩
          · have HK := Lib.hid (HF7.out 5 (by rw [hr]; rfl))
            have g0 : (x.rel == 1) = false := by rw [hr]; rfl
            have g1 : (x.rel == 2) = false := by rw [hr]; rfl
            have g2 : (x.rel == 3) = false := by rw [hr]; rfl
            have g3 : (x.rel == 6) = false := by rw [hr]; rfl
            have g4 : (x.rel == 5) = false := by rw [hr]; rfl
            clear HF7 hr
            go_wp2_with (go_at_call 27; (with_reducible refine (HK.out _ (ExL.below (lbox _ _) HX.out.ex)).mono ?_); rintro e w9 ⟨rfl, hb⟩; have HZ := Lib.hid (on7 (on7 HX.out.below (lbox _ _)) hb); clear hb)
            go_ret
            exact ⟨by cases hv <;> rfl, HZ.out⟩
          · have HK := Lib.hid (HF7.out 4 (by rw [hr]; rfl))
            have g0 : (x.rel == 1) = false := by rw [hr]; rfl
            have g1 : (x.rel == 2) = false := by rw [hr]; rfl
            have g2 : (x.rel == 3) = false := by rw [hr]; rfl
            have g3 : (x.rel == 6) = false := by rw [hr]; rfl
            have g4 : (x.rel == 5) = true := by rw [hr]; rfl
            clear HF7 hr
            go_wp2_with (go_at_call 27; (with_reducible refine (HK.out _ (ExL.below (lbox _ _) HX.out.ex)).mono ?_); rintro e w9 ⟨rfl, hb⟩; have HZ := Lib.hid (on7 (on7 HX.out.below (lbox _ _)) hb); clear hb)
            go_ret
            exact ⟨by cases hv <;> rfl, HZ.out⟩
          · have HK := Lib.hid (HF7.out 3 (by rw [hr]; rfl))
            have g0 : (x.rel == 1) = false := by rw [hr]; rfl
            have g1 : (x.rel == 2) = false := by rw [hr]; rfl
            have g2 : (x.rel == 3) = false := by rw [hr]; rfl
            have g3 : (x.rel == 6) = true := by rw [hr]; rfl
            clear HF7 hr
            go_wp2_with (go_at_call 27; (with_reducible refine (HK.out _ (ExL.below (lbox _ _) HX.out.ex)).mono ?_); rintro e w9 ⟨rfl, hb⟩; have HZ := Lib.hid (on7 (on7 HX.out.below (lbox _ _)) hb); clear hb)
            go_ret
            exact ⟨by cases hv <;> rfl, HZ.out⟩
        · have q6 : (x.op != 6) = true := bne_iff_ne.2 h6
          clear h6
          go_wp2
          go_ret
          exact ⟨rfl, HX.out.below⟩
    · have qe : (en == 0) = false := beq_false_of_ne hen
      clear hen
      have HP := Lib.hid HB4.out.1
      have HV2 : Hid (TuAt w ((w4.alloc (twoX x A cap)).alloc (mk3 4 w4.heap.size 2)) x A cap d) := Lib.hid (HP.out.up (below_of w4 _ _ (lbox w4 _)))
      have hs2 : ((w4.alloc (twoX x A cap)).alloc (mk3 4 w4.heap.size 2)).heap.size = w4.heap.size + 2 := by simp
      have HV3 : Hid (TuAt w ((((w4.alloc (twoX x A cap)).alloc (mk3 4 w4.heap.size 2)).alloc (twoX x A cap)).alloc (mk3 5 (w4.heap.size + 2) 2)) x A cap d) := Lib.hid (HV2.out.up (below_of ((w4.alloc (twoX x A cap)).alloc (mk3 4 w4.heap.size 2)) _ _ (lbox ((w4.alloc (twoX x A cap)).alloc (mk3 4 w4.heap.size 2)) _)))
      have HW2 : Hid (((w4.alloc (twoX x A cap)).alloc (mk3 4 w4.heap.size 2)).heap[w4.heap.size + 1]? = some (mk3 4 w4.heap.size 2) ∧ ExL ((w4.alloc (twoX x A cap)).alloc (mk3 4 w4.heap.size 2)) (.mk 4 [x, x] 0 0 0 0) (some ⟨w4.heap.size, 0, none⟩) 2) := Lib.hid ⟨by simpa using World.alloc_heap_new (w4.alloc (twoX x A cap)) (mk3 4 w4.heap.size 2), (exL_two 4 HP.out.ex).below (lbox _ _)⟩
      have HW3 : Hid (((((w4.alloc (twoX x A cap)).alloc (mk3 4 w4.heap.size 2)).alloc (twoX x A cap)).alloc (mk3 5 (w4.heap.size + 2) 2)).heap[w4.heap.size + 3]? = some (mk3 5 (w4.heap.size + 2) 2) ∧ ExL ((((w4.alloc (twoX x A cap)).alloc (mk3 4 w4.heap.size 2)).alloc (twoX x A cap)).alloc (mk3 5 (w4.heap.size + 2) 2)) (.mk 5 [x, x] 0 0 0 0) (some ⟨w4.heap.size + 2, 0, none⟩) 2) := Lib.hid ⟨by simpa using World.alloc_heap_new (((w4.alloc (twoX x A cap)).alloc (mk3 4 w4.heap.size 2)).alloc (twoX x A cap)) (mk3 5 (w4.heap.size + 2) 2), by have := exL_two 5 HV2.out.ex; rw [hs2] at this; exact this.below (lbox _ _)⟩
      have hb23 : Below ((w4.alloc (twoX x A cap)).alloc (mk3 4 w4.heap.size 2)).heap.size ((w4.alloc (twoX x A cap)).alloc (mk3 4 w4.heap.size 2)) ((((w4.alloc (twoX x A cap)).alloc (mk3 4 w4.heap.size 2)).alloc (twoX x A cap)).alloc (mk3 5 (w4.heap.size + 2) 2)) := below_of ((w4.alloc (twoX x A cap)).alloc (mk3 4 w4.heap.size 2)) _ _ (lbox ((w4.alloc (twoX x A cap)).alloc (mk3 4 w4.heap.size 2)) _)
      have HX3 : Hid (((((w4.alloc (twoX x A cap)).alloc (mk3 4 w4.heap.size 2)).alloc (twoX x A cap)).alloc (mk3 5 (w4.heap.size + 2) 2)).heap[w4.heap.size + 1]? = some (mk3 4 w4.heap.size 2) ∧ ExL ((((w4.alloc (twoX x A cap)).alloc (mk3 4 w4.heap.size 2)).alloc (twoX x A cap)).alloc (mk3 5 (w4.heap.size + 2) 2)) (.mk 4 [x, x] 0 0 0 0) (some ⟨w4.heap.size, 0, none⟩) 2) := Lib.hid ⟨keep7 HW2.out.1 hb23, HW2.out.2.below hb23⟩
      clear hb23 hs2
      obtain ⟨a0, a1, a2, a3, a4, a5⟩ := two_x HP.out.two
      obtain ⟨b0, b1, b2, b3, b4, b5⟩ := two_x HV2.out.two
      have c0 := cell6 HX3.out.1 0 rfl
      have c1 := cell6 HX3.out.1 1 rfl
      have c2 := cell6 HX3.out.1 2 rfl
      have c3 := cell6 HX3.out.1 3 rfl
      have c4 := cell6 HX3.out.1 4 rfl
      have c5 := cell6 HX3.out.1 5 rfl
      go_wp2_with (fail)
      refine (HT.out _ _ _ HX3.out.2).mono ?_
      rintro e w6 ⟨rfl, hb⟩
      have HB6 := Lib.hid (And.intro (HV3.out.up hb) (And.intro (keep7 HX3.out.1 hb) (And.intro (HX3.out.2.below hb) (And.intro (keep7 HW3.out.1 hb) (HW3.out.2.below hb)))))
      clear hb a0 a1 a2 a3 a4 a5 b0 b1 b2 b3 b4 b5 c0 c1 c2 c3 c4 c5
      obtain ⟨a0, a1, a2, a3, a4, a5⟩ := two_x HB6.out.1.two
      by_cases het : et = 0
      · have qt : (et == 0) = true := beq_iff_eq.2 het
        have HT3 := Lib.hid (HT2.out het)
        have HO3 := Lib.hid (HO2.out het)
        clear het
        obtain ⟨z0, z1, z2, z3, z4, z5, z6, z7, z8⟩ := two_d HB6.out.1.two
        have c0 := cell6 HB6.out.2.1 0 rfl
        have c1 := cell6 HB6.out.2.1 1 rfl
        have c2 := cell6 HB6.out.2.1 2 rfl
        have c3 := cell6 HB6.out.2.1 3 rfl
        have c4 := cell6 HB6.out.2.1 4 rfl
        have c5 := cell6 HB6.out.2.1 5 rfl
        by_cases h6 : x.op = 6
        · have q6 : (x.op != 6) = false := by rw [h6]; rfl
          have hrel := (flip_ok7 hee h6).2
          have HF7 := Lib.hid (fun k hk V hx => held_flip7 (d := d) (A := A) (cap := cap) hee h6 k hk V hx)
          rw [hvd] at HF7
          have : x.rel = 1 ∨ x.rel = 2 ∨ x.rel = 3 ∨ x.rel = 4 ∨ x.rel = 5 ∨ x.rel = 6 := by omega
          clear h6 hrel
          rcases this with hr | hr | hr | hr | hr | hr
          · have HK := Lib.hid (HF7.out 2 (by rw [hr]; rfl))
            have g0 : (x.rel == 1) = true := by rw [hr]; rfl
            clear HF7 hr
            go_wp2_with (first
              | (go_at_call 27; have _t := tok3; clear tok3; (with_reducible refine (HT3.out _ _ _ HB6.out.2.2.1).mono ?_); rintro e w7 ⟨rfl, hb⟩; have HB7 := Lib.hid (And.intro (TuAt.up HB6.out.1 hb) (ExL.below hb HB6.out.2.2.2.2)); have hk5 := keep7 HB6.out.2.2.2.1 hb; clear hb; obtain ⟨y0, y1, y2, y3, y4, y5, y6, y7, y8⟩ := two_d HB7.out.1.two; have f0 := cell6 hk5 0 rfl; have f1 := cell6 hk5 1 rfl; have f2 := cell6 hk5 2 rfl; have f3 := cell6 hk5 3 rfl; have f4 := cell6 hk5 4 rfl; have f5 := cell6 hk5 5 rfl; clear hk5)
              | (go_at_call 27; have _t := tok4; clear tok4; (with_reducible refine (HO3.out _ _ _ HB7.out.2).mono ?_); rintro e w8 ⟨rfl, hb⟩; have HX := Lib.hid (TuAt.up HB7.out.1 hb); clear hb; obtain ⟨d0, d1, d2, d3, d4, d5⟩ := two_x HX.out.two; obtain ⟨e0, e1, e2, e3, e4, e5, e6, e7, e8⟩ := two_d HX.out.two; have k4 := fun o => cell6 (kept_alloc HX.out.two.1 o) 4 rfl; have m0 := fun o => cell6 (kept_alloc HX.out.two.2 o) 0 rfl; have m1 := fun o => cell6 (kept_alloc HX.out.two.2 o) 1 rfl; have m2 := fun o => cell6 (kept_alloc HX.out.two.2 o) 2 rfl; have m3 := fun o => cell6 (kept_alloc HX.out.two.2 o) 3 rfl; have m4 := fun o => cell6 (kept_alloc HX.out.two.2 o) 4 rfl; have m5 := fun o => cell6 (kept_alloc HX.out.two.2 o) 5 rfl; have m6 := fun o => cell6 (kept_alloc HX.out.two.2 o) 6 rfl; have m7 := fun o => cell6 (kept_alloc HX.out.two.2 o) 7 rfl; have m8 := fun o => cell6 (kept_alloc HX.out.two.2 o) 8 rfl; skip)
              | (go_at_call 27; (with_reducible refine (HK.out _ (ExL.below (lbox _ _) HX.out.ex)).mono ?_); rintro e w9 ⟨rfl, hb⟩; have HZ := Lib.hid (on7 (on7 HX.out.below (lbox _ _)) hb); clear hb))
            go_ret
            exact ⟨by cases hv <;> rfl, HZ.out⟩
          · have HK := Lib.hid (HF7.out 1 (by rw [hr]; rfl))
            have g0 : (x.rel == 1) = false := by rw [hr]; rfl
            have g1 : (x.rel == 2) = true := by rw [hr]; rfl
            clear HF7 hr
            go_wp2_with (first
              | (go_at_call 27; have _t := tok3; clear tok3; (with_reducible refine (HT3.out _ _ _ HB6.out.2.2.1).mono ?_); rintro e w7 ⟨rfl, hb⟩; have HB7 := Lib.hid (And.intro (TuAt.up HB6.out.1 hb) (ExL.below hb HB6.out.2.2.2.2)); have hk5 := keep7 HB6.out.2.2.2.1 hb; clear hb; obtain ⟨y0, y1, y2, y3, y4, y5, y6, y7, y8⟩ := two_d HB7.out.1.two; have f0 := cell6 hk5 0 rfl; have f1 := cell6 hk5 1 rfl; have f2 := cell6 hk5 2 rfl; have f3 := cell6 hk5 3 rfl; have f4 := cell6 hk5 4 rfl; have f5 := cell6 hk5 5 rfl; clear hk5)
              | (go_at_call 27; have _t := tok4; clear tok4; (with_reducible refine (HO3.out _ _ _ HB7.out.2).mono ?_); rintro e w8 ⟨rfl, hb⟩; have HX := Lib.hid (TuAt.up HB7.out.1 hb); clear hb; obtain ⟨d0, d1, d2, d3, d4, d5⟩ := two_x HX.out.two; obtain ⟨e0, e1, e2, e3, e4, e5, e6, e7, e8⟩ := two_d HX.out.two; have k4 := fun o => cell6 (kept_alloc HX.out.two.1 o) 4 rfl; have m0 := fun o => cell6 (kept_alloc HX.out.two.2 o) 0 rfl; have m1 := fun o => cell6 (kept_alloc HX.out.two.2 o) 1 rfl; have m2 := fun o => cell6 (kept_alloc HX.out.two.2 o) 2 rfl; have m3 := fun o => cell6 (kept_alloc HX.out.two.2 o) 3 rfl; have m4 := fun o => cell6 (kept_alloc HX.out.two.2 o) 4 rfl; have m5 := fun o => cell6 (kept_alloc HX.out.two.2 o) 5 rfl; have m6 := fun o => cell6 (kept_alloc HX.out.two.2 o) 6 rfl; have m7 := fun o => cell6 (kept_alloc HX.out.two.2 o) 7 rfl; have m8 := fun o => cell6 (kept_alloc HX.out.two.2 o) 8 rfl; skip)
              | (go_at_call 27; (with_reducible refine (HK.out _ (ExL.below (lbox _ _) HX.out.ex)).mono ?_); rintro e w9 ⟨rfl, hb⟩; have HZ := Lib.hid (on7 (on7 HX.out.below (lbox _ _)) hb); clear hb))
            go_ret
            exact ⟨by cases hv <;> rfl, HZ.out⟩
          · have HK := Lib.hid (HF7.out 6 (by rw [hr]; rfl))
            have g0 : (x.rel == 1) = false := by rw [hr]; rfl
            have g1 : (x.rel == 2) = false := by rw [hr]; rfl
            have g2 : (x.rel == 3) = true := by rw [hr]; rfl
            clear HF7 hr
            go_wp2_with (first
              | (go_at_call 27; have _t := tok3; clear tok3; (with_reducible refine (HT3.out _ _ _ HB6.out.2.2.1).mono ?_); rintro e w7 ⟨rfl, hb⟩; have HB7 := Lib.hid (And.intro (TuAt.up HB6.out.1 hb) (ExL.below hb HB6.out.2.2.2.2)); have hk5 := keep7 HB6.out.2.2.2.1 hb; clear hb; obtain ⟨y0, y1, y2, y3, y4, y5, y6, y7, y8⟩ := two_d HB7.out.1.two; have f0 := cell6 hk5 0 rfl; have f1 := cell6 hk5 1 rfl; have f2 := cell6 hk5 2 rfl; have f3 := cell6 hk5 3 rfl; have f4 := cell6 hk5 4 rfl; have f5 := cell6 hk5 5 rfl; clear hk5)
              | (go_at_call 27; have _t := tok4; clear tok4; (with_reducible refine (HO3.out _ _ _ HB7.out.2).mono ?_); rintro e w8 ⟨rfl, hb⟩; have HX := Lib.hid (TuAt.up HB7.out.1 hb); clear hb; obtain ⟨d0, d1, d2, d3, d4, d5⟩ := two_x HX.out.two; obtain ⟨e0, e1, e2, e3, e4, e5, e6, e7, e8⟩ := two_d HX.out.two; have k4 := fun o => cell6 (kept_alloc HX.out.two.1 o) 4 rfl; have m0 := fun o => cell6 (kept_alloc HX.out.two.2 o) 0 rfl; have m1 := fun o => cell6 (kept_alloc HX.out.two.2 o) 1 rfl; have m2 := fun o => cell6 (kept_alloc HX.out.two.2 o) 2 rfl; have m3 := fun o => cell6 (kept_alloc HX.out.two.2 o) 3 rfl; have m4 := fun o => cell6 (kept_alloc HX.out.two.2 o) 4 rfl; have m5 := fun o => cell6 (kept_alloc HX.out.two.2 o) 5 rfl; have m6 := fun o => cell6 (kept_alloc HX.out.two.2 o) 6 rfl; have m7 := fun o => cell6 (kept_alloc HX.out.two.2 o) 7 rfl; have m8 := fun o => cell6 (kept_alloc HX.out.two.2 o) 8 rfl; skip)
              | (go_at_call 27; (with_reducible refine (HK.out _ (ExL.below (lbox _ _) HX.out.ex)).mono ?_); rintro e w9 ⟨rfl, hb⟩; have HZ := Lib.hid (on7 (on7 HX.out.below (lbox _ _)) hb); clear hb))
            go_ret
            exact ⟨by cases hv <;> rfl, HZ.out⟩
          · have HK := Lib.hid (HF7.out 5 (by rw [hr]; rfl))
            have g0 : (x.rel == 1) = false := by rw [hr]; rfl
            have g1 : (x.rel == 2) = false := by rw [hr]; rfl
            have g2 : (x.rel == 3) = false := by rw [hr]; rfl
            have g3 : (x.rel == 6) = false := by rw [hr]; rfl
            have g4 : (x.rel == 5) = false := by rw [hr]; rfl
            clear HF7 hr
            go_wp2_with (first
              | (go_at_call 27; have _t := tok3; clear tok3; (with_reducible refine (HT3.out _ _ _ HB6.out.2.2.1).mono ?_); rintro e w7 ⟨rfl, hb⟩; have HB7 := Lib.hid (And.intro (TuAt.up HB6.out.1 hb) (ExL.below hb HB6.out.2.2.2.2)); have hk5 := keep7 HB6.out.2.2.2.1 hb; clear hb; obtain ⟨y0, y1, y2, y3, y4, y5, y6, y7, y8⟩ := two_d HB7.out.1.two; have f0 := cell6 hk5 0 rfl; have f1 := cell6 hk5 1 rfl; have f2 := cell6 hk5 2 rfl; have f3 := cell6 hk5 3 rfl; have f4 := cell6 hk5 4 rfl; have f5 := cell6 hk5 5 rfl; clear hk5)
              | (go_at_call 27; have _t := tok4; clear tok4; (with_reducible refine (HO3.out _ _ _ HB7.out.2).mono ?_); rintro e w8 ⟨rfl, hb⟩; have HX := Lib.hid (TuAt.up HB7.out.1 hb); clear hb; obtain ⟨d0, d1, d2, d3, d4, d5⟩ := two_x HX.out.two; obtain ⟨e0, e1, e2, e3, e4, e5, e6, e7, e8⟩ := two_d HX.out.two; have k4 := fun o => cell6 (kept_alloc HX.out.two.1 o) 4 rfl; have m0 := fun o => cell6 (kept_alloc HX.out.two.2 o) 0 rfl; have m1 := fun o => cell6 (kept_alloc HX.out.two.2 o) 1 rfl; have m2 := fun o => cell6 (kept_alloc HX.out.two.2 o) 2 rfl; have m3 := fun o => cell6 (kept_alloc HX.out.two.2 o) 3 rfl; have m4 := fun o => cell6 (kept_alloc HX.out.two.2 o) 4 rfl; have m5 := fun o => cell6 (kept_alloc HX.out.two.2 o) 5 rfl; have m6 := fun o => cell6 (kept_alloc HX.out.two.2 o) 6 rfl; have m7 := fun o => cell6 (kept_alloc HX.out.two.2 o) 7 rfl; have m8 := fun o => cell6 (kept_alloc HX.out.two.2 o) 8 rfl; skip)
              | (go_at_call 27; (with_reducible refine (HK.out _ (ExL.below (lbox _ _) HX.out.ex)).mono ?_); rintro e w9 ⟨rfl, hb⟩; have HZ := Lib.hid (on7 (on7 HX.out.below (lbox _ _)) hb); clear hb))
            go_ret
            exact ⟨by cases hv <;> rfl, HZ.out⟩
          · have HK := Lib.hid (HF7.out 4 (by rw [hr]; rfl))
            have g0 : (x.rel == 1) = false := by rw [hr]; rfl
            have g1 : (x.rel == 2) = false := by rw [hr]; rfl
            have g2 : (x.rel == 3) = false := by rw [hr]; rfl
            have g3 : (x.rel == 6) = false := by rw [hr]; rfl
            have g4 : (x.rel == 5) = true := by rw [hr]; rfl
            clear HF7 hr
            go_wp2_with (first
              | (go_at_call 27; have _t := tok3; clear tok3; (with_reducible refine (HT3.out _ _ _ HB6.out.2.2.1).mono ?_); rintro e w7 ⟨rfl, hb⟩; have HB7 := Lib.hid (And.intro (TuAt.up HB6.out.1 hb) (ExL.below hb HB6.out.2.2.2.2)); have hk5 := keep7 HB6.out.2.2.2.1 hb; clear hb; obtain ⟨y0, y1, y2, y3, y4, y5, y6, y7, y8⟩ := two_d HB7.out.1.two; have f0 := cell6 hk5 0 rfl; have f1 := cell6 hk5 1 rfl; have f2 := cell6 hk5 2 rfl; have f3 := cell6 hk5 3 rfl; have f4 := cell6 hk5 4 rfl; have f5 := cell6 hk5 5 rfl; clear hk5)
              | (go_at_call 27; have _t := tok4; clear tok4; (with_reducible refine (HO3.out _ _ _ HB7.out.2).mono ?_); rintro e w8 ⟨rfl, hb⟩; have HX := Lib.hid (TuAt.up HB7.out.1 hb); clear hb; obtain ⟨d0, d1, d2, d3, d4, d5⟩ := two_x HX.out.two; obtain ⟨e0, e1, e2, e3, e4, e5, e6, e7, e8⟩ := two_d HX.out.two; have k4 := fun o => cell6 (kept_alloc HX.out.two.1 o) 4 rfl; have m0 := fun o => cell6 (kept_alloc HX.out.two.2 o) 0 rfl; have m1 := fun o => cell6 (kept_alloc HX.out.two.2 o) 1 rfl; have m2 := fun o => cell6 (kept_alloc HX.out.two.2 o) 2 rfl; have m3 := fun o => cell6 (kept_alloc HX.out.two.2 o) 3 rfl; have m4 := fun o => cell6 (kept_alloc HX.out.two.2 o) 4 rfl; have m5 := fun o => cell6 (kept_alloc HX.out.two.2 o) 5 rfl; have m6 := fun o => cell6 (kept_alloc HX.out.two.2 o) 6 rfl; have m7 := fun o => cell6 (kept_alloc HX.out.two.2 o) 7 rfl; have m8 := fun o => cell6 (kept_alloc HX.out.two.2 o) 8 rfl; skip)
              | (go_at_call 27; (with_reducible refine (HK.out _ (ExL.below (lbox _ _) HX.out.ex)).mono ?_); rintro e w9 ⟨rfl, hb⟩; have HZ := Lib.hid (on7 (on7 HX.out.below (lbox _ _)) hb); clear hb))
            go_ret
            exact ⟨by cases hv <;> rfl, HZ.out⟩
          · have HK := Lib.hid (HF7.out 3 (by rw [hr]; rfl))
            have g0 : (x.rel == 1) = false := by rw [hr]; rfl
            have g1 : (x.rel == 2) = false := by rw [hr]; rfl
            have g2 : (x.rel == 3) = false := by rw [hr]; rfl
            have g3 : (x.rel == 6) = true := by rw [hr]; rfl
            clear HF7 hr
            go_wp2_with (first
              | (go_at_call 27; have _t := tok3; clear tok3; (with_reducible refine (HT3.out _ _ _ HB6.out.2.2.1).mono ?_); rintro e w7 ⟨rfl, hb⟩; have HB7 := Lib.hid (And.intro (TuAt.up HB6.out.1 hb) (ExL.below hb HB6.out.2.2.2.2)); have hk5 := keep7 HB6.out.2.2.2.1 hb; clear hb; obtain ⟨y0, y1, y2, y3, y4, y5, y6, y7, y8⟩ := two_d HB7.out.1.two; have f0 := cell6 hk5 0 rfl; have f1 := cell6 hk5 1 rfl; have f2 := cell6 hk5 2 rfl; have f3 := cell6 hk5 3 rfl; have f4 := cell6 hk5 4 rfl; have f5 := cell6 hk5 5 rfl; clear hk5)
              | (go_at_call 27; have _t := tok4; clear tok4; (with_reducible refine (HO3.out _ _ _ HB7.out.2).mono ?_); rintro e w8 ⟨rfl, hb⟩; have HX := Lib.hid (TuAt.up HB7.out.1 hb); clear hb; obtain ⟨d0, d1, d2, d3, d4, d5⟩ := two_x HX.out.two; obtain ⟨e0, e1, e2, e3, e4, e5, e6, e7, e8⟩ := two_d HX.out.two; have k4 := fun o => cell6 (kept_alloc HX.out.two.1 o) 4 rfl; have m0 := fun o => cell6 (kept_alloc HX.out.two.2 o) 0 rfl; have m1 := fun o => cell6 (kept_alloc HX.out.two.2 o) 1 rfl; have m2 := fun o => cell6 (kept_alloc HX.out.two.2 o) 2 rfl; have m3 := fun o => cell6 (kept_alloc HX.out.two.2 o) 3 rfl; have m4 := fun o => cell6 (kept_alloc HX.out.two.2 o) 4 rfl; have m5 := fun o => cell6 (kept_alloc HX.out.two.2 o) 5 rfl; have m6 := fun o => cell6 (kept_alloc HX.out.two.2 o) 6 rfl; have m7 := fun o => cell6 (kept_alloc HX.out.two.2 o) 7 rfl; have m8 := fun o => cell6 (kept_alloc HX.out.two.2 o) 8 rfl; skip)
              | (go_at_call 27; (with_reducible refine (HK.out _ (ExL.below (lbox _ _) HX.out.ex)).mono ?_); rintro e w9 ⟨rfl, hb⟩; have HZ := Lib.hid (on7 (on7 HX.out.below (lbox _ _)) hb); clear hb))
            go_ret
            exact ⟨by cases hv <;> rfl, HZ.out⟩
        · have q6 : (x.op != 6) = true := bne_iff_ne.2 h6
          clear h6
          go_wp2_with (first
            | (go_at_call 27; have _t := tok3; clear tok3; (with_reducible refine (HT3.out _ _ _ HB6.out.2.2.1).mono ?_); rintro e w7 ⟨rfl, hb⟩; have HB7 := Lib.hid (And.intro (TuAt.up HB6.out.1 hb) (ExL.below hb HB6.out.2.2.2.2)); have hk5 := keep7 HB6.out.2.2.2.1 hb; clear hb; obtain ⟨y0, y1, y2, y3, y4, y5, y6, y7, y8⟩ := two_d HB7.out.1.two; have f0 := cell6 hk5 0 rfl; have f1 := cell6 hk5 1 rfl; have f2 := cell6 hk5 2 rfl; have f3 := cell6 hk5 3 rfl; have f4 := cell6 hk5 4 rfl; have f5 := cell6 hk5 5 rfl; clear hk5)
            | (go_at_call 27; have _t := tok4; clear tok4; (with_reducible refine (HO3.out _ _ _ HB7.out.2).mono ?_); rintro e w8 ⟨rfl, hb⟩; have HX := Lib.hid (TuAt.up HB7.out.1 hb); clear hb; obtain ⟨d0, d1, d2, d3, d4, d5⟩ := two_x HX.out.two; obtain ⟨e0, e1, e2, e3, e4, e5, e6, e7, e8⟩ := two_d HX.out.two; have k4 := fun o => cell6 (kept_alloc HX.out.two.1 o) 4 rfl; have m0 := fun o => cell6 (kept_alloc HX.out.two.2 o) 0 rfl; have m1 := fun o => cell6 (kept_alloc HX.out.two.2 o) 1 rfl; have m2 := fun o => cell6 (kept_alloc HX.out.two.2 o) 2 rfl; have m3 := fun o => cell6 (kept_alloc HX.out.two.2 o) 3 rfl; have m4 := fun o => cell6 (kept_alloc HX.out.two.2 o) 4 rfl; have m5 := fun o => cell6 (kept_alloc HX.out.two.2 o) 5 rfl; have m6 := fun o => cell6 (kept_alloc HX.out.two.2 o) 6 rfl; have m7 := fun o => cell6 (kept_alloc HX.out.two.2 o) 7 rfl; have m8 := fun o => cell6 (kept_alloc HX.out.two.2 o) 8 rfl; skip))
          go_ret
          exact ⟨rfl, HX.out.below⟩
      · have qt : (et == 0) = false := beq_false_of_ne het
        clear het
        have HX := Lib.hid HB6.out.1
        obtain ⟨z0, z1, z2, z3, z4, z5, z6, z7, z8⟩ := two_d HX.out.two
        have k4 := fun o => cell6 (kept_alloc HX.out.two.1 o) 4 rfl
        have m0 := fun o => cell6 (kept_alloc HX.out.two.2 o) 0 rfl
        have m1 := fun o => cell6 (kept_alloc HX.out.two.2 o) 1 rfl
        have m2 := fun o => cell6 (kept_alloc HX.out.two.2 o) 2 rfl
        have m3 := fun o => cell6 (kept_alloc HX.out.two.2 o) 3 rfl
        have m4 := fun o => cell6 (kept_alloc HX.out.two.2 o) 4 rfl
        have m5 := fun o => cell6 (kept_alloc HX.out.two.2 o) 5 rfl
        have m6 := fun o => cell6 (kept_alloc HX.out.two.2 o) 6 rfl
        have m7 := fun o => cell6 (kept_alloc HX.out.two.2 o) 7 rfl
        have m8 := fun o => cell6 (kept_alloc HX.out.two.2 o) 8 rfl
        by_cases h6 : x.op = 6
        · have q6 : (x.op != 6) = false := by rw [h6]; rfl
          have hrel := (flip_ok7 hee h6).2
          have HF7 := Lib.hid (fun k hk V hx => held_flip7 (d := d) (A := A) (cap := cap) hee h6 k hk V hx)
          rw [hvd] at HF7
          have : x.rel = 1 ∨ x.rel = 2 ∨ x.rel = 3 ∨ x.rel = 4 ∨ x.rel = 5 ∨ x.rel = 6 := by omega
          clear h6 hrel
          rcases this with hr | hr | hr | hr | hr | hr
          · have HK := Lib.hid (HF7.out 2 (by rw [hr]; rfl))
            have g0 : (x.rel == 1) = true := by rw [hr]; rfl
            clear HF7 hr
            go_wp2_with (go_at_call 27; (with_reducible refine (HK.out _ (ExL.below (lbox _ _) HX.out.ex)).mono ?_); rintro e w9 ⟨rfl, hb⟩; have HZ := Lib.hid (on7 (on7 HX.out.below (lbox _ _)) hb); clear hb)
            go_ret
            exact ⟨by cases hv <;> rfl, HZ.out⟩
          · have HK := Lib.hid (HF7.out 1 (by rw [hr]; rfl))
            have g0 : (x.rel == 1) = false := by rw [hr]; rfl
            have g1 : (x.rel == 2) = true := by rw [hr]; rfl
            clear HF7 hr
            go_wp2_with (go_at_call 27; (with_reducible refine (HK.out _ (ExL.below (lbox _ _) HX.out.ex)).mono ?_); rintro e w9 ⟨rfl, hb⟩; have HZ := Lib.hid (on7 (on7 HX.out.below (lbox _ _)) hb); clear hb)
            go_ret
            exact ⟨by cases hv <;> rfl, HZ.out⟩
          · have HK := Lib.hid (HF7.out 6 (by rw [hr]; rfl))
            have g0 : (x.rel == 1) = false := by rw [hr]; rfl
            have g1 : (x.rel == 2) = false := by rw [hr]; rfl
            have g2 : (x.rel == 3) = true := by rw [hr]; rfl
            clear HF7 hr
            go_wp2_with (go_at_call 27; (with_reducible refine (HK.out _ (ExL.below (lbox _ _) HX.out.ex)).mono ?_); rintro e w9 ⟨rfl, hb⟩; have HZ := Lib.hid (on7 (on7 HX.out.below (lbox _ _)) hb); clear hb)
            go_ret
            exact ⟨by cases hv <;> rfl, HZ.out⟩
          · have HK := Lib.hid (HF7.out 5 (by rw [hr]; rfl))
            have g0 : (x.rel == 1) = false := by rw [hr]; rfl
            have g1 : (x.rel == 2) = false := by rw [hr]; rfl
            have g2 : (x.rel == 3) = false := by rw [hr]; rfl
            have g3 : (x.rel == 6) = false := by rw [hr]; rfl
            have g4 : (x.rel == 5) = false := by rw [hr]; rfl
            clear HF7 hr
            go_wp2_with (go_at_call 27; (with_reducible refine (HK.out _ (ExL.below (lbox _ _) HX.out.ex)).mono ?_); rintro e w9 ⟨rfl, hb⟩; have HZ := Lib.hid (on7 (on7 HX.out.below (lbox _ _)) hb); clear hb)
            go_ret
            exact ⟨by cases hv <;> rfl, HZ.out⟩
          · have HK := Lib.hid (HF7.out 4 (by rw [hr]; rfl))
            have g0 : (x.rel == 1) = false := by rw [hr]; rfl
            have g1 : (x.rel == 2) = false := by rw [hr]; rfl
            have g2 : (x.rel == 3) = false := by rw [hr]; rfl
            have g3 : (x.rel == 6) = false := by rw [hr]; rfl
            have g4 : (x.rel == 5) = true := by rw [hr]; rfl
            clear HF7 hr
            go_wp2_with (go_at_call 27; (with_reducible refine (HK.out _ (ExL.below (lbox _ _) HX.out.ex)).mono ?_); rintro e w9 ⟨rfl, hb⟩; have HZ := Lib.hid (on7 (on7 HX.out.below (lbox _ _)) hb); clear hb)
            go_ret
            exact ⟨by cases hv <;> rfl, HZ.out⟩
          · have HK := Lib.hid (HF7.out 3 (by rw [hr]; rfl))
            have g0 : (x.rel == 1) = false := by rw [hr]; rfl
            have g1 : (x.rel == 2) = false := by rw [hr]; rfl
            have g2 : (x.rel == 3) = false := by rw [hr]; rfl
            have g3 : (x.rel == 6) = true := by rw [hr]; rfl
            clear HF7 hr
            go_wp2_with (go_at_call 27; (with_reducible refine (HK.out _ (ExL.below (lbox _ _) HX.out.ex)).mono ?_); rintro e w9 ⟨rfl, hb⟩; have HZ := Lib.hid (on7 (on7 HX.out.below (lbox _ _)) hb); clear hb)
            go_ret
            exact ⟨by cases hv <;> rfl, HZ.out⟩
        · have q6 : (x.op != 6) = true := bne_iff_ne.2 h6
          clear h6
          go_wp2
          go_ret
          exact ⟨rfl, HX.out.below⟩
  · have q0 : (exF 0 x != 0) = true := bne_iff_ne.2 hee
    have hf : heldF d x = false := by unfold heldF; rw [if_neg hee]
    rw [hf] at hH
    have HH := Lib.hid hH
    clear hf hee hH
    go_enter Tryd.func8, Tryd.ntmps8
    go_wp2_with (first
      | (go_at_call 10; (with_reducible refine (HL.out _ HB.out.tab).mono ?_); rintro e w1 ⟨rfl, hb⟩; have HB1 := Lib.hid (HB.out.up hb); clear hb; obtain ⟨x0, x1, x2, x3, x4, x5⟩ := two_x HB1.out.two)
      | (go_at_call 15; (with_reducible refine (HE.out _ HB1.out.ex).mono ?_); rintro e w2 ⟨rfl, hb⟩; have HB2 := Lib.hid (HB1.out.up hb); clear hb; obtain ⟨y0, y1, y2, y3, y4, y5⟩ := two_x HB2.out.two; obtain ⟨z0, z1, z2, z3, z4, z5, z6, z7, z8⟩ := two_d HB2.out.two)
      | (go_at_call 27; (with_reducible refine (HH.out _ HB2.out.ex).mono ?_); rintro e w3 ⟨rfl, hb⟩; have HB3 := Lib.hid (HB2.out.up hb); clear hb))
    go_ret
    exact ⟨rfl, HB3.out.below⟩

/-! ### The row's step, the statement, and the card -/
theorem door_met (os : Os) (args : Array Value) : laidMetH Tryd.prog [("ravelin/secdata.rows", Rows.laid_ravelin_secdata_rows)] ((World.doorLaid Tryd.prog 400 os).forCall (fun _ _ => 0) ⟨#[], args, []⟩).memory :=
  laidMetH_of_parts3 (fuel := 8) (laidMet_of_run' 8 (by kernel_rfl) (by kernel_rfl)) (by kernel_rfl) (by kernel_rfl)

set_option maxRecDepth 100000 in
theorem lifted (os : Os) (started : os.Started) (H : Type) (enc : TypeId × Value → H) :
    ReturnsInHanded {} Tryd.checked os 8 .any (fun w args => (Rows.semTurnedSpec.pre enc Tryd.prog Tryd.f8 [] false w args ∧ laidMetH Tryd.prog [("ravelin/secdata.rows", Rows.laid_ravelin_secdata_rows)] w) ∧ sizedMet enc Tryd.prog Tryd.f8 (OpenSpec.ofChange Rows.semTurnedSpec) false w args)
      (Rows.semTurnedSpec.post enc Tryd.prog Tryd.f8 false true false false) := by
  refine returnsInHanded_of_change_and (C := Tryd.checked) (X := fun w _ => laidMetH Tryd.prog [("ravelin/secdata.rows", Rows.laid_ravelin_secdata_rows)] w) (fun _ _ _ hh h => h.of_heap hh) own started (by kernel_rfl) Tryd.func8
    (ChangeSpec.witness_shaped (enc := enc) (C := Tryd.checked) (os := os) (X := fun w _ => laidMetH Tryd.prog [("ravelin/secdata.rows", Rows.laid_ravelin_secdata_rows)] w) false (World.doorLaid Tryd.prog 400 os) #[.agg #[.int .i64 0, .slice none 0 0, .int .i64 0, .int .u64 0, .int .i64 0, .int .u64 0], .agg #[.int .u32 0, .int .u32 0, .int .u64 0, .int .u64 0, .int .u64 0, .int .u64 0, .int .u64 0, .int .u64 0, .int .u64 0]] 8 rfl (World.shaped_of_RefB (by kernel_rfl) (by kernel_rfl)) (by kernel_rfl) (by kernel_rfl) (by kernel_rfl) (door_met os _)) ?_
  intro W base args ds gs before hval0 hW _ _ hL _
  have hval : ∀ (j : Nat) t v, Tryd.f8.params[j]? = some t → args[j]? = some v → Value.okWide Tryd.prog W .any base t v := hval0
  have hW' := hW
  obtain ⟨p, q, hA0, hV, rfl, hfz, hnd⟩ := hW
  have hA : DataW.TrodAll enc Tryd.prog W 0 (fun _ => true) true Tryd.f8.params.toList args.toList ds p := hA0
  rw [Tryd.params8] at hA hval
  obtain ⟨v0, vs0, d0, ds0, p0, q0, hargs, rfl, rfl, h0, r0⟩ := trodAll_cons hA
  obtain ⟨v1, vs1, d1, ds1, p1, q1, rfl, rfl, rfl, h1, r1⟩ := trodAll_cons r0
  obtain ⟨rfl, rfl, rfl⟩ := trodAll_nil r1
  obtain rfl : args = #[v0, v1] := by cases args; simp_all
  obtain ⟨rfl, rfl⟩ := trodVars_none hV
  have k0 := h0
  have lt0 : ∀ x ∈ p0, x.block < W.heap.size := by obtain ⟨m, hm⟩ := k0; exact DataW.trod_lt m _ _ _ hm
  obtain ⟨q0, a0, cap0, rfl, w0, ww0⟩ := open_expr (hval 0 48 v0 rfl rfl) h0
  have k1 := h1
  have lt1 : ∀ x ∈ p1, x.block < W.heap.size := by obtain ⟨m, hm⟩ := k1; exact DataW.trod_lt m _ _ _ hm
  obtain ⟨q1, rfl, w1⟩ := open_dat (hval 1 34 v1 rfl rfl) h1
  clear hA0 hval0
  refine (walk q0 a0 cap0 q1 W w0 ww0 w1 (tab_of_laid hL)).mono fun e W' ⟨he, bel⟩ => ?_
  subst he
  exact ⟨_, rfl, _, _, _, [], _, [], hW', trodAll_mk1 (shut_bool Tryd.underlying4 _), (trodAll_cons_mk (Below.trod laidOut (by kernel_rfl) (of_decide_eq_true (by kernel_rfl)) k0 bel lt0) (trodAll_cons_mk (Below.trod laidOut (by kernel_rfl) (of_decide_eq_true (by kernel_rfl)) k1 bel lt1) trodAll_mk0)), rfl, bel.frame _, fun h => by cases h⟩

theorem over : Rows.semTurnedRow.holds Tryd.pinned (OpenSpec.ofChange Rows.semTurnedSpec) :=
  OpenClaim.holds_of_wide 8 Tryd.f8 rfl rfl rfl rfl rfl rfl rfl ⟨rfl, rfl, rfl, rfl, rfl⟩ rfl rfl rfl rfl rfl (by kernel_rfl) Tryd.func8 (by kernel_rfl)
    (of_decide_eq_true (by kernel_rfl)) (by unfold Func.isWrapper; first | (rw [if_pos (by decide +kernel)]; kernel_rfl) | (rw [if_neg (by decide +kernel)]; exact ⟨rfl, rfl⟩))
    (fun os started H enc _ => lifted os started H enc)

/-- The statement: the row's card, what it lists tied to the program's text. -/
theorem proved : Rows.SemTurnedCardSaid :=
  Claim7.holds_tied_plain_at .later [] [.data] true Rows.semTurnedCard.stood.harness Rows.semTurnedCard.stood.looks
    over (fun _ h => by cases h) (by kernel_rfl) (fun _ h => by cases h) semTurned_row_tie rfl ⟨rfl, rfl⟩ (by kernel_rfl) rfl
    (fun f fn hf hfn => by
      obtain rfl : f = 8 := Option.some.inj ((show Tryd.prog.funcNamed "ravelin/ravelinlaw07.SemTurned" = some 8 by kernel_rfl).symm.trans hf) |>.symm
      obtain rfl : fn = Tryd.f8 := (Option.some.inj (Tryd.func8.symm.trans hfn)).symm
      exact ⟨by kernel_rfl, fun j t ht => by
        have hm : t ∈ Tryd.f8.params.toList := by
          have := Array.mem_of_getElem? ht
          simpa using this
        have hall : (Tryd.f8.params.toList.all fun u => !Tryd.prog.wantsStandIn u) = true := by kernel_rfl
        exact (show Tryd.prog.wantsStandIn t = false by simpa using List.all_eq_true.1 hall t hm)⟩)
    (by kernel_rfl)
end Go.Proofs.YthdmlbgejbpalaaDoor.semTurned
