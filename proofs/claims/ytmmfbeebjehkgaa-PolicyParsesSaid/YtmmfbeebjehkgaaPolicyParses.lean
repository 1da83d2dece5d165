/-
  'PolicyParses': for every text, the law of layer 6 that what is read of a policy and of an expression, the error and its place are the document's returns true, and leaves memory as it was. No condition.
-/
import Derived.Test.YtmmfbeebjehkgaaPolDPolF
import Derived.ChangeMaps5
namespace Go.Proofs.Ytmmfbeebjehkgaa.policyParses
open Go Go.ChangeShapes Go.WideShapes Go.ChangeAt Go.RowKit
set_option linter.unusedSimpArgs false
set_option linter.unusedVariables false

abbrev poB (p : Po) (A : Option Addr) (n c : Nat) : Obj := .cells #[.string p.arch, .int .i64 p.foreign_.1, .int .u64 (p.foreign_.2 : Int), .int .i64 p.default_.1, .int .u64 (p.default_.2 : Int), .slice A n c] 29
theorem kept_below {B : Nat} {W W' : World} {i : Nat} {o : Obj} (h : W.heap[i]? = some o) (hb : Below W.heap.size W W') : W'.heap[i]? = some o :=
  (hb.block i (Array.getElem?_eq_some_iff.1 h).1).trans h
theorem up {w W W' : World} (h : Below w.heap.size w W) (hb : Below W.heap.size W W') : Below w.heap.size w W' := h.trans (hb.mono h.size)
set_option maxRecDepth 100000 in
set_option maxHeartbeats 8000000 in
theorem walk (s0 : ByteArray) (w : World) (w0 : s0.size ≤ maxLen) :
    Calls Try.prog 3 #[.string s0] w fun e w' => e = .returned (.bool true) ∧ Below w.heap.size w w' := by
  have HL := Lib.hid (fun W => lives_is6 W)
  have h1 := fun W => u_po (p_Parse s0 W)
  have h2 := fun W => u_po (rd6_Parse s0 W w0)
  have h3 := fun W => u_ex (p_ParseExpr s0 W)
  have h4 := fun W => u_ex (rd6_ParseExpr s0 W w0)
  have hp := sm_resPo s0
  have hx := sm_resEx s0
  generalize resPo (policyF s0) = g at h1 h2 hp
  generalize resEx (exprF s0) = k at h3 h4 hx
  obtain ⟨p, er, pl⟩ := g
  obtain ⟨x, ex, px⟩ := k
  simp only at h1 h2 h3 h4 hp hx
  have HS := Lib.hid (fun (W : World) (lo lo' : Nat) (R R' : Value) h h' => ref_Same p hp lo lo' R R' W h h')
  have HX := Lib.hid (fun (W : World) (A : Option Addr) (c : Nat) (A' : Option Addr) (c' : Nat) (F F' : Nat → Prop) h h' => ref_SameExpr (A := A) (cap := c) (A' := A') (cap' := c') (F := F) (F' := F') (W := W) hx h h')
  have H1 := Lib.hid h1
  have H2 := Lib.hid h2
  have H3 := Lib.hid h3
  have H4 := Lib.hid h4
  clear h1 h2 h3 h4 hp hx
  go_enter Try.func3, Try.ntmps3
  go_wp2_with (first
    | (go_at_call 5; (with_reducible refine (HL.out _).mono ?_); rintro e wa ⟨rfl, hb⟩; have K0 := Lib.hid hb; clear hb)
    | (go_at_call 6; (with_reducible refine (H1.out _).mono ?_); rintro e w1 ⟨R1, rfl, hr, hb⟩; obtain ⟨A1, n1, c1, rfl⟩ := rules_form hr; have K1 := Lib.hid (show RulesP wa.heap.size p.rules (.slice A1 n1 c1) (w1.alloc (poB p A1 n1 c1)) ∧ (w1.alloc (poB p A1 n1 c1)).heap[w1.heap.size]? = some (poB p A1 n1 c1) ∧ Below w.heap.size w (w1.alloc (poB p A1 n1 c1)) from ⟨rules_below hr (lbox _ _), World.alloc_heap_new _ _, up (up K0.out hb) (lbox _ _)⟩); clear hr hb K0)
    | (go_at_call 7; (with_reducible refine (H2.out _).mono ?_); rintro e w2 ⟨R2, rfl, hr, hb⟩; obtain ⟨A2, n2, c2, rfl⟩ := rules_form hr; have K2 := Lib.hid (show (RulesP wa.heap.size p.rules (.slice A1 n1 c1) (w2.alloc (poB p A2 n2 c2)) ∧ (w2.alloc (poB p A2 n2 c2)).heap[w1.heap.size]? = some (poB p A1 n1 c1)) ∧ (RulesP (w1.alloc (poB p A1 n1 c1)).heap.size p.rules (.slice A2 n2 c2) (w2.alloc (poB p A2 n2 c2)) ∧ (w2.alloc (poB p A2 n2 c2)).heap[w2.heap.size]? = some (poB p A2 n2 c2)) ∧ Below w.heap.size w (w2.alloc (poB p A2 n2 c2)) from ⟨⟨rules_below (rules_below K1.out.1 hb) (lbox _ _), kept_alloc (kept_below (B := 0) K1.out.2.1 hb) _⟩, ⟨rules_below hr (lbox _ _), World.alloc_heap_new _ _⟩, up (up K1.out.2.2 hb) (lbox _ _)⟩); clear hr hb K1)
    | (go_at_call 8; (with_reducible refine (H3.out _).mono ?_); rintro e w3 ⟨A3, c3, rfl, hr, hb⟩; have K3 := Lib.hid (show (RulesP wa.heap.size p.rules (.slice A1 n1 c1) (w3.alloc (exCell x A3 c3)) ∧ (w3.alloc (exCell x A3 c3)).heap[w1.heap.size]? = some (poB p A1 n1 c1)) ∧ (RulesP (w1.alloc (poB p A1 n1 c1)).heap.size p.rules (.slice A2 n2 c2) (w3.alloc (exCell x A3 c3)) ∧ (w3.alloc (exCell x A3 c3)).heap[w2.heap.size]? = some (poB p A2 n2 c2)) ∧ (ExIn (w3.alloc (exCell x A3 c3)) (fun k => (w2.alloc (poB p A2 n2 c2)).heap.size ≤ k) x A3 c3 ∧ (w3.alloc (exCell x A3 c3)).heap[w3.heap.size]? = some (exCell x A3 c3)) ∧ Below w.heap.size w (w3.alloc (exCell x A3 c3)) from ⟨⟨rules_below (rules_below K2.out.1.1 hb) (lbox _ _), kept_alloc (kept_below (B := 0) K2.out.1.2 hb) _⟩, ⟨rules_below (rules_below K2.out.2.1.1 hb) (lbox _ _), kept_alloc (kept_below (B := 0) K2.out.2.1.2 hb) _⟩, ⟨ex_below hr (lbox _ _), World.alloc_heap_new _ _⟩, up (up K2.out.2.2 hb) (lbox _ _)⟩); clear hr hb K2)
    | (go_at_call 9; (with_reducible refine (H4.out _).mono ?_); rintro e w4 ⟨A4, c4, rfl, hr, hb⟩; have K4 := Lib.hid (show (RulesP wa.heap.size p.rules (.slice A1 n1 c1) (w4.alloc (exCell x A4 c4)) ∧ (w4.alloc (exCell x A4 c4)).heap[w1.heap.size]? = some (poB p A1 n1 c1)) ∧ (RulesP (w1.alloc (poB p A1 n1 c1)).heap.size p.rules (.slice A2 n2 c2) (w4.alloc (exCell x A4 c4)) ∧ (w4.alloc (exCell x A4 c4)).heap[w2.heap.size]? = some (poB p A2 n2 c2)) ∧ (ExIn (w4.alloc (exCell x A4 c4)) (fun k => (w2.alloc (poB p A2 n2 c2)).heap.size ≤ k) x A3 c3 ∧ (w4.alloc (exCell x A4 c4)).heap[w3.heap.size]? = some (exCell x A3 c3)) ∧ (ExIn (w4.alloc (exCell x A4 c4)) (fun k => (w3.alloc (exCell x A3 c3)).heap.size ≤ k) x A4 c4 ∧ (w4.alloc (exCell x A4 c4)).heap[w4.heap.size]? = some (exCell x A4 c4)) ∧ Below w.heap.size w (w4.alloc (exCell x A4 c4)) from ⟨⟨rules_below (rules_below K3.out.1.1 hb) (lbox _ _), kept_alloc (kept_below (B := 0) K3.out.1.2 hb) _⟩, ⟨rules_below (rules_below K3.out.2.1.1 hb) (lbox _ _), kept_alloc (kept_below (B := 0) K3.out.2.1.2 hb) _⟩, ⟨ex_below (ex_below K3.out.2.2.1.1 hb) (lbox _ _), kept_alloc (kept_below (B := 0) K3.out.2.2.1.2 hb) _⟩, ⟨ex_below hr (lbox _ _), World.alloc_heap_new _ _⟩, up (up K3.out.2.2.2 hb) (lbox _ _)⟩); have b1 := K4.out.1.2; have b2 := K4.out.2.1.2; have p0 := cell6 b1 0 rfl; have p1 := cell6 b1 1 rfl; have p2 := cell6 b1 2 rfl; have p3 := cell6 b1 3 rfl; have p4 := cell6 b1 4 rfl; have p5 := cell6 b1 5 rfl; have r0 := cell6 b2 0 rfl; have r1 := cell6 b2 1 rfl; have r2 := cell6 b2 2 rfl; have r3 := cell6 b2 3 rfl; have r4 := cell6 b2 4 rfl; have r5 := cell6 b2 5 rfl; clear hr hb K3 b1 b2)
    | (go_at_call 10; (with_reducible refine (HS.out _ _ _ _ _ K4.out.1.1 K4.out.2.1.1).mono ?_); rintro e w5 ⟨rfl, hb⟩; have K5 := Lib.hid (show ExIn w5 (fun k => (w2.alloc (poB p A2 n2 c2)).heap.size ≤ k) x A3 c3 ∧ ExIn w5 (fun k => (w3.alloc (exCell x A3 c3)).heap.size ≤ k) x A4 c4 ∧ Below w.heap.size w w5 from ⟨ex_below K4.out.2.2.1.1 hb, ex_below K4.out.2.2.2.1.1 hb, up K4.out.2.2.2.2 hb⟩); have b3 := kept_below (B := 0) K4.out.2.2.1.2 hb; have b4 := kept_below (B := 0) K4.out.2.2.2.1.2 hb; have p0 := cell6 b3 0 rfl; have p1 := cell6 b3 1 rfl; have p2 := cell6 b3 2 rfl; have p3 := cell6 b3 3 rfl; have p4 := cell6 b3 4 rfl; have p5 := cell6 b3 5 rfl; have r0 := cell6 b4 0 rfl; have r1 := cell6 b4 1 rfl; have r2 := cell6 b4 2 rfl; have r3 := cell6 b4 3 rfl; have r4 := cell6 b4 4 rfl; have r5 := cell6 b4 5 rfl; clear hb b3 b4 K4)
    | (go_at_call 11; (with_reducible refine (HX.out _ _ _ _ _ _ _ K5.out.1 K5.out.2.1).mono ?_); rintro e w6 ⟨rfl, hb⟩; have K6 := Lib.hid (up K5.out.2.2 hb); clear hb K5))
  go_ret
  exact ⟨rfl, K6.out⟩

/-! ### The row's step and the statement -/
set_option maxRecDepth 100000 in
theorem lifted (os : Os) (started : os.Started) (H : Type) (enc : TypeId × Value → H) :
    ReturnsInHanded {} Try.checked os 3 .any (Rows.policyParsesSpec.pre6 enc Try.prog Try.f3 Rows.policyParsesRow.domain false) (Rows.policyParsesSpec.post enc Try.prog Try.f3 false true false false) := by
  refine returnsInHanded_of_change (C := Try.checked) own started (by kernel_rfl) Try.func3
    (ChangeSpec.witness6 (enc := enc) (C := Try.checked) false ⟨#[], #[.string ⟨#[]⟩], []⟩ 8 (by kernel_rfl) (by kernel_rfl) (by kernel_rfl) (by kernel_rfl)) ?_
  intro W base args ds gs before hval0 hW hcnd _
  have hval : ∀ (j : Nat) t v, Try.f3.params[j]? = some t → args[j]? = some v → Value.okWide Try.prog W .any base t v := hval0
  have hW' := hW
  obtain ⟨p, q, hA0, hV, rfl, hfz, hnd⟩ := hW
  have hA : DataW.TrodAll enc Try.prog W 0 (fun _ => true) true Try.f3.params.toList args.toList ds p := hA0
  rw [Try.params3] at hA hval
  obtain ⟨v0, vs0, d0, ds0, p0, q0, hargs, rfl, rfl, h0, r0⟩ := trodAll_cons hA
  obtain ⟨rfl, rfl, rfl⟩ := trodAll_nil r0
  obtain rfl : args = #[v0] := by cases args; simp_all
  obtain ⟨rfl, rfl⟩ := trodVars_none hV
  obtain ⟨s0, rfl, rfl, rfl, w0⟩ := Go.ChangeMaps.open_string Try.underlying9 (hval 0 9 v0 rfl rfl) h0
  clear hA0 hval0
  refine (walk s0 W w0).mono fun e W' ⟨he, bel⟩ => ?_
  subst he
  exact ⟨_, rfl, _, _, _, [], _, [], hW', trodAll_mk1 (shut_bool Try.underlying4 _), (trodAll_cons_mk (Go.ChangeMaps.shut_string Try.underlying9 w0) trodAll_mk0), rfl, bel.frame _, fun h => by cases h⟩

theorem over : Rows.policyParsesRow.holds Try.pinned (OpenSpec.ofChange Rows.policyParsesSpec) :=
  OpenClaim.holds_of_wide 3 Try.f3 rfl rfl rfl rfl rfl rfl rfl ⟨rfl, rfl, rfl, rfl, rfl⟩ rfl rfl rfl rfl rfl (by kernel_rfl) Try.func3 (by kernel_rfl)
    (of_decide_eq_true (by kernel_rfl)) (by unfold Func.isWrapper; first | (rw [if_pos (by decide +kernel)]; kernel_rfl) | (rw [if_neg (by decide +kernel)]; exact ⟨rfl, rfl⟩))
    (fun os started H enc _ => lifted os started H enc)

/-- The statement. -/
theorem proved : Rows.PolicyParsesSaid := over
end Go.Proofs.Ytmmfbeebjehkgaa.policyParses
