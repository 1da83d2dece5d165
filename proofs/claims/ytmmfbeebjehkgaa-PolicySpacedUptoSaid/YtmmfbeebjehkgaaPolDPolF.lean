/-
  The document's Parse tells what the grammar tells; Same over what is read; the statements' question whether the program is there. Conditions: the text's length.
-/
import Derived.Test.YtmmfbeebjehkgaaPolSame
import Derived.Test.YtmmfbeebjehkgaaPPolWhole
import Derived.Laws.StructEq
import Derived.Test.YtmmfbeebjehkgaaPPolParse
import Derived.Test.YtmmfbeebjehkgaaPolPure
import Derived.Test.YtmmfbeebjehkgaaPolDPol
import Derived.Test.YtmmfbeebjehkgaaPolDExprF
namespace Go.Proofs.Ytmmfbeebjehkgaa
open Go Go.RowKit
set_option linter.unusedSimpArgs false
set_option linter.unusedVariables false

theorem ref_SameExpr {x : Ex} (hsm : SmEx x) {A : Option Addr} {cap : Nat} {A' : Option Addr} {cap' : Nat} {F F' : Nat → Prop} {W : World} (h : ExIn W F x A cap) (h' : ExIn W F' x A' cap') :
    Calls Try.prog 11 #[exV x A cap, exV x A' cap'] W fun e w' => e = .returned (.bool true) ∧ Below W.heap.size W w' :=
  ref_SameN _ x (Nat.lt_succ_self _) hsm A cap A' cap' F F' W h h'
def zeroRu : Ru := ⟨[], .zero, (0, 0)⟩
theorem rurow_at {w : World} {F : Nat → Prop} {tb : Nat} : ∀ {l : List Ru} {o : Nat} (k : Nat), k < l.length → RuRow w F l tb o → ∃ t c A cap, RuIn w F (l.getD k zeroRu) t A cap ∧ ∀ j u, (ruC (l.getD k zeroRu) t c A cap)[j]? = some u → w.cell? ⟨tb, o + k * 9 + j, none⟩ = some u
  | [], _, k, hk, _ => by simp at hk
  | e :: l, o, 0, _, h => by
    obtain ⟨t, c, A, cap, h1, h2⟩ := h.1
    exact ⟨t, c, A, cap, h1, by simpa using h2⟩
  | e :: l, o, k + 1, hk, h => by
    obtain ⟨t, c, A, cap, h1, h2⟩ := rurow_at (o := o + 9) k (by simpa using hk) h.2
    exact ⟨t, c, A, cap, h1, fun j u hj => by have := h2 j u hj; rw [show o + 9 + k * 9 + j = o + (k + 1) * 9 + j by omega] at this; exact this⟩
/-- Rules as a slice: each of them. -/
theorem rules_each {lo : Nat} {l : List Ru} {v : Value} {W : World} (h : RulesP lo l v W) : ∃ A c, v = .slice A l.length c ∧ ∀ k, k < l.length → ∃ tb, A = some ⟨tb, 0, none⟩ ∧ tb < W.heap.size ∧ ∃ t c A cap, RuIn W (fun k => lo ≤ k) (l.getD k zeroRu) t A cap ∧ ∀ j u, (ruC (l.getD k zeroRu) t c A cap)[j]? = some u → W.cell? ⟨tb, k * 9 + j, none⟩ = some u := by
  rcases h with ⟨rfl, rfl⟩ | ⟨tb, cap, rfl, h2, h3, h4⟩
  · exact ⟨none, 0, rfl, fun k hk => by simp at hk⟩
  · refine ⟨_, cap, rfl, fun k hk => ⟨tb, rfl, h3, ?_⟩⟩
    obtain ⟨t, c, A, cap, g1, g2⟩ := rurow_at k hk h4
    exact ⟨t, c, A, cap, g1, fun j u hj => by have := g2 j u hj; rw [Nat.zero_add] at this; exact this⟩
theorem callsC_at : ∀ (l : List (ByteArray × Nat)) (k : Nat), k < l.length → (callsC l)[k * 2]? = some (.string (l.getD k (⟨#[]⟩, 0)).1) ∧ (callsC l)[k * 2 + 1]? = some (.int .u64 ((l.getD k (⟨#[]⟩, 0)).2 : Int))
  | [], k, hk => by simp at hk
  | x :: l, 0, _ => ⟨rfl, rfl⟩
  | x :: l, k + 1, hk => by
    have := callsC_at l k (by simpa using hk)
    rw [show (k + 1) * 2 = k * 2 + 1 + 1 by omega, show k * 2 + 1 + 1 + 1 = k * 2 + 1 + 1 + 1 from rfl]
    exact this
abbrev poCell (p : Po) (R : Value) : Obj := .cells #[.string p.arch, .int .i64 p.foreign_.1, .int .u64 (p.foreign_.2 : Int), .int .i64 p.default_.1, .int .u64 (p.default_.2 : Int), R] 29
theorem rules_below {lo : Nat} {l : List Ru} {v : Value} {W W' : World} (h : RulesP lo l v W) (hb : Below W.heap.size W W') : RulesP lo l v W' := rules_keep h hb.size (Nat.le_refl _) (fun k _ hk => hb.block k hk)
theorem ru_below {w w' : World} {F : Nat → Prop} {r : Ru} {t : Nat} {A : Option Addr} {cap : Nat} (h : RuIn w F r t A cap) (hb : Below w.heap.size w w') : RuIn w' F r t A cap := h.keep hb.size (fun _ hk => hk) (fun k _ hk => hb.block k hk)
theorem eq_verd (a : Int) (b : Int) (w : World) : (Op.equalIn 10000 26 (.agg #[.int .i64 a, .int .u64 b]) (.agg #[.int .i64 a, .int .u64 b])).run Try.prog w = .ok true w := by
  rw [show (10000 : Nat) = 9999 + 1 from rfl, run_equalIn_agg w 9999 26 _ _ (by kernel_rfl) (by kernel_rfl)]
  simp only [Program.fieldsOf, Try.underlying26]
  go_simp
theorem neq_verd (a : Int) (b : Int) (w : World) : (binOp BinOp.neq 26 (.agg #[.int .i64 a, .int .u64 b]) (.agg #[.int .i64 a, .int .u64 b])).run Try.prog w = .ok (.bool false) w := by
  rw [run_neq_struct, eq_verd]; rfl
theorem eq_call (a : ByteArray) (b : Int) (w : World) : (Op.equalIn 10000 73 (.agg #[.string a, .int .u64 b]) (.agg #[.string a, .int .u64 b])).run Try.prog w = .ok true w := by
  rw [show (10000 : Nat) = 9999 + 1 from rfl, run_equalIn_agg w 9999 73 _ _ (by kernel_rfl) (by kernel_rfl)]
  simp only [Program.fieldsOf, Try.underlying73]
  go_simp
theorem neq_call (a : ByteArray) (b : Int) (w : World) : (binOp BinOp.neq 73 (.agg #[.string a, .int .u64 b]) (.agg #[.string a, .int .u64 b])).run Try.prog w = .ok (.bool false) w := by
  rw [run_neq_struct, eq_call]; rfl
set_option maxHeartbeats 8000000 in
set_option maxRecDepth 100000 in
theorem ref_Same (p : Po) (hsm : SmPo p) (lo lo' : Nat) (R R' : Value) (W : World) (h : RulesP lo p.rules R W) (h' : RulesP lo' p.rules R' W) :
    Calls Try.prog 10 #[poV p.arch p.foreign_.1 (p.foreign_.2 : Int) p.default_.1 (p.default_.2 : Int) R, poV p.arch p.foreign_.1 (p.foreign_.2 : Int) p.default_.1 (p.default_.2 : Int) R'] W fun e w' => e = .returned (.bool true) ∧ Below W.heap.size W w' := by
  obtain ⟨RA, rc, rfl, hE⟩ := rules_each h
  obtain ⟨RA', rc', rfl, hE'⟩ := rules_each h'
  have hneq : ∀ (a : Int) (b : Nat) (w : World), (binOp BinOp.neq 26 (.agg #[.int .i64 a, .int .u64 (b : Int)]) (.agg #[.int .i64 a, .int .u64 (b : Int)])).run Try.prog w = .ok (.bool false) w := fun a b w => neq_verd a b w
  have hb := (lbox W (poCell p (.slice RA p.rules.length rc))).trans ((lbox (W.alloc (poCell p (.slice RA p.rules.length rc))) (poCell p (.slice RA' p.rules.length rc'))).mono (by simp))
  have hB := Lib.hid hb
  have b0 : ((W.alloc (poCell p (.slice RA p.rules.length rc))).alloc (poCell p (.slice RA' p.rules.length rc'))).heap[W.heap.size]? = some (poCell p (.slice RA p.rules.length rc)) := (Below.heap_alloc _ _ _ (by simp)).trans (World.alloc_heap_new W _)
  have b1 := World.alloc_heap_new (W.alloc (poCell p (.slice RA p.rules.length rc))) (poCell p (.slice RA' p.rules.length rc'))
  rw [show (W.alloc (poCell p (.slice RA p.rules.length rc))).heap.size = W.heap.size + 1 by simp] at b1
  have hX := Lib.hid (And.intro b0 b1)
  have HE := Lib.hid (And.intro hE hE')
  have HSM := Lib.hid hsm
  have hlen := hsm.1
  clear hE hE' h h' hb b0 b1 hsm
  generalize hn : p.rules.length = n at hlen ⊢
  go_enter Try.func10, Try.ntmps10
  have HNN := Lib.hid hn
  clear hn
  go_wp2
  go_loopw [5] (fun i wr => ∃ k : Nat, k ≤ n ∧ i = .int .i64 (k : Int) ∧ Below (W.heap.size + 2) ((W.alloc (poCell p (.slice RA p.rules.length rc))).alloc (poCell p (.slice RA' p.rules.length rc'))) wr) (fun i _ => n - (intOf i).toNat)
  case atStart => exact ⟨0, by omega, rfl, by have := HNN.out; subst this; exact Below.refl _ _⟩
  case round =>
    obtain ⟨k, hk, rfl, hbw⟩ := hrel
    have s2 : ((W.alloc (poCell p (.slice RA p.rules.length rc))).alloc (poCell p (.slice RA' p.rules.length rc'))).heap.size = W.heap.size + 2 := by simp
    have f0 : wr.heap[W.heap.size]? = some (poCell p (.slice RA p.rules.length rc)) := (hbw.block W.heap.size (by omega)).trans hX.out.1
    have f1 : wr.heap[W.heap.size + 1]? = some (poCell p (.slice RA' p.rules.length rc')) := (hbw.block (W.heap.size + 1) (by omega)).trans hX.out.2
    have c0 : wr.cell? ⟨W.heap.size, 5, none⟩ = some (.slice RA n rc) := (cell6 f0 5 rfl).trans (by rw [← HNN.out]; rfl)
    have c1 : wr.cell? ⟨W.heap.size + 1, 5, none⟩ = some (.slice RA' n rc') := (cell6 f1 5 rfl).trans (by rw [← HNN.out]; rfl)
    have HBW := Lib.hid hbw
    by_cases hlt : k < n
    · have hlt' : (k : Int) < (n : Int) := by omega
      have hkx : k < p.rules.length := by rw [HNN.out]; exact hlt
      have hWb : Below W.heap.size W wr := hB.out.trans (hbw.mono (by omega))
      obtain ⟨tb, rfl, htl, t, c, A, cap, hr, hc⟩ := HE.out.1 k hkx
      obtain ⟨tb', rfl, htl', t', c', A', cap', hr', hc'⟩ := HE.out.2 k hkx
      have hrs : SmRu (p.rules.getD k zeroRu) := HSM.out.2 _ (by rw [List.getD_eq_getElem?_getD, List.getElem?_eq_getElem hkx]; exact List.getElem_mem hkx)
      generalize p.rules.getD k zeroRu = r at hr hc hr' hc' hrs
      have hz1 : tb < wr.heap.size := Nat.lt_of_lt_of_le htl hWb.size
      have hz2 : tb' < wr.heap.size := Nat.lt_of_lt_of_le htl' hWb.size
      have hz3 : W.heap.size + 1 < wr.heap.size := (Array.getElem?_eq_some_iff.1 f1).1
      have g1 : ∀ j u, (ruC r t c A cap)[j]? = some u → wr.cell? ⟨tb, k * 9 + j, none⟩ = some u := fun j u hj => (hWb.cell (p := ⟨tb, k * 9 + j, none⟩) htl).trans (hc j u hj)
      have g2 : ∀ j u, (ruC r t' c' A' cap')[j]? = some u → wr.cell? ⟨tb', k * 9 + j, none⟩ = some u := fun j u hj => (hWb.cell (p := ⟨tb', k * 9 + j, none⟩) htl').trans (hc' j u hj)
      have HR := Lib.hid (And.intro (ru_below hr hWb) (ru_below hr' hWb))
      have a0 : wr.cell? ⟨tb, k * 9, none⟩ = some (.slice (some ⟨t, 0, none⟩) r.calls.length c) := g1 0 _ rfl
      have a1 := g1 1 _ rfl
      have a2 := g1 2 _ rfl
      have a3 := g1 3 _ rfl
      have a4 := g1 4 _ rfl
      have a5 := g1 5 _ rfl
      have a6 := g1 6 _ rfl
      have a7 := g1 7 _ rfl
      have a8 := g1 8 _ rfl
      have d0 : wr.cell? ⟨tb', k * 9, none⟩ = some (.slice (some ⟨t', 0, none⟩) r.calls.length c') := g2 0 _ rfl
      have d1 := g2 1 _ rfl
      have d2 := g2 2 _ rfl
      have d3 := g2 3 _ rfl
      have d4 := g2 4 _ rfl
      have d5 := g2 5 _ rfl
      have d6 := g2 6 _ rfl
      have d7 := g2 7 _ rfl
      have d8 := g2 8 _ rfl
      have HRS := Lib.hid hrs
      have hm := hrs.2
      clear hr hc hr' hc' hkx hWb g1 g2 hrs f0 f1 hbw
      have HQ : Hid (∀ V : World, wr.heap.size ≤ V.heap.size → (∀ q, q < wr.heap.size → V.heap[q]? = wr.heap[q]?) → Calls Try.prog 11 #[exV r.when_ A cap, exV r.when_ A' cap'] V fun e w' => e = .returned (.bool true) ∧ Below V.heap.size V w') := Lib.hid fun V hs hV => ref_SameExpr HRS.out.1 ((HR.out.1.2).keep hs (fun _ h => h) (fun q _ hq => hV q hq)) ((HR.out.2.2).keep hs (fun _ h => h) (fun q _ hq => hV q hq))
      go_wp2_with (go_at_call 11; (refine (HQ.out _ (by simp; omega) (fun q hq => by first | exact (Below.heap_alloc _ _ q (by simp; omega)).trans (Below.heap_alloc _ _ q hq))).mono ?_); rintro e w5 ⟨rfl, hb5⟩; have q6 : w5.heap[wr.heap.size]? = some (ruCells r t c A cap) := (hb5.block wr.heap.size (by simp; omega)).trans (kept_alloc (World.alloc_heap_new wr _) _); have q7 : w5.heap[wr.heap.size + 1]? = some (ruCells r t' c' A' cap') := (hb5.block (wr.heap.size + 1) (by simp)).trans (by have := World.alloc_heap_new (wr.alloc (ruCells r t c A cap)) (ruCells r t' c' A' cap'); rw [show (wr.alloc (ruCells r t c A cap)).heap.size = wr.heap.size + 1 by simp] at this; exact this); have p0 := cell6 q6 0 rfl; have p7 := cell6 q6 7 rfl; have p8 := cell6 q6 8 rfl; have v0 := cell6 q7 0 rfl; have v7 := cell6 q7 7 rfl; have v8 := cell6 q7 8 rfl; have H5 := Lib.hid hb5; clear hb5 q6 q7)
      have hW5 : Below wr.heap.size wr w5 := ((lbox wr (ruCells r t c A cap)).trans ((lbox (wr.alloc (ruCells r t c A cap)) (ruCells r t' c' A' cap')).mono (by simp))).trans (H5.out.mono (by simp; omega))
      have e1 : ∀ j u, (callsC r.calls)[j]? = some u → w5.cell? ⟨t, j, none⟩ = some u := fun j u hj => (hW5.cell (p := ⟨t, j, none⟩) HR.out.1.1.2.1).trans (HR.out.1.1.2.2 j u hj)
      have e2 : ∀ j u, (callsC r.calls)[j]? = some u → w5.cell? ⟨t', j, none⟩ = some u := fun j u hj => (hW5.cell (p := ⟨t', j, none⟩) HR.out.2.1.2.1).trans (HR.out.2.1.2.2 j u hj)
      have HC := Lib.hid (And.intro e1 e2)
      have H6 := Lib.hid hW5
      have hneqc : ∀ (a : ByteArray) (b : Nat) (w : World), (binOp BinOp.neq 73 (.agg #[.string a, .int .u64 (b : Int)]) (.agg #[.string a, .int .u64 (b : Int)])).run Try.prog w = .ok (.bool false) w := fun a b w => neq_call a b w
      clear e1 e2 hW5 a0 a1 a2 a3 a4 a5 a6 a7 a8 d0 d1 d2 d3 d4 d5 d6 d7 d8 c0 c1 HQ H5 p7 p8 v7 v8 hneq
      have p0 : w5.cell? ⟨wr.heap.size, 0, none⟩ = some (.slice (some ⟨t, 0, none⟩) r.calls.length c) := p0
      have v0 : w5.cell? ⟨wr.heap.size + 1, 0, none⟩ = some (.slice (some ⟨t', 0, none⟩) r.calls.length c') := v0
      go_loopw [9] (fun i wx => ∃ q : Nat, q ≤ r.calls.length ∧ i = .int .i64 (q : Int) ∧ ∃ z, wx = w5.drewN z) (fun i _ => r.calls.length - (intOf i).toNat)
      case atStart => exact ⟨0, by omega, rfl, 0, rfl⟩
      case round =>
        obtain ⟨q, hq, rfl, z, rfl⟩ := hrel
        have p1 : (w5.drewN z).cell? ⟨wr.heap.size, 0, none⟩ = some (.slice (some ⟨t, 0, none⟩) r.calls.length c) := p0
        have v1 : (w5.drewN z).cell? ⟨wr.heap.size + 1, 0, none⟩ = some (.slice (some ⟨t', 0, none⟩) r.calls.length c') := v0
        by_cases hql : q < r.calls.length
        · have hql' : (q : Int) < (r.calls.length : Int) := by omega
          have hca := callsC_at r.calls q hql
          have m0 : w5.cell? ⟨t, q * 2, none⟩ = some (.string (r.calls.getD q (⟨#[]⟩, 0)).1) := HC.out.1 _ _ hca.1
          have m1 : w5.cell? ⟨t, q * 2 + 1, none⟩ = some (.int .u64 ((r.calls.getD q (⟨#[]⟩, 0)).2 : Int)) := HC.out.1 _ _ hca.2
          have n0 : w5.cell? ⟨t', q * 2, none⟩ = some (.string (r.calls.getD q (⟨#[]⟩, 0)).1) := HC.out.2 _ _ hca.1
          have n1 : w5.cell? ⟨t', q * 2 + 1, none⟩ = some (.int .u64 ((r.calls.getD q (⟨#[]⟩, 0)).2 : Int)) := HC.out.2 _ _ hca.2
          clear hca
          generalize r.calls.getD q (⟨#[]⟩, 0) = cc at m0 m1 n0 n1
          go_wp2
          go_quiet (fail)
          go_wp2
          exact ⟨⟨q + 1, by omega, by go_num, z + nq, by simp [World.drewN, Nat.add_assoc]⟩, by simp [intOf]; omega⟩
        · go_wp2
          exact ⟨⟨k + 1, by omega, by go_num, below_drawn (HBW.out.trans (H6.out.mono (by omega))) z⟩, by simp [intOf]; omega⟩
    · go_wp2
      go_ret
      exact ⟨rfl, hB.out.trans (HBW.out.mono (by omega))⟩
end Go.Proofs.Ytmmfbeebjehkgaa
namespace Go.Proofs.Ytmmfbeebjehkgaa
open Go Go.RowKit
set_option linter.unusedSimpArgs false
set_option linter.unusedVariables false

theorem lives_expr : exprF ⟨#[110, 111, 116, 32, 97, 114, 103, 49, 32, 38, 32, 55, 32, 62, 61, 32, 50]⟩ = .ok (.node 3 [.mk 6 [] 1 7 6 2]) 6 := by kernel_rfl
theorem ex_args6 {w : World} {F : Nat → Prop} {y : Ex} {o : Int} {A : Option Addr} {cap : Nat} (h : ExIn w F (.node o [y]) A cap) :
    ∃ tb, A = some ⟨tb, 0, none⟩ ∧ tb < w.heap.size ∧ F tb ∧ ∃ A' cap', ExIn w F y A' cap' ∧ ∀ j u, (exC y A' cap')[j]? = some u → w.cell? ⟨tb, j, none⟩ = some u := by
  rcases h with ⟨h1, _⟩ | ⟨h1, tb, h2, h3, h4, ⟨⟨A', cap', g1, g2⟩, _⟩⟩
  · cases h1
  · exact ⟨tb, h2, h4, h3, A', cap', g1, fun j u hj => by have := g2 j u hj; rw [Nat.zero_add] at this; exact this⟩
set_option maxRecDepth 100000 in
theorem lives_is6 (w : World) : Calls Try.prog 5 #[] w fun e w' => e = .returned (.bool true) ∧ Below w.heap.size w w' := by
  have hP := p_ParseExpr ⟨#[110, 111, 116, 32, 97, 114, 103, 49, 32, 38, 32, 55, 32, 62, 61, 32, 50]⟩ w
  rw [lives_expr] at hP
  have HP := Lib.hid hP
  clear hP
  go_enter Try.func5, Try.ntmps5
  go_wp2_with (go_at_call 8; (with_reducible refine HP.out.mono ?_); rintro e w1 ⟨v, rfl, ⟨A, cap, hv, hx⟩, hb⟩; obtain ⟨tb, rfl, htl, _, A1, cap1, hx1, hc1⟩ := ex_args6 hx; obtain rfl : v = .agg #[.int .i64 3, .slice (some ⟨tb, 0, none⟩) 1 cap, .int .i64 0, .int .u64 0, .int .i64 0, .int .u64 0] := hv; have a2 : w1.cell? ⟨tb, 2, none⟩ = some (.int .i64 1) := hc1 2 _ rfl; have a3 : w1.cell? ⟨tb, 3, none⟩ = some (.int .u64 7) := hc1 3 _ rfl; have a4 : w1.cell? ⟨tb, 4, none⟩ = some (.int .i64 6) := hc1 4 _ rfl; have a5 : w1.cell? ⟨tb, 5, none⟩ = some (.int .u64 2) := hc1 5 _ rfl; have HB := Lib.hid hb; clear hb hc1 hx1 hx)
  go_ret
  exact ⟨rfl, HB.out.trans ((lbox _ _).mono HB.out.size)⟩
end Go.Proofs.Ytmmfbeebjehkgaa
namespace Go.Proofs.Ytmmfbeebjehkgaa
open Go Go.RowKit
set_option linter.unusedSimpArgs false
set_option linter.unusedVariables false

/-- A policy, as the document reads it, and as the grammar does. -/
theorem parse_all (s : ByteArray) : ∃ lr re, rulesS (srcF s) ((srcF s).toks.length + 1) ((srcF s).toks.length + 1) [] (q9 (srcF s) ⟨0, 0, 0, 0⟩) = some (lr, re) ∧ match policyF s with
    | .ok p _ => p = ⟨((q1 (srcF s) ⟨0, 0, 0, 0⟩).kindT (srcF s) 2).text, verdT (srcF s) (q4 (srcF s) ⟨0, 0, 0, 0⟩), verdT (srcF s) (q7 (srcF s) ⟨0, 0, 0, 0⟩), lr⟩ ∧ (re.kindR (srcF s) 1).err = 0
    | .bad e p => e ≠ 0 ∧ (re.kindR (srcF s) 1).err = e ∧ (re.kindR (srcF s) 1).bad = p
    | .out => False := by
  have hS := lexd s
  have key : Shut (srcF s) (parseS (srcF s) ((srcF s).toks.length + 1) ⟨0, 0, 0, 0⟩) (policyF s) := by
    unfold policyF readG
    by_cases h0 : 0 < (srcF s).toks.length
    · rw [if_pos h0]
      exact parse_sim hS (Nat.lt_succ_self _) ((start_sim hS).1 h0)
    · rw [if_neg h0]
      have hb := (start_sim hS).2 h0
      have h3 := ((hb.want 2 bArch).kind 2).1.want 4 bSemi
      have h6 := (verd_bad (h3.want 2 bForeign)).want 4 bSemi
      have h9 := (verd_bad (h6.want 2 bDefault)).want 4 bSemi
      exact (parse_bad (Nat.succ_pos _) h9).shut
  obtain ⟨⟨p, re⟩, hx, hm⟩ := key
  unfold parseS at hx
  cases hr : rulesS (srcF s) ((srcF s).toks.length + 1) ((srcF s).toks.length + 1) [] (q9 (srcF s) ⟨0, 0, 0, 0⟩) with
  | none => rw [hr] at hx; cases hx
  | some y =>
    rw [hr] at hx
    injection hx with hx
    injection hx with e1 e2
    refine ⟨y.1, y.2, rfl, ?_⟩
    subst e2
    generalize policyF s = g at hm ⊢
    rcases g with ⟨v, j⟩ | ⟨e, q⟩ | _
    · exact ⟨hm.1.symm.trans e1.symm, hm.2⟩
    · exact hm
    · exact hm
theorem rd6_Parse (s : ByteArray) (w : World) (hm : s.size ≤ maxLen) : Calls Try.prog 7 #[.string s] w (ParseP (PoP w.heap.size) (poV ⟨#[]⟩ 0 0 0 0 (.slice none 0 0)) w (policyF s)) := by
  obtain ⟨lr, re, hr, hp⟩ := parse_all s
  generalize policyF s = g at hp ⊢
  rcases g with ⟨v, j⟩ | ⟨e, q⟩ | _
  · obtain ⟨rfl, h0⟩ := hp
    exact rd6_Parse_ok s w hm _ lr re hr h0 j _ _ _ _ _ rfl rfl rfl
  · obtain ⟨h0, rfl, rfl⟩ := hp
    exact rd6_Parse_bad s w hm _ lr re hr h0 _ _ _ _ _ rfl rfl rfl
  · exact hp.elim
/-- What Parse answers: a policy, an error, a place. -/
def zeroPo : Po := ⟨⟨#[]⟩, (0, 0), (0, 0), []⟩
def resPo : Got Po → Po × Int × Nat
  | .ok p _ => (p, 0, 0)
  | .bad e q => (zeroPo, e, q)
  | .out => (zeroPo, 0, 0)
def resEx : Got Ex → Ex × Int × Nat
  | .ok p _ => (p, 0, 0)
  | .bad e q => (.zero, e, q)
  | .out => (.zero, 0, 0)
theorem u_po {f : Nat} {args : Array Value} {w : World} {g : Got Po} (h : Calls Try.prog f args w (ParseP (PoP w.heap.size) (poV ⟨#[]⟩ 0 0 0 0 (.slice none 0 0)) w g)) :
    Calls Try.prog f args w (fun e w' => ∃ R, e = .returned (.tuple #[poV (resPo g).1.arch (resPo g).1.foreign_.1 ((resPo g).1.foreign_.2 : Int) (resPo g).1.default_.1 ((resPo g).1.default_.2 : Int) R, .int .i64 (resPo g).2.1, .int .i64 ((resPo g).2.2 : Int)]) ∧ RulesP w.heap.size (resPo g).1.rules R w' ∧ Below w.heap.size w w') := by
  refine h.mono fun e w' hp => ?_
  rcases g with ⟨v, j⟩ | ⟨er, q⟩ | _
  · obtain ⟨v', rfl, ⟨R, rfl, hR⟩, hb⟩ := hp
    exact ⟨R, rfl, hR, hb⟩
  · obtain ⟨rfl, hb⟩ := hp
    exact ⟨.slice none 0 0, rfl, .inl ⟨rfl, rfl⟩, hb⟩
  · exact hp.elim
theorem u_ex {f : Nat} {args : Array Value} {w : World} {g : Got Ex} (h : Calls Try.prog f args w (ParseP (ExP w.heap.size) (leafVal 0 0 0 0 0) w g)) :
    Calls Try.prog f args w (fun e w' => ∃ A c, e = .returned (.tuple #[exV (resEx g).1 A c, .int .i64 (resEx g).2.1, .int .i64 ((resEx g).2.2 : Int)]) ∧ ExIn w' (fun k => w.heap.size ≤ k) (resEx g).1 A c ∧ Below w.heap.size w w') := by
  refine h.mono fun e w' hp => ?_
  rcases g with ⟨v, j⟩ | ⟨er, q⟩ | _
  · obtain ⟨v', rfl, ⟨A, c, rfl, hR⟩, hb⟩ := hp
    exact ⟨A, c, rfl, hR, hb⟩
  · obtain ⟨rfl, hb⟩ := hp
    exact ⟨none, 0, rfl, .inl ⟨rfl, rfl, rfl⟩, hb⟩
  · exact hp.elim
theorem sm_resPo (s : ByteArray) : SmPo (resPo (policyF s)).1 := by
  have h : All SmPo (policyF s) := by
    unfold policyF readG
    exact all_ite (sm_policy (src_small s) _ _) (all_bad _ _)
  generalize policyF s = g at h
  rcases g with ⟨v, j⟩ | ⟨er, q⟩ | _
  · exact h v j rfl
  · exact ⟨Nat.zero_le _, fun r hr => by cases hr⟩
  · exact ⟨Nat.zero_le _, fun r hr => by cases hr⟩
theorem sm_resEx (s : ByteArray) : SmEx (resEx (exprF s)).1 := by
  have h : All SmEx (exprF s) := by
    unfold exprF readG
    by_cases h0 : 0 < (srcF s).toks.length
    · rw [if_pos h0]; exact sm_whole (src_small s) _ _ h0
    · rw [if_neg h0]; exact all_bad _ _
  generalize exprF s = g at h
  rcases g with ⟨v, j⟩ | ⟨er, q⟩ | _
  · exact h v j rfl
  · exact sm_leaf _ _ _ _ _
  · exact sm_leaf _ _ _ _ _
end Go.Proofs.Ytmmfbeebjehkgaa
