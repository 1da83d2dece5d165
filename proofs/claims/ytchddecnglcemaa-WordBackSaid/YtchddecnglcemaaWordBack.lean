/-
  'WordBack': for every word and place, the law of layer 1 on Put of Bits and Bits of Put returns true, and leaves memory as it was. No condition.
-/
import Derived.Test.YtchddecnglcemaaWordLoad
import Derived.Test.YtchddecnglcemaaFrame
namespace Go.Proofs.Ytchddecnglcemaa.wordBack
open Go Go.ChangeShapes Go.WideShapes Go.ChangeAt Go.RowKit
set_option linter.unusedSimpArgs false
set_option linter.unusedVariables false

theorem put_bits (v : BitVec 64) (lo n : Int) : putB v lo n (bitsB v lo n) = v := by
  apply BitVec.eq_of_getLsbD_eq; intro i hi
  rw [putB_lsb]
  split
  · next h =>
    rw [bitsB_lsb]
    have e : lo.toNat + (i - lo.toNat) = i := by omega
    have e2 : ((i - lo.toNat : Nat) : Int) < n := by omega
    have e3 : 0 ≤ lo ∧ lo ≤ 63 := by omega
    simp only [e, e2, e3, decide_true, Bool.true_and, and_self]
  · rfl
theorem bits_put (v x : BitVec 64) (lo n : Int) (h0 : 0 ≤ lo) (h1 : lo ≤ 63) (h2 : 1 ≤ n) (h3 : n ≤ 64 - lo) : bitsB (putB v lo n x) lo n = zext x n := by
  apply BitVec.eq_of_getLsbD_eq; intro i hi
  rw [bitsB_lsb, zext_lsb, putB_lsb]
  by_cases h : (i : Int) < n
  · rw [if_pos (by omega)]
    have e : lo.toNat + i - lo.toNat = i := by omega
    simp only [e, h, h0, h1, decide_true, Bool.true_and, and_self]
  · simp only [h, decide_false, Bool.false_and, Bool.and_false]
theorem low_put (v x : BitVec 64) (lo n : Int) : zext (putB v lo n x) lo = zext v lo := by
  apply BitVec.eq_of_getLsbD_eq; intro i hi
  rw [zext_lsb, zext_lsb, putB_lsb]
  by_cases h : (i : Int) < lo
  · rw [if_neg (by omega)]
  · simp only [h, decide_false, Bool.false_and]
theorem high_put (v x : BitVec 64) (lo n : Int) (h0 : 0 ≤ lo) (h1 : lo ≤ 63) (h2 : 1 ≤ n) : bitsB (putB v lo n x) (lo + n) 64 = bitsB v (lo + n) 64 := by
  apply BitVec.eq_of_getLsbD_eq; intro i hi
  rw [bitsB_lsb, bitsB_lsb, putB_lsb, if_neg (by omega)]

/-- The two ends: the place is no place within a word, or the bits are not all within (the first answer alone); or they are. -/
def within (lo n : Int) : Prop := 0 ≤ lo ∧ lo ≤ 63 ∧ 1 ≤ n ∧ n ≤ 64 - lo

theorem start (e0 e1 e2 e3 : Int) (w w' : World) (hbel : Below (w.alloc (.cells #[.int .u64 e0, .int .u64 e1, .int .i64 e2, .int .i64 e3] 26)).heap.size (w.alloc (.cells #[.int .u64 e0, .int .u64 e1, .int .i64 e2, .int .i64 e3] 26)) w') :
    w'.cell? ⟨w.heap.size, 0, none⟩ = some (.int .u64 e0) ∧ w'.cell? ⟨w.heap.size, 1, none⟩ = some (.int .u64 e1) ∧ w'.cell? ⟨w.heap.size, 2, none⟩ = some (.int .i64 e2) ∧ w'.cell? ⟨w.heap.size, 3, none⟩ = some (.int .i64 e3) ∧ Below w.heap.size w w' :=
  ⟨(hbel.cell (p := ⟨w.heap.size, 0, none⟩) (by simp)).trans (by simp), (hbel.cell (p := ⟨w.heap.size, 1, none⟩) (by simp)).trans (by simp), (hbel.cell (p := ⟨w.heap.size, 2, none⟩) (by simp)).trans (by simp), (hbel.cell (p := ⟨w.heap.size, 3, none⟩) (by simp)).trans (by simp),
    ((Below.refl _ _).alloc (Nat.le_refl _) _).trans (hbel.mono (by simp))⟩

set_option maxHeartbeats 1000000 in
theorem walk_in (v x : BitVec 64) (e2 e3 : Int) (w : World) (h0 : 0 ≤ e2) (h1 : e2 ≤ 63) (h2 : 1 ≤ e3) (h3 : e3 ≤ 64 - e2) :
    Calls Try.prog 7 #[.agg #[.int .u64 (v.toNat : Int), .int .u64 (x.toNat : Int), .int .i64 e2, .int .i64 e3]] w fun e w' => e = .returned (.bool true) ∧ Below w.heap.size w w' := by
  have hq1 : (((putB v e2 e3 (bitsB v e2 e3)).toNat : Int) == (v.toNat : Int)) = true := by rw [put_bits]; simp
  have hq2 : (((bitsB (putB v e2 e3 x) e2 e3).toNat : Int) == ((zext x e3).toNat : Int)) = true := by rw [bits_put v x e2 e3 h0 h1 h2 h3]; simp
  have hq3 : (((zext (putB v e2 e3 x) e2).toNat : Int) == ((zext v e2).toNat : Int)) = true := by rw [low_put]; simp
  have hq4 : (((bitsB (putB v e2 e3 x) (e2 + e3) 64).toNat : Int) == ((bitsB v (e2 + e3) 64).toNat : Int)) = true := by rw [high_put v x e2 e3 h0 h1 h2]; simp
  go_enter Try.func7, Try.ntmps7
  go_wp2_with (go_at_call 10; refine (head_true _).mono ?_; rintro e w' ⟨rfl, hbel⟩)
  obtain ⟨c0, c1, c2, c3, hb⟩ := start _ _ _ _ _ _ hbel
  clear hbel
  go_quiet (first | (go_at_call 15; exact quietL (word_Bits _ _ _ _)) | (go_at_call 17; exact quietL (word_Put _ _ _ _ _)) | (go_at_call 11; exact quietL (word_Zext _ _ _)))
  go_wp2_with (first | (go_at_call 15; refine (word_Bits _ _ _ _).mono ?_; rintro e w' ⟨rfl, rfl⟩) | (go_at_call 17; refine (word_Put _ _ _ _ _).mono ?_; rintro e w' ⟨rfl, rfl⟩) | (go_at_call 11; refine (word_Zext _ _ _).mono ?_; rintro e w' ⟨rfl, rfl⟩))
  go_quiet (first | (go_at_call 15; exact quietA (word_Bits _ _ _ _)) | (go_at_call 17; exact quietA (word_Put _ _ _ _ _)) | (go_at_call 11; exact quietA (word_Zext _ _ _)))
  go_wp2
  go_quiet (first | (go_at_call 15; exact quietA (word_Bits _ _ _ _)) | (go_at_call 17; exact quietA (word_Put _ _ _ _ _)) | (go_at_call 11; exact quietA (word_Zext _ _ _)))
  go_wp2
  go_quiet (first | (go_at_call 15; exact quietA (word_Bits _ _ _ _)) | (go_at_call 17; exact quietA (word_Put _ _ _ _ _)) | (go_at_call 11; exact quietA (word_Zext _ _ _)))
  go_wp2
  go_ret
  exact ⟨rfl, below_drawn hb _⟩

set_option maxHeartbeats 1000000 in
theorem walk_a (v x : BitVec 64) (e2 e3 : Int) (w : World) (h : e2 < 0) :
    Calls Try.prog 7 #[.agg #[.int .u64 (v.toNat : Int), .int .u64 (x.toNat : Int), .int .i64 e2, .int .i64 e3]] w fun e w' => e = .returned (.bool true) ∧ Below w.heap.size w w' := by
  have hq1 : (((putB v e2 e3 (bitsB v e2 e3)).toNat : Int) == (v.toNat : Int)) = true := by rw [put_bits]; simp
  go_enter Try.func7, Try.ntmps7
  go_wp2_with (go_at_call 10; refine (head_true _).mono ?_; rintro e w' ⟨rfl, hbel⟩)
  obtain ⟨c0, c1, c2, c3, hb⟩ := start _ _ _ _ _ _ hbel
  clear hbel
  go_quiet (first | (go_at_call 15; exact quietL (word_Bits _ _ _ _)) | (go_at_call 17; exact quietL (word_Put _ _ _ _ _)) | (go_at_call 11; exact quietL (word_Zext _ _ _)))
  go_wp2
  go_ret
  exact ⟨rfl, below_drawn hb _⟩

set_option maxHeartbeats 1000000 in
theorem walk_b (v x : BitVec 64) (e2 e3 : Int) (w : World) (h0 : 0 ≤ e2) (h : 63 < e2) :
    Calls Try.prog 7 #[.agg #[.int .u64 (v.toNat : Int), .int .u64 (x.toNat : Int), .int .i64 e2, .int .i64 e3]] w fun e w' => e = .returned (.bool true) ∧ Below w.heap.size w w' := by
  have hq1 : (((putB v e2 e3 (bitsB v e2 e3)).toNat : Int) == (v.toNat : Int)) = true := by rw [put_bits]; simp
  go_enter Try.func7, Try.ntmps7
  go_wp2_with (go_at_call 10; refine (head_true _).mono ?_; rintro e w' ⟨rfl, hbel⟩)
  obtain ⟨c0, c1, c2, c3, hb⟩ := start _ _ _ _ _ _ hbel
  clear hbel
  go_quiet (first | (go_at_call 15; exact quietL (word_Bits _ _ _ _)) | (go_at_call 17; exact quietL (word_Put _ _ _ _ _)) | (go_at_call 11; exact quietL (word_Zext _ _ _)))
  go_wp2
  go_ret
  exact ⟨rfl, below_drawn hb _⟩

set_option maxHeartbeats 1000000 in
theorem walk_c (v x : BitVec 64) (e2 e3 : Int) (w : World) (h0 : 0 ≤ e2) (h1 : e2 ≤ 63) (h : e3 < 1) :
    Calls Try.prog 7 #[.agg #[.int .u64 (v.toNat : Int), .int .u64 (x.toNat : Int), .int .i64 e2, .int .i64 e3]] w fun e w' => e = .returned (.bool true) ∧ Below w.heap.size w w' := by
  have hq1 : (((putB v e2 e3 (bitsB v e2 e3)).toNat : Int) == (v.toNat : Int)) = true := by rw [put_bits]; simp
  go_enter Try.func7, Try.ntmps7
  go_wp2_with (go_at_call 10; refine (head_true _).mono ?_; rintro e w' ⟨rfl, hbel⟩)
  obtain ⟨c0, c1, c2, c3, hb⟩ := start _ _ _ _ _ _ hbel
  clear hbel
  go_quiet (first | (go_at_call 15; exact quietL (word_Bits _ _ _ _)) | (go_at_call 17; exact quietL (word_Put _ _ _ _ _)) | (go_at_call 11; exact quietL (word_Zext _ _ _)))
  go_wp2
  go_ret
  exact ⟨rfl, below_drawn hb _⟩

set_option maxHeartbeats 1000000 in
theorem walk_d (v x : BitVec 64) (e2 e3 : Int) (w : World) (h0 : 0 ≤ e2) (h1 : e2 ≤ 63) (h2 : 1 ≤ e3) (h : 64 - e2 < e3) :
    Calls Try.prog 7 #[.agg #[.int .u64 (v.toNat : Int), .int .u64 (x.toNat : Int), .int .i64 e2, .int .i64 e3]] w fun e w' => e = .returned (.bool true) ∧ Below w.heap.size w w' := by
  have hq1 : (((putB v e2 e3 (bitsB v e2 e3)).toNat : Int) == (v.toNat : Int)) = true := by rw [put_bits]; simp
  go_enter Try.func7, Try.ntmps7
  go_wp2_with (go_at_call 10; refine (head_true _).mono ?_; rintro e w' ⟨rfl, hbel⟩)
  obtain ⟨c0, c1, c2, c3, hb⟩ := start _ _ _ _ _ _ hbel
  clear hbel
  go_quiet (first | (go_at_call 15; exact quietL (word_Bits _ _ _ _)) | (go_at_call 17; exact quietL (word_Put _ _ _ _ _)) | (go_at_call 11; exact quietL (word_Zext _ _ _)))
  go_wp2
  go_ret
  exact ⟨rfl, below_drawn hb _⟩

theorem walk (e0 e1 e2 e3 : Int) (w : World) (w0 : (Lit.int .u64 e0).wf = true) (w1 : (Lit.int .u64 e1).wf = true) (w2 : (Lit.int .i64 e2).wf = true) (w3 : (Lit.int .i64 e3).wf = true) :
    Calls Try.prog 7 #[.agg #[.int .u64 e0, .int .u64 e1, .int .i64 e2, .int .i64 e3]] w fun e w' => e = .returned (.bool true) ∧ Below w.heap.size w w' := by
  obtain ⟨v, rfl⟩ := word_of w0
  obtain ⟨x, rfl⟩ := word_of w1
  rcases Int.lt_or_le e2 0 with h | h0
  · exact walk_a v x e2 e3 w h
  rcases Int.lt_or_le 63 e2 with h | h1
  · exact walk_b v x e2 e3 w h0 h
  rcases Int.lt_or_le e3 1 with h | h2
  · exact walk_c v x e2 e3 w h0 h1 h
  rcases Int.lt_or_le (64 - e2) e3 with h | h3
  · exact walk_d v x e2 e3 w h0 h1 h2 h
  exact walk_in v x e2 e3 w h0 h1 h2 h3

/-! ### The row's step and the statement -/
set_option maxRecDepth 100000 in
theorem lifted (os : Os) (started : os.Started) (H : Type) (enc : TypeId × Value → H) :
    ReturnsInHanded {} Try.checked os 7 .any (Rows.wordBackSpec.pre6 enc Try.prog Try.f7 Rows.wordBackRow.domain false) (Rows.wordBackSpec.post enc Try.prog Try.f7 false true false false) := by
  refine returnsInHanded_of_change (C := Try.checked) own started (by kernel_rfl) Try.func7
    (ChangeSpec.witness6 (enc := enc) (C := Try.checked) false ⟨#[], #[.agg #[.int .u64 0, .int .u64 0, .int .i64 0, .int .i64 0]], []⟩ 8 (by kernel_rfl) (by kernel_rfl) (by kernel_rfl) (by kernel_rfl)) ?_
  intro W base args ds gs before hval0 hW hcnd hsz
  have hval : ∀ (j : Nat) t v, Try.f7.params[j]? = some t → args[j]? = some v → Value.okWide Try.prog W .any base t v := hval0
  have hW' := hW
  obtain ⟨p, q, hA0, hV, rfl, hfz, hnd⟩ := hW
  have hA : DataW.TrodAll enc Try.prog W 0 (fun _ => true) true Try.f7.params.toList args.toList ds p := hA0
  rw [Try.params7] at hA hval
  obtain ⟨v0, vs0, d0, ds0, p0, q0, hargs, rfl, rfl, h0, r0⟩ := trodAll_cons hA
  obtain ⟨rfl, rfl, rfl⟩ := trodAll_nil r0
  obtain rfl : args = #[v0] := by cases args; simp_all
  obtain ⟨rfl, rfl⟩ := trodVars_none hV
  have k0 := h0
  have lt0 : ∀ x ∈ p0, x.block < W.heap.size := by obtain ⟨m, hm⟩ := k0; exact DataW.trod_lt m _ _ _ hm
  obtain ⟨c0_0, c0_1, c0_2, c0_3, y0_0, y0_1, y0_2, y0_3, m0, rfl, hd0, hp0, hy0_0, hy0_1, hy0_2, hy0_3⟩ := Joins.open_agg4 Try.underlying26 (by kernel_rfl) (by kernel_rfl : Try.prog.cellsOf 26 = 4) (hval 0 26 v0 rfl rfl) h0
  obtain ⟨e0_0, f0_0, _, w0_0⟩ := DataW.trod_int Try.underlying24 hy0_0
  simp only [List.cons.injEq, and_true] at f0_0; subst f0_0
  obtain ⟨e0_1, f0_1, _, w0_1⟩ := DataW.trod_int Try.underlying24 hy0_1
  simp only [List.cons.injEq, and_true] at f0_1; subst f0_1
  obtain ⟨e0_2, f0_2, _, w0_2⟩ := DataW.trod_int Try.underlying3 hy0_2
  simp only [List.cons.injEq, and_true] at f0_2; subst f0_2
  obtain ⟨e0_3, f0_3, _, w0_3⟩ := DataW.trod_int Try.underlying3 hy0_3
  simp only [List.cons.injEq, and_true] at f0_3; subst f0_3
  clear hA0 hval0
  refine (walk e0_0 e0_1 e0_2 e0_3 W w0_0 w0_1 w0_2 w0_3).mono fun e W' ⟨he, bel⟩ => ?_
  subst he
  exact ⟨_, rfl, _, _, _, [], _, [], hW', trodAll_mk1 (shut_bool Try.underlying4 _), (trodAll_cons_mk (Below.trod laidOut (by kernel_rfl) (of_decide_eq_true (by kernel_rfl)) k0 bel lt0) trodAll_mk0), rfl, bel.frame _, fun h => by cases h⟩

theorem over : Rows.wordBackRow.holds Try.pinned (OpenSpec.ofChange Rows.wordBackSpec) :=
  OpenClaim.holds_of_wide 7 Try.f7 rfl rfl rfl rfl rfl rfl rfl ⟨rfl, rfl, rfl, rfl, rfl⟩ rfl rfl rfl rfl rfl (by kernel_rfl) Try.func7 (by kernel_rfl)
    (of_decide_eq_true (by kernel_rfl)) (by unfold Func.isWrapper; first | (rw [if_pos (by decide +kernel)]; kernel_rfl) | (rw [if_neg (by decide +kernel)]; exact ⟨rfl, rfl⟩))
    (fun os started H enc _ => lifted os started H enc)

/-- The statement. -/
theorem proved : Rows.WordBackSaid := over
end Go.Proofs.Ytchddecnglcemaa.wordBack
