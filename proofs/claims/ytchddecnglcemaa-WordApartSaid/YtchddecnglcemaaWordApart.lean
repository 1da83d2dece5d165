/-
  'WordApart': for every two words and places, the law of layer 1 on two Puts that do not meet returns true, and leaves memory as it was. No condition.
-/
import Derived.Test.YtchddecnglcemaaWordLoad
import Derived.Test.YtchddecnglcemaaFrame
namespace Go.Proofs.Ytchddecnglcemaa.wordApart
open Go Go.ChangeShapes Go.WideShapes Go.ChangeAt Go.RowKit
set_option linter.unusedSimpArgs false
set_option linter.unusedVariables false

theorem put_put (v x y : BitVec 64) (al an bl bn : Int) (h0 : 0 ≤ al) (h : al + an ≤ bl) : putB (putB v al an x) bl bn y = putB (putB v bl bn y) al an x := by
  apply BitVec.eq_of_getLsbD_eq; intro i hi
  rw [putB_lsb, putB_lsb, putB_lsb, putB_lsb]
  by_cases h1 : 0 ≤ bl ∧ bl ≤ 63 ∧ bl ≤ i ∧ (i : Int) - bl < bn ∧ i < 64
  · rw [if_pos h1, if_neg (by omega), if_pos h1]
  · rw [if_neg h1, if_neg h1]
theorem bits_put_put (v x y : BitVec 64) (al an bl bn : Int) (h0 : 0 ≤ al) (h1 : 1 ≤ an) (h : al + an ≤ bl) (h2 : bl ≤ 63) : bitsB (putB (putB v al an x) bl bn y) al an = zext x an := by
  apply BitVec.eq_of_getLsbD_eq; intro i hi
  rw [bitsB_lsb, zext_lsb, putB_lsb, putB_lsb]
  by_cases g : (i : Int) < an
  · rw [if_neg (by omega), if_pos (by omega)]
    have e : al.toNat + i - al.toNat = i := by omega
    have e3 : 0 ≤ al ∧ al ≤ 63 := by omega
    simp only [e, g, e3, decide_true, Bool.true_and, and_self]
  · simp only [g, decide_false, Bool.false_and, Bool.and_false]

theorem start (e0 e1 e2 e3 g0 g1 g2 g3 : Int) (w w' : World) (hbel : Below ((w.alloc (.cells #[.int .u64 e0, .int .u64 e1, .int .i64 e2, .int .i64 e3] 26)).alloc (.cells #[.int .u64 g0, .int .u64 g1, .int .i64 g2, .int .i64 g3] 26)).heap.size ((w.alloc (.cells #[.int .u64 e0, .int .u64 e1, .int .i64 e2, .int .i64 e3] 26)).alloc (.cells #[.int .u64 g0, .int .u64 g1, .int .i64 g2, .int .i64 g3] 26)) w') :
    (w'.cell? ⟨w.heap.size, 0, none⟩ = some (.int .u64 e0) ∧ w'.cell? ⟨w.heap.size, 1, none⟩ = some (.int .u64 e1) ∧ w'.cell? ⟨w.heap.size, 2, none⟩ = some (.int .i64 e2) ∧ w'.cell? ⟨w.heap.size, 3, none⟩ = some (.int .i64 e3)) ∧
    (w'.cell? ⟨w.heap.size + 1, 0, none⟩ = some (.int .u64 g0) ∧ w'.cell? ⟨w.heap.size + 1, 1, none⟩ = some (.int .u64 g1) ∧ w'.cell? ⟨w.heap.size + 1, 2, none⟩ = some (.int .i64 g2) ∧ w'.cell? ⟨w.heap.size + 1, 3, none⟩ = some (.int .i64 g3)) ∧ Below w.heap.size w w' :=
  ⟨⟨(hbel.cell (p := ⟨w.heap.size, 0, none⟩) (by simp; omega)).trans (by simp), (hbel.cell (p := ⟨w.heap.size, 1, none⟩) (by simp; omega)).trans (by simp), (hbel.cell (p := ⟨w.heap.size, 2, none⟩) (by simp; omega)).trans (by simp), (hbel.cell (p := ⟨w.heap.size, 3, none⟩) (by simp; omega)).trans (by simp)⟩,
    ⟨(hbel.cell (p := ⟨w.heap.size + 1, 0, none⟩) (by simp)).trans (by simp), (hbel.cell (p := ⟨w.heap.size + 1, 1, none⟩) (by simp)).trans (by simp), (hbel.cell (p := ⟨w.heap.size + 1, 2, none⟩) (by simp)).trans (by simp), (hbel.cell (p := ⟨w.heap.size + 1, 3, none⟩) (by simp)).trans (by simp)⟩,
    (((Below.refl _ _).alloc (Nat.le_refl _) _).alloc (by simp) _).trans (hbel.mono (by simp; omega))⟩

set_option maxHeartbeats 1000000 in
theorem walk_out0 (v x y z : BitVec 64) (e2 e3 g2 g3 : Int) (w : World) (h : e2 < 0) :
    Calls Try.prog 9 #[.agg #[.int .u64 (v.toNat : Int), .int .u64 (x.toNat : Int), .int .i64 e2, .int .i64 e3], .agg #[.int .u64 (y.toNat : Int), .int .u64 (z.toNat : Int), .int .i64 g2, .int .i64 g3]] w fun e w' => e = .returned (.bool true) ∧ Below w.heap.size w w' := by
  go_enter Try.func9, Try.ntmps9
  go_wp2_with (go_at_call 10; refine (head_true _).mono ?_; rintro e w' ⟨rfl, hbel⟩; obtain ⟨⟨c0, c1, c2, c3⟩, ⟨d0, d1, d2, d3⟩, hb⟩ := start _ _ _ _ _ _ _ _ _ _ hbel; clear hbel)
  go_ret
  exact ⟨rfl, hb⟩
set_option maxHeartbeats 1000000 in
theorem walk_out1 (v x y z : BitVec 64) (e2 e3 g2 g3 : Int) (w : World) (h0 : 0 ≤ e2) (h : g2 < 0) :
    Calls Try.prog 9 #[.agg #[.int .u64 (v.toNat : Int), .int .u64 (x.toNat : Int), .int .i64 e2, .int .i64 e3], .agg #[.int .u64 (y.toNat : Int), .int .u64 (z.toNat : Int), .int .i64 g2, .int .i64 g3]] w fun e w' => e = .returned (.bool true) ∧ Below w.heap.size w w' := by
  go_enter Try.func9, Try.ntmps9
  go_wp2_with (go_at_call 10; refine (head_true _).mono ?_; rintro e w' ⟨rfl, hbel⟩; obtain ⟨⟨c0, c1, c2, c3⟩, ⟨d0, d1, d2, d3⟩, hb⟩ := start _ _ _ _ _ _ _ _ _ _ hbel; clear hbel)
  go_ret
  exact ⟨rfl, hb⟩
set_option maxHeartbeats 1000000 in
theorem walk_out2 (v x y z : BitVec 64) (e2 e3 g2 g3 : Int) (w : World) (h0 : 0 ≤ e2) (h1 : 0 ≤ g2) (h : e3 < 1) :
    Calls Try.prog 9 #[.agg #[.int .u64 (v.toNat : Int), .int .u64 (x.toNat : Int), .int .i64 e2, .int .i64 e3], .agg #[.int .u64 (y.toNat : Int), .int .u64 (z.toNat : Int), .int .i64 g2, .int .i64 g3]] w fun e w' => e = .returned (.bool true) ∧ Below w.heap.size w w' := by
  go_enter Try.func9, Try.ntmps9
  go_wp2_with (go_at_call 10; refine (head_true _).mono ?_; rintro e w' ⟨rfl, hbel⟩; obtain ⟨⟨c0, c1, c2, c3⟩, ⟨d0, d1, d2, d3⟩, hb⟩ := start _ _ _ _ _ _ _ _ _ _ hbel; clear hbel)
  go_ret
  exact ⟨rfl, hb⟩
set_option maxHeartbeats 1000000 in
theorem walk_out3 (v x y z : BitVec 64) (e2 e3 g2 g3 : Int) (w : World) (h0 : 0 ≤ e2) (h1 : 0 ≤ g2) (h2 : 1 ≤ e3) (h : g3 < 1) :
    Calls Try.prog 9 #[.agg #[.int .u64 (v.toNat : Int), .int .u64 (x.toNat : Int), .int .i64 e2, .int .i64 e3], .agg #[.int .u64 (y.toNat : Int), .int .u64 (z.toNat : Int), .int .i64 g2, .int .i64 g3]] w fun e w' => e = .returned (.bool true) ∧ Below w.heap.size w w' := by
  go_enter Try.func9, Try.ntmps9
  go_wp2_with (go_at_call 10; refine (head_true _).mono ?_; rintro e w' ⟨rfl, hbel⟩; obtain ⟨⟨c0, c1, c2, c3⟩, ⟨d0, d1, d2, d3⟩, hb⟩ := start _ _ _ _ _ _ _ _ _ _ hbel; clear hbel)
  go_ret
  exact ⟨rfl, hb⟩
set_option maxHeartbeats 1000000 in
theorem walk_out4 (v x y z : BitVec 64) (e2 e3 g2 g3 : Int) (w : World) (h0 : 0 ≤ e2) (h1 : 0 ≤ g2) (h2 : 1 ≤ e3) (h3 : 1 ≤ g3) (h : 63 < e2) :
    Calls Try.prog 9 #[.agg #[.int .u64 (v.toNat : Int), .int .u64 (x.toNat : Int), .int .i64 e2, .int .i64 e3], .agg #[.int .u64 (y.toNat : Int), .int .u64 (z.toNat : Int), .int .i64 g2, .int .i64 g3]] w fun e w' => e = .returned (.bool true) ∧ Below w.heap.size w w' := by
  go_enter Try.func9, Try.ntmps9
  go_wp2_with (go_at_call 10; refine (head_true _).mono ?_; rintro e w' ⟨rfl, hbel⟩; obtain ⟨⟨c0, c1, c2, c3⟩, ⟨d0, d1, d2, d3⟩, hb⟩ := start _ _ _ _ _ _ _ _ _ _ hbel; clear hbel)
  go_ret
  exact ⟨rfl, hb⟩
set_option maxHeartbeats 1000000 in
theorem walk_out5 (v x y z : BitVec 64) (e2 e3 g2 g3 : Int) (w : World) (h0 : 0 ≤ e2) (h1 : 0 ≤ g2) (h2 : 1 ≤ e3) (h3 : 1 ≤ g3) (h4 : e2 ≤ 63) (h : 63 < g2) :
    Calls Try.prog 9 #[.agg #[.int .u64 (v.toNat : Int), .int .u64 (x.toNat : Int), .int .i64 e2, .int .i64 e3], .agg #[.int .u64 (y.toNat : Int), .int .u64 (z.toNat : Int), .int .i64 g2, .int .i64 g3]] w fun e w' => e = .returned (.bool true) ∧ Below w.heap.size w w' := by
  go_enter Try.func9, Try.ntmps9
  go_wp2_with (go_at_call 10; refine (head_true _).mono ?_; rintro e w' ⟨rfl, hbel⟩; obtain ⟨⟨c0, c1, c2, c3⟩, ⟨d0, d1, d2, d3⟩, hb⟩ := start _ _ _ _ _ _ _ _ _ _ hbel; clear hbel)
  go_ret
  exact ⟨rfl, hb⟩
set_option maxHeartbeats 1000000 in
theorem walk_out6 (v x y z : BitVec 64) (e2 e3 g2 g3 : Int) (w : World) (h0 : 0 ≤ e2) (h1 : 0 ≤ g2) (h2 : 1 ≤ e3) (h3 : 1 ≤ g3) (h4 : e2 ≤ 63) (h5 : g2 ≤ 63) (h : 64 < e3) :
    Calls Try.prog 9 #[.agg #[.int .u64 (v.toNat : Int), .int .u64 (x.toNat : Int), .int .i64 e2, .int .i64 e3], .agg #[.int .u64 (y.toNat : Int), .int .u64 (z.toNat : Int), .int .i64 g2, .int .i64 g3]] w fun e w' => e = .returned (.bool true) ∧ Below w.heap.size w w' := by
  go_enter Try.func9, Try.ntmps9
  go_wp2_with (go_at_call 10; refine (head_true _).mono ?_; rintro e w' ⟨rfl, hbel⟩; obtain ⟨⟨c0, c1, c2, c3⟩, ⟨d0, d1, d2, d3⟩, hb⟩ := start _ _ _ _ _ _ _ _ _ _ hbel; clear hbel)
  go_ret
  exact ⟨rfl, hb⟩
set_option maxHeartbeats 1000000 in
theorem walk_out7 (v x y z : BitVec 64) (e2 e3 g2 g3 : Int) (w : World) (h0 : 0 ≤ e2) (h1 : 0 ≤ g2) (h2 : 1 ≤ e3) (h3 : 1 ≤ g3) (h4 : e2 ≤ 63) (h5 : g2 ≤ 63) (h6 : e3 ≤ 64) (h : 64 < g3) :
    Calls Try.prog 9 #[.agg #[.int .u64 (v.toNat : Int), .int .u64 (x.toNat : Int), .int .i64 e2, .int .i64 e3], .agg #[.int .u64 (y.toNat : Int), .int .u64 (z.toNat : Int), .int .i64 g2, .int .i64 g3]] w fun e w' => e = .returned (.bool true) ∧ Below w.heap.size w w' := by
  go_enter Try.func9, Try.ntmps9
  go_wp2_with (go_at_call 10; refine (head_true _).mono ?_; rintro e w' ⟨rfl, hbel⟩; obtain ⟨⟨c0, c1, c2, c3⟩, ⟨d0, d1, d2, d3⟩, hb⟩ := start _ _ _ _ _ _ _ _ _ _ hbel; clear hbel)
  go_ret
  exact ⟨rfl, hb⟩
set_option maxHeartbeats 1000000 in
theorem walk_out8 (v x y z : BitVec 64) (e2 e3 g2 g3 : Int) (w : World) (h0 : 0 ≤ e2) (h1 : 0 ≤ g2) (h2 : 1 ≤ e3) (h3 : 1 ≤ g3) (h4 : e2 ≤ 63) (h5 : g2 ≤ 63) (h6 : e3 ≤ 64) (h7 : g3 ≤ 64) (h : g2 < e2 + e3) :
    Calls Try.prog 9 #[.agg #[.int .u64 (v.toNat : Int), .int .u64 (x.toNat : Int), .int .i64 e2, .int .i64 e3], .agg #[.int .u64 (y.toNat : Int), .int .u64 (z.toNat : Int), .int .i64 g2, .int .i64 g3]] w fun e w' => e = .returned (.bool true) ∧ Below w.heap.size w w' := by
  go_enter Try.func9, Try.ntmps9
  go_wp2_with (go_at_call 10; refine (head_true _).mono ?_; rintro e w' ⟨rfl, hbel⟩; obtain ⟨⟨c0, c1, c2, c3⟩, ⟨d0, d1, d2, d3⟩, hb⟩ := start _ _ _ _ _ _ _ _ _ _ hbel; clear hbel)
  go_ret
  exact ⟨rfl, hb⟩
set_option maxHeartbeats 1000000 in
theorem walk_in (v x y z : BitVec 64) (e2 e3 g2 g3 : Int) (w : World) (h0 : 0 ≤ e2) (h1 : 0 ≤ g2) (h2 : 1 ≤ e3) (h3 : 1 ≤ g3) (h4 : e2 ≤ 63) (h5 : g2 ≤ 63) (h6 : e3 ≤ 64) (h7 : g3 ≤ 64) (h8 : e2 + e3 ≤ g2) :
    Calls Try.prog 9 #[.agg #[.int .u64 (v.toNat : Int), .int .u64 (x.toNat : Int), .int .i64 e2, .int .i64 e3], .agg #[.int .u64 (y.toNat : Int), .int .u64 (z.toNat : Int), .int .i64 g2, .int .i64 g3]] w fun e w' => e = .returned (.bool true) ∧ Below w.heap.size w w' := by
  have hq1 : (((putB (putB v e2 e3 x) g2 g3 z).toNat : Int) == ((putB (putB v g2 g3 z) e2 e3 x).toNat : Int)) = true := by rw [put_put v x z e2 e3 g2 g3 h0 h8]; simp
  have hq2 : (((bitsB (putB (putB v e2 e3 x) g2 g3 z) e2 e3).toNat : Int) == ((zext x e3).toNat : Int)) = true := by rw [bits_put_put v x z e2 e3 g2 g3 h0 h2 h8 h5]; simp
  go_enter Try.func9, Try.ntmps9
  go_wp2_with (go_at_call 10; refine (head_true _).mono ?_; rintro e w' ⟨rfl, hbel⟩; obtain ⟨⟨c0, c1, c2, c3⟩, ⟨d0, d1, d2, d3⟩, hb⟩ := start _ _ _ _ _ _ _ _ _ _ hbel; clear hbel)
  go_quiet (first | (go_at_call 15; exact quietL (word_Bits _ _ _ _)) | (go_at_call 17; exact quietL (word_Put _ _ _ _ _)) | (go_at_call 11; exact quietL (word_Zext _ _ _)))
  go_wp2
  go_quiet (first | (go_at_call 15; exact quietA (word_Bits _ _ _ _)) | (go_at_call 17; exact quietA (word_Put _ _ _ _ _)) | (go_at_call 11; exact quietA (word_Zext _ _ _)))
  go_wp2
  go_quiet (first | (go_at_call 15; exact quietA (word_Bits _ _ _ _)) | (go_at_call 17; exact quietA (word_Put _ _ _ _ _)) | (go_at_call 11; exact quietA (word_Zext _ _ _)))
  go_wp2
  go_ret
  exact ⟨rfl, below_drawn (below_drawn (below_drawn hb _) _) _⟩

theorem walk (e0 e1 e2 e3 g0 g1 g2 g3 : Int) (w : World) (w0 : (Lit.int .u64 e0).wf = true) (w1 : (Lit.int .u64 e1).wf = true) (w2 : (Lit.int .i64 e2).wf = true) (w3 : (Lit.int .i64 e3).wf = true)
    (v0 : (Lit.int .u64 g0).wf = true) (v1 : (Lit.int .u64 g1).wf = true) (v2 : (Lit.int .i64 g2).wf = true) (v3 : (Lit.int .i64 g3).wf = true) :
    Calls Try.prog 9 #[.agg #[.int .u64 e0, .int .u64 e1, .int .i64 e2, .int .i64 e3], .agg #[.int .u64 g0, .int .u64 g1, .int .i64 g2, .int .i64 g3]] w fun e w' => e = .returned (.bool true) ∧ Below w.heap.size w w' := by
  obtain ⟨v, rfl⟩ := word_of w0
  obtain ⟨x, rfl⟩ := word_of w1
  obtain ⟨y, rfl⟩ := word_of v0
  obtain ⟨z, rfl⟩ := word_of v1
  rcases Int.lt_or_le e2 0 with h | h0
  · exact walk_out0 v x y z e2 e3 g2 g3 w h
  rcases Int.lt_or_le g2 0 with h | h1
  · exact walk_out1 v x y z e2 e3 g2 g3 w h0 h
  rcases Int.lt_or_le e3 1 with h | h2
  · exact walk_out2 v x y z e2 e3 g2 g3 w h0 h1 h
  rcases Int.lt_or_le g3 1 with h | h3
  · exact walk_out3 v x y z e2 e3 g2 g3 w h0 h1 h2 h
  rcases Int.lt_or_le 63 e2 with h | h4
  · exact walk_out4 v x y z e2 e3 g2 g3 w h0 h1 h2 h3 h
  rcases Int.lt_or_le 63 g2 with h | h5
  · exact walk_out5 v x y z e2 e3 g2 g3 w h0 h1 h2 h3 h4 h
  rcases Int.lt_or_le 64 e3 with h | h6
  · exact walk_out6 v x y z e2 e3 g2 g3 w h0 h1 h2 h3 h4 h5 h
  rcases Int.lt_or_le 64 g3 with h | h7
  · exact walk_out7 v x y z e2 e3 g2 g3 w h0 h1 h2 h3 h4 h5 h6 h
  rcases Int.lt_or_le g2 (e2 + e3) with h | h8
  · exact walk_out8 v x y z e2 e3 g2 g3 w h0 h1 h2 h3 h4 h5 h6 h7 h
  exact walk_in v x y z e2 e3 g2 g3 w h0 h1 h2 h3 h4 h5 h6 h7 h8

/-! ### The row's step and the statement -/
set_option maxRecDepth 100000 in
theorem lifted (os : Os) (started : os.Started) (H : Type) (enc : TypeId × Value → H) :
    ReturnsInHanded {} Try.checked os 9 .any (Rows.wordApartSpec.pre6 enc Try.prog Try.f9 Rows.wordApartRow.domain false) (Rows.wordApartSpec.post enc Try.prog Try.f9 false true false false) := by
  refine returnsInHanded_of_change (C := Try.checked) own started (by kernel_rfl) Try.func9
    (ChangeSpec.witness6 (enc := enc) (C := Try.checked) false ⟨#[], #[.agg #[.int .u64 0, .int .u64 0, .int .i64 0, .int .i64 0], .agg #[.int .u64 0, .int .u64 0, .int .i64 0, .int .i64 0]], []⟩ 8 (by kernel_rfl) (by kernel_rfl) (by kernel_rfl) (by kernel_rfl)) ?_
  intro W base args ds gs before hval0 hW hcnd hsz
  have hval : ∀ (j : Nat) t v, Try.f9.params[j]? = some t → args[j]? = some v → Value.okWide Try.prog W .any base t v := hval0
  have hW' := hW
  obtain ⟨p, q, hA0, hV, rfl, hfz, hnd⟩ := hW
  have hA : DataW.TrodAll enc Try.prog W 0 (fun _ => true) true Try.f9.params.toList args.toList ds p := hA0
  rw [Try.params9] at hA hval
  obtain ⟨v0, vs0, d0, ds0, p0, q0, hargs, rfl, rfl, h0, r0⟩ := trodAll_cons hA
  obtain ⟨v1, vs1, d1, ds1, p1, q1, rfl, rfl, rfl, h1, r1⟩ := trodAll_cons r0
  obtain ⟨rfl, rfl, rfl⟩ := trodAll_nil r1
  obtain rfl : args = #[v0, v1] := by cases args; simp_all
  obtain ⟨rfl, rfl⟩ := trodVars_none hV
  have k0 := h0
  have lt0 : ∀ x ∈ p0, x.block < W.heap.size := by obtain ⟨m, hm⟩ := k0; exact DataW.trod_lt m _ _ _ hm
  obtain ⟨c0_0, c0_1, c0_2, c0_3, y0_0, y0_1, y0_2, y0_3, m0, rfl, hd0, hp0, hy0_0, hy0_1, hy0_2, hy0_3⟩ := Joins.open_agg4 Try.underlying26 (by kernel_rfl) (by kernel_rfl : Try.prog.cellsOf 26 = 4) (hval 0 26 v0 rfl rfl) h0
  obtain ⟨e0_0, f0_0, _, w0_0⟩ := DataW.trod_int Try.underlying24 hy0_0
  simp only [List.cons.injEq, and_true] at f0_0; subst f0_0
  obtain ⟨e0_1, f0_1, _, w0_1⟩ := DataW.trod_int Try.underlying24 hy0_1
  simp only [List.cons.injEq, and_true] at f0_1; subst f0_1
  obtain ⟨e0_2, f0_2, _, w0_2⟩ := DataW.trod_int Try.underlying3 hy0_2
  simp only [List.cons.injEq, and_true] at f0_2; subst f0_2
  obtain ⟨e0_3, f0_3, _, w0_3⟩ := DataW.trod_int Try.underlying3 hy0_3
  simp only [List.cons.injEq, and_true] at f0_3; subst f0_3
  have k1 := h1
  have lt1 : ∀ x ∈ p1, x.block < W.heap.size := by obtain ⟨m, hm⟩ := k1; exact DataW.trod_lt m _ _ _ hm
  obtain ⟨c1_0, c1_1, c1_2, c1_3, y1_0, y1_1, y1_2, y1_3, m1, rfl, hd1, hp1, hy1_0, hy1_1, hy1_2, hy1_3⟩ := Joins.open_agg4 Try.underlying26 (by kernel_rfl) (by kernel_rfl : Try.prog.cellsOf 26 = 4) (hval 1 26 v1 rfl rfl) h1
  obtain ⟨e1_0, f1_0, _, w1_0⟩ := DataW.trod_int Try.underlying24 hy1_0
  simp only [List.cons.injEq, and_true] at f1_0; subst f1_0
  obtain ⟨e1_1, f1_1, _, w1_1⟩ := DataW.trod_int Try.underlying24 hy1_1
  simp only [List.cons.injEq, and_true] at f1_1; subst f1_1
  obtain ⟨e1_2, f1_2, _, w1_2⟩ := DataW.trod_int Try.underlying3 hy1_2
  simp only [List.cons.injEq, and_true] at f1_2; subst f1_2
  obtain ⟨e1_3, f1_3, _, w1_3⟩ := DataW.trod_int Try.underlying3 hy1_3
  simp only [List.cons.injEq, and_true] at f1_3; subst f1_3
  clear hA0 hval0
  refine (walk e0_0 e0_1 e0_2 e0_3 e1_0 e1_1 e1_2 e1_3 W w0_0 w0_1 w0_2 w0_3 w1_0 w1_1 w1_2 w1_3).mono fun e W' ⟨he, bel⟩ => ?_
  subst he
  exact ⟨_, rfl, _, _, _, [], _, [], hW', trodAll_mk1 (shut_bool Try.underlying4 _), (trodAll_cons_mk (Below.trod laidOut (by kernel_rfl) (of_decide_eq_true (by kernel_rfl)) k0 bel lt0) (trodAll_cons_mk (Below.trod laidOut (by kernel_rfl) (of_decide_eq_true (by kernel_rfl)) k1 bel lt1) trodAll_mk0)), rfl, bel.frame _, fun h => by cases h⟩

theorem over : Rows.wordApartRow.holds Try.pinned (OpenSpec.ofChange Rows.wordApartSpec) :=
  OpenClaim.holds_of_wide 9 Try.f9 rfl rfl rfl rfl rfl rfl rfl ⟨rfl, rfl, rfl, rfl, rfl⟩ rfl rfl rfl rfl rfl (by kernel_rfl) Try.func9 (by kernel_rfl)
    (of_decide_eq_true (by kernel_rfl)) (by unfold Func.isWrapper; first | (rw [if_pos (by decide +kernel)]; kernel_rfl) | (rw [if_neg (by decide +kernel)]; exact ⟨rfl, rfl⟩))
    (fun os started H enc _ => lifted os started H enc)

/-- The statement. -/
theorem proved : Rows.WordApartSaid := over
end Go.Proofs.Ytchddecnglcemaa.wordApart
