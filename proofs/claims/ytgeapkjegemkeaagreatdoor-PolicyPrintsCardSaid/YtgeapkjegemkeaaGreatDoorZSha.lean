/-
  What the document writes of verdicts, of a not and of a test: contracts. Conditions: those that each names.
-/
import Derived.Test.YtgeapkjegemkeaaGreatDoorZWra
namespace Go.Proofs.YtgeapkjegemkeaaGreatDoor
open Go Go.RowKit
set_option linter.unusedSimpArgs false
set_option linter.unusedVariables false

set_option maxHeartbeats 4000000 in
set_option maxRecDepth 100000 in
theorem ref6_Verdict_num (k : Int) (hk : k = 3 ∨ k = 4 ∨ k = 6) (n : Nat) (hn : n < 18446744073709551616) (w : World) (hT : Tbl w) :
    Calls Tryz.prog 43 #[.agg #[.int .i64 k, .int .u64 (n : Int)]] w fun e w' => e = .returned (.string (strL (kindL k ++ 32 :: Lib.decDigits n))) ∧ Below w.heap.size w w' := by
  have HV := Lib.hid (BoxS.new (vdO6 k n) hT)
  have HN := Lib.hid (fun V hV => p_fmt10 n hn V hV)
  have HK := Lib.hid (fun V => ref6_word (k := k) (by omega) V)
  have hts := kind_len k
  have hds := dec_len hn
  rw [← strL_size] at hts hds
  obtain ⟨t, ht⟩ : ∃ t, strL (kindL k) = t := ⟨_, rfl⟩
  obtain ⟨d, hd⟩ : ∃ d, strL (Lib.decDigits n) = d := ⟨_, rfl⟩
  rw [ht] at HK hts
  rw [hd] at HN hds
  have HE : Hid (strL (kindL k ++ 32 :: Lib.decDigits n) = t ++ (⟨#[32]⟩ : ByteArray) ++ d) := Lib.hid (by rw [← ht, ← hd, show (⟨#[32]⟩ : ByteArray) = strL [32] from rfl, strL_append, strL_append]; simp)
  rw [HE.out]
  have z1 : ¬ 9223372036854775807 < t.size + 1 := by omega
  have z2 : ¬ 9223372036854775807 < (t ++ (⟨#[32]⟩ : ByteArray)).size + d.size := by rw [size_app]; show ¬ 9223372036854775807 < t.size + 1 + _; omega
  have y2 : ¬ 9223372036854775807 < t.size + 1 + d.size := by omega
  clear hT ht hd hn
  rcases hk with rfl | rfl | rfl <;>
  · obtain ⟨b0, b1⟩ := vd6_cells HV.out.box
    go_enter Tryz.func43, Tryz.ntmps43
    go_upto_region 2 with fail
    have HD0 := Lib.hid (BoxS.drew HV.out)
    refine wp_region_held_drew (S := fun W' => BoxS w W' (vdO6 _ n)) (by kernel_rfl) HD0.out (fun hHeld => ?_)
    clear b0 b1 HV
    generalize World.drew _ = Y at HD0 hHeld ⊢
    clear hHeld
    have hHeld := HD0.out
    refine wpAnyH_take (i := 0) (v := ?_) rfl (by kernel_rfl) (by kernel_rfl) (by kernel_rfl) (fun _ _ _ h => h) (Or.inl ⟨by rfl, ?_⟩) (by assumption) ?_
    rotate_left
    · intro wS hSw
      (obtain ⟨b0, b1⟩ := vd6_cells hSw.box)
      go_simp
      all_goals with_reducible rfl
    (try simp only [List.getElem_toArray, List.getElem_cons_zero, List.getElem_cons_succ, Act.put, List.setIfInBounds_toArray, List.set_cons_zero, List.set_cons_succ])
    refine wpAnyH_take (i := 1) (v := ?_) rfl (by kernel_rfl) (by kernel_rfl) (by kernel_rfl) (fun _ _ _ h => h) (Or.inl ⟨by rfl, ?_⟩) (by assumption) ?_
    rotate_left
    · intro wS hSw
      (obtain ⟨b0, b1⟩ := vd6_cells hSw.box)
      go_simp
      all_goals with_reducible rfl
    (try simp only [List.getElem_toArray, List.getElem_cons_zero, List.getElem_cons_succ, Act.put, List.setIfInBounds_toArray, List.set_cons_zero, List.set_cons_succ])
    refine wpAnyH_take (i := 4) (v := ?_) rfl (by kernel_rfl) (by kernel_rfl) (by kernel_rfl) (fun _ _ _ h => h) (Or.inl ⟨by rfl, ?_⟩) (by assumption) ?_
    rotate_left
    · intro wS hSw
      (obtain ⟨b0, b1⟩ := vd6_cells hSw.box)
      go_simp
      all_goals with_reducible rfl
    (try simp only [List.getElem_toArray, List.getElem_cons_zero, List.getElem_cons_succ, Act.put, List.setIfInBounds_toArray, List.set_cons_zero, List.set_cons_succ])
    refine wpAnyH_take (i := 5) (v := ?_) rfl (by kernel_rfl) (by kernel_rfl) (by kernel_rfl) (fun _ _ _ h => h) (Or.inl ⟨by rfl, ?_⟩) (by assumption) ?_
    rotate_left
    · intro wS hSw
      (obtain ⟨b0, b1⟩ := vd6_cells hSw.box)
      go_simp
      all_goals with_reducible rfl
    (try simp only [List.getElem_toArray, List.getElem_cons_zero, List.getElem_cons_succ, Act.put, List.setIfInBounds_toArray, List.set_cons_zero, List.set_cons_succ])
    refine held_one (i := 2) (by kernel_rfl) rfl (fun K hK => ?_)
    go_simp
    go_at_call 74
    refine (HK.out _).mono ?_
    rintro e w1 ⟨rfl, rfl⟩
    refine hK.out _ _ hHeld (fun hH2 => ?_)
    clear hK K hH2
    (try simp only [Act.put, List.setIfInBounds_toArray, List.set_cons_zero, List.set_cons_succ, List.getElem_toArray, List.getElem_cons_zero, List.getElem_cons_succ])
    refine wpAnyH_take (i := 3) (v := ?_) rfl (by kernel_rfl) (by kernel_rfl) (by kernel_rfl) (fun _ _ _ h => h) (Or.inl ⟨by rfl, ?_⟩) (by assumption) ?_
    rotate_left
    · intro wS hSw
      (skip)
      go_simp
      all_goals with_reducible rfl
    (try simp only [List.getElem_toArray, List.getElem_cons_zero, List.getElem_cons_succ, Act.put, List.setIfInBounds_toArray, List.set_cons_zero, List.set_cons_succ])
    refine held_one (i := 6) (by kernel_rfl) rfl (fun K hK => ?_)
    go_simp
    go_at_call 44
    refine (HN.out _ HD0.out.tbl).mono ?_
    rintro e w2 ⟨rfl, hb⟩
    have HD1 := Lib.hid (HD0.out.up hb)
    clear hHeld
    have hHeld := HD1.out
    refine hK.out _ _ HD1.out (fun hH2 => ?_)
    clear hK K hH2 hb
    (try simp only [Act.put, List.setIfInBounds_toArray, List.set_cons_zero, List.set_cons_succ, List.getElem_toArray, List.getElem_cons_zero, List.getElem_cons_succ])
    refine wpAnyH_take (i := 7) (v := ?_) rfl (by kernel_rfl) (by kernel_rfl) (by kernel_rfl) (fun _ _ _ h => h) (Or.inl ⟨by rfl, ?_⟩) (by assumption) ?_
    rotate_left
    · intro wS hSw
      (skip)
      go_simp
      all_goals with_reducible rfl
    (try simp only [List.getElem_toArray, List.getElem_cons_zero, List.getElem_cons_succ, Act.put, List.setIfInBounds_toArray, List.set_cons_zero, List.set_cons_succ])
    refine wpAnyH_take (i := 8) (v := ?_) rfl (by kernel_rfl) (by kernel_rfl) (by kernel_rfl) (fun _ _ _ h => h) (Or.inl ⟨by rfl, ?_⟩) (by assumption) ?_
    rotate_left
    · intro wS hSw
      (skip)
      go_simp
      all_goals with_reducible rfl
    (try simp only [List.getElem_toArray, List.getElem_cons_zero, List.getElem_cons_succ, Act.put, List.setIfInBounds_toArray, List.set_cons_zero, List.set_cons_succ])
    refine wpAnyH_done (by kernel_rfl) ?_ _
    go_wp2
    go_ret
    exact ⟨rfl, HD1.out.below⟩
theorem ref6_Verdict (v : Int × Nat) (h : GVd v) (w : World) (hT : Tbl w) :
    Calls Tryz.prog 43 #[.agg #[.int .i64 v.1, .int .u64 (v.2 : Int)]] w fun e w' => e = .returned (.string (strL (verdL v))) ∧ Below w.heap.size w w' := by
  obtain ⟨k, n⟩ := v
  obtain ⟨hk, hn, _⟩ := h
  simp only at hk hn
  cases hq : numK k with
  | true =>
    rw [show verdL (k, n) = kindL k ++ 32 :: Lib.decDigits n by unfold verdL; rw [if_pos hq]]
    exact ref6_Verdict_num k (numK_in hq) n hn w hT
  | false =>
    rw [show verdL (k, n) = kindL k by unfold verdL; rw [if_neg (by rw [hq]; decide)]]
    have hne := of_decide_eq_false (p := k = 3 ∨ k = 4 ∨ k = 6) hq
    have q3 : (k == 3) = false := beq_false_of_ne (fun e => hne (.inl e))
    have q4 : (k == 4) = false := beq_false_of_ne (fun e => hne (.inr (.inl e)))
    have q6 : (k == 6) = false := beq_false_of_ne (fun e => hne (.inr (.inr e)))
    have HK := Lib.hid (fun V => ref6_word (k := k) hk V)
    have HB := Lib.hid (lbox w (vdO6 k n))
    clear hT hk hn hq hne
    go_enter Tryz.func43, Tryz.ntmps43
    go_wp2_with (go_at_call 74; (with_reducible refine (HK.out _).mono ?_); rintro e w1 ⟨rfl, rfl⟩)
    go_ret
    exact ⟨rfl, HB.out⟩
/-- What the document's PrintExpr tells. -/
def SX (x : Ex) : Prop := ∀ (V : World) (A : Option Addr) (cap : Nat), ExL V x A cap → Tbl V → Calls Tryz.prog 17 #[exV x A cap] V fun e w' => e = .returned (.string (strL (exL x))) ∧ Below V.heap.size V w'
theorem ref6_inner {y : Ex} (ih : SX y) (hl : (exL y).length ≤ 10000000) (q : Bool) (w : World) (A : Option Addr) (cap : Nat) (hx : ExL w y A cap) (hT : Tbl w) :
    Calls Tryz.prog 45 #[exV y A cap, .bool q] w fun e w' => e = .returned (.string (strL (wrapL q (exL y)))) ∧ Below w.heap.size w w' := by
  have hb := lbox w (exCells y A cap)
  have H := ih _ A cap (hx.below hb) (hT.up hb)
  rw [← strL_size] at hl
  obtain ⟨t, ht⟩ : ∃ t, strL (exL y) = t := ⟨_, rfl⟩
  rw [ht] at H hl
  have HH := Lib.hid H
  have HB := Lib.hid hb
  have z1 : 1 + t.size ≤ 10000001 := by omega
  have z2 : ((⟨#[40]⟩ : ByteArray) ++ t).size + 1 ≤ 10000002 := by rw [size_app]; show 1 + t.size + 1 ≤ _; omega
  have z3 : 1 + t.size + 1 ≤ 10000002 := by omega
  clear H hx hT hb ih
  cases q with
  | false =>
    have HE := Lib.hid (show strL (wrapL false (exL y)) = t from ht)
    rw [HE.out]
    clear ht
    go_enter Tryz.func45, Tryz.ntmps45
    go_wp2_with (go_at_call 17; (with_reducible refine HH.out.mono ?_); rintro e w1 ⟨rfl, hb⟩; have HB2 := Lib.hid (HB.out.trans (hb.mono HB.out.size)); clear hb)
    go_ret
    exact ⟨rfl, HB2.out⟩
  | true =>
    have HE := Lib.hid (show strL (wrapL true (exL y)) = (⟨#[40]⟩ : ByteArray) ++ t ++ (⟨#[41]⟩ : ByteArray) by rw [← ht, show (⟨#[40]⟩ : ByteArray) = strL [40] from rfl, show (⟨#[41]⟩ : ByteArray) = strL [41] from rfl, strL_append, strL_append]; rfl)
    rw [HE.out]
    clear ht
    go_enter Tryz.func45, Tryz.ntmps45
    go_wp2_with (go_at_call 17; (with_reducible refine HH.out.mono ?_); rintro e w1 ⟨rfl, hb⟩; have HB2 := Lib.hid (HB.out.trans (hb.mono HB.out.size)); clear hb)
    go_ret
    exact ⟨rfl, HB2.out⟩
abbrev ndO9 (o : Int) (S : Value) : Obj := .cells #[.int .i64 o, S, .int .i64 0, .int .u64 0, .int .i64 0, .int .u64 0] 39
theorem nd9_cells {w : World} {b : Nat} {o : Int} {S : Value} (h : w.heap[b]? = some (ndO9 o S)) :
    w.cell? ⟨b, 0, none⟩ = some (.int .i64 o) ∧ w.cell? ⟨b, 1, none⟩ = some S ∧ w.cell? ⟨b, 2, none⟩ = some (.int .i64 0) ∧ w.cell? ⟨b, 3, none⟩ = some (.int .u64 0) ∧ w.cell? ⟨b, 4, none⟩ = some (.int .i64 0) ∧ w.cell? ⟨b, 5, none⟩ = some (.int .u64 0) :=
  ⟨cell6 h 0 rfl, cell6 h 1 rfl, cell6 h 2 rfl, cell6 h 3 rfl, cell6 h 4 rfl, cell6 h 5 rfl⟩
theorem exL_not9 (y : Ex) : exL (.node 3 [y]) = [110, 111, 116, 32] ++ wrapL (brkB 3 y.op) (exL y) := by
  rw [Ex.node, exL, if_neg (by decide), if_neg (by decide), if_pos rfl, headL]
/-- What is held while the argument of a `not` is got. -/
structure NotR (w V : World) (y : Ex) (tb ob : Nat) (cap : Nat) (A1 : Option Addr) (cap1 : Nat) : Prop where
  below : Below w.heap.size w V
  box : V.heap[w.heap.size]? = some (ndO9 3 (.slice (some ⟨tb, ob, none⟩) 1 cap))
  at_ : ∀ j u, (exC y A1 cap1)[j]? = some u → V.cell? ⟨tb, ob + j, none⟩ = some u
theorem NotR.up {w V V' : World} {y : Ex} {tb ob : Nat} {cap : Nat} {A1 : Option Addr} {cap1 : Nat} (h : NotR w V y tb ob cap A1 cap1) (ht : tb < w.heap.size) (hb : Below V.heap.size V V') : NotR w V' y tb ob cap A1 cap1 :=
  ⟨h.below.trans (hb.mono h.below.size), (hb.block _ (Array.getElem?_eq_some_iff.1 h.box).1).trans h.box, fun j u hj => (hb.cell (p := ⟨tb, ob + j, none⟩) (Nat.lt_of_lt_of_le ht h.below.size)).trans (h.at_ j u hj)⟩
set_option maxHeartbeats 4000000 in
set_option maxRecDepth 100000 in
theorem sx_not {y : Ex} (hg : GEx y) (ih : SX y) (hl : (exL y).length ≤ 10000000) : SX (.node 3 [y]) := by
  intro w A cap hx hT
  obtain ⟨tb, ob, hA, htl, A1, cap1, hx1, hc1⟩ := exL_arg (x := .node 3 [y]) hx 0 (by show 0 < 1; decide)
  change ExL w y A1 cap1 at hx1
  change ∀ j u, (exC y A1 cap1)[j]? = some u → w.cell? ⟨tb, ob + 0 * 6 + j, none⟩ = some u at hc1
  rw [Nat.zero_mul, Nat.add_zero] at hc1
  subst hA
  rw [exL_not9]
  have hop := gex_op hg
  have HN0 : Hid (NotR w (w.alloc (ndO9 3 (.slice (some ⟨tb, ob, none⟩) 1 cap))).drew y tb ob cap A1 cap1) := Lib.hid (NotR.up ⟨lbox w _, World.alloc_heap_new w _, fun j u hj => ((lbox w _).cell (p := ⟨tb, ob + j, none⟩) htl).trans (hc1 j u hj)⟩ htl (below_drawn (Below.refl _ _) 1))
  have HI := Lib.hid (fun q V (hV : NotR w V y tb ob cap A1 cap1) => ref6_inner ih hl q V A1 cap1 (hx1.below hV.below) (hT.up hV.below))
  have hwl := wrap_len (brkB 3 y.op) (exL y)
  have hts : (strL (wrapL (brkB 3 y.op) (exL y))).size ≤ 10000002 := by rw [strL_size]; omega
  have hb3 : brkB 3 y.op = decide (y.op = 4 ∨ y.op = 5) := if_pos (.inl rfl)
  obtain ⟨t, ht⟩ : ∃ t, strL (wrapL (brkB 3 y.op) (exL y)) = t := ⟨_, rfl⟩
  rw [ht] at hts
  have HE := Lib.hid (show strL ([110, 111, 116, 32] ++ wrapL (brkB 3 y.op) (exL y)) = (⟨#[110, 111, 116, 32]⟩ : ByteArray) ++ t by rw [← ht, show (⟨#[110, 111, 116, 32]⟩ : ByteArray) = strL [110, 111, 116, 32] from rfl, strL_append])
  rw [HE.out]
  have z1 : ¬ 9223372036854775807 < 4 + t.size := by omega
  have HTL := Lib.hid htl
  have hcase : y.op = 4 ∨ y.op = 5 ∨ (y.op ≠ 4 ∧ y.op ≠ 5) := by omega
  clear hx hx1 hc1 hl hwl hT ih htl
  rcases hcase with h4 | h5 | ⟨h4, h5⟩
  · have HQ := HI.out true
    rw [show strL (wrapL true (exL y)) = t by rw [← ht, hb3, show decide (y.op = 4 ∨ y.op = 5) = true from decide_eq_true (.inl h4)]] at HQ
    have HI2 := Lib.hid HQ
    have q4 : (y.op == 4) = true := beq_iff_eq.2 h4
    clear HQ HI ht hb3 hop h4
    show Calls Tryz.prog 17 #[.agg #[.int .i64 3, .slice (some ⟨tb, ob, none⟩) 1 cap, .int .i64 0, .int .u64 0, .int .i64 0, .int .u64 0]] w _
    go_enter Tryz.func17, Tryz.ntmps17
    go_upto_region 7 with fail
    refine wp_region_held_drew (S := fun W' => NotR w W' y tb ob cap A1 cap1) (by kernel_rfl) HN0.out (fun hHeld => ?_)
    generalize World.drew _ = Y at HN0 hHeld ⊢
    clear hHeld
    have hHeld := HN0.out
    refine wpAnyH_take (i := 0) (v := ?_) rfl (by kernel_rfl) (by kernel_rfl) (by kernel_rfl) (fun _ _ _ h => h) (Or.inl ⟨by rfl, ?_⟩) (by assumption) ?_
    rotate_left
    · intro wS hSw
      (obtain ⟨b0, b1, b2, b3, b4, b5⟩ := nd9_cells hSw.box; have e0 : wS.cell? ⟨tb, ob, none⟩ = some (.int .i64 y.op) := hSw.at_ 0 _ rfl; have e1 := hSw.at_ 1 _ rfl; have e2 := hSw.at_ 2 _ rfl; have e3 := hSw.at_ 3 _ rfl; have e4 := hSw.at_ 4 _ rfl; have e5 := hSw.at_ 5 _ rfl)
      go_simp
      all_goals with_reducible rfl
    (try simp only [List.getElem_toArray, List.getElem_cons_zero, List.getElem_cons_succ, Act.put, List.setIfInBounds_toArray, List.set_cons_zero, List.set_cons_succ])
    refine wpAnyH_take (i := 1) (v := ?_) rfl (by kernel_rfl) (by kernel_rfl) (by kernel_rfl) (fun _ _ _ h => h) (Or.inl ⟨by rfl, ?_⟩) (by assumption) ?_
    rotate_left
    · intro wS hSw
      (obtain ⟨b0, b1, b2, b3, b4, b5⟩ := nd9_cells hSw.box; have e0 : wS.cell? ⟨tb, ob, none⟩ = some (.int .i64 y.op) := hSw.at_ 0 _ rfl; have e1 := hSw.at_ 1 _ rfl; have e2 := hSw.at_ 2 _ rfl; have e3 := hSw.at_ 3 _ rfl; have e4 := hSw.at_ 4 _ rfl; have e5 := hSw.at_ 5 _ rfl)
      go_simp
      all_goals with_reducible rfl
    (try simp only [List.getElem_toArray, List.getElem_cons_zero, List.getElem_cons_succ, Act.put, List.setIfInBounds_toArray, List.set_cons_zero, List.set_cons_succ])
    refine wpAnyH_take (i := 2) (v := ?_) rfl (by kernel_rfl) (by kernel_rfl) (by kernel_rfl) (fun _ _ _ h => h) (Or.inl ⟨by rfl, ?_⟩) (by assumption) ?_
    rotate_left
    · intro wS hSw
      (obtain ⟨b0, b1, b2, b3, b4, b5⟩ := nd9_cells hSw.box; have e0 : wS.cell? ⟨tb, ob, none⟩ = some (.int .i64 y.op) := hSw.at_ 0 _ rfl; have e1 := hSw.at_ 1 _ rfl; have e2 := hSw.at_ 2 _ rfl; have e3 := hSw.at_ 3 _ rfl; have e4 := hSw.at_ 4 _ rfl; have e5 := hSw.at_ 5 _ rfl)
      go_simp
      all_goals with_reducible rfl
    (try simp only [List.getElem_toArray, List.getElem_cons_zero, List.getElem_cons_succ, Act.put, List.setIfInBounds_toArray, List.set_cons_zero, List.set_cons_succ])
    refine wpAnyH_take (i := 3) (v := ?_) rfl (by kernel_rfl) (by kernel_rfl) (by kernel_rfl) (fun _ _ _ h => h) (Or.inl ⟨by rfl, ?_⟩) (by assumption) ?_
    rotate_left
    · intro wS hSw
      (obtain ⟨b0, b1, b2, b3, b4, b5⟩ := nd9_cells hSw.box; have e0 : wS.cell? ⟨tb, ob, none⟩ = some (.int .i64 y.op) := hSw.at_ 0 _ rfl; have e1 := hSw.at_ 1 _ rfl; have e2 := hSw.at_ 2 _ rfl; have e3 := hSw.at_ 3 _ rfl; have e4 := hSw.at_ 4 _ rfl; have e5 := hSw.at_ 5 _ rfl)
      go_simp
      all_goals with_reducible rfl
    (try simp only [List.getElem_toArray, List.getElem_cons_zero, List.getElem_cons_succ, Act.put, List.setIfInBounds_toArray, List.set_cons_zero, List.set_cons_succ])
    refine wpAnyH_take (i := 4) (v := ?_) rfl (by kernel_rfl) (by kernel_rfl) (by kernel_rfl) (fun _ _ _ h => h) (Or.inl ⟨by rfl, ?_⟩) (by assumption) ?_
    rotate_left
    · intro wS hSw
      (obtain ⟨b0, b1, b2, b3, b4, b5⟩ := nd9_cells hSw.box; have e0 : wS.cell? ⟨tb, ob, none⟩ = some (.int .i64 y.op) := hSw.at_ 0 _ rfl; have e1 := hSw.at_ 1 _ rfl; have e2 := hSw.at_ 2 _ rfl; have e3 := hSw.at_ 3 _ rfl; have e4 := hSw.at_ 4 _ rfl; have e5 := hSw.at_ 5 _ rfl)
      go_simp
      all_goals with_reducible rfl
    (try simp only [List.getElem_toArray, List.getElem_cons_zero, List.getElem_cons_succ, Act.put, List.setIfInBounds_toArray, List.set_cons_zero, List.set_cons_succ])
    refine wpAnyH_take (i := 5) (v := ?_) rfl (by kernel_rfl) (by kernel_rfl) (by kernel_rfl) (fun _ _ _ h => h) (Or.inl ⟨by rfl, ?_⟩) (by assumption) ?_
    rotate_left
    · intro wS hSw
      (obtain ⟨b0, b1, b2, b3, b4, b5⟩ := nd9_cells hSw.box; have e0 : wS.cell? ⟨tb, ob, none⟩ = some (.int .i64 y.op) := hSw.at_ 0 _ rfl; have e1 := hSw.at_ 1 _ rfl; have e2 := hSw.at_ 2 _ rfl; have e3 := hSw.at_ 3 _ rfl; have e4 := hSw.at_ 4 _ rfl; have e5 := hSw.at_ 5 _ rfl)
      go_simp
      all_goals with_reducible rfl
    (try simp only [List.getElem_toArray, List.getElem_cons_zero, List.getElem_cons_succ, Act.put, List.setIfInBounds_toArray, List.set_cons_zero, List.set_cons_succ])
    refine wpAnyH_take (i := 6) (v := ?_) rfl (by kernel_rfl) (by kernel_rfl) (by kernel_rfl) (fun _ _ _ h => h) (Or.inl ⟨by rfl, ?_⟩) (by assumption) ?_
    rotate_left
    · intro wS hSw
      (obtain ⟨b0, b1, b2, b3, b4, b5⟩ := nd9_cells hSw.box; have e0 : wS.cell? ⟨tb, ob, none⟩ = some (.int .i64 y.op) := hSw.at_ 0 _ rfl; have e1 := hSw.at_ 1 _ rfl; have e2 := hSw.at_ 2 _ rfl; have e3 := hSw.at_ 3 _ rfl; have e4 := hSw.at_ 4 _ rfl; have e5 := hSw.at_ 5 _ rfl)
      go_simp
      all_goals with_reducible rfl
    (try simp only [List.getElem_toArray, List.getElem_cons_zero, List.getElem_cons_succ, Act.put, List.setIfInBounds_toArray, List.set_cons_zero, List.set_cons_succ])
    refine wpAnyH_take (i := 7) (v := ?_) rfl (by kernel_rfl) (by kernel_rfl) (by kernel_rfl) (fun _ _ _ h => h) (Or.inl ⟨by rfl, ?_⟩) (by assumption) ?_
    rotate_left
    · intro wS hSw
      (obtain ⟨b0, b1, b2, b3, b4, b5⟩ := nd9_cells hSw.box; have e0 : wS.cell? ⟨tb, ob, none⟩ = some (.int .i64 y.op) := hSw.at_ 0 _ rfl; have e1 := hSw.at_ 1 _ rfl; have e2 := hSw.at_ 2 _ rfl; have e3 := hSw.at_ 3 _ rfl; have e4 := hSw.at_ 4 _ rfl; have e5 := hSw.at_ 5 _ rfl)
      go_simp
      all_goals with_reducible rfl
    (try simp only [List.getElem_toArray, List.getElem_cons_zero, List.getElem_cons_succ, Act.put, List.setIfInBounds_toArray, List.set_cons_zero, List.set_cons_succ])
    refine wpAnyH_take (i := 8) (v := ?_) rfl (by kernel_rfl) (by kernel_rfl) (by kernel_rfl) (fun _ _ _ h => h) (Or.inl ⟨by rfl, ?_⟩) (by assumption) ?_
    rotate_left
    · intro wS hSw
      (obtain ⟨b0, b1, b2, b3, b4, b5⟩ := nd9_cells hSw.box; have e0 : wS.cell? ⟨tb, ob, none⟩ = some (.int .i64 y.op) := hSw.at_ 0 _ rfl; have e1 := hSw.at_ 1 _ rfl; have e2 := hSw.at_ 2 _ rfl; have e3 := hSw.at_ 3 _ rfl; have e4 := hSw.at_ 4 _ rfl; have e5 := hSw.at_ 5 _ rfl)
      go_simp
      all_goals with_reducible rfl
    (try simp only [List.getElem_toArray, List.getElem_cons_zero, List.getElem_cons_succ, Act.put, List.setIfInBounds_toArray, List.set_cons_zero, List.set_cons_succ])
    refine wpAnyH_take (i := 9) (v := ?_) rfl (by kernel_rfl) (by kernel_rfl) (by kernel_rfl) (fun _ _ _ h => h) (Or.inl ⟨by rfl, ?_⟩) (by assumption) ?_
    rotate_left
    · intro wS hSw
      (obtain ⟨b0, b1, b2, b3, b4, b5⟩ := nd9_cells hSw.box; have e0 : wS.cell? ⟨tb, ob, none⟩ = some (.int .i64 y.op) := hSw.at_ 0 _ rfl; have e1 := hSw.at_ 1 _ rfl; have e2 := hSw.at_ 2 _ rfl; have e3 := hSw.at_ 3 _ rfl; have e4 := hSw.at_ 4 _ rfl; have e5 := hSw.at_ 5 _ rfl)
      go_simp
      all_goals with_reducible rfl
    (try simp only [List.getElem_toArray, List.getElem_cons_zero, List.getElem_cons_succ, Act.put, List.setIfInBounds_toArray, List.set_cons_zero, List.set_cons_succ])
    refine wpAnyH_take (i := 10) (v := ?_) rfl (by kernel_rfl) (by kernel_rfl) (by kernel_rfl) (fun _ _ _ h => h) (Or.inl ⟨by rfl, ?_⟩) (by assumption) ?_
    rotate_left
    · intro wS hSw
      (obtain ⟨b0, b1, b2, b3, b4, b5⟩ := nd9_cells hSw.box; have e0 : wS.cell? ⟨tb, ob, none⟩ = some (.int .i64 y.op) := hSw.at_ 0 _ rfl; have e1 := hSw.at_ 1 _ rfl; have e2 := hSw.at_ 2 _ rfl; have e3 := hSw.at_ 3 _ rfl; have e4 := hSw.at_ 4 _ rfl; have e5 := hSw.at_ 5 _ rfl)
      go_simp
      all_goals with_reducible rfl
    (try simp only [List.getElem_toArray, List.getElem_cons_zero, List.getElem_cons_succ, Act.put, List.setIfInBounds_toArray, List.set_cons_zero, List.set_cons_succ])
    refine wpAnyH_take (i := 11) (v := undef) rfl (by kernel_rfl) (by kernel_rfl) (by kernel_rfl) (fun _ _ _ h => h) (Or.inr ⟨by rfl, rfl⟩) (by assumption) ?_
    (try simp only [Act.put, List.setIfInBounds_toArray, List.set_cons_zero, List.set_cons_succ, List.getElem_toArray, List.getElem_cons_zero, List.getElem_cons_succ])
    refine wpAnyH_take (i := 12) (v := undef) rfl (by kernel_rfl) (by kernel_rfl) (by kernel_rfl) (fun _ _ _ h => h) (Or.inr ⟨by rfl, rfl⟩) (by assumption) ?_
    (try simp only [Act.put, List.setIfInBounds_toArray, List.set_cons_zero, List.set_cons_succ, List.getElem_toArray, List.getElem_cons_zero, List.getElem_cons_succ])
    refine wpAnyH_take (i := 13) (v := undef) rfl (by kernel_rfl) (by kernel_rfl) (by kernel_rfl) (fun _ _ _ h => h) (Or.inr ⟨by rfl, rfl⟩) (by assumption) ?_
    (try simp only [Act.put, List.setIfInBounds_toArray, List.set_cons_zero, List.set_cons_succ, List.getElem_toArray, List.getElem_cons_zero, List.getElem_cons_succ])
    refine wpAnyH_take (i := 14) (v := undef) rfl (by kernel_rfl) (by kernel_rfl) (by kernel_rfl) (fun _ _ _ h => h) (Or.inr ⟨by rfl, rfl⟩) (by assumption) ?_
    (try simp only [Act.put, List.setIfInBounds_toArray, List.set_cons_zero, List.set_cons_succ, List.getElem_toArray, List.getElem_cons_zero, List.getElem_cons_succ])
    refine wpAnyH_take (i := 15) (v := undef) rfl (by kernel_rfl) (by kernel_rfl) (by kernel_rfl) (fun _ _ _ h => h) (Or.inr ⟨by rfl, rfl⟩) (by assumption) ?_
    (try simp only [Act.put, List.setIfInBounds_toArray, List.set_cons_zero, List.set_cons_succ, List.getElem_toArray, List.getElem_cons_zero, List.getElem_cons_succ])
    refine wpAnyH_take (i := 16) (v := undef) rfl (by kernel_rfl) (by kernel_rfl) (by kernel_rfl) (fun _ _ _ h => h) (Or.inr ⟨by rfl, rfl⟩) (by assumption) ?_
    (try simp only [Act.put, List.setIfInBounds_toArray, List.set_cons_zero, List.set_cons_succ, List.getElem_toArray, List.getElem_cons_zero, List.getElem_cons_succ])
    refine wpAnyH_take (i := 17) (v := ?_) rfl (by kernel_rfl) (by kernel_rfl) (by kernel_rfl) (fun _ _ _ h => h) (Or.inl ⟨by rfl, ?_⟩) (by assumption) ?_
    rotate_left
    · intro wS hSw
      (skip)
      go_simp
      all_goals with_reducible rfl
    (try simp only [List.getElem_toArray, List.getElem_cons_zero, List.getElem_cons_succ, Act.put, List.setIfInBounds_toArray, List.set_cons_zero, List.set_cons_succ])
    refine held_one (i := 18) (by kernel_rfl) rfl (fun K hK => ?_)
    go_simp
    go_at_call 45
    refine (HI2.out _ HN0.out).mono ?_
    rintro e w2 ⟨rfl, hb⟩
    have HN1 := Lib.hid (HN0.out.up HTL.out hb)
    clear hHeld
    have hHeld := HN1.out
    refine hK.out _ _ HN1.out (fun hH2 => ?_)
    clear hK K hH2 hb
    (try simp only [Act.put, List.setIfInBounds_toArray, List.set_cons_zero, List.set_cons_succ, List.getElem_toArray, List.getElem_cons_zero, List.getElem_cons_succ])
    refine wpAnyH_take (i := 19) (v := ?_) rfl (by kernel_rfl) (by kernel_rfl) (by kernel_rfl) (fun _ _ _ h => h) (Or.inl ⟨by rfl, ?_⟩) (by assumption) ?_
    rotate_left
    · intro wS hSw
      (skip)
      go_simp
      all_goals with_reducible rfl
    (try simp only [List.getElem_toArray, List.getElem_cons_zero, List.getElem_cons_succ, Act.put, List.setIfInBounds_toArray, List.set_cons_zero, List.set_cons_succ])
    refine wpAnyH_take (i := 20) (v := ?_) rfl (by kernel_rfl) (by kernel_rfl) (by kernel_rfl) (fun _ _ _ h => h) (Or.inl ⟨by rfl, ?_⟩) (by assumption) ?_
    rotate_left
    · intro wS hSw
      (skip)
      go_simp
      all_goals with_reducible rfl
    (try simp only [List.getElem_toArray, List.getElem_cons_zero, List.getElem_cons_succ, Act.put, List.setIfInBounds_toArray, List.set_cons_zero, List.set_cons_succ])
    refine wpAnyH_done (by kernel_rfl) ?_ _
    go_wp2
    go_ret
    exact ⟨rfl, HN1.out.below⟩
  · have HQ := HI.out true
    rw [show strL (wrapL true (exL y)) = t by rw [← ht, hb3, show decide (y.op = 4 ∨ y.op = 5) = true from decide_eq_true (.inr h5)]] at HQ
    have HI2 := Lib.hid HQ
    have q4 : (y.op == 4) = false := beq_false_of_ne (by omega)
    have q5 : (y.op == 5) = true := beq_iff_eq.2 h5
    clear HQ HI ht hb3 hop h5
    show Calls Tryz.prog 17 #[.agg #[.int .i64 3, .slice (some ⟨tb, ob, none⟩) 1 cap, .int .i64 0, .int .u64 0, .int .i64 0, .int .u64 0]] w _
    go_enter Tryz.func17, Tryz.ntmps17
    go_upto_region 7 with fail
    refine wp_region_held_drew (S := fun W' => NotR w W' y tb ob cap A1 cap1) (by kernel_rfl) HN0.out (fun hHeld => ?_)
    generalize World.drew _ = Y at HN0 hHeld ⊢
    clear hHeld
    have hHeld := HN0.out
    refine wpAnyH_take (i := 0) (v := ?_) rfl (by kernel_rfl) (by kernel_rfl) (by kernel_rfl) (fun _ _ _ h => h) (Or.inl ⟨by rfl, ?_⟩) (by assumption) ?_
    rotate_left
    · intro wS hSw
      (obtain ⟨b0, b1, b2, b3, b4, b5⟩ := nd9_cells hSw.box; have e0 : wS.cell? ⟨tb, ob, none⟩ = some (.int .i64 y.op) := hSw.at_ 0 _ rfl; have e1 := hSw.at_ 1 _ rfl; have e2 := hSw.at_ 2 _ rfl; have e3 := hSw.at_ 3 _ rfl; have e4 := hSw.at_ 4 _ rfl; have e5 := hSw.at_ 5 _ rfl)
      go_simp
      all_goals with_reducible rfl
    (try simp only [List.getElem_toArray, List.getElem_cons_zero, List.getElem_cons_succ, Act.put, List.setIfInBounds_toArray, List.set_cons_zero, List.set_cons_succ])
    refine wpAnyH_take (i := 1) (v := ?_) rfl (by kernel_rfl) (by kernel_rfl) (by kernel_rfl) (fun _ _ _ h => h) (Or.inl ⟨by rfl, ?_⟩) (by assumption) ?_
    rotate_left
    · intro wS hSw
      (obtain ⟨b0, b1, b2, b3, b4, b5⟩ := nd9_cells hSw.box; have e0 : wS.cell? ⟨tb, ob, none⟩ = some (.int .i64 y.op) := hSw.at_ 0 _ rfl; have e1 := hSw.at_ 1 _ rfl; have e2 := hSw.at_ 2 _ rfl; have e3 := hSw.at_ 3 _ rfl; have e4 := hSw.at_ 4 _ rfl; have e5 := hSw.at_ 5 _ rfl)
      go_simp
      all_goals with_reducible rfl
    (try simp only [List.getElem_toArray, List.getElem_cons_zero, List.getElem_cons_succ, Act.put, List.setIfInBounds_toArray, List.set_cons_zero, List.set_cons_succ])
    refine wpAnyH_take (i := 2) (v := ?_) rfl (by kernel_rfl) (by kernel_rfl) (by kernel_rfl) (fun _ _ _ h => h) (Or.inl ⟨by rfl, ?_⟩) (by assumption) ?_
    rotate_left
    · intro wS hSw
      (obtain ⟨b0, b1, b2, b3, b4, b5⟩ := nd9_cells hSw.box; have e0 : wS.cell? ⟨tb, ob, none⟩ = some (.int .i64 y.op) := hSw.at_ 0 _ rfl; have e1 := hSw.at_ 1 _ rfl; have e2 := hSw.at_ 2 _ rfl; have e3 := hSw.at_ 3 _ rfl; have e4 := hSw.at_ 4 _ rfl; have e5 := hSw.at_ 5 _ rfl)
      go_simp
      all_goals with_reducible rfl
    (try simp only [List.getElem_toArray, List.getElem_cons_zero, List.getElem_cons_succ, Act.put, List.setIfInBounds_toArray, List.set_cons_zero, List.set_cons_succ])
    refine wpAnyH_take (i := 3) (v := ?_) rfl (by kernel_rfl) (by kernel_rfl) (by kernel_rfl) (fun _ _ _ h => h) (Or.inl ⟨by rfl, ?_⟩) (by assumption) ?_
    rotate_left
    · intro wS hSw
      (obtain ⟨b0, b1, b2, b3, b4, b5⟩ := nd9_cells hSw.box; have e0 : wS.cell? ⟨tb, ob, none⟩ = some (.int .i64 y.op) := hSw.at_ 0 _ rfl; have e1 := hSw.at_ 1 _ rfl; have e2 := hSw.at_ 2 _ rfl; have e3 := hSw.at_ 3 _ rfl; have e4 := hSw.at_ 4 _ rfl; have e5 := hSw.at_ 5 _ rfl)
      go_simp
      all_goals with_reducible rfl
    (try simp only [List.getElem_toArray, List.getElem_cons_zero, List.getElem_cons_succ, Act.put, List.setIfInBounds_toArray, List.set_cons_zero, List.set_cons_succ])
    refine wpAnyH_take (i := 4) (v := ?_) rfl (by kernel_rfl) (by kernel_rfl) (by kernel_rfl) (fun _ _ _ h => h) (Or.inl ⟨by rfl, ?_⟩) (by assumption) ?_
    rotate_left
    · intro wS hSw
      (obtain ⟨b0, b1, b2, b3, b4, b5⟩ := nd9_cells hSw.box; have e0 : wS.cell? ⟨tb, ob, none⟩ = some (.int .i64 y.op) := hSw.at_ 0 _ rfl; have e1 := hSw.at_ 1 _ rfl; have e2 := hSw.at_ 2 _ rfl; have e3 := hSw.at_ 3 _ rfl; have e4 := hSw.at_ 4 _ rfl; have e5 := hSw.at_ 5 _ rfl)
      go_simp
      all_goals with_reducible rfl
    (try simp only [List.getElem_toArray, List.getElem_cons_zero, List.getElem_cons_succ, Act.put, List.setIfInBounds_toArray, List.set_cons_zero, List.set_cons_succ])
    refine wpAnyH_take (i := 5) (v := ?_) rfl (by kernel_rfl) (by kernel_rfl) (by kernel_rfl) (fun _ _ _ h => h) (Or.inl ⟨by rfl, ?_⟩) (by assumption) ?_
    rotate_left
    · intro wS hSw
      (obtain ⟨b0, b1, b2, b3, b4, b5⟩ := nd9_cells hSw.box; have e0 : wS.cell? ⟨tb, ob, none⟩ = some (.int .i64 y.op) := hSw.at_ 0 _ rfl; have e1 := hSw.at_ 1 _ rfl; have e2 := hSw.at_ 2 _ rfl; have e3 := hSw.at_ 3 _ rfl; have e4 := hSw.at_ 4 _ rfl; have e5 := hSw.at_ 5 _ rfl)
      go_simp
      all_goals with_reducible rfl
    (try simp only [List.getElem_toArray, List.getElem_cons_zero, List.getElem_cons_succ, Act.put, List.setIfInBounds_toArray, List.set_cons_zero, List.set_cons_succ])
    refine wpAnyH_take (i := 6) (v := ?_) rfl (by kernel_rfl) (by kernel_rfl) (by kernel_rfl) (fun _ _ _ h => h) (Or.inl ⟨by rfl, ?_⟩) (by assumption) ?_
    rotate_left
    · intro wS hSw
      (obtain ⟨b0, b1, b2, b3, b4, b5⟩ := nd9_cells hSw.box; have e0 : wS.cell? ⟨tb, ob, none⟩ = some (.int .i64 y.op) := hSw.at_ 0 _ rfl; have e1 := hSw.at_ 1 _ rfl; have e2 := hSw.at_ 2 _ rfl; have e3 := hSw.at_ 3 _ rfl; have e4 := hSw.at_ 4 _ rfl; have e5 := hSw.at_ 5 _ rfl)
      go_simp
      all_goals with_reducible rfl
    (try simp only [List.getElem_toArray, List.getElem_cons_zero, List.getElem_cons_succ, Act.put, List.setIfInBounds_toArray, List.set_cons_zero, List.set_cons_succ])
    refine wpAnyH_take (i := 7) (v := ?_) rfl (by kernel_rfl) (by kernel_rfl) (by kernel_rfl) (fun _ _ _ h => h) (Or.inl ⟨by rfl, ?_⟩) (by assumption) ?_
    rotate_left
    · intro wS hSw
      (obtain ⟨b0, b1, b2, b3, b4, b5⟩ := nd9_cells hSw.box; have e0 : wS.cell? ⟨tb, ob, none⟩ = some (.int .i64 y.op) := hSw.at_ 0 _ rfl; have e1 := hSw.at_ 1 _ rfl; have e2 := hSw.at_ 2 _ rfl; have e3 := hSw.at_ 3 _ rfl; have e4 := hSw.at_ 4 _ rfl; have e5 := hSw.at_ 5 _ rfl)
      go_simp
      all_goals with_reducible rfl
    (try simp only [List.getElem_toArray, List.getElem_cons_zero, List.getElem_cons_succ, Act.put, List.setIfInBounds_toArray, List.set_cons_zero, List.set_cons_succ])
    refine wpAnyH_take (i := 8) (v := ?_) rfl (by kernel_rfl) (by kernel_rfl) (by kernel_rfl) (fun _ _ _ h => h) (Or.inl ⟨by rfl, ?_⟩) (by assumption) ?_
    rotate_left
    · intro wS hSw
      (obtain ⟨b0, b1, b2, b3, b4, b5⟩ := nd9_cells hSw.box; have e0 : wS.cell? ⟨tb, ob, none⟩ = some (.int .i64 y.op) := hSw.at_ 0 _ rfl; have e1 := hSw.at_ 1 _ rfl; have e2 := hSw.at_ 2 _ rfl; have e3 := hSw.at_ 3 _ rfl; have e4 := hSw.at_ 4 _ rfl; have e5 := hSw.at_ 5 _ rfl)
      go_simp
      all_goals with_reducible rfl
    (try simp only [List.getElem_toArray, List.getElem_cons_zero, List.getElem_cons_succ, Act.put, List.setIfInBounds_toArray, List.set_cons_zero, List.set_cons_succ])
    refine wpAnyH_take (i := 9) (v := ?_) rfl (by kernel_rfl) (by kernel_rfl) (by kernel_rfl) (fun _ _ _ h => h) (Or.inl ⟨by rfl, ?_⟩) (by assumption) ?_
    rotate_left
    · intro wS hSw
      (obtain ⟨b0, b1, b2, b3, b4, b5⟩ := nd9_cells hSw.box; have e0 : wS.cell? ⟨tb, ob, none⟩ = some (.int .i64 y.op) := hSw.at_ 0 _ rfl; have e1 := hSw.at_ 1 _ rfl; have e2 := hSw.at_ 2 _ rfl; have e3 := hSw.at_ 3 _ rfl; have e4 := hSw.at_ 4 _ rfl; have e5 := hSw.at_ 5 _ rfl)
      go_simp
      all_goals with_reducible rfl
    (try simp only [List.getElem_toArray, List.getElem_cons_zero, List.getElem_cons_succ, Act.put, List.setIfInBounds_toArray, List.set_cons_zero, List.set_cons_succ])
    refine wpAnyH_take (i := 10) (v := ?_) rfl (by kernel_rfl) (by kernel_rfl) (by kernel_rfl) (fun _ _ _ h => h) (Or.inl ⟨by rfl, ?_⟩) (by assumption) ?_
    rotate_left
    · intro wS hSw
      (obtain ⟨b0, b1, b2, b3, b4, b5⟩ := nd9_cells hSw.box; have e0 : wS.cell? ⟨tb, ob, none⟩ = some (.int .i64 y.op) := hSw.at_ 0 _ rfl; have e1 := hSw.at_ 1 _ rfl; have e2 := hSw.at_ 2 _ rfl; have e3 := hSw.at_ 3 _ rfl; have e4 := hSw.at_ 4 _ rfl; have e5 := hSw.at_ 5 _ rfl)
      go_simp
      all_goals with_reducible rfl
    (try simp only [List.getElem_toArray, List.getElem_cons_zero, List.getElem_cons_succ, Act.put, List.setIfInBounds_toArray, List.set_cons_zero, List.set_cons_succ])
    refine wpAnyH_take (i := 11) (v := ?_) rfl (by kernel_rfl) (by kernel_rfl) (by kernel_rfl) (fun _ _ _ h => h) (Or.inl ⟨by rfl, ?_⟩) (by assumption) ?_
    rotate_left
    · intro wS hSw
      (obtain ⟨b0, b1, b2, b3, b4, b5⟩ := nd9_cells hSw.box; have e0 : wS.cell? ⟨tb, ob, none⟩ = some (.int .i64 y.op) := hSw.at_ 0 _ rfl)
      go_simp
      all_goals with_reducible rfl
    (try simp only [List.getElem_toArray, List.getElem_cons_zero, List.getElem_cons_succ, Act.put, List.setIfInBounds_toArray, List.set_cons_zero, List.set_cons_succ])
    refine wpAnyH_take (i := 12) (v := ?_) rfl (by kernel_rfl) (by kernel_rfl) (by kernel_rfl) (fun _ _ _ h => h) (Or.inl ⟨by rfl, ?_⟩) (by assumption) ?_
    rotate_left
    · intro wS hSw
      (obtain ⟨b0, b1, b2, b3, b4, b5⟩ := nd9_cells hSw.box; have e0 : wS.cell? ⟨tb, ob, none⟩ = some (.int .i64 y.op) := hSw.at_ 0 _ rfl)
      go_simp
      all_goals with_reducible rfl
    (try simp only [List.getElem_toArray, List.getElem_cons_zero, List.getElem_cons_succ, Act.put, List.setIfInBounds_toArray, List.set_cons_zero, List.set_cons_succ])
    refine wpAnyH_take (i := 13) (v := ?_) rfl (by kernel_rfl) (by kernel_rfl) (by kernel_rfl) (fun _ _ _ h => h) (Or.inl ⟨by rfl, ?_⟩) (by assumption) ?_
    rotate_left
    · intro wS hSw
      (obtain ⟨b0, b1, b2, b3, b4, b5⟩ := nd9_cells hSw.box; have e0 : wS.cell? ⟨tb, ob, none⟩ = some (.int .i64 y.op) := hSw.at_ 0 _ rfl)
      go_simp
      all_goals with_reducible rfl
    (try simp only [List.getElem_toArray, List.getElem_cons_zero, List.getElem_cons_succ, Act.put, List.setIfInBounds_toArray, List.set_cons_zero, List.set_cons_succ])
    refine wpAnyH_take (i := 14) (v := ?_) rfl (by kernel_rfl) (by kernel_rfl) (by kernel_rfl) (fun _ _ _ h => h) (Or.inl ⟨by rfl, ?_⟩) (by assumption) ?_
    rotate_left
    · intro wS hSw
      (obtain ⟨b0, b1, b2, b3, b4, b5⟩ := nd9_cells hSw.box; have e0 : wS.cell? ⟨tb, ob, none⟩ = some (.int .i64 y.op) := hSw.at_ 0 _ rfl)
      go_simp
      all_goals with_reducible rfl
    (try simp only [List.getElem_toArray, List.getElem_cons_zero, List.getElem_cons_succ, Act.put, List.setIfInBounds_toArray, List.set_cons_zero, List.set_cons_succ])
    refine wpAnyH_take (i := 15) (v := ?_) rfl (by kernel_rfl) (by kernel_rfl) (by kernel_rfl) (fun _ _ _ h => h) (Or.inl ⟨by rfl, ?_⟩) (by assumption) ?_
    rotate_left
    · intro wS hSw
      (obtain ⟨b0, b1, b2, b3, b4, b5⟩ := nd9_cells hSw.box; have e0 : wS.cell? ⟨tb, ob, none⟩ = some (.int .i64 y.op) := hSw.at_ 0 _ rfl)
      go_simp
      all_goals with_reducible rfl
    (try simp only [List.getElem_toArray, List.getElem_cons_zero, List.getElem_cons_succ, Act.put, List.setIfInBounds_toArray, List.set_cons_zero, List.set_cons_succ])
    refine wpAnyH_take (i := 16) (v := ?_) rfl (by kernel_rfl) (by kernel_rfl) (by kernel_rfl) (fun _ _ _ h => h) (Or.inl ⟨by rfl, ?_⟩) (by assumption) ?_
    rotate_left
    · intro wS hSw
      (obtain ⟨b0, b1, b2, b3, b4, b5⟩ := nd9_cells hSw.box; have e0 : wS.cell? ⟨tb, ob, none⟩ = some (.int .i64 y.op) := hSw.at_ 0 _ rfl)
      go_simp
      all_goals with_reducible rfl
    (try simp only [List.getElem_toArray, List.getElem_cons_zero, List.getElem_cons_succ, Act.put, List.setIfInBounds_toArray, List.set_cons_zero, List.set_cons_succ])
    refine wpAnyH_take (i := 17) (v := ?_) rfl (by kernel_rfl) (by kernel_rfl) (by kernel_rfl) (fun _ _ _ h => h) (Or.inl ⟨by rfl, ?_⟩) (by assumption) ?_
    rotate_left
    · intro wS hSw
      (skip)
      go_simp
      all_goals with_reducible rfl
    (try simp only [List.getElem_toArray, List.getElem_cons_zero, List.getElem_cons_succ, Act.put, List.setIfInBounds_toArray, List.set_cons_zero, List.set_cons_succ])
    refine held_one (i := 18) (by kernel_rfl) rfl (fun K hK => ?_)
    go_simp
    go_at_call 45
    refine (HI2.out _ HN0.out).mono ?_
    rintro e w2 ⟨rfl, hb⟩
    have HN1 := Lib.hid (HN0.out.up HTL.out hb)
    clear hHeld
    have hHeld := HN1.out
    refine hK.out _ _ HN1.out (fun hH2 => ?_)
    clear hK K hH2 hb
    (try simp only [Act.put, List.setIfInBounds_toArray, List.set_cons_zero, List.set_cons_succ, List.getElem_toArray, List.getElem_cons_zero, List.getElem_cons_succ])
    refine wpAnyH_take (i := 19) (v := ?_) rfl (by kernel_rfl) (by kernel_rfl) (by kernel_rfl) (fun _ _ _ h => h) (Or.inl ⟨by rfl, ?_⟩) (by assumption) ?_
    rotate_left
    · intro wS hSw
      (skip)
      go_simp
      all_goals with_reducible rfl
    (try simp only [List.getElem_toArray, List.getElem_cons_zero, List.getElem_cons_succ, Act.put, List.setIfInBounds_toArray, List.set_cons_zero, List.set_cons_succ])
    refine wpAnyH_take (i := 20) (v := ?_) rfl (by kernel_rfl) (by kernel_rfl) (by kernel_rfl) (fun _ _ _ h => h) (Or.inl ⟨by rfl, ?_⟩) (by assumption) ?_
    rotate_left
    · intro wS hSw
      (skip)
      go_simp
      all_goals with_reducible rfl
    (try simp only [List.getElem_toArray, List.getElem_cons_zero, List.getElem_cons_succ, Act.put, List.setIfInBounds_toArray, List.set_cons_zero, List.set_cons_succ])
    refine wpAnyH_done (by kernel_rfl) ?_ _
    go_wp2
    go_ret
    exact ⟨rfl, HN1.out.below⟩
  · have HQ := HI.out false
    rw [show strL (wrapL false (exL y)) = t by rw [← ht, hb3, show decide (y.op = 4 ∨ y.op = 5) = false from decide_eq_false (fun g => g.elim h4 h5)]] at HQ
    have HI2 := Lib.hid HQ
    have q4 : (y.op == 4) = false := beq_false_of_ne h4
    have q5 : (y.op == 5) = false := beq_false_of_ne h5
    clear HQ HI ht hb3 hop h4 h5
    show Calls Tryz.prog 17 #[.agg #[.int .i64 3, .slice (some ⟨tb, ob, none⟩) 1 cap, .int .i64 0, .int .u64 0, .int .i64 0, .int .u64 0]] w _
    go_enter Tryz.func17, Tryz.ntmps17
    go_upto_region 7 with fail
    refine wp_region_held_drew (S := fun W' => NotR w W' y tb ob cap A1 cap1) (by kernel_rfl) HN0.out (fun hHeld => ?_)
    generalize World.drew _ = Y at HN0 hHeld ⊢
    clear hHeld
    have hHeld := HN0.out
    refine wpAnyH_take (i := 0) (v := ?_) rfl (by kernel_rfl) (by kernel_rfl) (by kernel_rfl) (fun _ _ _ h => h) (Or.inl ⟨by rfl, ?_⟩) (by assumption) ?_
    rotate_left
    · intro wS hSw
      (obtain ⟨b0, b1, b2, b3, b4, b5⟩ := nd9_cells hSw.box; have e0 : wS.cell? ⟨tb, ob, none⟩ = some (.int .i64 y.op) := hSw.at_ 0 _ rfl; have e1 := hSw.at_ 1 _ rfl; have e2 := hSw.at_ 2 _ rfl; have e3 := hSw.at_ 3 _ rfl; have e4 := hSw.at_ 4 _ rfl; have e5 := hSw.at_ 5 _ rfl)
      go_simp
      all_goals with_reducible rfl
    (try simp only [List.getElem_toArray, List.getElem_cons_zero, List.getElem_cons_succ, Act.put, List.setIfInBounds_toArray, List.set_cons_zero, List.set_cons_succ])
    refine wpAnyH_take (i := 1) (v := ?_) rfl (by kernel_rfl) (by kernel_rfl) (by kernel_rfl) (fun _ _ _ h => h) (Or.inl ⟨by rfl, ?_⟩) (by assumption) ?_
    rotate_left
    · intro wS hSw
      (obtain ⟨b0, b1, b2, b3, b4, b5⟩ := nd9_cells hSw.box; have e0 : wS.cell? ⟨tb, ob, none⟩ = some (.int .i64 y.op) := hSw.at_ 0 _ rfl; have e1 := hSw.at_ 1 _ rfl; have e2 := hSw.at_ 2 _ rfl; have e3 := hSw.at_ 3 _ rfl; have e4 := hSw.at_ 4 _ rfl; have e5 := hSw.at_ 5 _ rfl)
      go_simp
      all_goals with_reducible rfl
    (try simp only [List.getElem_toArray, List.getElem_cons_zero, List.getElem_cons_succ, Act.put, List.setIfInBounds_toArray, List.set_cons_zero, List.set_cons_succ])
    refine wpAnyH_take (i := 2) (v := ?_) rfl (by kernel_rfl) (by kernel_rfl) (by kernel_rfl) (fun _ _ _ h => h) (Or.inl ⟨by rfl, ?_⟩) (by assumption) ?_
    rotate_left
    · intro wS hSw
      (obtain ⟨b0, b1, b2, b3, b4, b5⟩ := nd9_cells hSw.box; have e0 : wS.cell? ⟨tb, ob, none⟩ = some (.int .i64 y.op) := hSw.at_ 0 _ rfl; have e1 := hSw.at_ 1 _ rfl; have e2 := hSw.at_ 2 _ rfl; have e3 := hSw.at_ 3 _ rfl; have e4 := hSw.at_ 4 _ rfl; have e5 := hSw.at_ 5 _ rfl)
      go_simp
      all_goals with_reducible rfl
    (try simp only [List.getElem_toArray, List.getElem_cons_zero, List.getElem_cons_succ, Act.put, List.setIfInBounds_toArray, List.set_cons_zero, List.set_cons_succ])
    refine wpAnyH_take (i := 3) (v := ?_) rfl (by kernel_rfl) (by kernel_rfl) (by kernel_rfl) (fun _ _ _ h => h) (Or.inl ⟨by rfl, ?_⟩) (by assumption) ?_
    rotate_left
    · intro wS hSw
      (obtain ⟨b0, b1, b2, b3, b4, b5⟩ := nd9_cells hSw.box; have e0 : wS.cell? ⟨tb, ob, none⟩ = some (.int .i64 y.op) := hSw.at_ 0 _ rfl; have e1 := hSw.at_ 1 _ rfl; have e2 := hSw.at_ 2 _ rfl; have e3 := hSw.at_ 3 _ rfl; have e4 := hSw.at_ 4 _ rfl; have e5 := hSw.at_ 5 _ rfl)
      go_simp
      all_goals with_reducible rfl
    (try simp only [List.getElem_toArray, List.getElem_cons_zero, List.getElem_cons_succ, Act.put, List.setIfInBounds_toArray, List.set_cons_zero, List.set_cons_succ])
    refine wpAnyH_take (i := 4) (v := ?_) rfl (by kernel_rfl) (by kernel_rfl) (by kernel_rfl) (fun _ _ _ h => h) (Or.inl ⟨by rfl, ?_⟩) (by assumption) ?_
    rotate_left
    · intro wS hSw
      (obtain ⟨b0, b1, b2, b3, b4, b5⟩ := nd9_cells hSw.box; have e0 : wS.cell? ⟨tb, ob, none⟩ = some (.int .i64 y.op) := hSw.at_ 0 _ rfl; have e1 := hSw.at_ 1 _ rfl; have e2 := hSw.at_ 2 _ rfl; have e3 := hSw.at_ 3 _ rfl; have e4 := hSw.at_ 4 _ rfl; have e5 := hSw.at_ 5 _ rfl)
      go_simp
      all_goals with_reducible rfl
    (try simp only [List.getElem_toArray, List.getElem_cons_zero, List.getElem_cons_succ, Act.put, List.setIfInBounds_toArray, List.set_cons_zero, List.set_cons_succ])
    refine wpAnyH_take (i := 5) (v := ?_) rfl (by kernel_rfl) (by kernel_rfl) (by kernel_rfl) (fun _ _ _ h => h) (Or.inl ⟨by rfl, ?_⟩) (by assumption) ?_
    rotate_left
    · intro wS hSw
      (obtain ⟨b0, b1, b2, b3, b4, b5⟩ := nd9_cells hSw.box; have e0 : wS.cell? ⟨tb, ob, none⟩ = some (.int .i64 y.op) := hSw.at_ 0 _ rfl; have e1 := hSw.at_ 1 _ rfl; have e2 := hSw.at_ 2 _ rfl; have e3 := hSw.at_ 3 _ rfl; have e4 := hSw.at_ 4 _ rfl; have e5 := hSw.at_ 5 _ rfl)
      go_simp
      all_goals with_reducible rfl
    (try simp only [List.getElem_toArray, List.getElem_cons_zero, List.getElem_cons_succ, Act.put, List.setIfInBounds_toArray, List.set_cons_zero, List.set_cons_succ])
    refine wpAnyH_take (i := 6) (v := ?_) rfl (by kernel_rfl) (by kernel_rfl) (by kernel_rfl) (fun _ _ _ h => h) (Or.inl ⟨by rfl, ?_⟩) (by assumption) ?_
    rotate_left
    · intro wS hSw
      (obtain ⟨b0, b1, b2, b3, b4, b5⟩ := nd9_cells hSw.box; have e0 : wS.cell? ⟨tb, ob, none⟩ = some (.int .i64 y.op) := hSw.at_ 0 _ rfl; have e1 := hSw.at_ 1 _ rfl; have e2 := hSw.at_ 2 _ rfl; have e3 := hSw.at_ 3 _ rfl; have e4 := hSw.at_ 4 _ rfl; have e5 := hSw.at_ 5 _ rfl)
      go_simp
      all_goals with_reducible rfl
    (try simp only [List.getElem_toArray, List.getElem_cons_zero, List.getElem_cons_succ, Act.put, List.setIfInBounds_toArray, List.set_cons_zero, List.set_cons_succ])
    refine wpAnyH_take (i := 7) (v := ?_) rfl (by kernel_rfl) (by kernel_rfl) (by kernel_rfl) (fun _ _ _ h => h) (Or.inl ⟨by rfl, ?_⟩) (by assumption) ?_
    rotate_left
    · intro wS hSw
      (obtain ⟨b0, b1, b2, b3, b4, b5⟩ := nd9_cells hSw.box; have e0 : wS.cell? ⟨tb, ob, none⟩ = some (.int .i64 y.op) := hSw.at_ 0 _ rfl; have e1 := hSw.at_ 1 _ rfl; have e2 := hSw.at_ 2 _ rfl; have e3 := hSw.at_ 3 _ rfl; have e4 := hSw.at_ 4 _ rfl; have e5 := hSw.at_ 5 _ rfl)
      go_simp
      all_goals with_reducible rfl
    (try simp only [List.getElem_toArray, List.getElem_cons_zero, List.getElem_cons_succ, Act.put, List.setIfInBounds_toArray, List.set_cons_zero, List.set_cons_succ])
    refine wpAnyH_take (i := 8) (v := ?_) rfl (by kernel_rfl) (by kernel_rfl) (by kernel_rfl) (fun _ _ _ h => h) (Or.inl ⟨by rfl, ?_⟩) (by assumption) ?_
    rotate_left
    · intro wS hSw
      (obtain ⟨b0, b1, b2, b3, b4, b5⟩ := nd9_cells hSw.box; have e0 : wS.cell? ⟨tb, ob, none⟩ = some (.int .i64 y.op) := hSw.at_ 0 _ rfl; have e1 := hSw.at_ 1 _ rfl; have e2 := hSw.at_ 2 _ rfl; have e3 := hSw.at_ 3 _ rfl; have e4 := hSw.at_ 4 _ rfl; have e5 := hSw.at_ 5 _ rfl)
      go_simp
      all_goals with_reducible rfl
    (try simp only [List.getElem_toArray, List.getElem_cons_zero, List.getElem_cons_succ, Act.put, List.setIfInBounds_toArray, List.set_cons_zero, List.set_cons_succ])
    refine wpAnyH_take (i := 9) (v := ?_) rfl (by kernel_rfl) (by kernel_rfl) (by kernel_rfl) (fun _ _ _ h => h) (Or.inl ⟨by rfl, ?_⟩) (by assumption) ?_
    rotate_left
    · intro wS hSw
      (obtain ⟨b0, b1, b2, b3, b4, b5⟩ := nd9_cells hSw.box; have e0 : wS.cell? ⟨tb, ob, none⟩ = some (.int .i64 y.op) := hSw.at_ 0 _ rfl; have e1 := hSw.at_ 1 _ rfl; have e2 := hSw.at_ 2 _ rfl; have e3 := hSw.at_ 3 _ rfl; have e4 := hSw.at_ 4 _ rfl; have e5 := hSw.at_ 5 _ rfl)
      go_simp
      all_goals with_reducible rfl
    (try simp only [List.getElem_toArray, List.getElem_cons_zero, List.getElem_cons_succ, Act.put, List.setIfInBounds_toArray, List.set_cons_zero, List.set_cons_succ])
    refine wpAnyH_take (i := 10) (v := ?_) rfl (by kernel_rfl) (by kernel_rfl) (by kernel_rfl) (fun _ _ _ h => h) (Or.inl ⟨by rfl, ?_⟩) (by assumption) ?_
    rotate_left
    · intro wS hSw
      (obtain ⟨b0, b1, b2, b3, b4, b5⟩ := nd9_cells hSw.box; have e0 : wS.cell? ⟨tb, ob, none⟩ = some (.int .i64 y.op) := hSw.at_ 0 _ rfl; have e1 := hSw.at_ 1 _ rfl; have e2 := hSw.at_ 2 _ rfl; have e3 := hSw.at_ 3 _ rfl; have e4 := hSw.at_ 4 _ rfl; have e5 := hSw.at_ 5 _ rfl)
      go_simp
      all_goals with_reducible rfl
    (try simp only [List.getElem_toArray, List.getElem_cons_zero, List.getElem_cons_succ, Act.put, List.setIfInBounds_toArray, List.set_cons_zero, List.set_cons_succ])
    refine wpAnyH_take (i := 11) (v := ?_) rfl (by kernel_rfl) (by kernel_rfl) (by kernel_rfl) (fun _ _ _ h => h) (Or.inl ⟨by rfl, ?_⟩) (by assumption) ?_
    rotate_left
    · intro wS hSw
      (obtain ⟨b0, b1, b2, b3, b4, b5⟩ := nd9_cells hSw.box; have e0 : wS.cell? ⟨tb, ob, none⟩ = some (.int .i64 y.op) := hSw.at_ 0 _ rfl)
      go_simp
      all_goals with_reducible rfl
    (try simp only [List.getElem_toArray, List.getElem_cons_zero, List.getElem_cons_succ, Act.put, List.setIfInBounds_toArray, List.set_cons_zero, List.set_cons_succ])
    refine wpAnyH_take (i := 12) (v := ?_) rfl (by kernel_rfl) (by kernel_rfl) (by kernel_rfl) (fun _ _ _ h => h) (Or.inl ⟨by rfl, ?_⟩) (by assumption) ?_
    rotate_left
    · intro wS hSw
      (obtain ⟨b0, b1, b2, b3, b4, b5⟩ := nd9_cells hSw.box; have e0 : wS.cell? ⟨tb, ob, none⟩ = some (.int .i64 y.op) := hSw.at_ 0 _ rfl)
      go_simp
      all_goals with_reducible rfl
    (try simp only [List.getElem_toArray, List.getElem_cons_zero, List.getElem_cons_succ, Act.put, List.setIfInBounds_toArray, List.set_cons_zero, List.set_cons_succ])
    refine wpAnyH_take (i := 13) (v := ?_) rfl (by kernel_rfl) (by kernel_rfl) (by kernel_rfl) (fun _ _ _ h => h) (Or.inl ⟨by rfl, ?_⟩) (by assumption) ?_
    rotate_left
    · intro wS hSw
      (obtain ⟨b0, b1, b2, b3, b4, b5⟩ := nd9_cells hSw.box; have e0 : wS.cell? ⟨tb, ob, none⟩ = some (.int .i64 y.op) := hSw.at_ 0 _ rfl)
      go_simp
      all_goals with_reducible rfl
    (try simp only [List.getElem_toArray, List.getElem_cons_zero, List.getElem_cons_succ, Act.put, List.setIfInBounds_toArray, List.set_cons_zero, List.set_cons_succ])
    refine wpAnyH_take (i := 14) (v := ?_) rfl (by kernel_rfl) (by kernel_rfl) (by kernel_rfl) (fun _ _ _ h => h) (Or.inl ⟨by rfl, ?_⟩) (by assumption) ?_
    rotate_left
    · intro wS hSw
      (obtain ⟨b0, b1, b2, b3, b4, b5⟩ := nd9_cells hSw.box; have e0 : wS.cell? ⟨tb, ob, none⟩ = some (.int .i64 y.op) := hSw.at_ 0 _ rfl)
      go_simp
      all_goals with_reducible rfl
    (try simp only [List.getElem_toArray, List.getElem_cons_zero, List.getElem_cons_succ, Act.put, List.setIfInBounds_toArray, List.set_cons_zero, List.set_cons_succ])
    refine wpAnyH_take (i := 15) (v := ?_) rfl (by kernel_rfl) (by kernel_rfl) (by kernel_rfl) (fun _ _ _ h => h) (Or.inl ⟨by rfl, ?_⟩) (by assumption) ?_
    rotate_left
    · intro wS hSw
      (obtain ⟨b0, b1, b2, b3, b4, b5⟩ := nd9_cells hSw.box; have e0 : wS.cell? ⟨tb, ob, none⟩ = some (.int .i64 y.op) := hSw.at_ 0 _ rfl)
      go_simp
      all_goals with_reducible rfl
    (try simp only [List.getElem_toArray, List.getElem_cons_zero, List.getElem_cons_succ, Act.put, List.setIfInBounds_toArray, List.set_cons_zero, List.set_cons_succ])
    refine wpAnyH_take (i := 16) (v := ?_) rfl (by kernel_rfl) (by kernel_rfl) (by kernel_rfl) (fun _ _ _ h => h) (Or.inl ⟨by rfl, ?_⟩) (by assumption) ?_
    rotate_left
    · intro wS hSw
      (obtain ⟨b0, b1, b2, b3, b4, b5⟩ := nd9_cells hSw.box; have e0 : wS.cell? ⟨tb, ob, none⟩ = some (.int .i64 y.op) := hSw.at_ 0 _ rfl)
      go_simp
      all_goals with_reducible rfl
    (try simp only [List.getElem_toArray, List.getElem_cons_zero, List.getElem_cons_succ, Act.put, List.setIfInBounds_toArray, List.set_cons_zero, List.set_cons_succ])
    refine wpAnyH_take (i := 17) (v := ?_) rfl (by kernel_rfl) (by kernel_rfl) (by kernel_rfl) (fun _ _ _ h => h) (Or.inl ⟨by rfl, ?_⟩) (by assumption) ?_
    rotate_left
    · intro wS hSw
      (skip)
      go_simp
      all_goals with_reducible rfl
    (try simp only [List.getElem_toArray, List.getElem_cons_zero, List.getElem_cons_succ, Act.put, List.setIfInBounds_toArray, List.set_cons_zero, List.set_cons_succ])
    refine held_one (i := 18) (by kernel_rfl) rfl (fun K hK => ?_)
    go_simp
    go_at_call 45
    refine (HI2.out _ HN0.out).mono ?_
    rintro e w2 ⟨rfl, hb⟩
    have HN1 := Lib.hid (HN0.out.up HTL.out hb)
    clear hHeld
    have hHeld := HN1.out
    refine hK.out _ _ HN1.out (fun hH2 => ?_)
    clear hK K hH2 hb
    (try simp only [Act.put, List.setIfInBounds_toArray, List.set_cons_zero, List.set_cons_succ, List.getElem_toArray, List.getElem_cons_zero, List.getElem_cons_succ])
    refine wpAnyH_take (i := 19) (v := ?_) rfl (by kernel_rfl) (by kernel_rfl) (by kernel_rfl) (fun _ _ _ h => h) (Or.inl ⟨by rfl, ?_⟩) (by assumption) ?_
    rotate_left
    · intro wS hSw
      (skip)
      go_simp
      all_goals with_reducible rfl
    (try simp only [List.getElem_toArray, List.getElem_cons_zero, List.getElem_cons_succ, Act.put, List.setIfInBounds_toArray, List.set_cons_zero, List.set_cons_succ])
    refine wpAnyH_take (i := 20) (v := ?_) rfl (by kernel_rfl) (by kernel_rfl) (by kernel_rfl) (fun _ _ _ h => h) (Or.inl ⟨by rfl, ?_⟩) (by assumption) ?_
    rotate_left
    · intro wS hSw
      (skip)
      go_simp
      all_goals with_reducible rfl
    (try simp only [List.getElem_toArray, List.getElem_cons_zero, List.getElem_cons_succ, Act.put, List.setIfInBounds_toArray, List.set_cons_zero, List.set_cons_succ])
    refine wpAnyH_done (by kernel_rfl) ?_ _
    go_wp2
    go_ret
    exact ⟨rfl, HN1.out.below⟩
end Go.Proofs.YtgeapkjegemkeaaGreatDoor
namespace Go.Proofs.YtgeapkjegemkeaaGreatDoor
open Go Go.RowKit
set_option linter.unusedSimpArgs false
set_option linter.unusedVariables false

theorem exL_test9 (f : Int) (m : Nat) (r : Int) (v : Nat) : exL (.mk 6 [] f m r v) = testL f m r v := by rw [exL, if_neg (by decide), if_neg (by decide), if_neg (by decide), if_neg (by decide)]
theorem dec_one (j : Nat) (h : j < 6) : Lib.decDigits j = [UInt8.ofNat (48 + j)] := by
  rw [Lib.decDigits, dif_pos (by omega)]
theorem fld_arg (j : Nat) (h : j < 6) : strL (fldL (j : Int)) = (⟨#[97, 114, 103]⟩ : ByteArray) ++ strL (Lib.decDigits j) := by
  rw [dec_one j h, show (⟨#[97, 114, 103]⟩ : ByteArray) = strL [97, 114, 103] from rfl, strL_append]
  unfold fldL
  rw [if_neg (by omega)]
  have : ((j : Int)).toNat = j := by omega
  rw [this]
  rfl
set_option maxHeartbeats 8000000 in
set_option maxRecDepth 100000 in
theorem sx_test (f : Int) (m : Nat) (r : Int) (v : Nat) (hf : 0 ≤ f ∧ f ≤ 6) (hr : 1 ≤ r ∧ r ≤ 6) (hm : m < 18446744073709551616) (hv : v < 18446744073709551616) : SX (.mk 6 [] f m r v) := by
  intro w A cap hx0 hT
  clear hx0
  rw [exL_test9]
  have HV := Lib.hid (BoxS.new (exO9 6 (.slice A 0 cap) f m r v) hT)
  obtain ⟨b0, b1, b2, b3, b4, b5⟩ := ex9_cells HV.out.box
  have HN := Lib.hid (fun V hV => p_fmt10 v hv V hV)
  have HX := Lib.hid (fun V hV => p_fmt16 m hm V hV)
  have HG := Lib.hid (fun V => ref6_sign hr V)
  obtain ⟨q, hq2⟩ : ∃ q, q = strL (rlL r) := ⟨_, rfl⟩
  have hqs : q.size ≤ 2 := by rw [hq2, strL_size]; exact rel_len _
  obtain ⟨d, hd⟩ : ∃ d, d = strL (Lib.decDigits v) := ⟨_, rfl⟩
  have hds : d.size ≤ 20 := by rw [hd, strL_size]; exact dec_len hv
  obtain ⟨x, hx⟩ : ∃ x, x = strL (hexL m) := ⟨_, rfl⟩
  have hxs : x.size ≤ 16 := by rw [hx, strL_size]; exact hex_len 15 m (by rw [show (16 : Nat) ^ (15 + 1) = 18446744073709551616 from rfl]; exact hm)
  rw [← hd] at HN
  rw [← hx] at HX
  rw [← hq2] at HG
  have HE := Lib.hid (And.intro hq2 (And.intro hd hx))
  clear hT hq2 hd hx hr hv
  show Calls Tryz.prog 17 #[.agg #[.int .i64 6, .slice A 0 cap, .int .i64 f, .int .u64 (m : Int), .int .i64 r, .int .u64 (v : Int)]] w _
  by_cases hfi : f = 6
  · subst hfi
    obtain ⟨t, ht⟩ : ∃ t, t = strL (fldL 6) := ⟨_, rfl⟩
    have hts : t.size ≤ 4 := by rw [ht, strL_size]; exact field_len _
    have HTT := Lib.hid ht
    have hti : t = (⟨#[105, 112]⟩ : ByteArray) := ht
    by_cases hmx : m = 18446744073709551615
    · subst hmx
      have q1 : (((18446744073709551615 : Nat) : Int) != 18446744073709551615) = false := rfl
      have HS := Lib.hid (show t = strL (fldL 6 ++ maskL 18446744073709551615) by rw [HTT.out, show maskL 18446744073709551615 = [] from if_pos rfl, List.append_nil])
      go_enter Tryz.func17, Tryz.ntmps17
      go_upto_region 24 with fail
      rw [← hti]
      clear ht hti
      go_upto_region 26 with fail
      have HE2 := HV
      obtain ⟨s, hs⟩ : ∃ s, s = t := ⟨_, rfl⟩
      rw [← hs] at hts HS ⊢
      have hss : s.size ≤ 25 := by omega
      clear hs hts b0 b1 b2 b3 b4 b5 HV
      generalize w.alloc _ = Y2 at HE2 ⊢
      have z3 : ¬ 9223372036854775807 < s.size + 1 := by omega
      have z4 : ¬ 9223372036854775807 < (s ++ (⟨#[32]⟩ : ByteArray)).size + q.size := by rw [size_app]; show ¬ 9223372036854775807 < s.size + 1 + _; omega
      have z5 : ¬ 9223372036854775807 < (s ++ (⟨#[32]⟩ : ByteArray) ++ q).size + 1 := by rw [size_app, size_app]; show ¬ 9223372036854775807 < s.size + 1 + _ + 1; omega
      have z6 : ¬ 9223372036854775807 < (s ++ (⟨#[32]⟩ : ByteArray) ++ q ++ (⟨#[32]⟩ : ByteArray)).size + d.size := by rw [size_app, size_app, size_app]; show ¬ 9223372036854775807 < s.size + 1 + _ + 1 + _; omega
      have y4 : ¬ 9223372036854775807 < s.size + 1 + q.size := by omega
      have y5 : ¬ 9223372036854775807 < s.size + 1 + q.size + 1 := by omega
      have y6 : ¬ 9223372036854775807 < s.size + 1 + q.size + 1 + d.size := by omega
      refine wp_region_held_drew (S := fun W' => BoxS w W' (exO9 6 (.slice A 0 cap) 6 18446744073709551615 r v)) (by kernel_rfl) HE2.out.drew (fun hHeld => ?_)
      have HD0 := Lib.hid HE2.out.drew
      generalize Y2.drew = Y3 at HD0 hHeld ⊢
      clear hHeld HE2
      have hHeld := HD0.out
      refine wpAnyH_take (i := 0) (v := ?_) rfl (by kernel_rfl) (by kernel_rfl) (by kernel_rfl) (fun _ _ _ h => h) (Or.inl ⟨by rfl, ?_⟩) (by assumption) ?_
      rotate_left
      · intro wS hSw
        (obtain ⟨b0, b1, b2, b3, b4, b5⟩ := ex9_cells hSw.box)
        go_simp
        all_goals with_reducible rfl
      (try simp only [List.getElem_toArray, List.getElem_cons_zero, List.getElem_cons_succ, Act.put, List.setIfInBounds_toArray, List.set_cons_zero, List.set_cons_succ])
      refine wpAnyH_take (i := 1) (v := ?_) rfl (by kernel_rfl) (by kernel_rfl) (by kernel_rfl) (fun _ _ _ h => h) (Or.inl ⟨by rfl, ?_⟩) (by assumption) ?_
      rotate_left
      · intro wS hSw
        (obtain ⟨b0, b1, b2, b3, b4, b5⟩ := ex9_cells hSw.box)
        go_simp
        all_goals with_reducible rfl
      (try simp only [List.getElem_toArray, List.getElem_cons_zero, List.getElem_cons_succ, Act.put, List.setIfInBounds_toArray, List.set_cons_zero, List.set_cons_succ])
      refine wpAnyH_take (i := 2) (v := ?_) rfl (by kernel_rfl) (by kernel_rfl) (by kernel_rfl) (fun _ _ _ h => h) (Or.inl ⟨by rfl, ?_⟩) (by assumption) ?_
      rotate_left
      · intro wS hSw
        (obtain ⟨b0, b1, b2, b3, b4, b5⟩ := ex9_cells hSw.box)
        go_simp
        all_goals with_reducible rfl
      (try simp only [List.getElem_toArray, List.getElem_cons_zero, List.getElem_cons_succ, Act.put, List.setIfInBounds_toArray, List.set_cons_zero, List.set_cons_succ])
      refine wpAnyH_take (i := 3) (v := ?_) rfl (by kernel_rfl) (by kernel_rfl) (by kernel_rfl) (fun _ _ _ h => h) (Or.inl ⟨by rfl, ?_⟩) (by assumption) ?_
      rotate_left
      · intro wS hSw
        (obtain ⟨b0, b1, b2, b3, b4, b5⟩ := ex9_cells hSw.box)
        go_simp
        all_goals with_reducible rfl
      (try simp only [List.getElem_toArray, List.getElem_cons_zero, List.getElem_cons_succ, Act.put, List.setIfInBounds_toArray, List.set_cons_zero, List.set_cons_succ])
      refine wpAnyH_take (i := 7) (v := ?_) rfl (by kernel_rfl) (by kernel_rfl) (by kernel_rfl) (fun _ _ _ h => h) (Or.inl ⟨by rfl, ?_⟩) (by assumption) ?_
      rotate_left
      · intro wS hSw
        (obtain ⟨b0, b1, b2, b3, b4, b5⟩ := ex9_cells hSw.box)
        go_simp
        all_goals with_reducible rfl
      (try simp only [List.getElem_toArray, List.getElem_cons_zero, List.getElem_cons_succ, Act.put, List.setIfInBounds_toArray, List.set_cons_zero, List.set_cons_succ])
      refine wpAnyH_take (i := 8) (v := ?_) rfl (by kernel_rfl) (by kernel_rfl) (by kernel_rfl) (fun _ _ _ h => h) (Or.inl ⟨by rfl, ?_⟩) (by assumption) ?_
      rotate_left
      · intro wS hSw
        (obtain ⟨b0, b1, b2, b3, b4, b5⟩ := ex9_cells hSw.box)
        go_simp
        all_goals with_reducible rfl
      (try simp only [List.getElem_toArray, List.getElem_cons_zero, List.getElem_cons_succ, Act.put, List.setIfInBounds_toArray, List.set_cons_zero, List.set_cons_succ])
      refine held_one (i := 4) (by kernel_rfl) rfl (fun K hK => ?_)
      go_simp
      go_at_call 47
      refine (HG.out _).mono ?_
      rintro e w1 ⟨rfl, rfl⟩
      refine hK.out _ _ hHeld (fun hH2 => ?_)
      clear hK K hH2
      (try simp only [Act.put, List.setIfInBounds_toArray, List.set_cons_zero, List.set_cons_succ, List.getElem_toArray, List.getElem_cons_zero, List.getElem_cons_succ])
      refine wpAnyH_take (i := 5) (v := ?_) rfl (by kernel_rfl) (by kernel_rfl) (by kernel_rfl) (fun _ _ _ h => h) (Or.inl ⟨by rfl, ?_⟩) (by assumption) ?_
      rotate_left
      · intro wS hSw
        (skip)
        go_simp
        all_goals with_reducible rfl
      (try simp only [List.getElem_toArray, List.getElem_cons_zero, List.getElem_cons_succ, Act.put, List.setIfInBounds_toArray, List.set_cons_zero, List.set_cons_succ])
      refine wpAnyH_take (i := 6) (v := ?_) rfl (by kernel_rfl) (by kernel_rfl) (by kernel_rfl) (fun _ _ _ h => h) (Or.inl ⟨by rfl, ?_⟩) (by assumption) ?_
      rotate_left
      · intro wS hSw
        (skip)
        go_simp
        all_goals with_reducible rfl
      (try simp only [List.getElem_toArray, List.getElem_cons_zero, List.getElem_cons_succ, Act.put, List.setIfInBounds_toArray, List.set_cons_zero, List.set_cons_succ])
      refine held_one (i := 9) (by kernel_rfl) rfl (fun K hK => ?_)
      go_simp
      go_at_call 44
      refine (HN.out _ HD0.out.tbl).mono ?_
      rintro e w3 ⟨rfl, hb⟩
      have HE3 := Lib.hid (HD0.out.up hb)
      clear hHeld
      have hHeld := HE3.out
      refine hK.out _ _ HE3.out (fun hH2 => ?_)
      clear hK K hH2 hb HD0
      (try simp only [Act.put, List.setIfInBounds_toArray, List.set_cons_zero, List.set_cons_succ, List.getElem_toArray, List.getElem_cons_zero, List.getElem_cons_succ])
      refine wpAnyH_take (i := 10) (v := ?_) rfl (by kernel_rfl) (by kernel_rfl) (by kernel_rfl) (fun _ _ _ h => h) (Or.inl ⟨by rfl, ?_⟩) (by assumption) ?_
      rotate_left
      · intro wS hSw
        (skip)
        go_simp
        all_goals with_reducible rfl
      (try simp only [List.getElem_toArray, List.getElem_cons_zero, List.getElem_cons_succ, Act.put, List.setIfInBounds_toArray, List.set_cons_zero, List.set_cons_succ])
      refine wpAnyH_take (i := 11) (v := ?_) rfl (by kernel_rfl) (by kernel_rfl) (by kernel_rfl) (fun _ _ _ h => h) (Or.inl ⟨by rfl, ?_⟩) (by assumption) ?_
      rotate_left
      · intro wS hSw
        (skip)
        go_simp
        all_goals with_reducible rfl
      (try simp only [List.getElem_toArray, List.getElem_cons_zero, List.getElem_cons_succ, Act.put, List.setIfInBounds_toArray, List.set_cons_zero, List.set_cons_succ])
      refine wpAnyH_done (by kernel_rfl) ?_ _
      go_wp2
      go_ret
      refine ⟨?_, HE3.out.below⟩
      have hz : s ++ (⟨#[32]⟩ : ByteArray) ++ q ++ (⟨#[32]⟩ : ByteArray) ++ d = strL (testL 6 18446744073709551615 r v) := by
        rw [HS.out, HE.out.1, HE.out.2.1, show (⟨#[32]⟩ : ByteArray) = strL [32] from rfl, strL_append, strL_append, strL_append, strL_append]
        unfold testL
        simp
      rw [← hz]
      rfl
    · have q1 : ((m : Int) != 18446744073709551615) = true := bne_iff_ne.2 (by omega)
      have z1 : t.size + 5 ≤ 9 := by omega
      have z2 : (t ++ (⟨#[32, 38, 32, 48, 120]⟩ : ByteArray)).size + x.size ≤ 25 := by rw [size_app]; show t.size + 5 + _ ≤ _; omega
      have y2 : t.size + 5 + x.size ≤ 25 := by omega
      have HS := Lib.hid (show t ++ (⟨#[32, 38, 32, 48, 120]⟩ : ByteArray) ++ x = strL (fldL 6 ++ maskL m) by rw [HTT.out, HE.out.2.2, show maskL m = [32, 38, 32, 48, 120] ++ hexL m from if_neg hmx, show (⟨#[32, 38, 32, 48, 120]⟩ : ByteArray) = strL [32, 38, 32, 48, 120] from rfl, strL_append, strL_append, List.append_assoc])
      go_enter Tryz.func17, Tryz.ntmps17
      go_upto_region 24 with fail
      rw [← hti]
      clear ht hti
      go_upto_region 26 with (go_at_call 44; (with_reducible refine (HX.out _ HV.out.tbl).mono ?_); rintro e w2 ⟨rfl, hb⟩; have HE2 := Lib.hid (HV.out.up hb); clear hb)
      obtain ⟨s, hs⟩ : ∃ s, s = t ++ (⟨#[32, 38, 32, 48, 120]⟩ : ByteArray) ++ x := ⟨_, rfl⟩
      rw [← hs] at HS ⊢
      have hss : s.size ≤ 25 := by rw [hs, size_app]; exact z2
      clear hs hts z1 z2 y2 hxs b0 b1 b2 b3 b4 b5 HV
      generalize w2 = Y2 at HE2 ⊢
      have z3 : ¬ 9223372036854775807 < s.size + 1 := by omega
      have z4 : ¬ 9223372036854775807 < (s ++ (⟨#[32]⟩ : ByteArray)).size + q.size := by rw [size_app]; show ¬ 9223372036854775807 < s.size + 1 + _; omega
      have z5 : ¬ 9223372036854775807 < (s ++ (⟨#[32]⟩ : ByteArray) ++ q).size + 1 := by rw [size_app, size_app]; show ¬ 9223372036854775807 < s.size + 1 + _ + 1; omega
      have z6 : ¬ 9223372036854775807 < (s ++ (⟨#[32]⟩ : ByteArray) ++ q ++ (⟨#[32]⟩ : ByteArray)).size + d.size := by rw [size_app, size_app, size_app]; show ¬ 9223372036854775807 < s.size + 1 + _ + 1 + _; omega
      have y4 : ¬ 9223372036854775807 < s.size + 1 + q.size := by omega
      have y5 : ¬ 9223372036854775807 < s.size + 1 + q.size + 1 := by omega
      have y6 : ¬ 9223372036854775807 < s.size + 1 + q.size + 1 + d.size := by omega
      refine wp_region_held_drew (S := fun W' => BoxS w W' (exO9 6 (.slice A 0 cap) 6 m r v)) (by kernel_rfl) HE2.out.drew (fun hHeld => ?_)
      have HD0 := Lib.hid HE2.out.drew
      generalize Y2.drew = Y3 at HD0 hHeld ⊢
      clear hHeld HE2
      have hHeld := HD0.out
      refine wpAnyH_take (i := 0) (v := ?_) rfl (by kernel_rfl) (by kernel_rfl) (by kernel_rfl) (fun _ _ _ h => h) (Or.inl ⟨by rfl, ?_⟩) (by assumption) ?_
      rotate_left
      · intro wS hSw
        (obtain ⟨b0, b1, b2, b3, b4, b5⟩ := ex9_cells hSw.box)
        go_simp
        all_goals with_reducible rfl
      (try simp only [List.getElem_toArray, List.getElem_cons_zero, List.getElem_cons_succ, Act.put, List.setIfInBounds_toArray, List.set_cons_zero, List.set_cons_succ])
      refine wpAnyH_take (i := 1) (v := ?_) rfl (by kernel_rfl) (by kernel_rfl) (by kernel_rfl) (fun _ _ _ h => h) (Or.inl ⟨by rfl, ?_⟩) (by assumption) ?_
      rotate_left
      · intro wS hSw
        (obtain ⟨b0, b1, b2, b3, b4, b5⟩ := ex9_cells hSw.box)
        go_simp
        all_goals with_reducible rfl
      (try simp only [List.getElem_toArray, List.getElem_cons_zero, List.getElem_cons_succ, Act.put, List.setIfInBounds_toArray, List.set_cons_zero, List.set_cons_succ])
      refine wpAnyH_take (i := 2) (v := ?_) rfl (by kernel_rfl) (by kernel_rfl) (by kernel_rfl) (fun _ _ _ h => h) (Or.inl ⟨by rfl, ?_⟩) (by assumption) ?_
      rotate_left
      · intro wS hSw
        (obtain ⟨b0, b1, b2, b3, b4, b5⟩ := ex9_cells hSw.box)
        go_simp
        all_goals with_reducible rfl
      (try simp only [List.getElem_toArray, List.getElem_cons_zero, List.getElem_cons_succ, Act.put, List.setIfInBounds_toArray, List.set_cons_zero, List.set_cons_succ])
      refine wpAnyH_take (i := 3) (v := ?_) rfl (by kernel_rfl) (by kernel_rfl) (by kernel_rfl) (fun _ _ _ h => h) (Or.inl ⟨by rfl, ?_⟩) (by assumption) ?_
      rotate_left
      · intro wS hSw
        (obtain ⟨b0, b1, b2, b3, b4, b5⟩ := ex9_cells hSw.box)
        go_simp
        all_goals with_reducible rfl
      (try simp only [List.getElem_toArray, List.getElem_cons_zero, List.getElem_cons_succ, Act.put, List.setIfInBounds_toArray, List.set_cons_zero, List.set_cons_succ])
      refine wpAnyH_take (i := 7) (v := ?_) rfl (by kernel_rfl) (by kernel_rfl) (by kernel_rfl) (fun _ _ _ h => h) (Or.inl ⟨by rfl, ?_⟩) (by assumption) ?_
      rotate_left
      · intro wS hSw
        (obtain ⟨b0, b1, b2, b3, b4, b5⟩ := ex9_cells hSw.box)
        go_simp
        all_goals with_reducible rfl
      (try simp only [List.getElem_toArray, List.getElem_cons_zero, List.getElem_cons_succ, Act.put, List.setIfInBounds_toArray, List.set_cons_zero, List.set_cons_succ])
      refine wpAnyH_take (i := 8) (v := ?_) rfl (by kernel_rfl) (by kernel_rfl) (by kernel_rfl) (fun _ _ _ h => h) (Or.inl ⟨by rfl, ?_⟩) (by assumption) ?_
      rotate_left
      · intro wS hSw
        (obtain ⟨b0, b1, b2, b3, b4, b5⟩ := ex9_cells hSw.box)
        go_simp
        all_goals with_reducible rfl
      (try simp only [List.getElem_toArray, List.getElem_cons_zero, List.getElem_cons_succ, Act.put, List.setIfInBounds_toArray, List.set_cons_zero, List.set_cons_succ])
      refine held_one (i := 4) (by kernel_rfl) rfl (fun K hK => ?_)
      go_simp
      go_at_call 47
      refine (HG.out _).mono ?_
      rintro e w1 ⟨rfl, rfl⟩
      refine hK.out _ _ hHeld (fun hH2 => ?_)
      clear hK K hH2
      (try simp only [Act.put, List.setIfInBounds_toArray, List.set_cons_zero, List.set_cons_succ, List.getElem_toArray, List.getElem_cons_zero, List.getElem_cons_succ])
      refine wpAnyH_take (i := 5) (v := ?_) rfl (by kernel_rfl) (by kernel_rfl) (by kernel_rfl) (fun _ _ _ h => h) (Or.inl ⟨by rfl, ?_⟩) (by assumption) ?_
      rotate_left
      · intro wS hSw
        (skip)
        go_simp
        all_goals with_reducible rfl
      (try simp only [List.getElem_toArray, List.getElem_cons_zero, List.getElem_cons_succ, Act.put, List.setIfInBounds_toArray, List.set_cons_zero, List.set_cons_succ])
      refine wpAnyH_take (i := 6) (v := ?_) rfl (by kernel_rfl) (by kernel_rfl) (by kernel_rfl) (fun _ _ _ h => h) (Or.inl ⟨by rfl, ?_⟩) (by assumption) ?_
      rotate_left
      · intro wS hSw
        (skip)
        go_simp
        all_goals with_reducible rfl
      (try simp only [List.getElem_toArray, List.getElem_cons_zero, List.getElem_cons_succ, Act.put, List.setIfInBounds_toArray, List.set_cons_zero, List.set_cons_succ])
      refine held_one (i := 9) (by kernel_rfl) rfl (fun K hK => ?_)
      go_simp
      go_at_call 44
      refine (HN.out _ HD0.out.tbl).mono ?_
      rintro e w3 ⟨rfl, hb⟩
      have HE3 := Lib.hid (HD0.out.up hb)
      clear hHeld
      have hHeld := HE3.out
      refine hK.out _ _ HE3.out (fun hH2 => ?_)
      clear hK K hH2 hb HD0
      (try simp only [Act.put, List.setIfInBounds_toArray, List.set_cons_zero, List.set_cons_succ, List.getElem_toArray, List.getElem_cons_zero, List.getElem_cons_succ])
      refine wpAnyH_take (i := 10) (v := ?_) rfl (by kernel_rfl) (by kernel_rfl) (by kernel_rfl) (fun _ _ _ h => h) (Or.inl ⟨by rfl, ?_⟩) (by assumption) ?_
      rotate_left
      · intro wS hSw
        (skip)
        go_simp
        all_goals with_reducible rfl
      (try simp only [List.getElem_toArray, List.getElem_cons_zero, List.getElem_cons_succ, Act.put, List.setIfInBounds_toArray, List.set_cons_zero, List.set_cons_succ])
      refine wpAnyH_take (i := 11) (v := ?_) rfl (by kernel_rfl) (by kernel_rfl) (by kernel_rfl) (fun _ _ _ h => h) (Or.inl ⟨by rfl, ?_⟩) (by assumption) ?_
      rotate_left
      · intro wS hSw
        (skip)
        go_simp
        all_goals with_reducible rfl
      (try simp only [List.getElem_toArray, List.getElem_cons_zero, List.getElem_cons_succ, Act.put, List.setIfInBounds_toArray, List.set_cons_zero, List.set_cons_succ])
      refine wpAnyH_done (by kernel_rfl) ?_ _
      go_wp2
      go_ret
      refine ⟨?_, HE3.out.below⟩
      have hz : s ++ (⟨#[32]⟩ : ByteArray) ++ q ++ (⟨#[32]⟩ : ByteArray) ++ d = strL (testL 6 m r v) := by
        rw [HS.out, HE.out.1, HE.out.2.1, show (⟨#[32]⟩ : ByteArray) = strL [32] from rfl, strL_append, strL_append, strL_append, strL_append]
        unfold testL
        simp
      rw [← hz]
      rfl
  · obtain ⟨g, rfl⟩ : ∃ g : Nat, f = (g : Int) := ⟨f.toNat, by omega⟩
    have hg : g < 6 := by omega
    have q6 : ((g : Int) != 6) = true := bne_iff_ne.2 hfi
    have HI := Lib.hid (fun V => Tryz.strconv_Itoa_small g (by omega) V)
    have hdl := congrArg List.length (dec_one g hg)
    simp only [List.length_cons, List.length_nil] at hdl
    obtain ⟨y, hy⟩ : ∃ y, y = strL (Lib.decDigits g) := ⟨_, rfl⟩
    have hys : y.size = 1 := by rw [hy, strL_size]; exact hdl
    change Hid (∀ V, Calls Tryz.prog 46 #[.int .i64 (g : Int)] V fun e w' => e = .returned (.string (strL (Lib.decDigits g))) ∧ w' = V) at HI
    rw [← hy] at HI
    have z0 : (3 : Nat) + y.size ≤ 4 := by omega
    obtain ⟨t, ht⟩ : ∃ t, t = (⟨#[97, 114, 103]⟩ : ByteArray) ++ y := ⟨_, rfl⟩
    have hts : t.size ≤ 4 := by rw [ht, size_app]; exact z0
    have HTT := Lib.hid (show t = strL (fldL (g : Int)) by rw [ht, hy, fld_arg g hg])
    clear hy hg hdl hfi hys
    by_cases hmx : m = 18446744073709551615
    · subst hmx
      have q1 : (((18446744073709551615 : Nat) : Int) != 18446744073709551615) = false := rfl
      have HS := Lib.hid (show t = strL (fldL (g : Int) ++ maskL 18446744073709551615) by rw [HTT.out, show maskL 18446744073709551615 = [] from if_pos rfl, List.append_nil])
      go_enter Tryz.func17, Tryz.ntmps17
      go_upto_region 24 with (go_at_call 46; (with_reducible refine (HI.out _).mono ?_); rintro e w1 ⟨rfl, rfl⟩)
      rw [← ht]
      clear ht
      go_upto_region 26 with fail
      have HE2 := HV
      obtain ⟨s, hs⟩ : ∃ s, s = t := ⟨_, rfl⟩
      rw [← hs] at hts HS ⊢
      have hss : s.size ≤ 25 := by omega
      clear hs hts b0 b1 b2 b3 b4 b5 HV
      generalize w.alloc _ = Y2 at HE2 ⊢
      have z3 : ¬ 9223372036854775807 < s.size + 1 := by omega
      have z4 : ¬ 9223372036854775807 < (s ++ (⟨#[32]⟩ : ByteArray)).size + q.size := by rw [size_app]; show ¬ 9223372036854775807 < s.size + 1 + _; omega
      have z5 : ¬ 9223372036854775807 < (s ++ (⟨#[32]⟩ : ByteArray) ++ q).size + 1 := by rw [size_app, size_app]; show ¬ 9223372036854775807 < s.size + 1 + _ + 1; omega
      have z6 : ¬ 9223372036854775807 < (s ++ (⟨#[32]⟩ : ByteArray) ++ q ++ (⟨#[32]⟩ : ByteArray)).size + d.size := by rw [size_app, size_app, size_app]; show ¬ 9223372036854775807 < s.size + 1 + _ + 1 + _; omega
      have y4 : ¬ 9223372036854775807 < s.size + 1 + q.size := by omega
      have y5 : ¬ 9223372036854775807 < s.size + 1 + q.size + 1 := by omega
      have y6 : ¬ 9223372036854775807 < s.size + 1 + q.size + 1 + d.size := by omega
      refine wp_region_held_drew (S := fun W' => BoxS w W' (exO9 6 (.slice A 0 cap) (g : Int) 18446744073709551615 r v)) (by kernel_rfl) HE2.out.drew (fun hHeld => ?_)
      have HD0 := Lib.hid HE2.out.drew
      generalize Y2.drew = Y3 at HD0 hHeld ⊢
      clear hHeld HE2
      have hHeld := HD0.out
      refine wpAnyH_take (i := 0) (v := ?_) rfl (by kernel_rfl) (by kernel_rfl) (by kernel_rfl) (fun _ _ _ h => h) (Or.inl ⟨by rfl, ?_⟩) (by assumption) ?_
      rotate_left
      · intro wS hSw
        (obtain ⟨b0, b1, b2, b3, b4, b5⟩ := ex9_cells hSw.box)
        go_simp
        all_goals with_reducible rfl
      (try simp only [List.getElem_toArray, List.getElem_cons_zero, List.getElem_cons_succ, Act.put, List.setIfInBounds_toArray, List.set_cons_zero, List.set_cons_succ])
      refine wpAnyH_take (i := 1) (v := ?_) rfl (by kernel_rfl) (by kernel_rfl) (by kernel_rfl) (fun _ _ _ h => h) (Or.inl ⟨by rfl, ?_⟩) (by assumption) ?_
      rotate_left
      · intro wS hSw
        (obtain ⟨b0, b1, b2, b3, b4, b5⟩ := ex9_cells hSw.box)
        go_simp
        all_goals with_reducible rfl
      (try simp only [List.getElem_toArray, List.getElem_cons_zero, List.getElem_cons_succ, Act.put, List.setIfInBounds_toArray, List.set_cons_zero, List.set_cons_succ])
      refine wpAnyH_take (i := 2) (v := ?_) rfl (by kernel_rfl) (by kernel_rfl) (by kernel_rfl) (fun _ _ _ h => h) (Or.inl ⟨by rfl, ?_⟩) (by assumption) ?_
      rotate_left
      · intro wS hSw
        (obtain ⟨b0, b1, b2, b3, b4, b5⟩ := ex9_cells hSw.box)
        go_simp
        all_goals with_reducible rfl
      (try simp only [List.getElem_toArray, List.getElem_cons_zero, List.getElem_cons_succ, Act.put, List.setIfInBounds_toArray, List.set_cons_zero, List.set_cons_succ])
      refine wpAnyH_take (i := 3) (v := ?_) rfl (by kernel_rfl) (by kernel_rfl) (by kernel_rfl) (fun _ _ _ h => h) (Or.inl ⟨by rfl, ?_⟩) (by assumption) ?_
      rotate_left
      · intro wS hSw
        (obtain ⟨b0, b1, b2, b3, b4, b5⟩ := ex9_cells hSw.box)
        go_simp
        all_goals with_reducible rfl
      (try simp only [List.getElem_toArray, List.getElem_cons_zero, List.getElem_cons_succ, Act.put, List.setIfInBounds_toArray, List.set_cons_zero, List.set_cons_succ])
      refine wpAnyH_take (i := 7) (v := ?_) rfl (by kernel_rfl) (by kernel_rfl) (by kernel_rfl) (fun _ _ _ h => h) (Or.inl ⟨by rfl, ?_⟩) (by assumption) ?_
      rotate_left
      · intro wS hSw
        (obtain ⟨b0, b1, b2, b3, b4, b5⟩ := ex9_cells hSw.box)
        go_simp
        all_goals with_reducible rfl
      (try simp only [List.getElem_toArray, List.getElem_cons_zero, List.getElem_cons_succ, Act.put, List.setIfInBounds_toArray, List.set_cons_zero, List.set_cons_succ])
      refine wpAnyH_take (i := 8) (v := ?_) rfl (by kernel_rfl) (by kernel_rfl) (by kernel_rfl) (fun _ _ _ h => h) (Or.inl ⟨by rfl, ?_⟩) (by assumption) ?_
      rotate_left
      · intro wS hSw
        (obtain ⟨b0, b1, b2, b3, b4, b5⟩ := ex9_cells hSw.box)
        go_simp
        all_goals with_reducible rfl
      (try simp only [List.getElem_toArray, List.getElem_cons_zero, List.getElem_cons_succ, Act.put, List.setIfInBounds_toArray, List.set_cons_zero, List.set_cons_succ])
      refine held_one (i := 4) (by kernel_rfl) rfl (fun K hK => ?_)
      go_simp
      go_at_call 47
      refine (HG.out _).mono ?_
      rintro e w1 ⟨rfl, rfl⟩
      refine hK.out _ _ hHeld (fun hH2 => ?_)
      clear hK K hH2
      (try simp only [Act.put, List.setIfInBounds_toArray, List.set_cons_zero, List.set_cons_succ, List.getElem_toArray, List.getElem_cons_zero, List.getElem_cons_succ])
      refine wpAnyH_take (i := 5) (v := ?_) rfl (by kernel_rfl) (by kernel_rfl) (by kernel_rfl) (fun _ _ _ h => h) (Or.inl ⟨by rfl, ?_⟩) (by assumption) ?_
      rotate_left
      · intro wS hSw
        (skip)
        go_simp
        all_goals with_reducible rfl
      (try simp only [List.getElem_toArray, List.getElem_cons_zero, List.getElem_cons_succ, Act.put, List.setIfInBounds_toArray, List.set_cons_zero, List.set_cons_succ])
      refine wpAnyH_take (i := 6) (v := ?_) rfl (by kernel_rfl) (by kernel_rfl) (by kernel_rfl) (fun _ _ _ h => h) (Or.inl ⟨by rfl, ?_⟩) (by assumption) ?_
      rotate_left
      · intro wS hSw
        (skip)
        go_simp
        all_goals with_reducible rfl
      (try simp only [List.getElem_toArray, List.getElem_cons_zero, List.getElem_cons_succ, Act.put, List.setIfInBounds_toArray, List.set_cons_zero, List.set_cons_succ])
      refine held_one (i := 9) (by kernel_rfl) rfl (fun K hK => ?_)
      go_simp
      go_at_call 44
      refine (HN.out _ HD0.out.tbl).mono ?_
      rintro e w3 ⟨rfl, hb⟩
      have HE3 := Lib.hid (HD0.out.up hb)
      clear hHeld
      have hHeld := HE3.out
      refine hK.out _ _ HE3.out (fun hH2 => ?_)
      clear hK K hH2 hb HD0
      (try simp only [Act.put, List.setIfInBounds_toArray, List.set_cons_zero, List.set_cons_succ, List.getElem_toArray, List.getElem_cons_zero, List.getElem_cons_succ])
      refine wpAnyH_take (i := 10) (v := ?_) rfl (by kernel_rfl) (by kernel_rfl) (by kernel_rfl) (fun _ _ _ h => h) (Or.inl ⟨by rfl, ?_⟩) (by assumption) ?_
      rotate_left
      · intro wS hSw
        (skip)
        go_simp
        all_goals with_reducible rfl
      (try simp only [List.getElem_toArray, List.getElem_cons_zero, List.getElem_cons_succ, Act.put, List.setIfInBounds_toArray, List.set_cons_zero, List.set_cons_succ])
      refine wpAnyH_take (i := 11) (v := ?_) rfl (by kernel_rfl) (by kernel_rfl) (by kernel_rfl) (fun _ _ _ h => h) (Or.inl ⟨by rfl, ?_⟩) (by assumption) ?_
      rotate_left
      · intro wS hSw
        (skip)
        go_simp
        all_goals with_reducible rfl
      (try simp only [List.getElem_toArray, List.getElem_cons_zero, List.getElem_cons_succ, Act.put, List.setIfInBounds_toArray, List.set_cons_zero, List.set_cons_succ])
      refine wpAnyH_done (by kernel_rfl) ?_ _
      go_wp2
      go_ret
      refine ⟨?_, HE3.out.below⟩
      have hz : s ++ (⟨#[32]⟩ : ByteArray) ++ q ++ (⟨#[32]⟩ : ByteArray) ++ d = strL (testL (g : Int) 18446744073709551615 r v) := by
        rw [HS.out, HE.out.1, HE.out.2.1, show (⟨#[32]⟩ : ByteArray) = strL [32] from rfl, strL_append, strL_append, strL_append, strL_append]
        unfold testL
        simp
      rw [← hz]
      rfl
    · have q1 : ((m : Int) != 18446744073709551615) = true := bne_iff_ne.2 (by omega)
      have z1 : t.size + 5 ≤ 9 := by omega
      have z2 : (t ++ (⟨#[32, 38, 32, 48, 120]⟩ : ByteArray)).size + x.size ≤ 25 := by rw [size_app]; show t.size + 5 + _ ≤ _; omega
      have y2 : t.size + 5 + x.size ≤ 25 := by omega
      have HS := Lib.hid (show t ++ (⟨#[32, 38, 32, 48, 120]⟩ : ByteArray) ++ x = strL (fldL (g : Int) ++ maskL m) by rw [HTT.out, HE.out.2.2, show maskL m = [32, 38, 32, 48, 120] ++ hexL m from if_neg hmx, show (⟨#[32, 38, 32, 48, 120]⟩ : ByteArray) = strL [32, 38, 32, 48, 120] from rfl, strL_append, strL_append, List.append_assoc])
      go_enter Tryz.func17, Tryz.ntmps17
      go_upto_region 24 with (go_at_call 46; (with_reducible refine (HI.out _).mono ?_); rintro e w1 ⟨rfl, rfl⟩)
      rw [← ht]
      clear ht
      go_upto_region 26 with (go_at_call 44; (with_reducible refine (HX.out _ HV.out.tbl).mono ?_); rintro e w2 ⟨rfl, hb⟩; have HE2 := Lib.hid (HV.out.up hb); clear hb)
      obtain ⟨s, hs⟩ : ∃ s, s = t ++ (⟨#[32, 38, 32, 48, 120]⟩ : ByteArray) ++ x := ⟨_, rfl⟩
      rw [← hs] at HS ⊢
      have hss : s.size ≤ 25 := by rw [hs, size_app]; exact z2
      clear hs hts z1 z2 y2 hxs b0 b1 b2 b3 b4 b5 HV
      generalize w2 = Y2 at HE2 ⊢
      have z3 : ¬ 9223372036854775807 < s.size + 1 := by omega
      have z4 : ¬ 9223372036854775807 < (s ++ (⟨#[32]⟩ : ByteArray)).size + q.size := by rw [size_app]; show ¬ 9223372036854775807 < s.size + 1 + _; omega
      have z5 : ¬ 9223372036854775807 < (s ++ (⟨#[32]⟩ : ByteArray) ++ q).size + 1 := by rw [size_app, size_app]; show ¬ 9223372036854775807 < s.size + 1 + _ + 1; omega
      have z6 : ¬ 9223372036854775807 < (s ++ (⟨#[32]⟩ : ByteArray) ++ q ++ (⟨#[32]⟩ : ByteArray)).size + d.size := by rw [size_app, size_app, size_app]; show ¬ 9223372036854775807 < s.size + 1 + _ + 1 + _; omega
      have y4 : ¬ 9223372036854775807 < s.size + 1 + q.size := by omega
      have y5 : ¬ 9223372036854775807 < s.size + 1 + q.size + 1 := by omega
      have y6 : ¬ 9223372036854775807 < s.size + 1 + q.size + 1 + d.size := by omega
      refine wp_region_held_drew (S := fun W' => BoxS w W' (exO9 6 (.slice A 0 cap) (g : Int) m r v)) (by kernel_rfl) HE2.out.drew (fun hHeld => ?_)
      have HD0 := Lib.hid HE2.out.drew
      generalize Y2.drew = Y3 at HD0 hHeld ⊢
      clear hHeld HE2
      have hHeld := HD0.out
      refine wpAnyH_take (i := 0) (v := ?_) rfl (by kernel_rfl) (by kernel_rfl) (by kernel_rfl) (fun _ _ _ h => h) (Or.inl ⟨by rfl, ?_⟩) (by assumption) ?_
      rotate_left
      · intro wS hSw
        (obtain ⟨b0, b1, b2, b3, b4, b5⟩ := ex9_cells hSw.box)
        go_simp
        all_goals with_reducible rfl
      (try simp only [List.getElem_toArray, List.getElem_cons_zero, List.getElem_cons_succ, Act.put, List.setIfInBounds_toArray, List.set_cons_zero, List.set_cons_succ])
      refine wpAnyH_take (i := 1) (v := ?_) rfl (by kernel_rfl) (by kernel_rfl) (by kernel_rfl) (fun _ _ _ h => h) (Or.inl ⟨by rfl, ?_⟩) (by assumption) ?_
      rotate_left
      · intro wS hSw
        (obtain ⟨b0, b1, b2, b3, b4, b5⟩ := ex9_cells hSw.box)
        go_simp
        all_goals with_reducible rfl
      (try simp only [List.getElem_toArray, List.getElem_cons_zero, List.getElem_cons_succ, Act.put, List.setIfInBounds_toArray, List.set_cons_zero, List.set_cons_succ])
      refine wpAnyH_take (i := 2) (v := ?_) rfl (by kernel_rfl) (by kernel_rfl) (by kernel_rfl) (fun _ _ _ h => h) (Or.inl ⟨by rfl, ?_⟩) (by assumption) ?_
      rotate_left
      · intro wS hSw
        (obtain ⟨b0, b1, b2, b3, b4, b5⟩ := ex9_cells hSw.box)
        go_simp
        all_goals with_reducible rfl
      (try simp only [List.getElem_toArray, List.getElem_cons_zero, List.getElem_cons_succ, Act.put, List.setIfInBounds_toArray, List.set_cons_zero, List.set_cons_succ])
      refine wpAnyH_take (i := 3) (v := ?_) rfl (by kernel_rfl) (by kernel_rfl) (by kernel_rfl) (fun _ _ _ h => h) (Or.inl ⟨by rfl, ?_⟩) (by assumption) ?_
      rotate_left
      · intro wS hSw
        (obtain ⟨b0, b1, b2, b3, b4, b5⟩ := ex9_cells hSw.box)
        go_simp
        all_goals with_reducible rfl
      (try simp only [List.getElem_toArray, List.getElem_cons_zero, List.getElem_cons_succ, Act.put, List.setIfInBounds_toArray, List.set_cons_zero, List.set_cons_succ])
      refine wpAnyH_take (i := 7) (v := ?_) rfl (by kernel_rfl) (by kernel_rfl) (by kernel_rfl) (fun _ _ _ h => h) (Or.inl ⟨by rfl, ?_⟩) (by assumption) ?_
      rotate_left
      · intro wS hSw
        (obtain ⟨b0, b1, b2, b3, b4, b5⟩ := ex9_cells hSw.box)
        go_simp
        all_goals with_reducible rfl
      (try simp only [List.getElem_toArray, List.getElem_cons_zero, List.getElem_cons_succ, Act.put, List.setIfInBounds_toArray, List.set_cons_zero, List.set_cons_succ])
      refine wpAnyH_take (i := 8) (v := ?_) rfl (by kernel_rfl) (by kernel_rfl) (by kernel_rfl) (fun _ _ _ h => h) (Or.inl ⟨by rfl, ?_⟩) (by assumption) ?_
      rotate_left
      · intro wS hSw
        (obtain ⟨b0, b1, b2, b3, b4, b5⟩ := ex9_cells hSw.box)
        go_simp
        all_goals with_reducible rfl
      (try simp only [List.getElem_toArray, List.getElem_cons_zero, List.getElem_cons_succ, Act.put, List.setIfInBounds_toArray, List.set_cons_zero, List.set_cons_succ])
      refine held_one (i := 4) (by kernel_rfl) rfl (fun K hK => ?_)
      go_simp
      go_at_call 47
      refine (HG.out _).mono ?_
      rintro e w1 ⟨rfl, rfl⟩
      refine hK.out _ _ hHeld (fun hH2 => ?_)
      clear hK K hH2
      (try simp only [Act.put, List.setIfInBounds_toArray, List.set_cons_zero, List.set_cons_succ, List.getElem_toArray, List.getElem_cons_zero, List.getElem_cons_succ])
      refine wpAnyH_take (i := 5) (v := ?_) rfl (by kernel_rfl) (by kernel_rfl) (by kernel_rfl) (fun _ _ _ h => h) (Or.inl ⟨by rfl, ?_⟩) (by assumption) ?_
      rotate_left
      · intro wS hSw
        (skip)
        go_simp
        all_goals with_reducible rfl
      (try simp only [List.getElem_toArray, List.getElem_cons_zero, List.getElem_cons_succ, Act.put, List.setIfInBounds_toArray, List.set_cons_zero, List.set_cons_succ])
      refine wpAnyH_take (i := 6) (v := ?_) rfl (by kernel_rfl) (by kernel_rfl) (by kernel_rfl) (fun _ _ _ h => h) (Or.inl ⟨by rfl, ?_⟩) (by assumption) ?_
      rotate_left
      · intro wS hSw
        (skip)
        go_simp
        all_goals with_reducible rfl
      (try simp only [List.getElem_toArray, List.getElem_cons_zero, List.getElem_cons_succ, Act.put, List.setIfInBounds_toArray, List.set_cons_zero, List.set_cons_succ])
      refine held_one (i := 9) (by kernel_rfl) rfl (fun K hK => ?_)
      go_simp
      go_at_call 44
      refine (HN.out _ HD0.out.tbl).mono ?_
      rintro e w3 ⟨rfl, hb⟩
      have HE3 := Lib.hid (HD0.out.up hb)
      clear hHeld
      have hHeld := HE3.out
      refine hK.out _ _ HE3.out (fun hH2 => ?_)
      clear hK K hH2 hb HD0
      (try simp only [Act.put, List.setIfInBounds_toArray, List.set_cons_zero, List.set_cons_succ, List.getElem_toArray, List.getElem_cons_zero, List.getElem_cons_succ])
      refine wpAnyH_take (i := 10) (v := ?_) rfl (by kernel_rfl) (by kernel_rfl) (by kernel_rfl) (fun _ _ _ h => h) (Or.inl ⟨by rfl, ?_⟩) (by assumption) ?_
      rotate_left
      · intro wS hSw
        (skip)
        go_simp
        all_goals with_reducible rfl
      (try simp only [List.getElem_toArray, List.getElem_cons_zero, List.getElem_cons_succ, Act.put, List.setIfInBounds_toArray, List.set_cons_zero, List.set_cons_succ])
      refine wpAnyH_take (i := 11) (v := ?_) rfl (by kernel_rfl) (by kernel_rfl) (by kernel_rfl) (fun _ _ _ h => h) (Or.inl ⟨by rfl, ?_⟩) (by assumption) ?_
      rotate_left
      · intro wS hSw
        (skip)
        go_simp
        all_goals with_reducible rfl
      (try simp only [List.getElem_toArray, List.getElem_cons_zero, List.getElem_cons_succ, Act.put, List.setIfInBounds_toArray, List.set_cons_zero, List.set_cons_succ])
      refine wpAnyH_done (by kernel_rfl) ?_ _
      go_wp2
      go_ret
      refine ⟨?_, HE3.out.below⟩
      have hz : s ++ (⟨#[32]⟩ : ByteArray) ++ q ++ (⟨#[32]⟩ : ByteArray) ++ d = strL (testL (g : Int) m r v) := by
        rw [HS.out, HE.out.1, HE.out.2.1, show (⟨#[32]⟩ : ByteArray) = strL [32] from rfl, strL_append, strL_append, strL_append, strL_append]
        unfold testL
        simp
      rw [← hz]
      rfl
end Go.Proofs.YtgeapkjegemkeaaGreatDoor
