/-
  What the program's fault and Check of programs of registers answer: contracts. Conditions: those that each names.
-/
import Derived.Test.YtoajommeiocfpaaDoorMirShape
import Derived.Test.YtoajommeiocfpaaDoorMirChkP
import Derived.Deep.Cut
namespace Go.Proofs.YtoajommeiocfpaaDoor
open Go Go.RowKit
set_option linter.unusedSimpArgs false
set_option linter.unusedVariables false

theorem eq_shape (a d : Bool) (b c e f : Int) (w : World) : (Op.equalIn 10000 104 (.agg #[.bool a, .int .i64 b, .int .i64 c]) (.agg #[.bool d, .int .i64 e, .int .i64 f])).run Tryd.prog w = .ok ((a == d) && ((b == e) && (c == f))) w := by
  rw [show (10000 : Nat) = 9999 + 1 from rfl, run_equalIn_agg w 9999 104 _ _ (by kernel_rfl) (by kernel_rfl)]
  simp only [Program.fieldsOf, Tryd.underlying104]
  cases h1 : (a == d) <;> cases h2 : (b == e) <;> cases h3 : (c == f) <;> go_simp <;> simp_all
theorem eql_shape (a d : Bool) (b c e f : Int) (w : World) : (binOp BinOp.eql 104 (.agg #[.bool a, .int .i64 b, .int .i64 c]) (.agg #[.bool d, .int .i64 e, .int .i64 f])).run Tryd.prog w = .ok (.bool ((a == d) && ((b == e) && (c == f)))) w := by
  rw [run_eql_struct, eq_shape]; rfl
/-- Is the shape that of no operation? -/
theorem shape_zero (op : Int) : ((dM op == false) && (((askN op : Nat) : Int) == 0) && (((aimN op : Nat) : Int) == 0)) = decide (op < 1 ∨ 19 < op) := by
  by_cases h : 1 ≤ op ∧ op ≤ 19
  · rw [show decide (op < 1 ∨ 19 < op) = false from decide_eq_false (by omega)]
    rcases op_cases h with rfl | rfl | rfl | rfl | rfl | rfl | rfl | rfl | rfl | rfl | rfl | rfl | rfl | rfl | rfl | rfl | rfl | rfl | rfl <;> rfl
  · have g1 : dM op = false := by simp [dM]; omega
    have g2 : aM op = false := by simp [aM]; omega
    have g3 : bM op = false := by simp [bM]; omega
    have g4 : tM op = false := by simp [tM]; omega
    have g5 : fM op = false := by simp [fM]; omega
    have ga : askN op = 0 := by unfold askN; rw [g3, g2]; rfl
    have gm : aimN op = 0 := by unfold aimN; rw [g5, g4]; rfl
    rw [g1, ga, gm, show decide (op < 1 ∨ 19 < op) = true from decide_eq_true (by omega)]
    rfl
theorem named_all (x : Irx) (regs : Int) : decide (∀ z ∈ nameL x (dM x.op) (askN x.op), 0 ≤ z ∧ z < regs) = ! decide ((dM x.op = true ∧ (x.d < 0 ∨ regs ≤ x.d)) ∨ (aM x.op = true ∧ (x.a < 0 ∨ regs ≤ x.a)) ∨ (bM x.op = true ∧ (x.b < 0 ∨ regs ≤ x.b))) := by
  have hba : bM x.op = true → aM x.op = true := by simp [aM, bM]; omega
  rw [Bool.eq_iff_iff]
  simp only [decide_eq_true_eq, Bool.not_eq_true', decide_eq_false_iff_not]
  unfold nameL askL askN
  cases hd : dM x.op <;> cases ha : aM x.op <;> cases hb : bM x.op <;> (try (rw [ha, hb] at hba; exact absurd (hba rfl) (by decide))) <;> simp <;> omega
theorem aimed_all (x : Irx) (n i : Nat) : decide (∀ z ∈ aimL x (aimN x.op), (i : Int) + 1 ≤ z ∧ z < n) = ! decide ((tM x.op = true ∧ (x.t ≤ (i : Int) ∨ (n : Int) ≤ x.t)) ∨ (fM x.op = true ∧ (x.f ≤ (i : Int) ∨ (n : Int) ≤ x.f))) := by
  have hft : fM x.op = true → tM x.op = true := by simp [fM, tM]; omega
  rw [Bool.eq_iff_iff]
  simp only [decide_eq_true_eq, Bool.not_eq_true', decide_eq_false_iff_not]
  unfold aimL aimN
  cases ht : tM x.op <;> cases hf : fM x.op <;> (try (rw [ht, hf] at hft; exact absurd (hft rfl) (by decide))) <;> simp <;> omega
theorem oneM_by {regs : Int} {n i : Nat} {x : Irx} {z b1 b2 ld : Bool} (hz : decide (x.op < 1 ∨ 19 < x.op) = z) (h1 : decide (∀ y ∈ nameL x (dM x.op) (askN x.op), 0 ≤ y ∧ y < regs) = b1) (hl : decide (x.op = 3 ∧ (60 < x.k.toNat ∨ x.k.toNat % 4 ≠ 0)) = ld) (h2 : decide (∀ y ∈ aimL x (aimN x.op), (i : Int) + 1 ≤ y ∧ y < n) = b2) :
    oneM regs n x i = if z = true then 123 else if b1 = false then 124 else if ld = true then 125 else if b2 = false then 126 else 0 := by
  rw [named_all] at h1
  rw [aimed_all] at h2
  subst hz h1 hl h2
  unfold oneM
  simp only [Bool.not_eq_false', decide_eq_true_eq]

/-- What a look at one instruction leaves. -/
abbrev FaP (regs : Int) (n : Nat) (x : Irx) (i : Nat) (w : World) (e : Ending) (w' : World) : Prop := e = .returned (.int .i64 (oneM regs n x i)) ∧ Below w.heap.size w w'
set_option maxHeartbeats 8000000 in
set_option maxRecDepth 100000 in
theorem p_fault_at (regs : Int) (A : Option Addr) (n cap : Nat) (op d a b : Int) (k : BitVec 32) (t f : Int) (i bb bo : Nat) (w : World) (hi : i < n) (hn : n ≤ maxLen) (hA : A = some ⟨bb, bo, none⟩) (hl : bb < w.heap.size)
    (c0 : w.cell? ⟨bb, bo + i * 7, none⟩ = some (.int .i64 op)) (c1 : w.cell? ⟨bb, bo + i * 7 + 1, none⟩ = some (.int .i64 d)) (c2 : w.cell? ⟨bb, bo + i * 7 + 2, none⟩ = some (.int .i64 a)) (c3 : w.cell? ⟨bb, bo + i * 7 + 3, none⟩ = some (.int .i64 b)) (c4 : w.cell? ⟨bb, bo + i * 7 + 4, none⟩ = some (.int .u32 (k.toNat : Int))) (c5 : w.cell? ⟨bb, bo + i * 7 + 5, none⟩ = some (.int .i64 t)) (c6 : w.cell? ⟨bb, bo + i * 7 + 6, none⟩ = some (.int .i64 f)) :
    Calls Tryd.prog 47 #[mirV regs A n cap, .int .i64 (i : Int)] w (FaP regs n ⟨op, d, a, b, k, t, f⟩ i w) := by
  have hi' : (i : Int) < (n : Int) := by omega
  have hs3 := shape_zero op
  have hsk := ask_le op
  have hsm := aim_le op
  have hnl : (nameL ⟨op, d, a, b, k, t, f⟩ (dM op) (askN op)).length ≤ 3 := by
    unfold nameL; rw [List.length_append, ask_len _ hsk]; split <;> simp <;> omega
  have hml : (aimL ⟨op, d, a, b, k, t, f⟩ (aimN op)).length ≤ 3 := by rw [aim_len _ hsm]; omega
  have hHN : Hid (∀ V, Calls Tryd.prog 59 #[shV (dM op) (askN op) (aimN op), irV ⟨op, d, a, b, k, t, f⟩] V fun e w' => ∃ A c, e = .returned (.slice A (nameL ⟨op, d, a, b, k, t, f⟩ (dM op) (askN op)).length c) ∧ IzAt w' A (nameL ⟨op, d, a, b, k, t, f⟩ (dM op) (askN op)) ∧ Below V.heap.size V w') := Lib.hid fun V => (p_named ⟨op, d, a, b, k, t, f⟩ (dM op) (askN op) (aimN op) hsk V).mono fun e w' ⟨v, he, ho, hb⟩ => by
    obtain ⟨A, c, rfl⟩ := own_formM ho
    exact ⟨A, c, he, own_iz ho, hb⟩
  have hHT : Hid (∀ V, Calls Tryd.prog 60 #[shV (dM op) (askN op) (aimN op), irV ⟨op, d, a, b, k, t, f⟩] V fun e w' => ∃ A c, e = .returned (.slice A (aimL ⟨op, d, a, b, k, t, f⟩ (aimN op)).length c) ∧ IzAt w' A (aimL ⟨op, d, a, b, k, t, f⟩ (aimN op)) ∧ Below V.heap.size V w') := Lib.hid fun V => (p_targets ⟨op, d, a, b, k, t, f⟩ (dM op) (askN op) (aimN op) hsm V).mono fun e w' ⟨v, he, ho, hb⟩ => by
    have hlen := aim_len (⟨op, d, a, b, k, t, f⟩ : Irx) hsm
    obtain ⟨A, c, rfl⟩ := own_formM ho
    rw [hlen]
    exact ⟨A, c, he, own_iz (by rw [hlen]; exact ho), hb⟩
  have hW1 : Hid (∀ V A c, IzAt V A (nameL ⟨op, d, a, b, k, t, f⟩ (dM op) (askN op)) → Calls Tryd.prog 58 #[.slice A (nameL ⟨op, d, a, b, k, t, f⟩ (dM op) (askN op)).length c, .int .i64 0, .int .i64 regs] V fun e w' => e = .returned (.bool (decide (∀ z ∈ nameL ⟨op, d, a, b, k, t, f⟩ (dM op) (askN op), 0 ≤ z ∧ z < regs))) ∧ w' = V) := Lib.hid fun V A c h => p_within A c _ 0 regs (by omega) V h
  have hW2 : Hid (∀ V A c, IzAt V A (aimL ⟨op, d, a, b, k, t, f⟩ (aimN op)) → Calls Tryd.prog 58 #[.slice A (aimL ⟨op, d, a, b, k, t, f⟩ (aimN op)).length c, .int .i64 ((i : Int) + 1), .int .i64 n] V fun e w' => e = .returned (.bool (decide (∀ z ∈ aimL ⟨op, d, a, b, k, t, f⟩ (aimN op), (i : Int) + 1 ≤ z ∧ z < n))) ∧ w' = V) := Lib.hid fun V A c h => p_within A c _ _ _ (by omega) V h
  have hVal := fun z b1 b2 ld hz h1 hl h2 => oneM_by (regs := regs) (n := n) (i := i) (x := ⟨op, d, a, b, k, t, f⟩) (z := z) (b1 := b1) (b2 := b2) (ld := ld) hz h1 hl h2
  have hSH := Lib.hid (fun V => p_shapeOf op V)
  obtain ⟨z, hz⟩ : ∃ z, decide (op < 1 ∨ 19 < op) = z := ⟨_, rfl⟩
  obtain ⟨b1, h1⟩ : ∃ z, decide (∀ z ∈ nameL ⟨op, d, a, b, k, t, f⟩ (dM op) (askN op), 0 ≤ z ∧ z < regs) = z := ⟨_, rfl⟩
  obtain ⟨ld, hld⟩ : ∃ z, decide (op = 3 ∧ (60 < k.toNat ∨ k.toNat % 4 ≠ 0)) = z := ⟨_, rfl⟩
  obtain ⟨b2, h2⟩ : ∃ z, decide (∀ z ∈ aimL ⟨op, d, a, b, k, t, f⟩ (aimN op), (i : Int) + 1 ≤ z ∧ z < n) = z := ⟨_, rfl⟩
  have HV := Lib.hid (hVal z b1 b2 ld hz h1 hld h2)
  rw [h1] at hW1
  rw [h2] at hW2
  rw [hz] at hs3
  obtain ⟨V, hV⟩ : ∃ V, oneM regs n ⟨op, d, a, b, k, t, f⟩ i = V := ⟨_, rfl⟩
  rw [hV] at HV
  unfold FaP
  rw [hV]
  generalize hL1 : nameL ⟨op, d, a, b, k, t, f⟩ (dM op) (askN op) = L1 at hHN hW1
  generalize hL2 : aimL ⟨op, d, a, b, k, t, f⟩ (aimN op) = L2 at hHT hW2
  generalize dM op = sb at hHN hHT hSH hs3
  generalize askN op = sk at hHN hHT hSH hs3
  generalize aimN op = sm at hHN hHT hSH hs3
  have hEQ : Hid (∀ W, (binOp BinOp.eql 104 (.agg #[.bool sb, .int .i64 (sk : Int), .int .i64 (sm : Int)]) (.agg #[.bool false, .int .i64 0, .int .i64 0])).run Tryd.prog W = .ok (.bool z) W) := Lib.hid fun W => by rw [eql_shape, ← hs3, Bool.and_assoc]
  have HLD := Lib.hid hld
  have hwi : IntKind.i64.wrap ((i : Int) + 1) = (i : Int) + 1 := IntWalk.i64_in _ (by unfold maxLen at hn; omega)
  subst hA
  clear hVal hz h1 h2 hV hL1 hL2 hs3 hsk hsm hnl hml hld
  have hXX : Hid (∀ w1, Below ((w.alloc (mirO regs (some ⟨bb, bo, none⟩) n cap)).alloc (irO ⟨op, d, a, b, k, t, f⟩)).heap.size ((w.alloc (mirO regs (some ⟨bb, bo, none⟩) n cap)).alloc (irO ⟨op, d, a, b, k, t, f⟩)) w1 →
      Below w.heap.size w (w1.alloc (shO sb sk sm)) ∧ (w1.alloc (shO sb sk sm)).heap[w.heap.size]? = some (mirO regs (some ⟨bb, bo, none⟩) n cap) ∧ (w1.alloc (shO sb sk sm)).heap[w.heap.size + 1]? = some (irO ⟨op, d, a, b, k, t, f⟩) ∧ (w1.alloc (shO sb sk sm)).heap[w1.heap.size]? = some (shO sb sk sm)) := Lib.hid fun w1 hb => by
    refine ⟨onM (onM (onM (lboxM w _) (lboxM _ _)) hb) (lboxM w1 _), keepM (keepM (kept_allocM (World.alloc_heap_new w _) _) hb) (lboxM w1 _), keepM (keepM ?_ hb) (lboxM w1 _), World.alloc_heap_new w1 _⟩
    simpa using World.alloc_heap_new (w.alloc (mirO regs (some ⟨bb, bo, none⟩) n cap)) (irO ⟨op, d, a, b, k, t, f⟩)
  have hq := hEQ.out
  go_enter Tryd.func47, Tryd.ntmps47
  go_upto_region 3 with (go_at_call 57; (with_reducible refine (hSH.out _).mono ?_); rintro e w1 ⟨rfl, hb1⟩; have HX := Lib.hid (hXX.out w1 hb1); clear hb1)
  generalize w1.alloc (.cells #[.bool sb, .int .i64 (sk : Int), .int .i64 (sm : Int)] 104) = X at HX ⊢
  generalize w1.heap.size = bs at HX ⊢
  have HRa := Lib.hid (Below.refl X.heap.size X)
  clear hXX hSH c0 c1 c2 c3 c4 c5 c6
  have i0 := cellM HX.out.2.1 0 rfl
  have i1 := cellM HX.out.2.1 1 rfl
  have u0 := cellM HX.out.2.2.1 0 rfl
  have u4 := cellM HX.out.2.2.1 4 rfl
  have v0 := cellM HX.out.2.2.2 0 rfl
  have v1 := cellM HX.out.2.2.2 1 rfl
  have v2 := cellM HX.out.2.2.2 2 rfl
  cases z with
  | true =>
    go_wp2
    go_ret
    exact ⟨ret_iM (by rw [HV.out]; rfl), HX.out.1⟩
  | false =>
    go_wp2
    clear i0 i1 u0 u4 v0 v1 v2 hq
    refine wp_region_held_drew (S := fun W' => Below X.heap.size X W') (by kernel_rfl) HRa.out.drew (fun hHeld => ?_)
    have HRad := Lib.hid (HRa.out.drew)
    generalize X.drew = Ya at HRad hHeld ⊢
    refine wpAnyH_take (i := 0) (v := ?_) rfl (by kernel_rfl) (by kernel_rfl) (by kernel_rfl) (fun _ _ _ h => h) (Or.inl ⟨by rfl, ?_⟩) (by assumption) ?_
    rotate_left
    · intro wS hSw
      (have i0 := keepM HX.out.2.1 hSw; have i1 := keepM HX.out.2.2.1 hSw; have i2 := keepM HX.out.2.2.2 hSw; have a0 := cellM i0 0 rfl; have a1 := cellM i0 1 rfl; have e0 := cellM i1 0 rfl; have e1 := cellM i1 1 rfl; have e2 := cellM i1 2 rfl; have e3 := cellM i1 3 rfl; have e4 := cellM i1 4 rfl; have e5 := cellM i1 5 rfl; have e6 := cellM i1 6 rfl; have s0 := cellM i2 0 rfl; have s1 := cellM i2 1 rfl; have s2 := cellM i2 2 rfl; clear hSw i0 i1 i2)
      go_simp
      all_goals with_reducible rfl
    (try simp only [List.getElem_toArray, List.getElem_cons_zero, List.getElem_cons_succ, Act.put, List.setIfInBounds_toArray, List.set_cons_zero, List.set_cons_succ])
    refine wpAnyH_take (i := 1) (v := ?_) rfl (by kernel_rfl) (by kernel_rfl) (by kernel_rfl) (fun _ _ _ h => h) (Or.inl ⟨by rfl, ?_⟩) (by assumption) ?_
    rotate_left
    · intro wS hSw
      (have i0 := keepM HX.out.2.1 hSw; have i1 := keepM HX.out.2.2.1 hSw; have i2 := keepM HX.out.2.2.2 hSw; have a0 := cellM i0 0 rfl; have a1 := cellM i0 1 rfl; have e0 := cellM i1 0 rfl; have e1 := cellM i1 1 rfl; have e2 := cellM i1 2 rfl; have e3 := cellM i1 3 rfl; have e4 := cellM i1 4 rfl; have e5 := cellM i1 5 rfl; have e6 := cellM i1 6 rfl; have s0 := cellM i2 0 rfl; have s1 := cellM i2 1 rfl; have s2 := cellM i2 2 rfl; clear hSw i0 i1 i2)
      go_simp
      all_goals with_reducible rfl
    (try simp only [List.getElem_toArray, List.getElem_cons_zero, List.getElem_cons_succ, Act.put, List.setIfInBounds_toArray, List.set_cons_zero, List.set_cons_succ])
    refine wpAnyH_take (i := 3) (v := ?_) rfl (by kernel_rfl) (by kernel_rfl) (by kernel_rfl) (fun _ _ _ h => h) (Or.inl ⟨by rfl, ?_⟩) (by assumption) ?_
    rotate_left
    · intro wS hSw
      (have i0 := keepM HX.out.2.1 hSw; have i1 := keepM HX.out.2.2.1 hSw; have i2 := keepM HX.out.2.2.2 hSw; have a0 := cellM i0 0 rfl; have a1 := cellM i0 1 rfl; have e0 := cellM i1 0 rfl; have e1 := cellM i1 1 rfl; have e2 := cellM i1 2 rfl; have e3 := cellM i1 3 rfl; have e4 := cellM i1 4 rfl; have e5 := cellM i1 5 rfl; have e6 := cellM i1 6 rfl; have s0 := cellM i2 0 rfl; have s1 := cellM i2 1 rfl; have s2 := cellM i2 2 rfl; clear hSw i0 i1 i2)
      go_simp
      all_goals with_reducible rfl
    (try simp only [List.getElem_toArray, List.getElem_cons_zero, List.getElem_cons_succ, Act.put, List.setIfInBounds_toArray, List.set_cons_zero, List.set_cons_succ])
    refine wpAnyH_take (i := 4) (v := ?_) rfl (by kernel_rfl) (by kernel_rfl) (by kernel_rfl) (fun _ _ _ h => h) (Or.inl ⟨by rfl, ?_⟩) (by assumption) ?_
    rotate_left
    · intro wS hSw
      (have i0 := keepM HX.out.2.1 hSw; have i1 := keepM HX.out.2.2.1 hSw; have i2 := keepM HX.out.2.2.2 hSw; have a0 := cellM i0 0 rfl; have a1 := cellM i0 1 rfl; have e0 := cellM i1 0 rfl; have e1 := cellM i1 1 rfl; have e2 := cellM i1 2 rfl; have e3 := cellM i1 3 rfl; have e4 := cellM i1 4 rfl; have e5 := cellM i1 5 rfl; have e6 := cellM i1 6 rfl; have s0 := cellM i2 0 rfl; have s1 := cellM i2 1 rfl; have s2 := cellM i2 2 rfl; clear hSw i0 i1 i2)
      go_simp
      all_goals with_reducible rfl
    (try simp only [List.getElem_toArray, List.getElem_cons_zero, List.getElem_cons_succ, Act.put, List.setIfInBounds_toArray, List.set_cons_zero, List.set_cons_succ])
    refine held_one (i := 2) (by kernel_rfl) rfl (fun K hK => ?_)
    go_simp
    go_at_call 59
    refine (hHN.out _).mono ?_
    rintro e w4a ⟨A1a, c1a, rfl, hi4, hb4⟩
    have hb5 := onM HRad.out hb4
    refine hK.out _ _ hb5 (fun hH1 => ?_)
    have HIa := Lib.hid (And.intro hi4 hb5)
    clear hK K hHeld hi4 hb4 hb5
    (try simp only [Act.put, List.setIfInBounds_toArray, List.set_cons_zero, List.set_cons_succ, List.getElem_toArray, List.getElem_cons_zero, List.getElem_cons_succ])
    refine held_one (i := 5) (by kernel_rfl) rfl (fun K hK => ?_)
    go_simp
    go_at_call 58
    refine (hW1.out _ _ _ HIa.out.1).mono ?_
    rintro e w5 ⟨rfl, rfl⟩
    refine hK.out _ _ HIa.out.2 (fun hH2 => ?_)
    clear hK K hH1
    (try simp only [Act.put, List.setIfInBounds_toArray, List.set_cons_zero, List.set_cons_succ, List.getElem_toArray, List.getElem_cons_zero, List.getElem_cons_succ])
    refine wpAnyH_take (i := 6) (v := ?_) rfl (by kernel_rfl) (by kernel_rfl) (by kernel_rfl) (fun _ _ _ h => h) (Or.inl ⟨by rfl, ?_⟩) (by assumption) ?_
    rotate_left
    · intro wS hSw
      (skip)
      go_simp
      all_goals with_reducible rfl
    (try simp only [List.getElem_toArray, List.getElem_cons_zero, List.getElem_cons_succ, Act.put, List.setIfInBounds_toArray, List.set_cons_zero, List.set_cons_succ])
    refine wpAnyH_take (i := 7) (v := ?_) rfl (by kernel_rfl) (by kernel_rfl) (by kernel_rfl) (fun _ _ _ h => h) (Or.inl ⟨by rfl, ?_⟩) (by assumption) ?_
    rotate_left
    · intro wS hSw
      (skip)
      go_simp
      all_goals with_reducible rfl
    (try simp only [List.getElem_toArray, List.getElem_cons_zero, List.getElem_cons_succ, Act.put, List.setIfInBounds_toArray, List.set_cons_zero, List.set_cons_succ])
    refine wpAnyH_done (by kernel_rfl) ?_ _
    have HXa : Hid (Below w.heap.size w w5 ∧ w5.heap[w.heap.size]? = some (mirO regs (some ⟨bb, bo, none⟩) n cap) ∧ w5.heap[w.heap.size + 1]? = some (irO ⟨op, d, a, b, k, t, f⟩) ∧ w5.heap[bs]? = some (shO sb sk sm) ∧ Below X.heap.size X w5) := Lib.hid ⟨onM HX.out.1 HIa.out.2, keepM HX.out.2.1 HIa.out.2, keepM HX.out.2.2.1 HIa.out.2, keepM HX.out.2.2.2 HIa.out.2, HIa.out.2⟩

    clear HRa HRad HIa hH2
    have j0 := cellM HXa.out.2.1 0 rfl
    have j1 := cellM HXa.out.2.1 1 rfl
    have u0 := cellM HXa.out.2.2.1 0 rfl
    have u4 := cellM HXa.out.2.2.1 4 rfl
    have v0 := cellM HXa.out.2.2.2.1 0 rfl
    cases b1 with
    | false =>
      go_wp2
      go_ret
      exact ⟨ret_iM (by rw [HV.out]; rfl), HXa.out.1⟩
    | true =>
      cases ld with
      | true =>
        have g := of_decide_eq_true HLD.out
        obtain ⟨rfl, g2⟩ := g
        by_cases g64 : 64 ≤ k.toNat
        · have g64' : (64 : Int) ≤ (k.toNat : Int) := by omega
          go_wp2
          go_ret
          exact ⟨ret_iM (by rw [HV.out]; rfl), HXa.out.1⟩
        · have g64' : ¬ (64 : Int) ≤ (k.toNat : Int) := by omega
          have km : (k.toNat : Int).tmod 4 = ((k.toNat % 4 : Nat) : Int) := by rw [Int.tmod_eq_emod_of_nonneg (by omega)]; omega
          have km3 : ¬ ((k.toNat % 4 : Nat) : Int) = 0 := by omega
          have km2 : (((k.toNat % 4 : Nat) : Int) != 0) = true := bne_iff_ne.2 km3
          generalize ((k.toNat % 4 : Nat) : Int) = m4 at km km2 km3
          clear g2 g64
          go_wp2
          go_ret
          exact ⟨ret_iM (by rw [HV.out]; rfl), HXa.out.1⟩
      | false =>
        have HRb : Hid (Below X.heap.size X w5) := Lib.hid HXa.out.2.2.2.2
        have g := of_decide_eq_false HLD.out
        by_cases g3 : op = 3
        · have g4 : k.toNat ≤ 60 ∧ k.toNat % 4 = 0 := by omega
          have g64' : ¬ (64 : Int) ≤ (k.toNat : Int) := by omega
          have km : (k.toNat : Int).tmod 4 = ((k.toNat % 4 : Nat) : Int) := by rw [Int.tmod_eq_emod_of_nonneg (by omega)]; omega
          rw [g4.2] at km
          subst g3
          clear g g4
          go_wp2
          clear j0 j1 u0 u4 v0
          refine wp_region_held_drew (S := fun W' => Below X.heap.size X W') (by kernel_rfl) HRb.out.drew (fun hHeld => ?_)
          have HRbd := Lib.hid (HRb.out.drew)
          generalize w5.drew = Yb at HRbd hHeld ⊢
          refine wpAnyH_take (i := 0) (v := ?_) rfl (by kernel_rfl) (by kernel_rfl) (by kernel_rfl) (fun _ _ _ h => h) (Or.inl ⟨by rfl, ?_⟩) (by assumption) ?_
          rotate_left
          · intro wS hSw
            (have i0 := keepM HX.out.2.1 hSw; have i1 := keepM HX.out.2.2.1 hSw; have i2 := keepM HX.out.2.2.2 hSw; have a0 := cellM i0 0 rfl; have a1 := cellM i0 1 rfl; have e0 := cellM i1 0 rfl; have e1 := cellM i1 1 rfl; have e2 := cellM i1 2 rfl; have e3 := cellM i1 3 rfl; have e4 := cellM i1 4 rfl; have e5 := cellM i1 5 rfl; have e6 := cellM i1 6 rfl; have s0 := cellM i2 0 rfl; have s1 := cellM i2 1 rfl; have s2 := cellM i2 2 rfl; clear hSw i0 i1 i2)
            go_simp
            all_goals with_reducible rfl
          (try simp only [List.getElem_toArray, List.getElem_cons_zero, List.getElem_cons_succ, Act.put, List.setIfInBounds_toArray, List.set_cons_zero, List.set_cons_succ])
          refine wpAnyH_take (i := 1) (v := ?_) rfl (by kernel_rfl) (by kernel_rfl) (by kernel_rfl) (fun _ _ _ h => h) (Or.inl ⟨by rfl, ?_⟩) (by assumption) ?_
          rotate_left
          · intro wS hSw
            (have i0 := keepM HX.out.2.1 hSw; have i1 := keepM HX.out.2.2.1 hSw; have i2 := keepM HX.out.2.2.2 hSw; have a0 := cellM i0 0 rfl; have a1 := cellM i0 1 rfl; have e0 := cellM i1 0 rfl; have e1 := cellM i1 1 rfl; have e2 := cellM i1 2 rfl; have e3 := cellM i1 3 rfl; have e4 := cellM i1 4 rfl; have e5 := cellM i1 5 rfl; have e6 := cellM i1 6 rfl; have s0 := cellM i2 0 rfl; have s1 := cellM i2 1 rfl; have s2 := cellM i2 2 rfl; clear hSw i0 i1 i2)
            go_simp
            all_goals with_reducible rfl
          (try simp only [List.getElem_toArray, List.getElem_cons_zero, List.getElem_cons_succ, Act.put, List.setIfInBounds_toArray, List.set_cons_zero, List.set_cons_succ])
          refine wpAnyH_take (i := 3) (v := ?_) rfl (by kernel_rfl) (by kernel_rfl) (by kernel_rfl) (fun _ _ _ h => h) (Or.inl ⟨by rfl, ?_⟩) (by assumption) ?_
          rotate_left
          · intro wS hSw
            (have i0 := keepM HX.out.2.1 hSw; have i1 := keepM HX.out.2.2.1 hSw; have i2 := keepM HX.out.2.2.2 hSw; have a0 := cellM i0 0 rfl; have a1 := cellM i0 1 rfl; have e0 := cellM i1 0 rfl; have e1 := cellM i1 1 rfl; have e2 := cellM i1 2 rfl; have e3 := cellM i1 3 rfl; have e4 := cellM i1 4 rfl; have e5 := cellM i1 5 rfl; have e6 := cellM i1 6 rfl; have s0 := cellM i2 0 rfl; have s1 := cellM i2 1 rfl; have s2 := cellM i2 2 rfl; clear hSw i0 i1 i2)
            go_simp
            all_goals with_reducible rfl
          (try simp only [List.getElem_toArray, List.getElem_cons_zero, List.getElem_cons_succ, Act.put, List.setIfInBounds_toArray, List.set_cons_zero, List.set_cons_succ])
          refine wpAnyH_take (i := 4) (v := ?_) rfl (by kernel_rfl) (by kernel_rfl) (by kernel_rfl) (fun _ _ _ h => h) (Or.inl ⟨by rfl, ?_⟩) (by assumption) ?_
          rotate_left
          · intro wS hSw
            (have i0 := keepM HX.out.2.1 hSw; have i1 := keepM HX.out.2.2.1 hSw; have i2 := keepM HX.out.2.2.2 hSw; have a0 := cellM i0 0 rfl; have a1 := cellM i0 1 rfl; have e0 := cellM i1 0 rfl; have e1 := cellM i1 1 rfl; have e2 := cellM i1 2 rfl; have e3 := cellM i1 3 rfl; have e4 := cellM i1 4 rfl; have e5 := cellM i1 5 rfl; have e6 := cellM i1 6 rfl; have s0 := cellM i2 0 rfl; have s1 := cellM i2 1 rfl; have s2 := cellM i2 2 rfl; clear hSw i0 i1 i2)
            go_simp
            all_goals with_reducible rfl
          (try simp only [List.getElem_toArray, List.getElem_cons_zero, List.getElem_cons_succ, Act.put, List.setIfInBounds_toArray, List.set_cons_zero, List.set_cons_succ])
          refine wpAnyH_take (i := 5) (v := ?_) rfl (by kernel_rfl) (by kernel_rfl) (by kernel_rfl) (fun _ _ _ h => h) (Or.inl ⟨by rfl, ?_⟩) (by assumption) ?_
          rotate_left
          · intro wS hSw
            (have i0 := keepM HX.out.2.1 hSw; have i1 := keepM HX.out.2.2.1 hSw; have i2 := keepM HX.out.2.2.2 hSw; have a0 := cellM i0 0 rfl; have a1 := cellM i0 1 rfl; have e0 := cellM i1 0 rfl; have e1 := cellM i1 1 rfl; have e2 := cellM i1 2 rfl; have e3 := cellM i1 3 rfl; have e4 := cellM i1 4 rfl; have e5 := cellM i1 5 rfl; have e6 := cellM i1 6 rfl; have s0 := cellM i2 0 rfl; have s1 := cellM i2 1 rfl; have s2 := cellM i2 2 rfl; clear hSw i0 i1 i2)
            go_simp
            all_goals with_reducible rfl
          (try simp only [List.getElem_toArray, List.getElem_cons_zero, List.getElem_cons_succ, Act.put, List.setIfInBounds_toArray, List.set_cons_zero, List.set_cons_succ])
          refine wpAnyH_take (i := 6) (v := ?_) rfl (by kernel_rfl) (by kernel_rfl) (by kernel_rfl) (fun _ _ _ h => h) (Or.inl ⟨by rfl, ?_⟩) (by assumption) ?_
          rotate_left
          · intro wS hSw
            (have i0 := keepM HX.out.2.1 hSw; have i1 := keepM HX.out.2.2.1 hSw; have i2 := keepM HX.out.2.2.2 hSw; have a0 := cellM i0 0 rfl; have a1 := cellM i0 1 rfl; have e0 := cellM i1 0 rfl; have e1 := cellM i1 1 rfl; have e2 := cellM i1 2 rfl; have e3 := cellM i1 3 rfl; have e4 := cellM i1 4 rfl; have e5 := cellM i1 5 rfl; have e6 := cellM i1 6 rfl; have s0 := cellM i2 0 rfl; have s1 := cellM i2 1 rfl; have s2 := cellM i2 2 rfl; clear hSw i0 i1 i2)
            go_simp
            all_goals with_reducible rfl
          (try simp only [List.getElem_toArray, List.getElem_cons_zero, List.getElem_cons_succ, Act.put, List.setIfInBounds_toArray, List.set_cons_zero, List.set_cons_succ])
          refine wpAnyH_take (i := 7) (v := ?_) rfl (by kernel_rfl) (by kernel_rfl) (by kernel_rfl) (fun _ _ _ h => h) (Or.inl ⟨by rfl, ?_⟩) (by assumption) ?_
          rotate_left
          · intro wS hSw
            (have i0 := keepM HX.out.2.1 hSw; have i1 := keepM HX.out.2.2.1 hSw; have i2 := keepM HX.out.2.2.2 hSw; have a0 := cellM i0 0 rfl; have a1 := cellM i0 1 rfl; have e0 := cellM i1 0 rfl; have e1 := cellM i1 1 rfl; have e2 := cellM i1 2 rfl; have e3 := cellM i1 3 rfl; have e4 := cellM i1 4 rfl; have e5 := cellM i1 5 rfl; have e6 := cellM i1 6 rfl; have s0 := cellM i2 0 rfl; have s1 := cellM i2 1 rfl; have s2 := cellM i2 2 rfl; clear hSw i0 i1 i2)
            go_simp
            all_goals with_reducible rfl
          (try simp only [List.getElem_toArray, List.getElem_cons_zero, List.getElem_cons_succ, Act.put, List.setIfInBounds_toArray, List.set_cons_zero, List.set_cons_succ])
          refine held_one (i := 2) (by kernel_rfl) rfl (fun K hK => ?_)
          go_simp
          go_at_call 60
          refine (hHT.out _).mono ?_
          rintro e w4b ⟨A1b, c1b, rfl, hi4, hb4⟩
          have hb5 := onM HRbd.out hb4
          refine hK.out _ _ hb5 (fun hH1 => ?_)
          have HIb := Lib.hid (And.intro hi4 hb5)
          clear hK K hHeld hi4 hb4 hb5
          (try simp only [Act.put, List.setIfInBounds_toArray, List.set_cons_zero, List.set_cons_succ, List.getElem_toArray, List.getElem_cons_zero, List.getElem_cons_succ])
          refine held_one (i := 8) (by kernel_rfl) rfl (fun K hK => ?_)
          go_simp
          go_at_call 58
          refine (hW2.out _ _ _ HIb.out.1).mono ?_
          rintro e w6 ⟨rfl, rfl⟩
          refine hK.out _ _ HIb.out.2 (fun hH2 => ?_)
          clear hK K hH1
          (try simp only [Act.put, List.setIfInBounds_toArray, List.set_cons_zero, List.set_cons_succ, List.getElem_toArray, List.getElem_cons_zero, List.getElem_cons_succ])
          refine wpAnyH_take (i := 9) (v := ?_) rfl (by kernel_rfl) (by kernel_rfl) (by kernel_rfl) (fun _ _ _ h => h) (Or.inl ⟨by rfl, ?_⟩) (by assumption) ?_
          rotate_left
          · intro wS hSw
            (skip)
            go_simp
            all_goals with_reducible rfl
          (try simp only [List.getElem_toArray, List.getElem_cons_zero, List.getElem_cons_succ, Act.put, List.setIfInBounds_toArray, List.set_cons_zero, List.set_cons_succ])
          refine wpAnyH_take (i := 10) (v := ?_) rfl (by kernel_rfl) (by kernel_rfl) (by kernel_rfl) (fun _ _ _ h => h) (Or.inl ⟨by rfl, ?_⟩) (by assumption) ?_
          rotate_left
          · intro wS hSw
            (skip)
            go_simp
            all_goals with_reducible rfl
          (try simp only [List.getElem_toArray, List.getElem_cons_zero, List.getElem_cons_succ, Act.put, List.setIfInBounds_toArray, List.set_cons_zero, List.set_cons_succ])
          refine wpAnyH_done (by kernel_rfl) ?_ _
          have HXb : Hid (Below w.heap.size w w6 ∧ w6.heap[w.heap.size]? = some (mirO regs (some ⟨bb, bo, none⟩) n cap) ∧ w6.heap[w.heap.size + 1]? = some (irO ⟨3, d, a, b, k, t, f⟩) ∧ w6.heap[bs]? = some (shO sb sk sm) ∧ Below X.heap.size X w6) := Lib.hid ⟨onM HX.out.1 HIb.out.2, keepM HX.out.2.1 HIb.out.2, keepM HX.out.2.2.1 HIb.out.2, keepM HX.out.2.2.2 HIb.out.2, HIb.out.2⟩
          clear HRb HRbd HIb hH2
          cases b2 with
          | false =>
            go_wp2
            go_ret
            exact ⟨ret_iM (by rw [HV.out]; rfl), HXb.out.1⟩
          | true =>
            go_wp2
            go_ret
            exact ⟨ret_iM (by rw [HV.out]; rfl), HXb.out.1⟩
        · have g3' : (op == 3) = false := beq_false_of_ne g3
          clear g
          go_wp2
          clear j0 j1 u0 u4 v0
          refine wp_region_held_drew (S := fun W' => Below X.heap.size X W') (by kernel_rfl) HRb.out.drew (fun hHeld => ?_)
          have HRbd := Lib.hid (HRb.out.drew)
          generalize w5.drew = Yb at HRbd hHeld ⊢
          refine wpAnyH_take (i := 0) (v := ?_) rfl (by kernel_rfl) (by kernel_rfl) (by kernel_rfl) (fun _ _ _ h => h) (Or.inl ⟨by rfl, ?_⟩) (by assumption) ?_
          rotate_left
          · intro wS hSw
            (have i0 := keepM HX.out.2.1 hSw; have i1 := keepM HX.out.2.2.1 hSw; have i2 := keepM HX.out.2.2.2 hSw; have a0 := cellM i0 0 rfl; have a1 := cellM i0 1 rfl; have e0 := cellM i1 0 rfl; have e1 := cellM i1 1 rfl; have e2 := cellM i1 2 rfl; have e3 := cellM i1 3 rfl; have e4 := cellM i1 4 rfl; have e5 := cellM i1 5 rfl; have e6 := cellM i1 6 rfl; have s0 := cellM i2 0 rfl; have s1 := cellM i2 1 rfl; have s2 := cellM i2 2 rfl; clear hSw i0 i1 i2)
            go_simp
            all_goals with_reducible rfl
          (try simp only [List.getElem_toArray, List.getElem_cons_zero, List.getElem_cons_succ, Act.put, List.setIfInBounds_toArray, List.set_cons_zero, List.set_cons_succ])
          refine wpAnyH_take (i := 1) (v := ?_) rfl (by kernel_rfl) (by kernel_rfl) (by kernel_rfl) (fun _ _ _ h => h) (Or.inl ⟨by rfl, ?_⟩) (by assumption) ?_
          rotate_left
          · intro wS hSw
            (have i0 := keepM HX.out.2.1 hSw; have i1 := keepM HX.out.2.2.1 hSw; have i2 := keepM HX.out.2.2.2 hSw; have a0 := cellM i0 0 rfl; have a1 := cellM i0 1 rfl; have e0 := cellM i1 0 rfl; have e1 := cellM i1 1 rfl; have e2 := cellM i1 2 rfl; have e3 := cellM i1 3 rfl; have e4 := cellM i1 4 rfl; have e5 := cellM i1 5 rfl; have e6 := cellM i1 6 rfl; have s0 := cellM i2 0 rfl; have s1 := cellM i2 1 rfl; have s2 := cellM i2 2 rfl; clear hSw i0 i1 i2)
            go_simp
            all_goals with_reducible rfl
          (try simp only [List.getElem_toArray, List.getElem_cons_zero, List.getElem_cons_succ, Act.put, List.setIfInBounds_toArray, List.set_cons_zero, List.set_cons_succ])
          refine wpAnyH_take (i := 3) (v := ?_) rfl (by kernel_rfl) (by kernel_rfl) (by kernel_rfl) (fun _ _ _ h => h) (Or.inl ⟨by rfl, ?_⟩) (by assumption) ?_
          rotate_left
          · intro wS hSw
            (have i0 := keepM HX.out.2.1 hSw; have i1 := keepM HX.out.2.2.1 hSw; have i2 := keepM HX.out.2.2.2 hSw; have a0 := cellM i0 0 rfl; have a1 := cellM i0 1 rfl; have e0 := cellM i1 0 rfl; have e1 := cellM i1 1 rfl; have e2 := cellM i1 2 rfl; have e3 := cellM i1 3 rfl; have e4 := cellM i1 4 rfl; have e5 := cellM i1 5 rfl; have e6 := cellM i1 6 rfl; have s0 := cellM i2 0 rfl; have s1 := cellM i2 1 rfl; have s2 := cellM i2 2 rfl; clear hSw i0 i1 i2)
            go_simp
            all_goals with_reducible rfl
          (try simp only [List.getElem_toArray, List.getElem_cons_zero, List.getElem_cons_succ, Act.put, List.setIfInBounds_toArray, List.set_cons_zero, List.set_cons_succ])
          refine wpAnyH_take (i := 4) (v := ?_) rfl (by kernel_rfl) (by kernel_rfl) (by kernel_rfl) (fun _ _ _ h => h) (Or.inl ⟨by rfl, ?_⟩) (by assumption) ?_
          rotate_left
          · intro wS hSw
            (have i0 := keepM HX.out.2.1 hSw; have i1 := keepM HX.out.2.2.1 hSw; have i2 := keepM HX.out.2.2.2 hSw; have a0 := cellM i0 0 rfl; have a1 := cellM i0 1 rfl; have e0 := cellM i1 0 rfl; have e1 := cellM i1 1 rfl; have e2 := cellM i1 2 rfl; have e3 := cellM i1 3 rfl; have e4 := cellM i1 4 rfl; have e5 := cellM i1 5 rfl; have e6 := cellM i1 6 rfl; have s0 := cellM i2 0 rfl; have s1 := cellM i2 1 rfl; have s2 := cellM i2 2 rfl; clear hSw i0 i1 i2)
            go_simp
            all_goals with_reducible rfl
          (try simp only [List.getElem_toArray, List.getElem_cons_zero, List.getElem_cons_succ, Act.put, List.setIfInBounds_toArray, List.set_cons_zero, List.set_cons_succ])
          refine wpAnyH_take (i := 5) (v := ?_) rfl (by kernel_rfl) (by kernel_rfl) (by kernel_rfl) (fun _ _ _ h => h) (Or.inl ⟨by rfl, ?_⟩) (by assumption) ?_
          rotate_left
          · intro wS hSw
            (have i0 := keepM HX.out.2.1 hSw; have i1 := keepM HX.out.2.2.1 hSw; have i2 := keepM HX.out.2.2.2 hSw; have a0 := cellM i0 0 rfl; have a1 := cellM i0 1 rfl; have e0 := cellM i1 0 rfl; have e1 := cellM i1 1 rfl; have e2 := cellM i1 2 rfl; have e3 := cellM i1 3 rfl; have e4 := cellM i1 4 rfl; have e5 := cellM i1 5 rfl; have e6 := cellM i1 6 rfl; have s0 := cellM i2 0 rfl; have s1 := cellM i2 1 rfl; have s2 := cellM i2 2 rfl; clear hSw i0 i1 i2)
            go_simp
            all_goals with_reducible rfl
          (try simp only [List.getElem_toArray, List.getElem_cons_zero, List.getElem_cons_succ, Act.put, List.setIfInBounds_toArray, List.set_cons_zero, List.set_cons_succ])
          refine wpAnyH_take (i := 6) (v := ?_) rfl (by kernel_rfl) (by kernel_rfl) (by kernel_rfl) (fun _ _ _ h => h) (Or.inl ⟨by rfl, ?_⟩) (by assumption) ?_
          rotate_left
          · intro wS hSw
            (have i0 := keepM HX.out.2.1 hSw; have i1 := keepM HX.out.2.2.1 hSw; have i2 := keepM HX.out.2.2.2 hSw; have a0 := cellM i0 0 rfl; have a1 := cellM i0 1 rfl; have e0 := cellM i1 0 rfl; have e1 := cellM i1 1 rfl; have e2 := cellM i1 2 rfl; have e3 := cellM i1 3 rfl; have e4 := cellM i1 4 rfl; have e5 := cellM i1 5 rfl; have e6 := cellM i1 6 rfl; have s0 := cellM i2 0 rfl; have s1 := cellM i2 1 rfl; have s2 := cellM i2 2 rfl; clear hSw i0 i1 i2)
            go_simp
            all_goals with_reducible rfl
          (try simp only [List.getElem_toArray, List.getElem_cons_zero, List.getElem_cons_succ, Act.put, List.setIfInBounds_toArray, List.set_cons_zero, List.set_cons_succ])
          refine wpAnyH_take (i := 7) (v := ?_) rfl (by kernel_rfl) (by kernel_rfl) (by kernel_rfl) (fun _ _ _ h => h) (Or.inl ⟨by rfl, ?_⟩) (by assumption) ?_
          rotate_left
          · intro wS hSw
            (have i0 := keepM HX.out.2.1 hSw; have i1 := keepM HX.out.2.2.1 hSw; have i2 := keepM HX.out.2.2.2 hSw; have a0 := cellM i0 0 rfl; have a1 := cellM i0 1 rfl; have e0 := cellM i1 0 rfl; have e1 := cellM i1 1 rfl; have e2 := cellM i1 2 rfl; have e3 := cellM i1 3 rfl; have e4 := cellM i1 4 rfl; have e5 := cellM i1 5 rfl; have e6 := cellM i1 6 rfl; have s0 := cellM i2 0 rfl; have s1 := cellM i2 1 rfl; have s2 := cellM i2 2 rfl; clear hSw i0 i1 i2)
            go_simp
            all_goals with_reducible rfl
          (try simp only [List.getElem_toArray, List.getElem_cons_zero, List.getElem_cons_succ, Act.put, List.setIfInBounds_toArray, List.set_cons_zero, List.set_cons_succ])
          refine held_one (i := 2) (by kernel_rfl) rfl (fun K hK => ?_)
          go_simp
          go_at_call 60
          refine (hHT.out _).mono ?_
          rintro e w4b ⟨A1b, c1b, rfl, hi4, hb4⟩
          have hb5 := onM HRbd.out hb4
          refine hK.out _ _ hb5 (fun hH1 => ?_)
          have HIb := Lib.hid (And.intro hi4 hb5)
          clear hK K hHeld hi4 hb4 hb5
          (try simp only [Act.put, List.setIfInBounds_toArray, List.set_cons_zero, List.set_cons_succ, List.getElem_toArray, List.getElem_cons_zero, List.getElem_cons_succ])
          refine held_one (i := 8) (by kernel_rfl) rfl (fun K hK => ?_)
          go_simp
          go_at_call 58
          refine (hW2.out _ _ _ HIb.out.1).mono ?_
          rintro e w6 ⟨rfl, rfl⟩
          refine hK.out _ _ HIb.out.2 (fun hH2 => ?_)
          clear hK K hH1
          (try simp only [Act.put, List.setIfInBounds_toArray, List.set_cons_zero, List.set_cons_succ, List.getElem_toArray, List.getElem_cons_zero, List.getElem_cons_succ])
          refine wpAnyH_take (i := 9) (v := ?_) rfl (by kernel_rfl) (by kernel_rfl) (by kernel_rfl) (fun _ _ _ h => h) (Or.inl ⟨by rfl, ?_⟩) (by assumption) ?_
          rotate_left
          · intro wS hSw
            (skip)
            go_simp
            all_goals with_reducible rfl
          (try simp only [List.getElem_toArray, List.getElem_cons_zero, List.getElem_cons_succ, Act.put, List.setIfInBounds_toArray, List.set_cons_zero, List.set_cons_succ])
          refine wpAnyH_take (i := 10) (v := ?_) rfl (by kernel_rfl) (by kernel_rfl) (by kernel_rfl) (fun _ _ _ h => h) (Or.inl ⟨by rfl, ?_⟩) (by assumption) ?_
          rotate_left
          · intro wS hSw
            (skip)
            go_simp
            all_goals with_reducible rfl
          (try simp only [List.getElem_toArray, List.getElem_cons_zero, List.getElem_cons_succ, Act.put, List.setIfInBounds_toArray, List.set_cons_zero, List.set_cons_succ])
          refine wpAnyH_done (by kernel_rfl) ?_ _
          have HXb : Hid (Below w.heap.size w w6 ∧ w6.heap[w.heap.size]? = some (mirO regs (some ⟨bb, bo, none⟩) n cap) ∧ w6.heap[w.heap.size + 1]? = some (irO ⟨op, d, a, b, k, t, f⟩) ∧ w6.heap[bs]? = some (shO sb sk sm) ∧ Below X.heap.size X w6) := Lib.hid ⟨onM HX.out.1 HIb.out.2, keepM HX.out.2.1 HIb.out.2, keepM HX.out.2.2.1 HIb.out.2, keepM HX.out.2.2.2 HIb.out.2, HIb.out.2⟩
          clear HRb HRbd HIb hH2
          cases b2 with
          | false =>
            go_wp2
            go_ret
            exact ⟨ret_iM (by rw [HV.out]; rfl), HXb.out.1⟩
          | true =>
            go_wp2
            go_ret
            exact ⟨ret_iM (by rw [HV.out]; rfl), HXb.out.1⟩
theorem p_fault (regs : Int) (A : Option Addr) (n cap : Nat) (q : Nat → Irx) (i : Nat) (w : World) (hi : i < n) (h : IrAt w A n q) : Calls Tryd.prog 47 #[mirV regs A n cap, .int .i64 (i : Int)] w (FaP regs n (q i) i w) := by
  obtain ⟨bb, bo, hA, hl, c0, c1, c2, c3, c4, c5, c6⟩ := ir_at h hi
  have hn := h.1
  generalize q i = x at *
  obtain ⟨op, d, a, b, k, t, f⟩ := x
  exact p_fault_at regs A n cap op d a b k t f i bb bo w hi hn hA hl c0 c1 c2 c3 c4 c5 c6
end Go.Proofs.YtoajommeiocfpaaDoor
