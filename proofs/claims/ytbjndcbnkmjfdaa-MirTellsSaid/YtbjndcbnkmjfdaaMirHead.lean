/-
  The statements' own Head of layer 12, a question whose answer is fixed: a contract. No condition.
-/
import Derived.Test.YtbjndcbnkmjfdaaMirPRun
namespace Go.Proofs.Ytbjndcbnkmjfdaa
open Go Go.RowKit
set_option linter.unusedSimpArgs false
set_option linter.unusedVariables false
set_option maxRecDepth 100000

def headQ : Nat → Irx
  | 0 => ⟨1, 0, 0, 0, 7#32, 0, 0⟩
  | 1 => ⟨4, 1, 0, 0, 0#32, 0, 0⟩
  | _ => ⟨19, 0, 1, 0, 0#32, 0, 0⟩
theorem head_chk : chkE 2 headQ 3 = 0 := by decide
theorem head_run (word : Nat → BitVec 32) : runR 2 headQ 3 64 word = ⟨14#32, 3, 0, 0⟩ := by
  rw [run_right head_chk]
  rfl
abbrev headLO : Obj := .cells #[.int .i64 1, .int .i64 0, .int .i64 0, .int .i64 0, .int .u32 7, .int .i64 0, .int .i64 0, .int .i64 4, .int .i64 1, .int .i64 0, .int .i64 0, .int .u32 0, .int .i64 0, .int .i64 0, .int .i64 19, .int .i64 0, .int .i64 1, .int .i64 0, .int .u32 0, .int .i64 0, .int .i64 0] 35
theorem head_prog (w : World) : IrAt (w.alloc headLO) (some ⟨w.heap.size, 0, none⟩) 3 headQ := ⟨by unfold maxLen; omega, fun _ => ⟨w.heap.size, 0, rfl, by simp, fun i hi j u hj => by
  have hh : (w.alloc headLO).heap[w.heap.size]? = some headLO := World.alloc_heap_new w _
  have hj7 : j < 7 := (List.getElem?_eq_some_iff.1 hj).1
  unfold World.cell?
  rw [hh]
  have hi3 : i = 0 ∨ i = 1 ∨ i = 2 := by omega
  have hj3 : j = 0 ∨ j = 1 ∨ j = 2 ∨ j = 3 ∨ j = 4 ∨ j = 5 ∨ j = 6 := by omega
  rcases hi3 with rfl | rfl | rfl <;> rcases hj3 with rfl | rfl | rfl | rfl | rfl | rfl | rfl <;> exact hj⟩⟩
theorem info_u8M : (Try.prog.info? 5).map (fun i => (i.zero, i.size, i.bytes)) = some (some (.int .u8 0), 1, 1) := by kernel_rfl
theorem oper_makeM {P : Program} {w : World} {o : Oper} {a : Act} {K : Act → World → Prop} {Q : Exit → Act → World → Prop} (l c : Operand) (t : TypeId) (hop : o.op = Op.makeSlice t l c)
    (e : TypeId) (z : Value) (sz bytes : Nat) (ht : P.underlying t = some (.slice e)) (hinfo : (P.info? e).map (fun i => (i.zero, i.size, i.bytes)) = some (some z, sz, bytes))
    (v : Value) (hzs : z.cells = (List.replicate sz v).toArray) (hsz : 0 < sz) (kl kc : IntKind) (n : Nat) (hl : a.eval l = .int kl (n : Int)) (hc : a.eval c = .int kc (n : Int)) (hn : bytes * n ≤ 281474976710656) (h63 : n ≤ 9223372036854775807)
    (h : ∀ w', w'.rowIs w.heap.size e (n * sz) (fun _ => v) → Below w.heap.size w w' → w'.heap.size = w.heap.size + 1 → K (a.put o.dst (.slice (some ⟨w.heap.size, 0, none⟩) n n)) w') : Oper.wp P o a w K Q := by
  obtain ⟨i, hi, hz, hsize, hby⟩ := info_own hinfo
  have hb : (i.bytes : Int) * (n : Int) ≤ 281474976710656 := by
    rw [hby]; have : ((bytes * n : Nat) : Int) ≤ 281474976710656 := by omega
    rwa [Int.natCast_mul] at this
  have hrun := run_make (P := P) w t e i z ht hi hz kl kc n n (by omega) (Int.le_refl _) hb (by omega)
  simp only [Int.toNat_natCast, hsize] at hrun
  have hr : (w.alloc (.cells (madeCells z.cells (n * sz)) e)).rowIs w.heap.size e (n * sz) (fun _ => v) := by
    have := World.rowIs_alloc w (madeCells z.cells (n * sz)) e (fun _ => v) (fun j hj => by
      rw [size_madeCells] at hj
      unfold madeCells
      rw [hzs]
      have : j % sz < sz := Nat.mod_lt _ hsz
      simp [hj, this])
    rwa [size_madeCells] at this
  unfold Oper.wp execOp
  simp only [hop, hl, hc, hrun, Sem.run_bind, Sem.run_pure, Result.andThen_ok]
  exact h _ hr (lboxM w _) (by simp)
theorem dat_zero {w : World} {g : Nat} (h : w.rowIs g 5 64 (fun _ => .int .u8 0)) : DatAt w (some ⟨g, 0, none⟩) 64 (fun _ => 0) := fun _ =>
  ⟨g, 0, rfl, h.lt, fun i => by show (0 : Int) ≤ 0 ∧ (0 : Int) < 256; decide, fun i hi => by rw [Nat.zero_add]; exact World.rowIs.cell h hi⟩
set_option maxHeartbeats 4000000 in
theorem head_M (w : World) : Calls Try.prog 10 #[] w fun e w' => e = .returned (.bool true) ∧ Below w.heap.size w w' := by
  obtain ⟨O, hO1, hO2⟩ := make_zeroM 37 5 (.int .u8 0) 1 Try.underlying37 info_u8M rfl 64 (by omega) (by omega)
  have HR : Hid (∀ V A cap da dcap, IrAt V A 3 headQ → DatAt V da 64 (fun _ => 0) → Calls Try.prog 15 #[mirV 2 A 3 cap, .slice da 64 dcap] V fun e w' => e = .returned (.tuple #[.int .u32 14, .int .i64 3, .int .i64 0, .int .i64 0]) ∧ Below V.heap.size V w') := Lib.hid fun V A cap da dcap h1 h2 => (p_RunM 2 A 3 cap headQ da 64 dcap _ V h1 h2).mono fun e w' h => ⟨by rw [h.1, head_run]; rfl, h.2⟩
  have hX := And.intro (onM (lboxM w headLO) (lboxM (w.alloc headLO) (mirO 2 (some ⟨w.heap.size, 0, none⟩) 3 3))) (And.intro (World.alloc_heap_new (w.alloc headLO) (mirO 2 (some ⟨w.heap.size, 0, none⟩) 3 3)) ((head_prog w).below (lboxM (w.alloc headLO) (mirO 2 (some ⟨w.heap.size, 0, none⟩) 3 3))))
  rw [show (w.alloc headLO).heap.size = w.heap.size + 1 by simp] at hX
  have HX := Lib.hid hX
  have HO := Lib.hid (And.intro hO1 hO2)
  clear hX hO1 hO2
  go_enter Try.func10, Try.ntmps10
  go_wp2
  generalize (w.alloc (.cells #[.int .i64 1, .int .i64 0, .int .i64 0, .int .i64 0, .int .u32 7, .int .i64 0, .int .i64 0, .int .i64 4, .int .i64 1, .int .i64 0, .int .i64 0, .int .u32 0, .int .i64 0, .int .i64 0, .int .i64 19, .int .i64 0, .int .i64 1, .int .i64 0, .int .u32 0, .int .i64 0, .int .i64 0] 35)).alloc (.cells #[.int .i64 2, .slice (some ⟨w.heap.size, 0, none⟩) 3 3] 24) = X at HX ⊢
  refine wp_region_held_drew (S := fun W' => Below X.heap.size X W') (by kernel_rfl) (Below.refl X.heap.size X).drew (fun hHeld => ?_)
  have HY := Lib.hid ((Below.refl X.heap.size X).drew)
  generalize X.drew = Y at HY hHeld ⊢
  refine wpAnyH_take (i := 0) (v := ?_) rfl (by kernel_rfl) (by kernel_rfl) (by kernel_rfl) (fun _ _ _ h => h) (Or.inl ⟨by rfl, ?_⟩) (by assumption) ?_
  rotate_left
  · intro wS hSw
    (have i1 := keepM HX.out.2.1 hSw; have e0 := cellM i1 0 rfl; have e1 := cellM i1 1 rfl; clear hSw i1)
    go_simp
    all_goals with_reducible rfl
  (try simp only [List.getElem_toArray, List.getElem_cons_zero, List.getElem_cons_succ, Act.put, List.setIfInBounds_toArray, List.set_cons_zero, List.set_cons_succ])
  refine held_one (i := 1) (by kernel_rfl) rfl (fun K hK => ?_)
  rw [if_pos (by kernel_rfl)]
  refine oper_makeM _ _ _ rfl 5 (.int .u8 0) 1 1 Try.underlying37 info_u8M (.int .u8 0) rfl (by decide) .i64 .i64 64 rfl rfl (by decide) (by decide) ?_
  intro Z hr hb4 _
  have hb5 := onM HY.out hb4
  refine hK.out _ _ hb5 (fun hH1 => ?_)
  have HZ := Lib.hid (And.intro hb5 (dat_zero hr))
  clear hK K hHeld hr hb4 hb5
  (try simp only [Act.put, List.setIfInBounds_toArray, List.set_cons_zero, List.set_cons_succ, List.getElem_toArray, List.getElem_cons_zero, List.getElem_cons_succ])
  refine held_one (i := 2) (by kernel_rfl) rfl (fun K hK => ?_)
  go_simp
  go_at_call 15
  refine (HR.out _ _ _ _ _ (HX.out.2.2.below HZ.out.1) HZ.out.2).mono ?_
  rintro e w4 ⟨rfl, hb4⟩
  have hb6 := onM HZ.out.1 hb4
  refine hK.out _ _ hb6 (fun hH2 => ?_)
  have HE := Lib.hid (onM HX.out.1 hb6)
  clear hK K hH1 hb4 hb6
  (try simp only [Act.put, List.setIfInBounds_toArray, List.set_cons_zero, List.set_cons_succ, List.getElem_toArray, List.getElem_cons_zero, List.getElem_cons_succ])
  refine wpAnyH_take (i := 3) (v := ?_) rfl (by kernel_rfl) (by kernel_rfl) (by kernel_rfl) (fun _ _ _ h => h) (Or.inl ⟨by rfl, ?_⟩) (by assumption) ?_
  rotate_left
  · intro wS hSw
    (skip)
    go_simp
    all_goals with_reducible rfl
  (try simp only [List.getElem_toArray, List.getElem_cons_zero, List.getElem_cons_succ, Act.put, List.setIfInBounds_toArray, List.set_cons_zero, List.set_cons_succ])
  refine wpAnyH_take (i := 4) (v := ?_) rfl (by kernel_rfl) (by kernel_rfl) (by kernel_rfl) (fun _ _ _ h => h) (Or.inl ⟨by rfl, ?_⟩) (by assumption) ?_
  rotate_left
  · intro wS hSw
    (skip)
    go_simp
    all_goals with_reducible rfl
  (try simp only [List.getElem_toArray, List.getElem_cons_zero, List.getElem_cons_succ, Act.put, List.setIfInBounds_toArray, List.set_cons_zero, List.set_cons_succ])
  refine wpAnyH_take (i := 5) (v := ?_) rfl (by kernel_rfl) (by kernel_rfl) (by kernel_rfl) (fun _ _ _ h => h) (Or.inl ⟨by rfl, ?_⟩) (by assumption) ?_
  rotate_left
  · intro wS hSw
    (skip)
    go_simp
    all_goals with_reducible rfl
  (try simp only [List.getElem_toArray, List.getElem_cons_zero, List.getElem_cons_succ, Act.put, List.setIfInBounds_toArray, List.set_cons_zero, List.set_cons_succ])
  refine wpAnyH_take (i := 6) (v := ?_) rfl (by kernel_rfl) (by kernel_rfl) (by kernel_rfl) (fun _ _ _ h => h) (Or.inl ⟨by rfl, ?_⟩) (by assumption) ?_
  rotate_left
  · intro wS hSw
    (skip)
    go_simp
    all_goals with_reducible rfl
  (try simp only [List.getElem_toArray, List.getElem_cons_zero, List.getElem_cons_succ, Act.put, List.setIfInBounds_toArray, List.set_cons_zero, List.set_cons_succ])
  refine wpAnyH_take (i := 7) (v := ?_) rfl (by kernel_rfl) (by kernel_rfl) (by kernel_rfl) (fun _ _ _ h => h) (Or.inl ⟨by rfl, ?_⟩) (by assumption) ?_
  rotate_left
  · intro wS hSw
    (skip)
    go_simp
    all_goals with_reducible rfl
  (try simp only [List.getElem_toArray, List.getElem_cons_zero, List.getElem_cons_succ, Act.put, List.setIfInBounds_toArray, List.set_cons_zero, List.set_cons_succ])
  refine wpAnyH_take (i := 8) (v := ?_) rfl (by kernel_rfl) (by kernel_rfl) (by kernel_rfl) (fun _ _ _ h => h) (Or.inl ⟨by rfl, ?_⟩) (by assumption) ?_
  rotate_left
  · intro wS hSw
    (skip)
    go_simp
    all_goals with_reducible rfl
  (try simp only [List.getElem_toArray, List.getElem_cons_zero, List.getElem_cons_succ, Act.put, List.setIfInBounds_toArray, List.set_cons_zero, List.set_cons_succ])
  refine wpAnyH_take (i := 9) (v := ?_) rfl (by kernel_rfl) (by kernel_rfl) (by kernel_rfl) (fun _ _ _ h => h) (Or.inl ⟨by rfl, ?_⟩) (by assumption) ?_
  rotate_left
  · intro wS hSw
    (skip)
    go_simp
    all_goals with_reducible rfl
  (try simp only [List.getElem_toArray, List.getElem_cons_zero, List.getElem_cons_succ, Act.put, List.setIfInBounds_toArray, List.set_cons_zero, List.set_cons_succ])
  refine wpAnyH_take (i := 10) (v := ?_) rfl (by kernel_rfl) (by kernel_rfl) (by kernel_rfl) (fun _ _ _ h => h) (Or.inl ⟨by rfl, ?_⟩) (by assumption) ?_
  rotate_left
  · intro wS hSw
    (skip)
    go_simp
    all_goals with_reducible rfl
  (try simp only [List.getElem_toArray, List.getElem_cons_zero, List.getElem_cons_succ, Act.put, List.setIfInBounds_toArray, List.set_cons_zero, List.set_cons_succ])
  refine wpAnyH_take (i := 11) (v := ?_) rfl (by kernel_rfl) (by kernel_rfl) (by kernel_rfl) (fun _ _ _ h => h) (Or.inl ⟨by rfl, ?_⟩) (by assumption) ?_
  rotate_left
  · intro wS hSw
    (skip)
    go_simp
    all_goals with_reducible rfl
  (try simp only [List.getElem_toArray, List.getElem_cons_zero, List.getElem_cons_succ, Act.put, List.setIfInBounds_toArray, List.set_cons_zero, List.set_cons_succ])
  refine wpAnyH_done (by kernel_rfl) ?_ _
  go_wp2
  go_ret
  exact ⟨rfl, HE.out⟩
end Go.Proofs.Ytbjndcbnkmjfdaa
