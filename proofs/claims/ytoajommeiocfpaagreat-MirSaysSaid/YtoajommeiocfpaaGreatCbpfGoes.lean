/-
  What the document's Step of classic BPF does to its machine where nothing stops it ahead of the instruction: a contract. Conditions: those that it names.
-/
import Derived.Test.YtoajommeiocfpaaGreatCbpfStep
import Derived.StillTailTactics
namespace Go.Proofs.YtoajommeiocfpaaGreat
open Go Go.RowKit
set_option linter.unusedSimpArgs false
set_option linter.unusedVariables false

/-- An instruction's four values. -/
def insF (i : Ins) : Nat → Value
  | 0 => .int .u16 i.code
  | 1 => .int .u8 (i.jt : Int)
  | 2 => .int .u8 (i.jf : Int)
  | _ => .int .u32 (i.k.toNat : Int)
theorem MachAt.grown {w w' : World} {b g : Nat} {qv dv : Value} {s : Mach} (h : MachAt w b qv dv s) (hg : w.grownBy w' (some g)) (hne : b ≠ g) : MachAt w' b qv dv s := rowIs_grown h hg (fun e => hne (by injection e))
theorem ins_new (w : World) : (w.alloc (.cells #[.int .u16 0, .int .u8 0, .int .u8 0, .int .u32 0] 60)).rowIs w.heap.size 60 4 (insF ⟨0, 0, 0, 0#32⟩) :=
  World.rowIs_alloc w #[.int .u16 0, .int .u8 0, .int .u8 0, .int .u32 0] 60 _ (fun i hi => by
    rcases i with _ | _ | _ | _ | i
    · rfl
    · rfl
    · rfl
    · rfl
    · exact absurd hi (by simp))
theorem ins_set {w : World} {g : Nat} {i : Ins} (h : w.rowIs g 60 4 (insF i)) (c : Int) (jt jf : Nat) (k : BitVec 32) :
    ((((w.setCell ⟨g, 0, none⟩ (.int .u16 c)).setCell ⟨g, 1, none⟩ (.int .u8 (jt : Int))).setCell ⟨g, 2, none⟩ (.int .u8 (jf : Int))).setCell ⟨g, 3, none⟩ (.int .u32 (k.toNat : Int))).rowIs g 60 4 (insF ⟨c, jt, jf, k⟩) :=
  ((((World.rowIs.set h 0 _).set 1 _).set 2 _).set 3 _).congr (by
    iterate 4 (refine lt_more ?_ rfl)
    exact lt_zero)
theorem ins_grown {a w : World} {g : Nat} (h : a.grownBy w (some g)) (u0 u1 u2 u3 : Value) : a.grownBy ((((w.setCell ⟨g, 0, none⟩ u0).setCell ⟨g, 1, none⟩ u1).setCell ⟨g, 2, none⟩ u2).setCell ⟨g, 3, none⟩ u3) (some g) :=
  grown_set (grown_set (grown_set (grown_set h 0 _) 1 _) 2 _) 3 _

theorem rest_not {c : Int} (h : restC c = true) : aluC c = false ∧ jumpC c = false := by
  rcases rest_cases h with rfl | rfl | rfl | rfl | rfl | rfl | rfl | rfl | rfl | rfl | rfl | rfl | rfl | rfl | rfl <;> exact ⟨rfl, rfl⟩
theorem moves_keeps (word : Nat → BitVec 32) (s : Mach) (i : Ins) : (s.moves word i).place = s.place ∧ (s.moves word i).steps = s.steps := by
  exact ⟨by simp only [Mach.moves, apply_ite Mach.place, ite_self], by simp only [Mach.moves, apply_ite Mach.steps, ite_self]⟩

theorem moves_on {w : World} {b : Nat} {qv dv : Value} {s s' : Mach} {n : Nat} (h : MachAt w b qv dv { s' with place := s.place + n, steps := s.steps + 1 }) (hp : s'.place = s.place ∧ s'.steps = s.steps) : MachAt w b qv dv (s'.on n) := by
  rw [Mach.on, hp.1, hp.2]; exact h

theorem and_eight {c : Int} (h : aluC c = true ∨ jumpC c = true) : bits .and .u16 c 8 = if usesX c then 8 else 0 := by
  rcases h with h | h
  · rcases alu_cases h with rfl | rfl | rfl | rfl | rfl | rfl | rfl | rfl | rfl | rfl | rfl | rfl | rfl | rfl | rfl | rfl | rfl | rfl <;> decide
  · rcases jump_cases h with rfl | rfl | rfl | rfl | rfl | rfl | rfl | rfl <;> decide
theorem jump_not {c : Int} (h : jumpC c = true) : aluC c = false := by
  rcases jump_cases h with rfl | rfl | rfl | rfl | rfl | rfl | rfl | rfl <;> rfl
theorem alu_not {c : Int} (h : aluC c = true) : jumpC c = false := by
  rcases alu_cases h with rfl | rfl | rfl | rfl | rfl | rfl | rfl | rfl | rfl | rfl | rfl | rfl | rfl | rfl | rfl | rfl | rfl | rfl <;> rfl
theorem says_is {c : Int} {r : Bool} (b a : BitVec 32) (hc : jumpC c = true) (h : saysN (opN c) a b = r) (w : World) :
    Calls Tryz.prog 39 #[.int .u16 c, .int .u32 (a.toNat : Int), .int .u32 (b.toNat : Int)] w fun e w' => e = .returned (.bool r) ∧ w = w' := by rw [← h]; exact ref_Says c a b hc w

theorem ends_zero (w : World) (b : Nat) (qv dv : Value) (s : Mach) (h : MachAt w b qv dv s) (hs : s.steps < 1000000000000000000) :
    Calls Tryz.prog 37 #[.pointer (some ⟨b, 0, none⟩), .int .u32 0] w (MethP w b qv dv true (s.ends 0#32)) := ref_ends w b qv dv s 0#32 h hs

/-- Ahead of a step that nothing stops ahead of its instruction: the machine, the instruction at its place, and the data. -/
structure Going (w : World) (b qb qo n qcap db doff dcap : Nat) (z : Nat → Int) (s : Mach) (c : Int) (jt jf : Nat) (k : BitVec 32) : Prop where
  mach : MachAt w b (.slice (some ⟨qb, qo, none⟩) n qcap) (.slice (some ⟨db, doff, none⟩) 64 dcap) s
  ins : InsCells w qb (qo + s.place * 4) ⟨c, jt, jf, k⟩
  qlt : qb < w.heap.size
  bytes : Bytes64 w db doff z
  going : s.done = false
  place : s.place < n
  len : n ≤ 140737488351232
  steps : s.steps < 1000000000000000000

section
variable (w : World) (b qb qo n qcap db doff dcap : Nat) (z : Nat → Int) (s : Mach) (c : Int) (jt jf : Nat) (k : BitVec 32)

set_option maxRecDepth 100000 in
set_option maxHeartbeats 8000000 in
theorem step_wrong (h : Going w b qb qo n qcap db doff dcap z s c jt jf k) (hw : ¬ wrongE c k = 0) :
    Calls Tryz.prog 15 #[.pointer (some ⟨b, 0, none⟩)] w (MethP w b (.slice (some ⟨qb, qo, none⟩) n qcap) (.slice (some ⟨db, doff, none⟩) 64 dcap) true (s.fails (wrongE c k))) := by
  have c22 : w.cell? ⟨b, 22, none⟩ = some (.bool false) := by have := World.rowIs.cell h.mach (i := 22) (by decide); rw [this]; exact congrArg (fun x => some (Value.bool x)) h.going
  have c1 : w.cell? ⟨b, 1, none⟩ = some (.slice (some ⟨db, doff, none⟩) 64 dcap) := World.rowIs.cell h.mach (i := 1) (by decide)
  have c0 : w.cell? ⟨b, 0, none⟩ = some (.slice (some ⟨qb, qo, none⟩) n qcap) := World.rowIs.cell h.mach (i := 0) (by decide)
  have c20 : w.cell? ⟨b, 20, none⟩ = some (.int .i64 (s.place : Int)) := World.rowIs.cell h.mach (i := 20) (by decide)
  have hp : s.place < n := h.place
  have hp' : ¬ (n : Int) ≤ (s.place : Int) := by omega
  have hn := h.len
  have hs := h.steps
  have hql := h.qlt
  have hz := h.bytes
  have HS := Lib.hid (And.intro h.mach h.ins)
  clear h hp
  go_enter Tryz.func15, Tryz.ntmps15
  go_wp2
  go_quiet (fail)
  go_wp2
  refine wp_region_held_drew (S := fun w' => MachAt w' b (.slice (some ⟨qb, qo, none⟩) n qcap) (.slice (some ⟨db, doff, none⟩) 64 dcap) s ∧ InsCells w' qb (qo + s.place * 4) ⟨c, jt, jf, k⟩) (by kernel_rfl) ⟨(HS.out.1.drawn _).drew, HS.out.2⟩ (fun hHeld => ?_)
  clear c22 c1 c0 c20
  refine wpAnyH_take (i := 0) (v := ?_) rfl (by kernel_rfl) (by kernel_rfl) (by kernel_rfl) (fun _ _ _ h => h) (Or.inl ⟨by rfl, ?_⟩) (by assumption) ?_
  rotate_left
  · intro wS hSw
    (have q0 : wS.cell? ⟨b, 0, none⟩ = some (.slice (some ⟨qb, qo, none⟩) n qcap) := World.rowIs.cell hSw.1 (i := 0) (by decide); have q20 : wS.cell? ⟨b, 20, none⟩ = some (.int .i64 (s.place : Int)) := World.rowIs.cell hSw.1 (i := 20) (by decide); obtain ⟨i0, i1, i2, i3⟩ := hSw.2; clear hSw)
    go_simp
    all_goals with_reducible rfl
  (try simp only [Act.put, List.setIfInBounds_toArray, List.set_cons_zero, List.set_cons_succ])
  refine wpAnyH_take (i := 1) (v := ?_) rfl (by kernel_rfl) (by kernel_rfl) (by kernel_rfl) (fun _ _ _ h => h) (Or.inl ⟨by rfl, ?_⟩) (by assumption) ?_
  rotate_left
  · intro wS hSw
    (have q0 : wS.cell? ⟨b, 0, none⟩ = some (.slice (some ⟨qb, qo, none⟩) n qcap) := World.rowIs.cell hSw.1 (i := 0) (by decide); have q20 : wS.cell? ⟨b, 20, none⟩ = some (.int .i64 (s.place : Int)) := World.rowIs.cell hSw.1 (i := 20) (by decide); obtain ⟨i0, i1, i2, i3⟩ := hSw.2; clear hSw)
    go_simp
    all_goals with_reducible rfl
  (try simp only [Act.put, List.setIfInBounds_toArray, List.set_cons_zero, List.set_cons_succ])
  refine wpAnyH_take (i := 2) (v := ?_) rfl (by kernel_rfl) (by kernel_rfl) (by kernel_rfl) (fun _ _ _ h => h) (Or.inl ⟨by rfl, ?_⟩) (by assumption) ?_
  rotate_left
  · intro wS hSw
    (have q0 : wS.cell? ⟨b, 0, none⟩ = some (.slice (some ⟨qb, qo, none⟩) n qcap) := World.rowIs.cell hSw.1 (i := 0) (by decide); have q20 : wS.cell? ⟨b, 20, none⟩ = some (.int .i64 (s.place : Int)) := World.rowIs.cell hSw.1 (i := 20) (by decide); obtain ⟨i0, i1, i2, i3⟩ := hSw.2; clear hSw)
    go_simp
    all_goals with_reducible rfl
  (try simp only [Act.put, List.setIfInBounds_toArray, List.set_cons_zero, List.set_cons_succ])
  refine wpAnyH_take (i := 3) (v := ?_) rfl (by kernel_rfl) (by kernel_rfl) (by kernel_rfl) (fun _ _ _ h => h) (Or.inl ⟨by rfl, ?_⟩) (by assumption) ?_
  rotate_left
  · intro wS hSw
    (have q0 : wS.cell? ⟨b, 0, none⟩ = some (.slice (some ⟨qb, qo, none⟩) n qcap) := World.rowIs.cell hSw.1 (i := 0) (by decide); have q20 : wS.cell? ⟨b, 20, none⟩ = some (.int .i64 (s.place : Int)) := World.rowIs.cell hSw.1 (i := 20) (by decide); obtain ⟨i0, i1, i2, i3⟩ := hSw.2; clear hSw)
    go_simp
    all_goals with_reducible rfl
  (try simp only [Act.put, List.setIfInBounds_toArray, List.set_cons_zero, List.set_cons_succ])
  refine wpAnyH_take (i := 4) (v := ?_) rfl (by kernel_rfl) (by kernel_rfl) (by kernel_rfl) (fun _ _ _ h => h) (Or.inl ⟨by rfl, ?_⟩) (by assumption) ?_
  rotate_left
  · intro wS hSw
    (have q0 : wS.cell? ⟨b, 0, none⟩ = some (.slice (some ⟨qb, qo, none⟩) n qcap) := World.rowIs.cell hSw.1 (i := 0) (by decide); have q20 : wS.cell? ⟨b, 20, none⟩ = some (.int .i64 (s.place : Int)) := World.rowIs.cell hSw.1 (i := 20) (by decide); obtain ⟨i0, i1, i2, i3⟩ := hSw.2; clear hSw)
    go_simp
    all_goals with_reducible rfl
  (try simp only [Act.put, List.setIfInBounds_toArray, List.set_cons_zero, List.set_cons_succ])
  refine wpAnyH_take (i := 5) (v := ?_) rfl (by kernel_rfl) (by kernel_rfl) (by kernel_rfl) (fun _ _ _ h => h) (Or.inl ⟨by rfl, ?_⟩) (by assumption) ?_
  rotate_left
  · intro wS hSw
    (have q0 : wS.cell? ⟨b, 0, none⟩ = some (.slice (some ⟨qb, qo, none⟩) n qcap) := World.rowIs.cell hSw.1 (i := 0) (by decide); have q20 : wS.cell? ⟨b, 20, none⟩ = some (.int .i64 (s.place : Int)) := World.rowIs.cell hSw.1 (i := 20) (by decide); obtain ⟨i0, i1, i2, i3⟩ := hSw.2; clear hSw)
    go_simp
    all_goals with_reducible rfl
  (try simp only [Act.put, List.setIfInBounds_toArray, List.set_cons_zero, List.set_cons_succ])
  refine wpAnyH_take (i := 6) (v := ?_) rfl (by kernel_rfl) (by kernel_rfl) (by kernel_rfl) (fun _ _ _ h => h) (Or.inl ⟨by rfl, ?_⟩) (by assumption) ?_
  rotate_left
  · intro wS hSw
    (have q0 : wS.cell? ⟨b, 0, none⟩ = some (.slice (some ⟨qb, qo, none⟩) n qcap) := World.rowIs.cell hSw.1 (i := 0) (by decide); have q20 : wS.cell? ⟨b, 20, none⟩ = some (.int .i64 (s.place : Int)) := World.rowIs.cell hSw.1 (i := 20) (by decide); obtain ⟨i0, i1, i2, i3⟩ := hSw.2; clear hSw)
    go_simp
    all_goals with_reducible rfl
  (try simp only [Act.put, List.setIfInBounds_toArray, List.set_cons_zero, List.set_cons_succ])
  refine wpAnyH_take (i := 7) (v := ?_) rfl (by kernel_rfl) (by kernel_rfl) (by kernel_rfl) (fun _ _ _ h => h) (Or.inl ⟨by rfl, ?_⟩) (by assumption) ?_
  rotate_left
  · intro wS hSw
    (have q0 : wS.cell? ⟨b, 0, none⟩ = some (.slice (some ⟨qb, qo, none⟩) n qcap) := World.rowIs.cell hSw.1 (i := 0) (by decide); have q20 : wS.cell? ⟨b, 20, none⟩ = some (.int .i64 (s.place : Int)) := World.rowIs.cell hSw.1 (i := 20) (by decide); obtain ⟨i0, i1, i2, i3⟩ := hSw.2; clear hSw)
    go_simp
    all_goals with_reducible rfl
  (try simp only [Act.put, List.setIfInBounds_toArray, List.set_cons_zero, List.set_cons_succ])
  refine wpAnyH_take (i := 8) (v := ?_) rfl (by kernel_rfl) (by kernel_rfl) (by kernel_rfl) (fun _ _ _ h => h) (Or.inl ⟨by rfl, ?_⟩) (by assumption) ?_
  rotate_left
  · intro wS hSw
    (have q0 : wS.cell? ⟨b, 0, none⟩ = some (.slice (some ⟨qb, qo, none⟩) n qcap) := World.rowIs.cell hSw.1 (i := 0) (by decide); have q20 : wS.cell? ⟨b, 20, none⟩ = some (.int .i64 (s.place : Int)) := World.rowIs.cell hSw.1 (i := 20) (by decide); obtain ⟨i0, i1, i2, i3⟩ := hSw.2; clear hSw)
    go_simp
    all_goals with_reducible rfl
  (try simp only [Act.put, List.setIfInBounds_toArray, List.set_cons_zero, List.set_cons_succ])
  refine wpAnyH_take (i := 9) (v := ?_) rfl (by kernel_rfl) (by kernel_rfl) (by kernel_rfl) (fun _ _ _ h => h) (Or.inl ⟨by rfl, ?_⟩) (by assumption) ?_
  rotate_left
  · intro wS hSw
    (have q0 : wS.cell? ⟨b, 0, none⟩ = some (.slice (some ⟨qb, qo, none⟩) n qcap) := World.rowIs.cell hSw.1 (i := 0) (by decide); have q20 : wS.cell? ⟨b, 20, none⟩ = some (.int .i64 (s.place : Int)) := World.rowIs.cell hSw.1 (i := 20) (by decide); obtain ⟨i0, i1, i2, i3⟩ := hSw.2; clear hSw)
    go_simp
    all_goals with_reducible rfl
  (try simp only [Act.put, List.setIfInBounds_toArray, List.set_cons_zero, List.set_cons_succ])
  refine held_one (i := 10) (by kernel_rfl) rfl (fun K hK => ?_)
  go_simp
  refine hK.out _ _ ⟨hHeld.1.alloc _, hHeld.2.below (box_below _ _) hql⟩ (fun hH2 => ?_)
  clear hK K hHeld
  (try simp only [Act.put, List.setIfInBounds_toArray, List.set_cons_zero, List.set_cons_succ])
  have R1 : ((w.drewN (nq + 1)).alloc (.cells #[.int .u16 0, .int .u8 0, .int .u8 0, .int .u32 0] 60)).rowIs w.heap.size 60 4 (insF ⟨0, 0, 0, 0#32⟩) := ins_new _
  have B1 := (below_drawn (Below.refl w.heap.size w) (nq + 1)).trans (box_below (w.drewN (nq + 1)) (.cells #[.int .u16 0, .int .u8 0, .int .u8 0, .int .u32 0] 60))
  have hbl := World.rowIs.lt HS.out.1
  generalize (w.drewN (nq + 1)).alloc (.cells #[.int .u16 0, .int .u8 0, .int .u8 0, .int .u32 0] 60) = W1 at R1 B1 hH2 ⊢
  have e0 : W1.cell? ⟨w.heap.size, 0, none⟩ = some (.int .u16 0) := World.rowIs.cell R1 (i := 0) (by decide)
  have e1 : W1.cell? ⟨w.heap.size, 1, none⟩ = some (.int .u8 0) := World.rowIs.cell R1 (i := 1) (by decide)
  have e2 : W1.cell? ⟨w.heap.size, 2, none⟩ = some (.int .u8 0) := World.rowIs.cell R1 (i := 2) (by decide)
  have e3 : W1.cell? ⟨w.heap.size, 3, none⟩ = some (.int .u32 0) := World.rowIs.cell R1 (i := 3) (by decide)
  have y0 := World.rowIs.frozen R1 0
  have y1 := World.rowIs.frozen R1 1
  have y2 := World.rowIs.frozen R1 2
  have y3 := World.rowIs.frozen R1 3
  have R2 := Lib.hid (ins_set R1 c jt jf k)
  have G2 := Lib.hid (ins_grown (World.grownBy.refl W1 (some w.heap.size)) (.int .u16 c) (.int .u8 (jt : Int)) (.int .u8 (jf : Int)) (.int .u32 (k.toNat : Int)))
  have HB1 := Lib.hid B1
  have HH := Lib.hid hH2
  clear R1 B1 hH2
  refine held_one (i := 11) (by kernel_rfl) rfl (fun K hK => ?_)
  go_simp
  have hM2 := HH.out.1.grown G2.out (by omega)
  have hI2 := HH.out.2.grown G2.out (by omega)
  have hB2 := below_grown HB1.out G2.out (Nat.le_refl _) (Nat.le_refl _)
  have hZ2 := hz.below hB2 hz.1
  refine hK.out _ _ ⟨hM2, hI2⟩ (fun hX2 => ?_)
  clear hX2 hK K e0 e1 e2 e3 y0 y1 y2 y3 HH G2 HB1 hI2
  have hR2 := R2.out
  clear R2
  refine wpAnyH_done (by kernel_rfl) ?_ _
  generalize (((W1.setCell ⟨w.heap.size, 0, none⟩ (.int .u16 c)).setCell ⟨w.heap.size, 1, none⟩ (.int .u8 (jt : Int))).setCell ⟨w.heap.size, 2, none⟩ (.int .u8 (jf : Int))).setCell ⟨w.heap.size, 3, none⟩ (.int .u32 (k.toNat : Int)) = W2 at hM2 hB2 hZ2 hR2 ⊢
  (try clear W1)
  have i0 : W2.cell? ⟨w.heap.size, 0, none⟩ = some (.int .u16 c) := World.rowIs.cell hR2 (i := 0) (by decide)
  have i1 : W2.cell? ⟨w.heap.size, 1, none⟩ = some (.int .u8 (jt : Int)) := World.rowIs.cell hR2 (i := 1) (by decide)
  have i2 : W2.cell? ⟨w.heap.size, 2, none⟩ = some (.int .u8 (jf : Int)) := World.rowIs.cell hR2 (i := 2) (by decide)
  have i3 : W2.cell? ⟨w.heap.size, 3, none⟩ = some (.int .u32 (k.toNat : Int)) := World.rowIs.cell hR2 (i := 3) (by decide)
  have HR := Lib.hid hR2
  have HM := Lib.hid hM2
  have HB := Lib.hid hB2
  have HZ := Lib.hid hZ2
  have hs2 := hB2.size
  have hg2 := World.rowIs.lt hR2
  have HW := Lib.hid (fun w => (ref_wrong ⟨c, jt, jf, k⟩ w : Calls Tryz.prog 34 #[.agg #[.int .u16 c, .int .u8 (jt : Int), .int .u8 (jf : Int), .int .u32 (k.toNat : Int)]] w (WrongP w (wrongE c k))))
  clear hR2 hM2 hB2 hZ2 hz HS
  go_wp2_with (first
    | (go_at_call 34; (with_reducible refine (HW.out _).mono ?_); rintro e W3 ⟨rfl, hb3⟩; have HM3 := Lib.hid (HM.out.below hb3 (Nat.lt_of_lt_of_le hbl hs2)); have HB3 := Lib.hid (HB.out.trans (hb3.mono hs2)); have HZ3 := Lib.hid (HZ.out.below hb3 HZ.out.1); have HR3 := rowIs_below HR.out hb3 hg2; have hs3 := Nat.lt_of_lt_of_le hg2 hb3.size; have j0 : W3.cell? ⟨w.heap.size, 0, none⟩ = some (.int .u16 c) := World.rowIs.cell HR3 (i := 0) (by decide); have j1 : W3.cell? ⟨w.heap.size, 1, none⟩ = some (.int .u8 (jt : Int)) := World.rowIs.cell HR3 (i := 1) (by decide); have j2 : W3.cell? ⟨w.heap.size, 2, none⟩ = some (.int .u8 (jf : Int)) := World.rowIs.cell HR3 (i := 2) (by decide); have j3 : W3.cell? ⟨w.heap.size, 3, none⟩ = some (.int .u32 (k.toNat : Int)) := World.rowIs.cell HR3 (i := 3) (by decide); have m2 : W3.cell? ⟨b, 2, none⟩ = some (.int .u32 (s.a.toNat : Int)) := World.rowIs.cell HM3.out (i := 2) (by decide); have m3 : W3.cell? ⟨b, 3, none⟩ = some (.int .u32 (s.x.toNat : Int)) := World.rowIs.cell HM3.out (i := 3) (by decide); have m20 : W3.cell? ⟨b, 20, none⟩ = some (.int .i64 (s.place : Int)) := World.rowIs.cell HM3.out (i := 20) (by decide); have m21 : W3.cell? ⟨b, 21, none⟩ = some (.int .i64 (s.steps : Int)) := World.rowIs.cell HM3.out (i := 21) (by decide); have n2 := World.rowIs.frozen HM3.out 2; have n20 := World.rowIs.frozen HM3.out 20; have n21 := World.rowIs.frozen HM3.out 21; clear i0 i1 i2 i3 hb3 HR HR3 HM HB HZ hg2)
    | (go_at_call 33; (with_reducible refine (ref_fails _ _ _ _ _ _ HM3.out).mono ?_); rintro e w1 ⟨rfl, hm, hg⟩; have HM4 := Lib.hid (And.intro hm hg); clear hm hg))
  go_ret
  exact ⟨rfl, HM4.out.1, grown_trans (grown_of_below HB3.out _) HM4.out.2⟩

set_option maxRecDepth 100000 in
set_option maxHeartbeats 8000000 in
theorem step_5 (h : Going w b qb qo n qcap db doff dcap z s 5 jt jf k) (hw : wrongE 5 k = 0) :
    Calls Tryz.prog 15 #[.pointer (some ⟨b, 0, none⟩)] w (MethP w b (.slice (some ⟨qb, qo, none⟩) n qcap) (.slice (some ⟨db, doff, none⟩) 64 dcap) false (s.on (1 + k.toNat))) := by
  have HA := Lib.hid (show aluC 5 = false from rfl)
  have HJ := Lib.hid (show jumpC 5 = false from rfl)
  have hk := k.isLt
  have c22 : w.cell? ⟨b, 22, none⟩ = some (.bool false) := by have := World.rowIs.cell h.mach (i := 22) (by decide); rw [this]; exact congrArg (fun x => some (Value.bool x)) h.going
  have c1 : w.cell? ⟨b, 1, none⟩ = some (.slice (some ⟨db, doff, none⟩) 64 dcap) := World.rowIs.cell h.mach (i := 1) (by decide)
  have c0 : w.cell? ⟨b, 0, none⟩ = some (.slice (some ⟨qb, qo, none⟩) n qcap) := World.rowIs.cell h.mach (i := 0) (by decide)
  have c20 : w.cell? ⟨b, 20, none⟩ = some (.int .i64 (s.place : Int)) := World.rowIs.cell h.mach (i := 20) (by decide)
  have hp : s.place < n := h.place
  have hp' : ¬ (n : Int) ≤ (s.place : Int) := by omega
  have hn := h.len
  have hs := h.steps
  have hql := h.qlt
  have hz := h.bytes
  have HS := Lib.hid (And.intro h.mach h.ins)
  clear h hp
  go_enter Tryz.func15, Tryz.ntmps15
  go_wp2
  go_quiet (fail)
  go_wp2
  refine wp_region_held_drew (S := fun w' => MachAt w' b (.slice (some ⟨qb, qo, none⟩) n qcap) (.slice (some ⟨db, doff, none⟩) 64 dcap) s ∧ InsCells w' qb (qo + s.place * 4) ⟨5, jt, jf, k⟩) (by kernel_rfl) ⟨(HS.out.1.drawn _).drew, HS.out.2⟩ (fun hHeld => ?_)
  clear c22 c1 c0 c20
  refine wpAnyH_take (i := 0) (v := ?_) rfl (by kernel_rfl) (by kernel_rfl) (by kernel_rfl) (fun _ _ _ h => h) (Or.inl ⟨by rfl, ?_⟩) (by assumption) ?_
  rotate_left
  · intro wS hSw
    (have q0 : wS.cell? ⟨b, 0, none⟩ = some (.slice (some ⟨qb, qo, none⟩) n qcap) := World.rowIs.cell hSw.1 (i := 0) (by decide); have q20 : wS.cell? ⟨b, 20, none⟩ = some (.int .i64 (s.place : Int)) := World.rowIs.cell hSw.1 (i := 20) (by decide); obtain ⟨i0, i1, i2, i3⟩ := hSw.2; clear hSw)
    go_simp
    all_goals with_reducible rfl
  (try simp only [Act.put, List.setIfInBounds_toArray, List.set_cons_zero, List.set_cons_succ])
  refine wpAnyH_take (i := 1) (v := ?_) rfl (by kernel_rfl) (by kernel_rfl) (by kernel_rfl) (fun _ _ _ h => h) (Or.inl ⟨by rfl, ?_⟩) (by assumption) ?_
  rotate_left
  · intro wS hSw
    (have q0 : wS.cell? ⟨b, 0, none⟩ = some (.slice (some ⟨qb, qo, none⟩) n qcap) := World.rowIs.cell hSw.1 (i := 0) (by decide); have q20 : wS.cell? ⟨b, 20, none⟩ = some (.int .i64 (s.place : Int)) := World.rowIs.cell hSw.1 (i := 20) (by decide); obtain ⟨i0, i1, i2, i3⟩ := hSw.2; clear hSw)
    go_simp
    all_goals with_reducible rfl
  (try simp only [Act.put, List.setIfInBounds_toArray, List.set_cons_zero, List.set_cons_succ])
  refine wpAnyH_take (i := 2) (v := ?_) rfl (by kernel_rfl) (by kernel_rfl) (by kernel_rfl) (fun _ _ _ h => h) (Or.inl ⟨by rfl, ?_⟩) (by assumption) ?_
  rotate_left
  · intro wS hSw
    (have q0 : wS.cell? ⟨b, 0, none⟩ = some (.slice (some ⟨qb, qo, none⟩) n qcap) := World.rowIs.cell hSw.1 (i := 0) (by decide); have q20 : wS.cell? ⟨b, 20, none⟩ = some (.int .i64 (s.place : Int)) := World.rowIs.cell hSw.1 (i := 20) (by decide); obtain ⟨i0, i1, i2, i3⟩ := hSw.2; clear hSw)
    go_simp
    all_goals with_reducible rfl
  (try simp only [Act.put, List.setIfInBounds_toArray, List.set_cons_zero, List.set_cons_succ])
  refine wpAnyH_take (i := 3) (v := ?_) rfl (by kernel_rfl) (by kernel_rfl) (by kernel_rfl) (fun _ _ _ h => h) (Or.inl ⟨by rfl, ?_⟩) (by assumption) ?_
  rotate_left
  · intro wS hSw
    (have q0 : wS.cell? ⟨b, 0, none⟩ = some (.slice (some ⟨qb, qo, none⟩) n qcap) := World.rowIs.cell hSw.1 (i := 0) (by decide); have q20 : wS.cell? ⟨b, 20, none⟩ = some (.int .i64 (s.place : Int)) := World.rowIs.cell hSw.1 (i := 20) (by decide); obtain ⟨i0, i1, i2, i3⟩ := hSw.2; clear hSw)
    go_simp
    all_goals with_reducible rfl
  (try simp only [Act.put, List.setIfInBounds_toArray, List.set_cons_zero, List.set_cons_succ])
  refine wpAnyH_take (i := 4) (v := ?_) rfl (by kernel_rfl) (by kernel_rfl) (by kernel_rfl) (fun _ _ _ h => h) (Or.inl ⟨by rfl, ?_⟩) (by assumption) ?_
  rotate_left
  · intro wS hSw
    (have q0 : wS.cell? ⟨b, 0, none⟩ = some (.slice (some ⟨qb, qo, none⟩) n qcap) := World.rowIs.cell hSw.1 (i := 0) (by decide); have q20 : wS.cell? ⟨b, 20, none⟩ = some (.int .i64 (s.place : Int)) := World.rowIs.cell hSw.1 (i := 20) (by decide); obtain ⟨i0, i1, i2, i3⟩ := hSw.2; clear hSw)
    go_simp
    all_goals with_reducible rfl
  (try simp only [Act.put, List.setIfInBounds_toArray, List.set_cons_zero, List.set_cons_succ])
  refine wpAnyH_take (i := 5) (v := ?_) rfl (by kernel_rfl) (by kernel_rfl) (by kernel_rfl) (fun _ _ _ h => h) (Or.inl ⟨by rfl, ?_⟩) (by assumption) ?_
  rotate_left
  · intro wS hSw
    (have q0 : wS.cell? ⟨b, 0, none⟩ = some (.slice (some ⟨qb, qo, none⟩) n qcap) := World.rowIs.cell hSw.1 (i := 0) (by decide); have q20 : wS.cell? ⟨b, 20, none⟩ = some (.int .i64 (s.place : Int)) := World.rowIs.cell hSw.1 (i := 20) (by decide); obtain ⟨i0, i1, i2, i3⟩ := hSw.2; clear hSw)
    go_simp
    all_goals with_reducible rfl
  (try simp only [Act.put, List.setIfInBounds_toArray, List.set_cons_zero, List.set_cons_succ])
  refine wpAnyH_take (i := 6) (v := ?_) rfl (by kernel_rfl) (by kernel_rfl) (by kernel_rfl) (fun _ _ _ h => h) (Or.inl ⟨by rfl, ?_⟩) (by assumption) ?_
  rotate_left
  · intro wS hSw
    (have q0 : wS.cell? ⟨b, 0, none⟩ = some (.slice (some ⟨qb, qo, none⟩) n qcap) := World.rowIs.cell hSw.1 (i := 0) (by decide); have q20 : wS.cell? ⟨b, 20, none⟩ = some (.int .i64 (s.place : Int)) := World.rowIs.cell hSw.1 (i := 20) (by decide); obtain ⟨i0, i1, i2, i3⟩ := hSw.2; clear hSw)
    go_simp
    all_goals with_reducible rfl
  (try simp only [Act.put, List.setIfInBounds_toArray, List.set_cons_zero, List.set_cons_succ])
  refine wpAnyH_take (i := 7) (v := ?_) rfl (by kernel_rfl) (by kernel_rfl) (by kernel_rfl) (fun _ _ _ h => h) (Or.inl ⟨by rfl, ?_⟩) (by assumption) ?_
  rotate_left
  · intro wS hSw
    (have q0 : wS.cell? ⟨b, 0, none⟩ = some (.slice (some ⟨qb, qo, none⟩) n qcap) := World.rowIs.cell hSw.1 (i := 0) (by decide); have q20 : wS.cell? ⟨b, 20, none⟩ = some (.int .i64 (s.place : Int)) := World.rowIs.cell hSw.1 (i := 20) (by decide); obtain ⟨i0, i1, i2, i3⟩ := hSw.2; clear hSw)
    go_simp
    all_goals with_reducible rfl
  (try simp only [Act.put, List.setIfInBounds_toArray, List.set_cons_zero, List.set_cons_succ])
  refine wpAnyH_take (i := 8) (v := ?_) rfl (by kernel_rfl) (by kernel_rfl) (by kernel_rfl) (fun _ _ _ h => h) (Or.inl ⟨by rfl, ?_⟩) (by assumption) ?_
  rotate_left
  · intro wS hSw
    (have q0 : wS.cell? ⟨b, 0, none⟩ = some (.slice (some ⟨qb, qo, none⟩) n qcap) := World.rowIs.cell hSw.1 (i := 0) (by decide); have q20 : wS.cell? ⟨b, 20, none⟩ = some (.int .i64 (s.place : Int)) := World.rowIs.cell hSw.1 (i := 20) (by decide); obtain ⟨i0, i1, i2, i3⟩ := hSw.2; clear hSw)
    go_simp
    all_goals with_reducible rfl
  (try simp only [Act.put, List.setIfInBounds_toArray, List.set_cons_zero, List.set_cons_succ])
  refine wpAnyH_take (i := 9) (v := ?_) rfl (by kernel_rfl) (by kernel_rfl) (by kernel_rfl) (fun _ _ _ h => h) (Or.inl ⟨by rfl, ?_⟩) (by assumption) ?_
  rotate_left
  · intro wS hSw
    (have q0 : wS.cell? ⟨b, 0, none⟩ = some (.slice (some ⟨qb, qo, none⟩) n qcap) := World.rowIs.cell hSw.1 (i := 0) (by decide); have q20 : wS.cell? ⟨b, 20, none⟩ = some (.int .i64 (s.place : Int)) := World.rowIs.cell hSw.1 (i := 20) (by decide); obtain ⟨i0, i1, i2, i3⟩ := hSw.2; clear hSw)
    go_simp
    all_goals with_reducible rfl
  (try simp only [Act.put, List.setIfInBounds_toArray, List.set_cons_zero, List.set_cons_succ])
  refine held_one (i := 10) (by kernel_rfl) rfl (fun K hK => ?_)
  go_simp
  refine hK.out _ _ ⟨hHeld.1.alloc _, hHeld.2.below (box_below _ _) hql⟩ (fun hH2 => ?_)
  clear hK K hHeld
  (try simp only [Act.put, List.setIfInBounds_toArray, List.set_cons_zero, List.set_cons_succ])
  have R1 : ((w.drewN (nq + 1)).alloc (.cells #[.int .u16 0, .int .u8 0, .int .u8 0, .int .u32 0] 60)).rowIs w.heap.size 60 4 (insF ⟨0, 0, 0, 0#32⟩) := ins_new _
  have B1 := (below_drawn (Below.refl w.heap.size w) (nq + 1)).trans (box_below (w.drewN (nq + 1)) (.cells #[.int .u16 0, .int .u8 0, .int .u8 0, .int .u32 0] 60))
  have hbl := World.rowIs.lt HS.out.1
  generalize (w.drewN (nq + 1)).alloc (.cells #[.int .u16 0, .int .u8 0, .int .u8 0, .int .u32 0] 60) = W1 at R1 B1 hH2 ⊢
  have e0 : W1.cell? ⟨w.heap.size, 0, none⟩ = some (.int .u16 0) := World.rowIs.cell R1 (i := 0) (by decide)
  have e1 : W1.cell? ⟨w.heap.size, 1, none⟩ = some (.int .u8 0) := World.rowIs.cell R1 (i := 1) (by decide)
  have e2 : W1.cell? ⟨w.heap.size, 2, none⟩ = some (.int .u8 0) := World.rowIs.cell R1 (i := 2) (by decide)
  have e3 : W1.cell? ⟨w.heap.size, 3, none⟩ = some (.int .u32 0) := World.rowIs.cell R1 (i := 3) (by decide)
  have y0 := World.rowIs.frozen R1 0
  have y1 := World.rowIs.frozen R1 1
  have y2 := World.rowIs.frozen R1 2
  have y3 := World.rowIs.frozen R1 3
  have R2 := Lib.hid (ins_set R1 5 jt jf k)
  have G2 := Lib.hid (ins_grown (World.grownBy.refl W1 (some w.heap.size)) (.int .u16 5) (.int .u8 (jt : Int)) (.int .u8 (jf : Int)) (.int .u32 (k.toNat : Int)))
  have HB1 := Lib.hid B1
  have HH := Lib.hid hH2
  clear R1 B1 hH2
  refine held_one (i := 11) (by kernel_rfl) rfl (fun K hK => ?_)
  go_simp
  have hM2 := HH.out.1.grown G2.out (by omega)
  have hI2 := HH.out.2.grown G2.out (by omega)
  have hB2 := below_grown HB1.out G2.out (Nat.le_refl _) (Nat.le_refl _)
  have hZ2 := hz.below hB2 hz.1
  refine hK.out _ _ ⟨hM2, hI2⟩ (fun hX2 => ?_)
  clear hX2 hK K e0 e1 e2 e3 y0 y1 y2 y3 HH G2 HB1 hI2
  have hR2 := R2.out
  clear R2
  refine wpAnyH_done (by kernel_rfl) ?_ _
  generalize (((W1.setCell ⟨w.heap.size, 0, none⟩ (.int .u16 5)).setCell ⟨w.heap.size, 1, none⟩ (.int .u8 (jt : Int))).setCell ⟨w.heap.size, 2, none⟩ (.int .u8 (jf : Int))).setCell ⟨w.heap.size, 3, none⟩ (.int .u32 (k.toNat : Int)) = W2 at hM2 hB2 hZ2 hR2 ⊢
  (try clear W1)
  have i0 : W2.cell? ⟨w.heap.size, 0, none⟩ = some (.int .u16 5) := World.rowIs.cell hR2 (i := 0) (by decide)
  have i1 : W2.cell? ⟨w.heap.size, 1, none⟩ = some (.int .u8 (jt : Int)) := World.rowIs.cell hR2 (i := 1) (by decide)
  have i2 : W2.cell? ⟨w.heap.size, 2, none⟩ = some (.int .u8 (jf : Int)) := World.rowIs.cell hR2 (i := 2) (by decide)
  have i3 : W2.cell? ⟨w.heap.size, 3, none⟩ = some (.int .u32 (k.toNat : Int)) := World.rowIs.cell hR2 (i := 3) (by decide)
  have HR := Lib.hid hR2
  have HM := Lib.hid hM2
  have HB := Lib.hid hB2
  have HZ := Lib.hid hZ2
  have hs2 := hB2.size
  have hg2 := World.rowIs.lt hR2
  have HW := Lib.hid (fun w => (ref_wrong ⟨5, jt, jf, k⟩ w : Calls Tryz.prog 34 #[.agg #[.int .u16 5, .int .u8 (jt : Int), .int .u8 (jf : Int), .int .u32 (k.toNat : Int)]] w (WrongP w (wrongE 5 k))))
  clear hR2 hM2 hB2 hZ2 hz HS
  have hw1 : IntKind.i64.wrap (1 + (k.toNat : Int)) = 1 + (k.toNat : Int) := IntWalk.i64_in _ (by omega)
  have hw2 : IntKind.i64.wrap ((s.place : Int) + (1 + (k.toNat : Int))) = (s.place : Int) + (1 + (k.toNat : Int)) := IntWalk.i64_in _ (by omega)
  go_wp2_with (first
    | (go_at_call 34; (with_reducible refine (HW.out _).mono ?_); rintro e W3 ⟨rfl, hb3⟩; have HM3 := Lib.hid (HM.out.below hb3 (Nat.lt_of_lt_of_le hbl hs2)); have HB3 := Lib.hid (HB.out.trans (hb3.mono hs2)); have HZ3 := Lib.hid (HZ.out.below hb3 HZ.out.1); have HR3 := rowIs_below HR.out hb3 hg2; have hs3 := Nat.lt_of_lt_of_le hg2 hb3.size; have j0 : W3.cell? ⟨w.heap.size, 0, none⟩ = some (.int .u16 5) := World.rowIs.cell HR3 (i := 0) (by decide); have j1 : W3.cell? ⟨w.heap.size, 1, none⟩ = some (.int .u8 (jt : Int)) := World.rowIs.cell HR3 (i := 1) (by decide); have j2 : W3.cell? ⟨w.heap.size, 2, none⟩ = some (.int .u8 (jf : Int)) := World.rowIs.cell HR3 (i := 2) (by decide); have j3 : W3.cell? ⟨w.heap.size, 3, none⟩ = some (.int .u32 (k.toNat : Int)) := World.rowIs.cell HR3 (i := 3) (by decide); have m2 : W3.cell? ⟨b, 2, none⟩ = some (.int .u32 (s.a.toNat : Int)) := World.rowIs.cell HM3.out (i := 2) (by decide); have m3 : W3.cell? ⟨b, 3, none⟩ = some (.int .u32 (s.x.toNat : Int)) := World.rowIs.cell HM3.out (i := 3) (by decide); have m20 : W3.cell? ⟨b, 20, none⟩ = some (.int .i64 (s.place : Int)) := World.rowIs.cell HM3.out (i := 20) (by decide); have m21 : W3.cell? ⟨b, 21, none⟩ = some (.int .i64 (s.steps : Int)) := World.rowIs.cell HM3.out (i := 21) (by decide); have n2 := World.rowIs.frozen HM3.out 2; have n20 := World.rowIs.frozen HM3.out 20; have n21 := World.rowIs.frozen HM3.out 21; clear i0 i1 i2 i3 hb3 HR HR3 HM HB HZ hg2)
    | (go_at_call 35; (with_reducible refine (ref_alu_is HA.out _).mono ?_); rintro e w' ⟨rfl, rfl⟩)
    | (go_at_call 36; (with_reducible refine (ref_Jump_is HJ.out _).mono ?_); rintro e w' ⟨rfl, rfl⟩))
  go_ret
  have q5 := (HM3.out.set_place (s.place + (1 + k.toNat))).set_steps (s.steps + 1)
  exact ⟨rfl, q5, grown_cell (grown_cell (grown_of_below HB3.out _) 20 _) 21 _⟩

set_option maxRecDepth 100000 in
set_option maxHeartbeats 8000000 in
theorem step_6 (h : Going w b qb qo n qcap db doff dcap z s 6 jt jf k) (hw : wrongE 6 k = 0) :
    Calls Tryz.prog 15 #[.pointer (some ⟨b, 0, none⟩)] w (MethP w b (.slice (some ⟨qb, qo, none⟩) n qcap) (.slice (some ⟨db, doff, none⟩) 64 dcap) true (s.ends k)) := by
  have HA := Lib.hid (show aluC 6 = false from rfl)
  have HJ := Lib.hid (show jumpC 6 = false from rfl)
  have c22 : w.cell? ⟨b, 22, none⟩ = some (.bool false) := by have := World.rowIs.cell h.mach (i := 22) (by decide); rw [this]; exact congrArg (fun x => some (Value.bool x)) h.going
  have c1 : w.cell? ⟨b, 1, none⟩ = some (.slice (some ⟨db, doff, none⟩) 64 dcap) := World.rowIs.cell h.mach (i := 1) (by decide)
  have c0 : w.cell? ⟨b, 0, none⟩ = some (.slice (some ⟨qb, qo, none⟩) n qcap) := World.rowIs.cell h.mach (i := 0) (by decide)
  have c20 : w.cell? ⟨b, 20, none⟩ = some (.int .i64 (s.place : Int)) := World.rowIs.cell h.mach (i := 20) (by decide)
  have hp : s.place < n := h.place
  have hp' : ¬ (n : Int) ≤ (s.place : Int) := by omega
  have hn := h.len
  have hs := h.steps
  have hql := h.qlt
  have hz := h.bytes
  have HS := Lib.hid (And.intro h.mach h.ins)
  clear h hp
  go_enter Tryz.func15, Tryz.ntmps15
  go_wp2
  go_quiet (fail)
  go_wp2
  refine wp_region_held_drew (S := fun w' => MachAt w' b (.slice (some ⟨qb, qo, none⟩) n qcap) (.slice (some ⟨db, doff, none⟩) 64 dcap) s ∧ InsCells w' qb (qo + s.place * 4) ⟨6, jt, jf, k⟩) (by kernel_rfl) ⟨(HS.out.1.drawn _).drew, HS.out.2⟩ (fun hHeld => ?_)
  clear c22 c1 c0 c20
  refine wpAnyH_take (i := 0) (v := ?_) rfl (by kernel_rfl) (by kernel_rfl) (by kernel_rfl) (fun _ _ _ h => h) (Or.inl ⟨by rfl, ?_⟩) (by assumption) ?_
  rotate_left
  · intro wS hSw
    (have q0 : wS.cell? ⟨b, 0, none⟩ = some (.slice (some ⟨qb, qo, none⟩) n qcap) := World.rowIs.cell hSw.1 (i := 0) (by decide); have q20 : wS.cell? ⟨b, 20, none⟩ = some (.int .i64 (s.place : Int)) := World.rowIs.cell hSw.1 (i := 20) (by decide); obtain ⟨i0, i1, i2, i3⟩ := hSw.2; clear hSw)
    go_simp
    all_goals with_reducible rfl
  (try simp only [Act.put, List.setIfInBounds_toArray, List.set_cons_zero, List.set_cons_succ])
  refine wpAnyH_take (i := 1) (v := ?_) rfl (by kernel_rfl) (by kernel_rfl) (by kernel_rfl) (fun _ _ _ h => h) (Or.inl ⟨by rfl, ?_⟩) (by assumption) ?_
  rotate_left
  · intro wS hSw
    (have q0 : wS.cell? ⟨b, 0, none⟩ = some (.slice (some ⟨qb, qo, none⟩) n qcap) := World.rowIs.cell hSw.1 (i := 0) (by decide); have q20 : wS.cell? ⟨b, 20, none⟩ = some (.int .i64 (s.place : Int)) := World.rowIs.cell hSw.1 (i := 20) (by decide); obtain ⟨i0, i1, i2, i3⟩ := hSw.2; clear hSw)
    go_simp
    all_goals with_reducible rfl
  (try simp only [Act.put, List.setIfInBounds_toArray, List.set_cons_zero, List.set_cons_succ])
  refine wpAnyH_take (i := 2) (v := ?_) rfl (by kernel_rfl) (by kernel_rfl) (by kernel_rfl) (fun _ _ _ h => h) (Or.inl ⟨by rfl, ?_⟩) (by assumption) ?_
  rotate_left
  · intro wS hSw
    (have q0 : wS.cell? ⟨b, 0, none⟩ = some (.slice (some ⟨qb, qo, none⟩) n qcap) := World.rowIs.cell hSw.1 (i := 0) (by decide); have q20 : wS.cell? ⟨b, 20, none⟩ = some (.int .i64 (s.place : Int)) := World.rowIs.cell hSw.1 (i := 20) (by decide); obtain ⟨i0, i1, i2, i3⟩ := hSw.2; clear hSw)
    go_simp
    all_goals with_reducible rfl
  (try simp only [Act.put, List.setIfInBounds_toArray, List.set_cons_zero, List.set_cons_succ])
  refine wpAnyH_take (i := 3) (v := ?_) rfl (by kernel_rfl) (by kernel_rfl) (by kernel_rfl) (fun _ _ _ h => h) (Or.inl ⟨by rfl, ?_⟩) (by assumption) ?_
  rotate_left
  · intro wS hSw
    (have q0 : wS.cell? ⟨b, 0, none⟩ = some (.slice (some ⟨qb, qo, none⟩) n qcap) := World.rowIs.cell hSw.1 (i := 0) (by decide); have q20 : wS.cell? ⟨b, 20, none⟩ = some (.int .i64 (s.place : Int)) := World.rowIs.cell hSw.1 (i := 20) (by decide); obtain ⟨i0, i1, i2, i3⟩ := hSw.2; clear hSw)
    go_simp
    all_goals with_reducible rfl
  (try simp only [Act.put, List.setIfInBounds_toArray, List.set_cons_zero, List.set_cons_succ])
  refine wpAnyH_take (i := 4) (v := ?_) rfl (by kernel_rfl) (by kernel_rfl) (by kernel_rfl) (fun _ _ _ h => h) (Or.inl ⟨by rfl, ?_⟩) (by assumption) ?_
  rotate_left
  · intro wS hSw
    (have q0 : wS.cell? ⟨b, 0, none⟩ = some (.slice (some ⟨qb, qo, none⟩) n qcap) := World.rowIs.cell hSw.1 (i := 0) (by decide); have q20 : wS.cell? ⟨b, 20, none⟩ = some (.int .i64 (s.place : Int)) := World.rowIs.cell hSw.1 (i := 20) (by decide); obtain ⟨i0, i1, i2, i3⟩ := hSw.2; clear hSw)
    go_simp
    all_goals with_reducible rfl
  (try simp only [Act.put, List.setIfInBounds_toArray, List.set_cons_zero, List.set_cons_succ])
  refine wpAnyH_take (i := 5) (v := ?_) rfl (by kernel_rfl) (by kernel_rfl) (by kernel_rfl) (fun _ _ _ h => h) (Or.inl ⟨by rfl, ?_⟩) (by assumption) ?_
  rotate_left
  · intro wS hSw
    (have q0 : wS.cell? ⟨b, 0, none⟩ = some (.slice (some ⟨qb, qo, none⟩) n qcap) := World.rowIs.cell hSw.1 (i := 0) (by decide); have q20 : wS.cell? ⟨b, 20, none⟩ = some (.int .i64 (s.place : Int)) := World.rowIs.cell hSw.1 (i := 20) (by decide); obtain ⟨i0, i1, i2, i3⟩ := hSw.2; clear hSw)
    go_simp
    all_goals with_reducible rfl
  (try simp only [Act.put, List.setIfInBounds_toArray, List.set_cons_zero, List.set_cons_succ])
  refine wpAnyH_take (i := 6) (v := ?_) rfl (by kernel_rfl) (by kernel_rfl) (by kernel_rfl) (fun _ _ _ h => h) (Or.inl ⟨by rfl, ?_⟩) (by assumption) ?_
  rotate_left
  · intro wS hSw
    (have q0 : wS.cell? ⟨b, 0, none⟩ = some (.slice (some ⟨qb, qo, none⟩) n qcap) := World.rowIs.cell hSw.1 (i := 0) (by decide); have q20 : wS.cell? ⟨b, 20, none⟩ = some (.int .i64 (s.place : Int)) := World.rowIs.cell hSw.1 (i := 20) (by decide); obtain ⟨i0, i1, i2, i3⟩ := hSw.2; clear hSw)
    go_simp
    all_goals with_reducible rfl
  (try simp only [Act.put, List.setIfInBounds_toArray, List.set_cons_zero, List.set_cons_succ])
  refine wpAnyH_take (i := 7) (v := ?_) rfl (by kernel_rfl) (by kernel_rfl) (by kernel_rfl) (fun _ _ _ h => h) (Or.inl ⟨by rfl, ?_⟩) (by assumption) ?_
  rotate_left
  · intro wS hSw
    (have q0 : wS.cell? ⟨b, 0, none⟩ = some (.slice (some ⟨qb, qo, none⟩) n qcap) := World.rowIs.cell hSw.1 (i := 0) (by decide); have q20 : wS.cell? ⟨b, 20, none⟩ = some (.int .i64 (s.place : Int)) := World.rowIs.cell hSw.1 (i := 20) (by decide); obtain ⟨i0, i1, i2, i3⟩ := hSw.2; clear hSw)
    go_simp
    all_goals with_reducible rfl
  (try simp only [Act.put, List.setIfInBounds_toArray, List.set_cons_zero, List.set_cons_succ])
  refine wpAnyH_take (i := 8) (v := ?_) rfl (by kernel_rfl) (by kernel_rfl) (by kernel_rfl) (fun _ _ _ h => h) (Or.inl ⟨by rfl, ?_⟩) (by assumption) ?_
  rotate_left
  · intro wS hSw
    (have q0 : wS.cell? ⟨b, 0, none⟩ = some (.slice (some ⟨qb, qo, none⟩) n qcap) := World.rowIs.cell hSw.1 (i := 0) (by decide); have q20 : wS.cell? ⟨b, 20, none⟩ = some (.int .i64 (s.place : Int)) := World.rowIs.cell hSw.1 (i := 20) (by decide); obtain ⟨i0, i1, i2, i3⟩ := hSw.2; clear hSw)
    go_simp
    all_goals with_reducible rfl
  (try simp only [Act.put, List.setIfInBounds_toArray, List.set_cons_zero, List.set_cons_succ])
  refine wpAnyH_take (i := 9) (v := ?_) rfl (by kernel_rfl) (by kernel_rfl) (by kernel_rfl) (fun _ _ _ h => h) (Or.inl ⟨by rfl, ?_⟩) (by assumption) ?_
  rotate_left
  · intro wS hSw
    (have q0 : wS.cell? ⟨b, 0, none⟩ = some (.slice (some ⟨qb, qo, none⟩) n qcap) := World.rowIs.cell hSw.1 (i := 0) (by decide); have q20 : wS.cell? ⟨b, 20, none⟩ = some (.int .i64 (s.place : Int)) := World.rowIs.cell hSw.1 (i := 20) (by decide); obtain ⟨i0, i1, i2, i3⟩ := hSw.2; clear hSw)
    go_simp
    all_goals with_reducible rfl
  (try simp only [Act.put, List.setIfInBounds_toArray, List.set_cons_zero, List.set_cons_succ])
  refine held_one (i := 10) (by kernel_rfl) rfl (fun K hK => ?_)
  go_simp
  refine hK.out _ _ ⟨hHeld.1.alloc _, hHeld.2.below (box_below _ _) hql⟩ (fun hH2 => ?_)
  clear hK K hHeld
  (try simp only [Act.put, List.setIfInBounds_toArray, List.set_cons_zero, List.set_cons_succ])
  have R1 : ((w.drewN (nq + 1)).alloc (.cells #[.int .u16 0, .int .u8 0, .int .u8 0, .int .u32 0] 60)).rowIs w.heap.size 60 4 (insF ⟨0, 0, 0, 0#32⟩) := ins_new _
  have B1 := (below_drawn (Below.refl w.heap.size w) (nq + 1)).trans (box_below (w.drewN (nq + 1)) (.cells #[.int .u16 0, .int .u8 0, .int .u8 0, .int .u32 0] 60))
  have hbl := World.rowIs.lt HS.out.1
  generalize (w.drewN (nq + 1)).alloc (.cells #[.int .u16 0, .int .u8 0, .int .u8 0, .int .u32 0] 60) = W1 at R1 B1 hH2 ⊢
  have e0 : W1.cell? ⟨w.heap.size, 0, none⟩ = some (.int .u16 0) := World.rowIs.cell R1 (i := 0) (by decide)
  have e1 : W1.cell? ⟨w.heap.size, 1, none⟩ = some (.int .u8 0) := World.rowIs.cell R1 (i := 1) (by decide)
  have e2 : W1.cell? ⟨w.heap.size, 2, none⟩ = some (.int .u8 0) := World.rowIs.cell R1 (i := 2) (by decide)
  have e3 : W1.cell? ⟨w.heap.size, 3, none⟩ = some (.int .u32 0) := World.rowIs.cell R1 (i := 3) (by decide)
  have y0 := World.rowIs.frozen R1 0
  have y1 := World.rowIs.frozen R1 1
  have y2 := World.rowIs.frozen R1 2
  have y3 := World.rowIs.frozen R1 3
  have R2 := Lib.hid (ins_set R1 6 jt jf k)
  have G2 := Lib.hid (ins_grown (World.grownBy.refl W1 (some w.heap.size)) (.int .u16 6) (.int .u8 (jt : Int)) (.int .u8 (jf : Int)) (.int .u32 (k.toNat : Int)))
  have HB1 := Lib.hid B1
  have HH := Lib.hid hH2
  clear R1 B1 hH2
  refine held_one (i := 11) (by kernel_rfl) rfl (fun K hK => ?_)
  go_simp
  have hM2 := HH.out.1.grown G2.out (by omega)
  have hI2 := HH.out.2.grown G2.out (by omega)
  have hB2 := below_grown HB1.out G2.out (Nat.le_refl _) (Nat.le_refl _)
  have hZ2 := hz.below hB2 hz.1
  refine hK.out _ _ ⟨hM2, hI2⟩ (fun hX2 => ?_)
  clear hX2 hK K e0 e1 e2 e3 y0 y1 y2 y3 HH G2 HB1 hI2
  have hR2 := R2.out
  clear R2
  refine wpAnyH_done (by kernel_rfl) ?_ _
  generalize (((W1.setCell ⟨w.heap.size, 0, none⟩ (.int .u16 6)).setCell ⟨w.heap.size, 1, none⟩ (.int .u8 (jt : Int))).setCell ⟨w.heap.size, 2, none⟩ (.int .u8 (jf : Int))).setCell ⟨w.heap.size, 3, none⟩ (.int .u32 (k.toNat : Int)) = W2 at hM2 hB2 hZ2 hR2 ⊢
  (try clear W1)
  have i0 : W2.cell? ⟨w.heap.size, 0, none⟩ = some (.int .u16 6) := World.rowIs.cell hR2 (i := 0) (by decide)
  have i1 : W2.cell? ⟨w.heap.size, 1, none⟩ = some (.int .u8 (jt : Int)) := World.rowIs.cell hR2 (i := 1) (by decide)
  have i2 : W2.cell? ⟨w.heap.size, 2, none⟩ = some (.int .u8 (jf : Int)) := World.rowIs.cell hR2 (i := 2) (by decide)
  have i3 : W2.cell? ⟨w.heap.size, 3, none⟩ = some (.int .u32 (k.toNat : Int)) := World.rowIs.cell hR2 (i := 3) (by decide)
  have HR := Lib.hid hR2
  have HM := Lib.hid hM2
  have HB := Lib.hid hB2
  have HZ := Lib.hid hZ2
  have hs2 := hB2.size
  have hg2 := World.rowIs.lt hR2
  have HW := Lib.hid (fun w => (ref_wrong ⟨6, jt, jf, k⟩ w : Calls Tryz.prog 34 #[.agg #[.int .u16 6, .int .u8 (jt : Int), .int .u8 (jf : Int), .int .u32 (k.toNat : Int)]] w (WrongP w (wrongE 6 k))))
  clear hR2 hM2 hB2 hZ2 hz HS
  go_wp2_with (first
    | (go_at_call 34; (with_reducible refine (HW.out _).mono ?_); rintro e W3 ⟨rfl, hb3⟩; have HM3 := Lib.hid (HM.out.below hb3 (Nat.lt_of_lt_of_le hbl hs2)); have HB3 := Lib.hid (HB.out.trans (hb3.mono hs2)); have HZ3 := Lib.hid (HZ.out.below hb3 HZ.out.1); have HR3 := rowIs_below HR.out hb3 hg2; have hs3 := Nat.lt_of_lt_of_le hg2 hb3.size; have j0 : W3.cell? ⟨w.heap.size, 0, none⟩ = some (.int .u16 6) := World.rowIs.cell HR3 (i := 0) (by decide); have j1 : W3.cell? ⟨w.heap.size, 1, none⟩ = some (.int .u8 (jt : Int)) := World.rowIs.cell HR3 (i := 1) (by decide); have j2 : W3.cell? ⟨w.heap.size, 2, none⟩ = some (.int .u8 (jf : Int)) := World.rowIs.cell HR3 (i := 2) (by decide); have j3 : W3.cell? ⟨w.heap.size, 3, none⟩ = some (.int .u32 (k.toNat : Int)) := World.rowIs.cell HR3 (i := 3) (by decide); have m2 : W3.cell? ⟨b, 2, none⟩ = some (.int .u32 (s.a.toNat : Int)) := World.rowIs.cell HM3.out (i := 2) (by decide); have m3 : W3.cell? ⟨b, 3, none⟩ = some (.int .u32 (s.x.toNat : Int)) := World.rowIs.cell HM3.out (i := 3) (by decide); have m20 : W3.cell? ⟨b, 20, none⟩ = some (.int .i64 (s.place : Int)) := World.rowIs.cell HM3.out (i := 20) (by decide); have m21 : W3.cell? ⟨b, 21, none⟩ = some (.int .i64 (s.steps : Int)) := World.rowIs.cell HM3.out (i := 21) (by decide); have n2 := World.rowIs.frozen HM3.out 2; have n20 := World.rowIs.frozen HM3.out 20; have n21 := World.rowIs.frozen HM3.out 21; clear i0 i1 i2 i3 hb3 HR HR3 HM HB HZ hg2)
    | (go_at_call 35; (with_reducible refine (ref_alu_is HA.out _).mono ?_); rintro e w' ⟨rfl, rfl⟩)
    | (go_at_call 36; (with_reducible refine (ref_Jump_is HJ.out _).mono ?_); rintro e w' ⟨rfl, rfl⟩)
    | (go_at_call 37; (with_reducible refine (ref_ends _ _ _ _ _ _ HM3.out hs).mono ?_); rintro e w1 ⟨rfl, hm, hg⟩; have HM4 := Lib.hid (And.intro hm hg); clear hm hg))
  go_ret
  exact ⟨rfl, HM4.out.1, grown_trans (grown_of_below HB3.out _) HM4.out.2⟩

set_option maxRecDepth 100000 in
set_option maxHeartbeats 8000000 in
theorem step_22 (h : Going w b qb qo n qcap db doff dcap z s 22 jt jf k) (hw : wrongE 22 k = 0) :
    Calls Tryz.prog 15 #[.pointer (some ⟨b, 0, none⟩)] w (MethP w b (.slice (some ⟨qb, qo, none⟩) n qcap) (.slice (some ⟨db, doff, none⟩) 64 dcap) true (s.ends s.a)) := by
  have HA := Lib.hid (show aluC 22 = false from rfl)
  have HJ := Lib.hid (show jumpC 22 = false from rfl)
  have c22 : w.cell? ⟨b, 22, none⟩ = some (.bool false) := by have := World.rowIs.cell h.mach (i := 22) (by decide); rw [this]; exact congrArg (fun x => some (Value.bool x)) h.going
  have c1 : w.cell? ⟨b, 1, none⟩ = some (.slice (some ⟨db, doff, none⟩) 64 dcap) := World.rowIs.cell h.mach (i := 1) (by decide)
  have c0 : w.cell? ⟨b, 0, none⟩ = some (.slice (some ⟨qb, qo, none⟩) n qcap) := World.rowIs.cell h.mach (i := 0) (by decide)
  have c20 : w.cell? ⟨b, 20, none⟩ = some (.int .i64 (s.place : Int)) := World.rowIs.cell h.mach (i := 20) (by decide)
  have hp : s.place < n := h.place
  have hp' : ¬ (n : Int) ≤ (s.place : Int) := by omega
  have hn := h.len
  have hs := h.steps
  have hql := h.qlt
  have hz := h.bytes
  have HS := Lib.hid (And.intro h.mach h.ins)
  clear h hp
  go_enter Tryz.func15, Tryz.ntmps15
  go_wp2
  go_quiet (fail)
  go_wp2
  refine wp_region_held_drew (S := fun w' => MachAt w' b (.slice (some ⟨qb, qo, none⟩) n qcap) (.slice (some ⟨db, doff, none⟩) 64 dcap) s ∧ InsCells w' qb (qo + s.place * 4) ⟨22, jt, jf, k⟩) (by kernel_rfl) ⟨(HS.out.1.drawn _).drew, HS.out.2⟩ (fun hHeld => ?_)
  clear c22 c1 c0 c20
  refine wpAnyH_take (i := 0) (v := ?_) rfl (by kernel_rfl) (by kernel_rfl) (by kernel_rfl) (fun _ _ _ h => h) (Or.inl ⟨by rfl, ?_⟩) (by assumption) ?_
  rotate_left
  · intro wS hSw
    (have q0 : wS.cell? ⟨b, 0, none⟩ = some (.slice (some ⟨qb, qo, none⟩) n qcap) := World.rowIs.cell hSw.1 (i := 0) (by decide); have q20 : wS.cell? ⟨b, 20, none⟩ = some (.int .i64 (s.place : Int)) := World.rowIs.cell hSw.1 (i := 20) (by decide); obtain ⟨i0, i1, i2, i3⟩ := hSw.2; clear hSw)
    go_simp
    all_goals with_reducible rfl
  (try simp only [Act.put, List.setIfInBounds_toArray, List.set_cons_zero, List.set_cons_succ])
  refine wpAnyH_take (i := 1) (v := ?_) rfl (by kernel_rfl) (by kernel_rfl) (by kernel_rfl) (fun _ _ _ h => h) (Or.inl ⟨by rfl, ?_⟩) (by assumption) ?_
  rotate_left
  · intro wS hSw
    (have q0 : wS.cell? ⟨b, 0, none⟩ = some (.slice (some ⟨qb, qo, none⟩) n qcap) := World.rowIs.cell hSw.1 (i := 0) (by decide); have q20 : wS.cell? ⟨b, 20, none⟩ = some (.int .i64 (s.place : Int)) := World.rowIs.cell hSw.1 (i := 20) (by decide); obtain ⟨i0, i1, i2, i3⟩ := hSw.2; clear hSw)
    go_simp
    all_goals with_reducible rfl
  (try simp only [Act.put, List.setIfInBounds_toArray, List.set_cons_zero, List.set_cons_succ])
  refine wpAnyH_take (i := 2) (v := ?_) rfl (by kernel_rfl) (by kernel_rfl) (by kernel_rfl) (fun _ _ _ h => h) (Or.inl ⟨by rfl, ?_⟩) (by assumption) ?_
  rotate_left
  · intro wS hSw
    (have q0 : wS.cell? ⟨b, 0, none⟩ = some (.slice (some ⟨qb, qo, none⟩) n qcap) := World.rowIs.cell hSw.1 (i := 0) (by decide); have q20 : wS.cell? ⟨b, 20, none⟩ = some (.int .i64 (s.place : Int)) := World.rowIs.cell hSw.1 (i := 20) (by decide); obtain ⟨i0, i1, i2, i3⟩ := hSw.2; clear hSw)
    go_simp
    all_goals with_reducible rfl
  (try simp only [Act.put, List.setIfInBounds_toArray, List.set_cons_zero, List.set_cons_succ])
  refine wpAnyH_take (i := 3) (v := ?_) rfl (by kernel_rfl) (by kernel_rfl) (by kernel_rfl) (fun _ _ _ h => h) (Or.inl ⟨by rfl, ?_⟩) (by assumption) ?_
  rotate_left
  · intro wS hSw
    (have q0 : wS.cell? ⟨b, 0, none⟩ = some (.slice (some ⟨qb, qo, none⟩) n qcap) := World.rowIs.cell hSw.1 (i := 0) (by decide); have q20 : wS.cell? ⟨b, 20, none⟩ = some (.int .i64 (s.place : Int)) := World.rowIs.cell hSw.1 (i := 20) (by decide); obtain ⟨i0, i1, i2, i3⟩ := hSw.2; clear hSw)
    go_simp
    all_goals with_reducible rfl
  (try simp only [Act.put, List.setIfInBounds_toArray, List.set_cons_zero, List.set_cons_succ])
  refine wpAnyH_take (i := 4) (v := ?_) rfl (by kernel_rfl) (by kernel_rfl) (by kernel_rfl) (fun _ _ _ h => h) (Or.inl ⟨by rfl, ?_⟩) (by assumption) ?_
  rotate_left
  · intro wS hSw
    (have q0 : wS.cell? ⟨b, 0, none⟩ = some (.slice (some ⟨qb, qo, none⟩) n qcap) := World.rowIs.cell hSw.1 (i := 0) (by decide); have q20 : wS.cell? ⟨b, 20, none⟩ = some (.int .i64 (s.place : Int)) := World.rowIs.cell hSw.1 (i := 20) (by decide); obtain ⟨i0, i1, i2, i3⟩ := hSw.2; clear hSw)
    go_simp
    all_goals with_reducible rfl
  (try simp only [Act.put, List.setIfInBounds_toArray, List.set_cons_zero, List.set_cons_succ])
  refine wpAnyH_take (i := 5) (v := ?_) rfl (by kernel_rfl) (by kernel_rfl) (by kernel_rfl) (fun _ _ _ h => h) (Or.inl ⟨by rfl, ?_⟩) (by assumption) ?_
  rotate_left
  · intro wS hSw
    (have q0 : wS.cell? ⟨b, 0, none⟩ = some (.slice (some ⟨qb, qo, none⟩) n qcap) := World.rowIs.cell hSw.1 (i := 0) (by decide); have q20 : wS.cell? ⟨b, 20, none⟩ = some (.int .i64 (s.place : Int)) := World.rowIs.cell hSw.1 (i := 20) (by decide); obtain ⟨i0, i1, i2, i3⟩ := hSw.2; clear hSw)
    go_simp
    all_goals with_reducible rfl
  (try simp only [Act.put, List.setIfInBounds_toArray, List.set_cons_zero, List.set_cons_succ])
  refine wpAnyH_take (i := 6) (v := ?_) rfl (by kernel_rfl) (by kernel_rfl) (by kernel_rfl) (fun _ _ _ h => h) (Or.inl ⟨by rfl, ?_⟩) (by assumption) ?_
  rotate_left
  · intro wS hSw
    (have q0 : wS.cell? ⟨b, 0, none⟩ = some (.slice (some ⟨qb, qo, none⟩) n qcap) := World.rowIs.cell hSw.1 (i := 0) (by decide); have q20 : wS.cell? ⟨b, 20, none⟩ = some (.int .i64 (s.place : Int)) := World.rowIs.cell hSw.1 (i := 20) (by decide); obtain ⟨i0, i1, i2, i3⟩ := hSw.2; clear hSw)
    go_simp
    all_goals with_reducible rfl
  (try simp only [Act.put, List.setIfInBounds_toArray, List.set_cons_zero, List.set_cons_succ])
  refine wpAnyH_take (i := 7) (v := ?_) rfl (by kernel_rfl) (by kernel_rfl) (by kernel_rfl) (fun _ _ _ h => h) (Or.inl ⟨by rfl, ?_⟩) (by assumption) ?_
  rotate_left
  · intro wS hSw
    (have q0 : wS.cell? ⟨b, 0, none⟩ = some (.slice (some ⟨qb, qo, none⟩) n qcap) := World.rowIs.cell hSw.1 (i := 0) (by decide); have q20 : wS.cell? ⟨b, 20, none⟩ = some (.int .i64 (s.place : Int)) := World.rowIs.cell hSw.1 (i := 20) (by decide); obtain ⟨i0, i1, i2, i3⟩ := hSw.2; clear hSw)
    go_simp
    all_goals with_reducible rfl
  (try simp only [Act.put, List.setIfInBounds_toArray, List.set_cons_zero, List.set_cons_succ])
  refine wpAnyH_take (i := 8) (v := ?_) rfl (by kernel_rfl) (by kernel_rfl) (by kernel_rfl) (fun _ _ _ h => h) (Or.inl ⟨by rfl, ?_⟩) (by assumption) ?_
  rotate_left
  · intro wS hSw
    (have q0 : wS.cell? ⟨b, 0, none⟩ = some (.slice (some ⟨qb, qo, none⟩) n qcap) := World.rowIs.cell hSw.1 (i := 0) (by decide); have q20 : wS.cell? ⟨b, 20, none⟩ = some (.int .i64 (s.place : Int)) := World.rowIs.cell hSw.1 (i := 20) (by decide); obtain ⟨i0, i1, i2, i3⟩ := hSw.2; clear hSw)
    go_simp
    all_goals with_reducible rfl
  (try simp only [Act.put, List.setIfInBounds_toArray, List.set_cons_zero, List.set_cons_succ])
  refine wpAnyH_take (i := 9) (v := ?_) rfl (by kernel_rfl) (by kernel_rfl) (by kernel_rfl) (fun _ _ _ h => h) (Or.inl ⟨by rfl, ?_⟩) (by assumption) ?_
  rotate_left
  · intro wS hSw
    (have q0 : wS.cell? ⟨b, 0, none⟩ = some (.slice (some ⟨qb, qo, none⟩) n qcap) := World.rowIs.cell hSw.1 (i := 0) (by decide); have q20 : wS.cell? ⟨b, 20, none⟩ = some (.int .i64 (s.place : Int)) := World.rowIs.cell hSw.1 (i := 20) (by decide); obtain ⟨i0, i1, i2, i3⟩ := hSw.2; clear hSw)
    go_simp
    all_goals with_reducible rfl
  (try simp only [Act.put, List.setIfInBounds_toArray, List.set_cons_zero, List.set_cons_succ])
  refine held_one (i := 10) (by kernel_rfl) rfl (fun K hK => ?_)
  go_simp
  refine hK.out _ _ ⟨hHeld.1.alloc _, hHeld.2.below (box_below _ _) hql⟩ (fun hH2 => ?_)
  clear hK K hHeld
  (try simp only [Act.put, List.setIfInBounds_toArray, List.set_cons_zero, List.set_cons_succ])
  have R1 : ((w.drewN (nq + 1)).alloc (.cells #[.int .u16 0, .int .u8 0, .int .u8 0, .int .u32 0] 60)).rowIs w.heap.size 60 4 (insF ⟨0, 0, 0, 0#32⟩) := ins_new _
  have B1 := (below_drawn (Below.refl w.heap.size w) (nq + 1)).trans (box_below (w.drewN (nq + 1)) (.cells #[.int .u16 0, .int .u8 0, .int .u8 0, .int .u32 0] 60))
  have hbl := World.rowIs.lt HS.out.1
  generalize (w.drewN (nq + 1)).alloc (.cells #[.int .u16 0, .int .u8 0, .int .u8 0, .int .u32 0] 60) = W1 at R1 B1 hH2 ⊢
  have e0 : W1.cell? ⟨w.heap.size, 0, none⟩ = some (.int .u16 0) := World.rowIs.cell R1 (i := 0) (by decide)
  have e1 : W1.cell? ⟨w.heap.size, 1, none⟩ = some (.int .u8 0) := World.rowIs.cell R1 (i := 1) (by decide)
  have e2 : W1.cell? ⟨w.heap.size, 2, none⟩ = some (.int .u8 0) := World.rowIs.cell R1 (i := 2) (by decide)
  have e3 : W1.cell? ⟨w.heap.size, 3, none⟩ = some (.int .u32 0) := World.rowIs.cell R1 (i := 3) (by decide)
  have y0 := World.rowIs.frozen R1 0
  have y1 := World.rowIs.frozen R1 1
  have y2 := World.rowIs.frozen R1 2
  have y3 := World.rowIs.frozen R1 3
  have R2 := Lib.hid (ins_set R1 22 jt jf k)
  have G2 := Lib.hid (ins_grown (World.grownBy.refl W1 (some w.heap.size)) (.int .u16 22) (.int .u8 (jt : Int)) (.int .u8 (jf : Int)) (.int .u32 (k.toNat : Int)))
  have HB1 := Lib.hid B1
  have HH := Lib.hid hH2
  clear R1 B1 hH2
  refine held_one (i := 11) (by kernel_rfl) rfl (fun K hK => ?_)
  go_simp
  have hM2 := HH.out.1.grown G2.out (by omega)
  have hI2 := HH.out.2.grown G2.out (by omega)
  have hB2 := below_grown HB1.out G2.out (Nat.le_refl _) (Nat.le_refl _)
  have hZ2 := hz.below hB2 hz.1
  refine hK.out _ _ ⟨hM2, hI2⟩ (fun hX2 => ?_)
  clear hX2 hK K e0 e1 e2 e3 y0 y1 y2 y3 HH G2 HB1 hI2
  have hR2 := R2.out
  clear R2
  refine wpAnyH_done (by kernel_rfl) ?_ _
  generalize (((W1.setCell ⟨w.heap.size, 0, none⟩ (.int .u16 22)).setCell ⟨w.heap.size, 1, none⟩ (.int .u8 (jt : Int))).setCell ⟨w.heap.size, 2, none⟩ (.int .u8 (jf : Int))).setCell ⟨w.heap.size, 3, none⟩ (.int .u32 (k.toNat : Int)) = W2 at hM2 hB2 hZ2 hR2 ⊢
  (try clear W1)
  have i0 : W2.cell? ⟨w.heap.size, 0, none⟩ = some (.int .u16 22) := World.rowIs.cell hR2 (i := 0) (by decide)
  have i1 : W2.cell? ⟨w.heap.size, 1, none⟩ = some (.int .u8 (jt : Int)) := World.rowIs.cell hR2 (i := 1) (by decide)
  have i2 : W2.cell? ⟨w.heap.size, 2, none⟩ = some (.int .u8 (jf : Int)) := World.rowIs.cell hR2 (i := 2) (by decide)
  have i3 : W2.cell? ⟨w.heap.size, 3, none⟩ = some (.int .u32 (k.toNat : Int)) := World.rowIs.cell hR2 (i := 3) (by decide)
  have HR := Lib.hid hR2
  have HM := Lib.hid hM2
  have HB := Lib.hid hB2
  have HZ := Lib.hid hZ2
  have hs2 := hB2.size
  have hg2 := World.rowIs.lt hR2
  have HW := Lib.hid (fun w => (ref_wrong ⟨22, jt, jf, k⟩ w : Calls Tryz.prog 34 #[.agg #[.int .u16 22, .int .u8 (jt : Int), .int .u8 (jf : Int), .int .u32 (k.toNat : Int)]] w (WrongP w (wrongE 22 k))))
  clear hR2 hM2 hB2 hZ2 hz HS
  go_wp2_with (first
    | (go_at_call 34; (with_reducible refine (HW.out _).mono ?_); rintro e W3 ⟨rfl, hb3⟩; have HM3 := Lib.hid (HM.out.below hb3 (Nat.lt_of_lt_of_le hbl hs2)); have HB3 := Lib.hid (HB.out.trans (hb3.mono hs2)); have HZ3 := Lib.hid (HZ.out.below hb3 HZ.out.1); have HR3 := rowIs_below HR.out hb3 hg2; have hs3 := Nat.lt_of_lt_of_le hg2 hb3.size; have j0 : W3.cell? ⟨w.heap.size, 0, none⟩ = some (.int .u16 22) := World.rowIs.cell HR3 (i := 0) (by decide); have j1 : W3.cell? ⟨w.heap.size, 1, none⟩ = some (.int .u8 (jt : Int)) := World.rowIs.cell HR3 (i := 1) (by decide); have j2 : W3.cell? ⟨w.heap.size, 2, none⟩ = some (.int .u8 (jf : Int)) := World.rowIs.cell HR3 (i := 2) (by decide); have j3 : W3.cell? ⟨w.heap.size, 3, none⟩ = some (.int .u32 (k.toNat : Int)) := World.rowIs.cell HR3 (i := 3) (by decide); have m2 : W3.cell? ⟨b, 2, none⟩ = some (.int .u32 (s.a.toNat : Int)) := World.rowIs.cell HM3.out (i := 2) (by decide); have m3 : W3.cell? ⟨b, 3, none⟩ = some (.int .u32 (s.x.toNat : Int)) := World.rowIs.cell HM3.out (i := 3) (by decide); have m20 : W3.cell? ⟨b, 20, none⟩ = some (.int .i64 (s.place : Int)) := World.rowIs.cell HM3.out (i := 20) (by decide); have m21 : W3.cell? ⟨b, 21, none⟩ = some (.int .i64 (s.steps : Int)) := World.rowIs.cell HM3.out (i := 21) (by decide); have n2 := World.rowIs.frozen HM3.out 2; have n20 := World.rowIs.frozen HM3.out 20; have n21 := World.rowIs.frozen HM3.out 21; clear i0 i1 i2 i3 hb3 HR HR3 HM HB HZ hg2)
    | (go_at_call 35; (with_reducible refine (ref_alu_is HA.out _).mono ?_); rintro e w' ⟨rfl, rfl⟩)
    | (go_at_call 36; (with_reducible refine (ref_Jump_is HJ.out _).mono ?_); rintro e w' ⟨rfl, rfl⟩)
    | (go_at_call 37; (with_reducible refine (ref_ends _ _ _ _ _ _ HM3.out hs).mono ?_); rintro e w1 ⟨rfl, hm, hg⟩; have HM4 := Lib.hid (And.intro hm hg); clear hm hg))
  go_ret
  exact ⟨rfl, HM4.out.1, grown_trans (grown_of_below HB3.out _) HM4.out.2⟩

set_option maxRecDepth 100000 in
set_option maxHeartbeats 8000000 in
theorem step_moves (h : Going w b qb qo n qcap db doff dcap z s c jt jf k) (hw : wrongE c k = 0) (hr : restC c = true) (h5 : c ≠ 5) (h6 : c ≠ 6) (h22 : c ≠ 22) :
    Calls Tryz.prog 15 #[.pointer (some ⟨b, 0, none⟩)] w (MethP w b (.slice (some ⟨qb, qo, none⟩) n qcap) (.slice (some ⟨db, doff, none⟩) 64 dcap) false ((s.moves (wordZ z) ⟨c, jt, jf, k⟩).on 1)) := by
  have HA := Lib.hid (rest_not hr).1
  have HJ := Lib.hid (rest_not hr).2
  have HV := Lib.hid (fun w b qv s hd hm => (ref_moves w b qv s ⟨c, jt, jf, k⟩ db doff dcap z hd hm hw hr h5 h6 h22 : Calls Tryz.prog 40 #[.pointer (some ⟨b, 0, none⟩), .agg #[.int .u16 c, .int .u8 (jt : Int), .int .u8 (jf : Int), .int .u32 (k.toNat : Int)]] w (MovesP w b qv (.slice (some ⟨db, doff, none⟩) 64 dcap) (s.moves (wordZ z) ⟨c, jt, jf, k⟩))))
  have HP := Lib.hid (moves_keeps (wordZ z) s ⟨c, jt, jf, k⟩)
  clear hr
  have c22 : w.cell? ⟨b, 22, none⟩ = some (.bool false) := by have := World.rowIs.cell h.mach (i := 22) (by decide); rw [this]; exact congrArg (fun x => some (Value.bool x)) h.going
  have c1 : w.cell? ⟨b, 1, none⟩ = some (.slice (some ⟨db, doff, none⟩) 64 dcap) := World.rowIs.cell h.mach (i := 1) (by decide)
  have c0 : w.cell? ⟨b, 0, none⟩ = some (.slice (some ⟨qb, qo, none⟩) n qcap) := World.rowIs.cell h.mach (i := 0) (by decide)
  have c20 : w.cell? ⟨b, 20, none⟩ = some (.int .i64 (s.place : Int)) := World.rowIs.cell h.mach (i := 20) (by decide)
  have hp : s.place < n := h.place
  have hp' : ¬ (n : Int) ≤ (s.place : Int) := by omega
  have hn := h.len
  have hs := h.steps
  have hql := h.qlt
  have hz := h.bytes
  have HS := Lib.hid (And.intro h.mach h.ins)
  clear h hp
  go_enter Tryz.func15, Tryz.ntmps15
  go_wp2
  go_quiet (fail)
  go_wp2
  refine wp_region_held_drew (S := fun w' => MachAt w' b (.slice (some ⟨qb, qo, none⟩) n qcap) (.slice (some ⟨db, doff, none⟩) 64 dcap) s ∧ InsCells w' qb (qo + s.place * 4) ⟨c, jt, jf, k⟩) (by kernel_rfl) ⟨(HS.out.1.drawn _).drew, HS.out.2⟩ (fun hHeld => ?_)
  clear c22 c1 c0 c20
  refine wpAnyH_take (i := 0) (v := ?_) rfl (by kernel_rfl) (by kernel_rfl) (by kernel_rfl) (fun _ _ _ h => h) (Or.inl ⟨by rfl, ?_⟩) (by assumption) ?_
  rotate_left
  · intro wS hSw
    (have q0 : wS.cell? ⟨b, 0, none⟩ = some (.slice (some ⟨qb, qo, none⟩) n qcap) := World.rowIs.cell hSw.1 (i := 0) (by decide); have q20 : wS.cell? ⟨b, 20, none⟩ = some (.int .i64 (s.place : Int)) := World.rowIs.cell hSw.1 (i := 20) (by decide); obtain ⟨i0, i1, i2, i3⟩ := hSw.2; clear hSw)
    go_simp
    all_goals with_reducible rfl
  (try simp only [Act.put, List.setIfInBounds_toArray, List.set_cons_zero, List.set_cons_succ])
  refine wpAnyH_take (i := 1) (v := ?_) rfl (by kernel_rfl) (by kernel_rfl) (by kernel_rfl) (fun _ _ _ h => h) (Or.inl ⟨by rfl, ?_⟩) (by assumption) ?_
  rotate_left
  · intro wS hSw
    (have q0 : wS.cell? ⟨b, 0, none⟩ = some (.slice (some ⟨qb, qo, none⟩) n qcap) := World.rowIs.cell hSw.1 (i := 0) (by decide); have q20 : wS.cell? ⟨b, 20, none⟩ = some (.int .i64 (s.place : Int)) := World.rowIs.cell hSw.1 (i := 20) (by decide); obtain ⟨i0, i1, i2, i3⟩ := hSw.2; clear hSw)
    go_simp
    all_goals with_reducible rfl
  (try simp only [Act.put, List.setIfInBounds_toArray, List.set_cons_zero, List.set_cons_succ])
  refine wpAnyH_take (i := 2) (v := ?_) rfl (by kernel_rfl) (by kernel_rfl) (by kernel_rfl) (fun _ _ _ h => h) (Or.inl ⟨by rfl, ?_⟩) (by assumption) ?_
  rotate_left
  · intro wS hSw
    (have q0 : wS.cell? ⟨b, 0, none⟩ = some (.slice (some ⟨qb, qo, none⟩) n qcap) := World.rowIs.cell hSw.1 (i := 0) (by decide); have q20 : wS.cell? ⟨b, 20, none⟩ = some (.int .i64 (s.place : Int)) := World.rowIs.cell hSw.1 (i := 20) (by decide); obtain ⟨i0, i1, i2, i3⟩ := hSw.2; clear hSw)
    go_simp
    all_goals with_reducible rfl
  (try simp only [Act.put, List.setIfInBounds_toArray, List.set_cons_zero, List.set_cons_succ])
  refine wpAnyH_take (i := 3) (v := ?_) rfl (by kernel_rfl) (by kernel_rfl) (by kernel_rfl) (fun _ _ _ h => h) (Or.inl ⟨by rfl, ?_⟩) (by assumption) ?_
  rotate_left
  · intro wS hSw
    (have q0 : wS.cell? ⟨b, 0, none⟩ = some (.slice (some ⟨qb, qo, none⟩) n qcap) := World.rowIs.cell hSw.1 (i := 0) (by decide); have q20 : wS.cell? ⟨b, 20, none⟩ = some (.int .i64 (s.place : Int)) := World.rowIs.cell hSw.1 (i := 20) (by decide); obtain ⟨i0, i1, i2, i3⟩ := hSw.2; clear hSw)
    go_simp
    all_goals with_reducible rfl
  (try simp only [Act.put, List.setIfInBounds_toArray, List.set_cons_zero, List.set_cons_succ])
  refine wpAnyH_take (i := 4) (v := ?_) rfl (by kernel_rfl) (by kernel_rfl) (by kernel_rfl) (fun _ _ _ h => h) (Or.inl ⟨by rfl, ?_⟩) (by assumption) ?_
  rotate_left
  · intro wS hSw
    (have q0 : wS.cell? ⟨b, 0, none⟩ = some (.slice (some ⟨qb, qo, none⟩) n qcap) := World.rowIs.cell hSw.1 (i := 0) (by decide); have q20 : wS.cell? ⟨b, 20, none⟩ = some (.int .i64 (s.place : Int)) := World.rowIs.cell hSw.1 (i := 20) (by decide); obtain ⟨i0, i1, i2, i3⟩ := hSw.2; clear hSw)
    go_simp
    all_goals with_reducible rfl
  (try simp only [Act.put, List.setIfInBounds_toArray, List.set_cons_zero, List.set_cons_succ])
  refine wpAnyH_take (i := 5) (v := ?_) rfl (by kernel_rfl) (by kernel_rfl) (by kernel_rfl) (fun _ _ _ h => h) (Or.inl ⟨by rfl, ?_⟩) (by assumption) ?_
  rotate_left
  · intro wS hSw
    (have q0 : wS.cell? ⟨b, 0, none⟩ = some (.slice (some ⟨qb, qo, none⟩) n qcap) := World.rowIs.cell hSw.1 (i := 0) (by decide); have q20 : wS.cell? ⟨b, 20, none⟩ = some (.int .i64 (s.place : Int)) := World.rowIs.cell hSw.1 (i := 20) (by decide); obtain ⟨i0, i1, i2, i3⟩ := hSw.2; clear hSw)
    go_simp
    all_goals with_reducible rfl
  (try simp only [Act.put, List.setIfInBounds_toArray, List.set_cons_zero, List.set_cons_succ])
  refine wpAnyH_take (i := 6) (v := ?_) rfl (by kernel_rfl) (by kernel_rfl) (by kernel_rfl) (fun _ _ _ h => h) (Or.inl ⟨by rfl, ?_⟩) (by assumption) ?_
  rotate_left
  · intro wS hSw
    (have q0 : wS.cell? ⟨b, 0, none⟩ = some (.slice (some ⟨qb, qo, none⟩) n qcap) := World.rowIs.cell hSw.1 (i := 0) (by decide); have q20 : wS.cell? ⟨b, 20, none⟩ = some (.int .i64 (s.place : Int)) := World.rowIs.cell hSw.1 (i := 20) (by decide); obtain ⟨i0, i1, i2, i3⟩ := hSw.2; clear hSw)
    go_simp
    all_goals with_reducible rfl
  (try simp only [Act.put, List.setIfInBounds_toArray, List.set_cons_zero, List.set_cons_succ])
  refine wpAnyH_take (i := 7) (v := ?_) rfl (by kernel_rfl) (by kernel_rfl) (by kernel_rfl) (fun _ _ _ h => h) (Or.inl ⟨by rfl, ?_⟩) (by assumption) ?_
  rotate_left
  · intro wS hSw
    (have q0 : wS.cell? ⟨b, 0, none⟩ = some (.slice (some ⟨qb, qo, none⟩) n qcap) := World.rowIs.cell hSw.1 (i := 0) (by decide); have q20 : wS.cell? ⟨b, 20, none⟩ = some (.int .i64 (s.place : Int)) := World.rowIs.cell hSw.1 (i := 20) (by decide); obtain ⟨i0, i1, i2, i3⟩ := hSw.2; clear hSw)
    go_simp
    all_goals with_reducible rfl
  (try simp only [Act.put, List.setIfInBounds_toArray, List.set_cons_zero, List.set_cons_succ])
  refine wpAnyH_take (i := 8) (v := ?_) rfl (by kernel_rfl) (by kernel_rfl) (by kernel_rfl) (fun _ _ _ h => h) (Or.inl ⟨by rfl, ?_⟩) (by assumption) ?_
  rotate_left
  · intro wS hSw
    (have q0 : wS.cell? ⟨b, 0, none⟩ = some (.slice (some ⟨qb, qo, none⟩) n qcap) := World.rowIs.cell hSw.1 (i := 0) (by decide); have q20 : wS.cell? ⟨b, 20, none⟩ = some (.int .i64 (s.place : Int)) := World.rowIs.cell hSw.1 (i := 20) (by decide); obtain ⟨i0, i1, i2, i3⟩ := hSw.2; clear hSw)
    go_simp
    all_goals with_reducible rfl
  (try simp only [Act.put, List.setIfInBounds_toArray, List.set_cons_zero, List.set_cons_succ])
  refine wpAnyH_take (i := 9) (v := ?_) rfl (by kernel_rfl) (by kernel_rfl) (by kernel_rfl) (fun _ _ _ h => h) (Or.inl ⟨by rfl, ?_⟩) (by assumption) ?_
  rotate_left
  · intro wS hSw
    (have q0 : wS.cell? ⟨b, 0, none⟩ = some (.slice (some ⟨qb, qo, none⟩) n qcap) := World.rowIs.cell hSw.1 (i := 0) (by decide); have q20 : wS.cell? ⟨b, 20, none⟩ = some (.int .i64 (s.place : Int)) := World.rowIs.cell hSw.1 (i := 20) (by decide); obtain ⟨i0, i1, i2, i3⟩ := hSw.2; clear hSw)
    go_simp
    all_goals with_reducible rfl
  (try simp only [Act.put, List.setIfInBounds_toArray, List.set_cons_zero, List.set_cons_succ])
  refine held_one (i := 10) (by kernel_rfl) rfl (fun K hK => ?_)
  go_simp
  refine hK.out _ _ ⟨hHeld.1.alloc _, hHeld.2.below (box_below _ _) hql⟩ (fun hH2 => ?_)
  clear hK K hHeld
  (try simp only [Act.put, List.setIfInBounds_toArray, List.set_cons_zero, List.set_cons_succ])
  have R1 : ((w.drewN (nq + 1)).alloc (.cells #[.int .u16 0, .int .u8 0, .int .u8 0, .int .u32 0] 60)).rowIs w.heap.size 60 4 (insF ⟨0, 0, 0, 0#32⟩) := ins_new _
  have B1 := (below_drawn (Below.refl w.heap.size w) (nq + 1)).trans (box_below (w.drewN (nq + 1)) (.cells #[.int .u16 0, .int .u8 0, .int .u8 0, .int .u32 0] 60))
  have hbl := World.rowIs.lt HS.out.1
  generalize (w.drewN (nq + 1)).alloc (.cells #[.int .u16 0, .int .u8 0, .int .u8 0, .int .u32 0] 60) = W1 at R1 B1 hH2 ⊢
  have e0 : W1.cell? ⟨w.heap.size, 0, none⟩ = some (.int .u16 0) := World.rowIs.cell R1 (i := 0) (by decide)
  have e1 : W1.cell? ⟨w.heap.size, 1, none⟩ = some (.int .u8 0) := World.rowIs.cell R1 (i := 1) (by decide)
  have e2 : W1.cell? ⟨w.heap.size, 2, none⟩ = some (.int .u8 0) := World.rowIs.cell R1 (i := 2) (by decide)
  have e3 : W1.cell? ⟨w.heap.size, 3, none⟩ = some (.int .u32 0) := World.rowIs.cell R1 (i := 3) (by decide)
  have y0 := World.rowIs.frozen R1 0
  have y1 := World.rowIs.frozen R1 1
  have y2 := World.rowIs.frozen R1 2
  have y3 := World.rowIs.frozen R1 3
  have R2 := Lib.hid (ins_set R1 c jt jf k)
  have G2 := Lib.hid (ins_grown (World.grownBy.refl W1 (some w.heap.size)) (.int .u16 c) (.int .u8 (jt : Int)) (.int .u8 (jf : Int)) (.int .u32 (k.toNat : Int)))
  have HB1 := Lib.hid B1
  have HH := Lib.hid hH2
  clear R1 B1 hH2
  refine held_one (i := 11) (by kernel_rfl) rfl (fun K hK => ?_)
  go_simp
  have hM2 := HH.out.1.grown G2.out (by omega)
  have hI2 := HH.out.2.grown G2.out (by omega)
  have hB2 := below_grown HB1.out G2.out (Nat.le_refl _) (Nat.le_refl _)
  have hZ2 := hz.below hB2 hz.1
  refine hK.out _ _ ⟨hM2, hI2⟩ (fun hX2 => ?_)
  clear hX2 hK K e0 e1 e2 e3 y0 y1 y2 y3 HH G2 HB1 hI2
  have hR2 := R2.out
  clear R2
  refine wpAnyH_done (by kernel_rfl) ?_ _
  generalize (((W1.setCell ⟨w.heap.size, 0, none⟩ (.int .u16 c)).setCell ⟨w.heap.size, 1, none⟩ (.int .u8 (jt : Int))).setCell ⟨w.heap.size, 2, none⟩ (.int .u8 (jf : Int))).setCell ⟨w.heap.size, 3, none⟩ (.int .u32 (k.toNat : Int)) = W2 at hM2 hB2 hZ2 hR2 ⊢
  (try clear W1)
  have i0 : W2.cell? ⟨w.heap.size, 0, none⟩ = some (.int .u16 c) := World.rowIs.cell hR2 (i := 0) (by decide)
  have i1 : W2.cell? ⟨w.heap.size, 1, none⟩ = some (.int .u8 (jt : Int)) := World.rowIs.cell hR2 (i := 1) (by decide)
  have i2 : W2.cell? ⟨w.heap.size, 2, none⟩ = some (.int .u8 (jf : Int)) := World.rowIs.cell hR2 (i := 2) (by decide)
  have i3 : W2.cell? ⟨w.heap.size, 3, none⟩ = some (.int .u32 (k.toNat : Int)) := World.rowIs.cell hR2 (i := 3) (by decide)
  have HR := Lib.hid hR2
  have HM := Lib.hid hM2
  have HB := Lib.hid hB2
  have HZ := Lib.hid hZ2
  have hs2 := hB2.size
  have hg2 := World.rowIs.lt hR2
  have HW := Lib.hid (fun w => (ref_wrong ⟨c, jt, jf, k⟩ w : Calls Tryz.prog 34 #[.agg #[.int .u16 c, .int .u8 (jt : Int), .int .u8 (jf : Int), .int .u32 (k.toNat : Int)]] w (WrongP w (wrongE c k))))
  clear hR2 hM2 hB2 hZ2 hz HS
  have hw2 : IntKind.i64.wrap ((s.place : Int) + 1) = (s.place : Int) + 1 := IntWalk.i64_in _ (by omega)
  go_wp2_with (first
    | (go_at_call 34; (with_reducible refine (HW.out _).mono ?_); rintro e W3 ⟨rfl, hb3⟩; have HM3 := Lib.hid (HM.out.below hb3 (Nat.lt_of_lt_of_le hbl hs2)); have HB3 := Lib.hid (HB.out.trans (hb3.mono hs2)); have HZ3 := Lib.hid (HZ.out.below hb3 HZ.out.1); have HR3 := rowIs_below HR.out hb3 hg2; have hs3 := Nat.lt_of_lt_of_le hg2 hb3.size; have j0 : W3.cell? ⟨w.heap.size, 0, none⟩ = some (.int .u16 c) := World.rowIs.cell HR3 (i := 0) (by decide); have j1 : W3.cell? ⟨w.heap.size, 1, none⟩ = some (.int .u8 (jt : Int)) := World.rowIs.cell HR3 (i := 1) (by decide); have j2 : W3.cell? ⟨w.heap.size, 2, none⟩ = some (.int .u8 (jf : Int)) := World.rowIs.cell HR3 (i := 2) (by decide); have j3 : W3.cell? ⟨w.heap.size, 3, none⟩ = some (.int .u32 (k.toNat : Int)) := World.rowIs.cell HR3 (i := 3) (by decide); have m2 : W3.cell? ⟨b, 2, none⟩ = some (.int .u32 (s.a.toNat : Int)) := World.rowIs.cell HM3.out (i := 2) (by decide); have m3 : W3.cell? ⟨b, 3, none⟩ = some (.int .u32 (s.x.toNat : Int)) := World.rowIs.cell HM3.out (i := 3) (by decide); have m20 : W3.cell? ⟨b, 20, none⟩ = some (.int .i64 (s.place : Int)) := World.rowIs.cell HM3.out (i := 20) (by decide); have m21 : W3.cell? ⟨b, 21, none⟩ = some (.int .i64 (s.steps : Int)) := World.rowIs.cell HM3.out (i := 21) (by decide); have n2 := World.rowIs.frozen HM3.out 2; have n20 := World.rowIs.frozen HM3.out 20; have n21 := World.rowIs.frozen HM3.out 21; clear i0 i1 i2 i3 hb3 HR HR3 HM HB HZ hg2)
    | (go_at_call 35; (with_reducible refine (ref_alu_is HA.out _).mono ?_); rintro e w' ⟨rfl, rfl⟩)
    | (go_at_call 36; (with_reducible refine (ref_Jump_is HJ.out _).mono ?_); rintro e w' ⟨rfl, rfl⟩)
    | (go_at_call 40; (with_reducible refine (HV.out _ _ _ _ HZ3.out HM3.out).mono ?_); rintro e W4 ⟨rfl, hm, hg⟩; have HM4 := Lib.hid (And.intro hm hg); have p20 : W4.cell? ⟨b, 20, none⟩ = some (.int .i64 (s.place : Int)) := (World.rowIs.cell hm (i := 20) (by decide)).trans (congrArg (fun x : Nat => some (Value.int .i64 (x : Int))) HP.out.1); have p21 : W4.cell? ⟨b, 21, none⟩ = some (.int .i64 (s.steps : Int)) := (World.rowIs.cell hm (i := 21) (by decide)).trans (congrArg (fun x : Nat => some (Value.int .i64 (x : Int))) HP.out.2); have o20 := World.rowIs.frozen hm 20; have o21 := World.rowIs.frozen hm 21; clear j0 j1 j2 j3 m2 m3 m20 m21 n2 n20 n21 hm hg))
  all_goals
    go_ret
    have q5 := (HM4.out.1.set_place (s.place + 1)).set_steps (s.steps + 1)
    exact ⟨rfl, moves_on q5 HP.out, grown_cell (grown_cell (grown_trans (grown_of_below HB3.out _) HM4.out.2) 20 _) 21 _⟩

set_option maxRecDepth 100000 in
set_option maxHeartbeats 8000000 in
theorem step_jump_k_jf (h : Going w b qb qo n qcap db doff dcap z s c jt jf k) (hw : wrongE c k = 0) (hj : jumpC c = true) (hb : jf < 256) (hx : usesX c = false) (hsy : saysN (opN c) s.a k = false) :
    Calls Tryz.prog 15 #[.pointer (some ⟨b, 0, none⟩)] w (MethP w b (.slice (some ⟨qb, qo, none⟩) n qcap) (.slice (some ⟨db, doff, none⟩) 64 dcap) false (s.on (1 + jf))) := by
  have HA := Lib.hid (jump_not hj)
  have HJ := Lib.hid hj
  have HS4 := Lib.hid (fun w => (says_is k s.a hj hsy w))
  have hx8 := and_eight (.inr hj)
  rw [hx] at hx8
  simp only [Bool.false_eq_true, if_false, if_true] at hx8
  clear hj hx hsy
  have c22 : w.cell? ⟨b, 22, none⟩ = some (.bool false) := by have := World.rowIs.cell h.mach (i := 22) (by decide); rw [this]; exact congrArg (fun x => some (Value.bool x)) h.going
  have c1 : w.cell? ⟨b, 1, none⟩ = some (.slice (some ⟨db, doff, none⟩) 64 dcap) := World.rowIs.cell h.mach (i := 1) (by decide)
  have c0 : w.cell? ⟨b, 0, none⟩ = some (.slice (some ⟨qb, qo, none⟩) n qcap) := World.rowIs.cell h.mach (i := 0) (by decide)
  have c20 : w.cell? ⟨b, 20, none⟩ = some (.int .i64 (s.place : Int)) := World.rowIs.cell h.mach (i := 20) (by decide)
  have hp : s.place < n := h.place
  have hp' : ¬ (n : Int) ≤ (s.place : Int) := by omega
  have hn := h.len
  have hs := h.steps
  have hql := h.qlt
  have hz := h.bytes
  have HS := Lib.hid (And.intro h.mach h.ins)
  clear h hp
  go_enter Tryz.func15, Tryz.ntmps15
  go_wp2
  go_quiet (fail)
  go_wp2
  refine wp_region_held_drew (S := fun w' => MachAt w' b (.slice (some ⟨qb, qo, none⟩) n qcap) (.slice (some ⟨db, doff, none⟩) 64 dcap) s ∧ InsCells w' qb (qo + s.place * 4) ⟨c, jt, jf, k⟩) (by kernel_rfl) ⟨(HS.out.1.drawn _).drew, HS.out.2⟩ (fun hHeld => ?_)
  clear c22 c1 c0 c20
  refine wpAnyH_take (i := 0) (v := ?_) rfl (by kernel_rfl) (by kernel_rfl) (by kernel_rfl) (fun _ _ _ h => h) (Or.inl ⟨by rfl, ?_⟩) (by assumption) ?_
  rotate_left
  · intro wS hSw
    (have q0 : wS.cell? ⟨b, 0, none⟩ = some (.slice (some ⟨qb, qo, none⟩) n qcap) := World.rowIs.cell hSw.1 (i := 0) (by decide); have q20 : wS.cell? ⟨b, 20, none⟩ = some (.int .i64 (s.place : Int)) := World.rowIs.cell hSw.1 (i := 20) (by decide); obtain ⟨i0, i1, i2, i3⟩ := hSw.2; clear hSw)
    go_simp
    all_goals with_reducible rfl
  (try simp only [Act.put, List.setIfInBounds_toArray, List.set_cons_zero, List.set_cons_succ])
  refine wpAnyH_take (i := 1) (v := ?_) rfl (by kernel_rfl) (by kernel_rfl) (by kernel_rfl) (fun _ _ _ h => h) (Or.inl ⟨by rfl, ?_⟩) (by assumption) ?_
  rotate_left
  · intro wS hSw
    (have q0 : wS.cell? ⟨b, 0, none⟩ = some (.slice (some ⟨qb, qo, none⟩) n qcap) := World.rowIs.cell hSw.1 (i := 0) (by decide); have q20 : wS.cell? ⟨b, 20, none⟩ = some (.int .i64 (s.place : Int)) := World.rowIs.cell hSw.1 (i := 20) (by decide); obtain ⟨i0, i1, i2, i3⟩ := hSw.2; clear hSw)
    go_simp
    all_goals with_reducible rfl
  (try simp only [Act.put, List.setIfInBounds_toArray, List.set_cons_zero, List.set_cons_succ])
  refine wpAnyH_take (i := 2) (v := ?_) rfl (by kernel_rfl) (by kernel_rfl) (by kernel_rfl) (fun _ _ _ h => h) (Or.inl ⟨by rfl, ?_⟩) (by assumption) ?_
  rotate_left
  · intro wS hSw
    (have q0 : wS.cell? ⟨b, 0, none⟩ = some (.slice (some ⟨qb, qo, none⟩) n qcap) := World.rowIs.cell hSw.1 (i := 0) (by decide); have q20 : wS.cell? ⟨b, 20, none⟩ = some (.int .i64 (s.place : Int)) := World.rowIs.cell hSw.1 (i := 20) (by decide); obtain ⟨i0, i1, i2, i3⟩ := hSw.2; clear hSw)
    go_simp
    all_goals with_reducible rfl
  (try simp only [Act.put, List.setIfInBounds_toArray, List.set_cons_zero, List.set_cons_succ])
  refine wpAnyH_take (i := 3) (v := ?_) rfl (by kernel_rfl) (by kernel_rfl) (by kernel_rfl) (fun _ _ _ h => h) (Or.inl ⟨by rfl, ?_⟩) (by assumption) ?_
  rotate_left
  · intro wS hSw
    (have q0 : wS.cell? ⟨b, 0, none⟩ = some (.slice (some ⟨qb, qo, none⟩) n qcap) := World.rowIs.cell hSw.1 (i := 0) (by decide); have q20 : wS.cell? ⟨b, 20, none⟩ = some (.int .i64 (s.place : Int)) := World.rowIs.cell hSw.1 (i := 20) (by decide); obtain ⟨i0, i1, i2, i3⟩ := hSw.2; clear hSw)
    go_simp
    all_goals with_reducible rfl
  (try simp only [Act.put, List.setIfInBounds_toArray, List.set_cons_zero, List.set_cons_succ])
  refine wpAnyH_take (i := 4) (v := ?_) rfl (by kernel_rfl) (by kernel_rfl) (by kernel_rfl) (fun _ _ _ h => h) (Or.inl ⟨by rfl, ?_⟩) (by assumption) ?_
  rotate_left
  · intro wS hSw
    (have q0 : wS.cell? ⟨b, 0, none⟩ = some (.slice (some ⟨qb, qo, none⟩) n qcap) := World.rowIs.cell hSw.1 (i := 0) (by decide); have q20 : wS.cell? ⟨b, 20, none⟩ = some (.int .i64 (s.place : Int)) := World.rowIs.cell hSw.1 (i := 20) (by decide); obtain ⟨i0, i1, i2, i3⟩ := hSw.2; clear hSw)
    go_simp
    all_goals with_reducible rfl
  (try simp only [Act.put, List.setIfInBounds_toArray, List.set_cons_zero, List.set_cons_succ])
  refine wpAnyH_take (i := 5) (v := ?_) rfl (by kernel_rfl) (by kernel_rfl) (by kernel_rfl) (fun _ _ _ h => h) (Or.inl ⟨by rfl, ?_⟩) (by assumption) ?_
  rotate_left
  · intro wS hSw
    (have q0 : wS.cell? ⟨b, 0, none⟩ = some (.slice (some ⟨qb, qo, none⟩) n qcap) := World.rowIs.cell hSw.1 (i := 0) (by decide); have q20 : wS.cell? ⟨b, 20, none⟩ = some (.int .i64 (s.place : Int)) := World.rowIs.cell hSw.1 (i := 20) (by decide); obtain ⟨i0, i1, i2, i3⟩ := hSw.2; clear hSw)
    go_simp
    all_goals with_reducible rfl
  (try simp only [Act.put, List.setIfInBounds_toArray, List.set_cons_zero, List.set_cons_succ])
  refine wpAnyH_take (i := 6) (v := ?_) rfl (by kernel_rfl) (by kernel_rfl) (by kernel_rfl) (fun _ _ _ h => h) (Or.inl ⟨by rfl, ?_⟩) (by assumption) ?_
  rotate_left
  · intro wS hSw
    (have q0 : wS.cell? ⟨b, 0, none⟩ = some (.slice (some ⟨qb, qo, none⟩) n qcap) := World.rowIs.cell hSw.1 (i := 0) (by decide); have q20 : wS.cell? ⟨b, 20, none⟩ = some (.int .i64 (s.place : Int)) := World.rowIs.cell hSw.1 (i := 20) (by decide); obtain ⟨i0, i1, i2, i3⟩ := hSw.2; clear hSw)
    go_simp
    all_goals with_reducible rfl
  (try simp only [Act.put, List.setIfInBounds_toArray, List.set_cons_zero, List.set_cons_succ])
  refine wpAnyH_take (i := 7) (v := ?_) rfl (by kernel_rfl) (by kernel_rfl) (by kernel_rfl) (fun _ _ _ h => h) (Or.inl ⟨by rfl, ?_⟩) (by assumption) ?_
  rotate_left
  · intro wS hSw
    (have q0 : wS.cell? ⟨b, 0, none⟩ = some (.slice (some ⟨qb, qo, none⟩) n qcap) := World.rowIs.cell hSw.1 (i := 0) (by decide); have q20 : wS.cell? ⟨b, 20, none⟩ = some (.int .i64 (s.place : Int)) := World.rowIs.cell hSw.1 (i := 20) (by decide); obtain ⟨i0, i1, i2, i3⟩ := hSw.2; clear hSw)
    go_simp
    all_goals with_reducible rfl
  (try simp only [Act.put, List.setIfInBounds_toArray, List.set_cons_zero, List.set_cons_succ])
  refine wpAnyH_take (i := 8) (v := ?_) rfl (by kernel_rfl) (by kernel_rfl) (by kernel_rfl) (fun _ _ _ h => h) (Or.inl ⟨by rfl, ?_⟩) (by assumption) ?_
  rotate_left
  · intro wS hSw
    (have q0 : wS.cell? ⟨b, 0, none⟩ = some (.slice (some ⟨qb, qo, none⟩) n qcap) := World.rowIs.cell hSw.1 (i := 0) (by decide); have q20 : wS.cell? ⟨b, 20, none⟩ = some (.int .i64 (s.place : Int)) := World.rowIs.cell hSw.1 (i := 20) (by decide); obtain ⟨i0, i1, i2, i3⟩ := hSw.2; clear hSw)
    go_simp
    all_goals with_reducible rfl
  (try simp only [Act.put, List.setIfInBounds_toArray, List.set_cons_zero, List.set_cons_succ])
  refine wpAnyH_take (i := 9) (v := ?_) rfl (by kernel_rfl) (by kernel_rfl) (by kernel_rfl) (fun _ _ _ h => h) (Or.inl ⟨by rfl, ?_⟩) (by assumption) ?_
  rotate_left
  · intro wS hSw
    (have q0 : wS.cell? ⟨b, 0, none⟩ = some (.slice (some ⟨qb, qo, none⟩) n qcap) := World.rowIs.cell hSw.1 (i := 0) (by decide); have q20 : wS.cell? ⟨b, 20, none⟩ = some (.int .i64 (s.place : Int)) := World.rowIs.cell hSw.1 (i := 20) (by decide); obtain ⟨i0, i1, i2, i3⟩ := hSw.2; clear hSw)
    go_simp
    all_goals with_reducible rfl
  (try simp only [Act.put, List.setIfInBounds_toArray, List.set_cons_zero, List.set_cons_succ])
  refine held_one (i := 10) (by kernel_rfl) rfl (fun K hK => ?_)
  go_simp
  refine hK.out _ _ ⟨hHeld.1.alloc _, hHeld.2.below (box_below _ _) hql⟩ (fun hH2 => ?_)
  clear hK K hHeld
  (try simp only [Act.put, List.setIfInBounds_toArray, List.set_cons_zero, List.set_cons_succ])
  have R1 : ((w.drewN (nq + 1)).alloc (.cells #[.int .u16 0, .int .u8 0, .int .u8 0, .int .u32 0] 60)).rowIs w.heap.size 60 4 (insF ⟨0, 0, 0, 0#32⟩) := ins_new _
  have B1 := (below_drawn (Below.refl w.heap.size w) (nq + 1)).trans (box_below (w.drewN (nq + 1)) (.cells #[.int .u16 0, .int .u8 0, .int .u8 0, .int .u32 0] 60))
  have hbl := World.rowIs.lt HS.out.1
  generalize (w.drewN (nq + 1)).alloc (.cells #[.int .u16 0, .int .u8 0, .int .u8 0, .int .u32 0] 60) = W1 at R1 B1 hH2 ⊢
  have e0 : W1.cell? ⟨w.heap.size, 0, none⟩ = some (.int .u16 0) := World.rowIs.cell R1 (i := 0) (by decide)
  have e1 : W1.cell? ⟨w.heap.size, 1, none⟩ = some (.int .u8 0) := World.rowIs.cell R1 (i := 1) (by decide)
  have e2 : W1.cell? ⟨w.heap.size, 2, none⟩ = some (.int .u8 0) := World.rowIs.cell R1 (i := 2) (by decide)
  have e3 : W1.cell? ⟨w.heap.size, 3, none⟩ = some (.int .u32 0) := World.rowIs.cell R1 (i := 3) (by decide)
  have y0 := World.rowIs.frozen R1 0
  have y1 := World.rowIs.frozen R1 1
  have y2 := World.rowIs.frozen R1 2
  have y3 := World.rowIs.frozen R1 3
  have R2 := Lib.hid (ins_set R1 c jt jf k)
  have G2 := Lib.hid (ins_grown (World.grownBy.refl W1 (some w.heap.size)) (.int .u16 c) (.int .u8 (jt : Int)) (.int .u8 (jf : Int)) (.int .u32 (k.toNat : Int)))
  have HB1 := Lib.hid B1
  have HH := Lib.hid hH2
  clear R1 B1 hH2
  refine held_one (i := 11) (by kernel_rfl) rfl (fun K hK => ?_)
  go_simp
  have hM2 := HH.out.1.grown G2.out (by omega)
  have hI2 := HH.out.2.grown G2.out (by omega)
  have hB2 := below_grown HB1.out G2.out (Nat.le_refl _) (Nat.le_refl _)
  have hZ2 := hz.below hB2 hz.1
  refine hK.out _ _ ⟨hM2, hI2⟩ (fun hX2 => ?_)
  clear hX2 hK K e0 e1 e2 e3 y0 y1 y2 y3 HH G2 HB1 hI2
  have hR2 := R2.out
  clear R2
  refine wpAnyH_done (by kernel_rfl) ?_ _
  generalize (((W1.setCell ⟨w.heap.size, 0, none⟩ (.int .u16 c)).setCell ⟨w.heap.size, 1, none⟩ (.int .u8 (jt : Int))).setCell ⟨w.heap.size, 2, none⟩ (.int .u8 (jf : Int))).setCell ⟨w.heap.size, 3, none⟩ (.int .u32 (k.toNat : Int)) = W2 at hM2 hB2 hZ2 hR2 ⊢
  (try clear W1)
  have i0 : W2.cell? ⟨w.heap.size, 0, none⟩ = some (.int .u16 c) := World.rowIs.cell hR2 (i := 0) (by decide)
  have i1 : W2.cell? ⟨w.heap.size, 1, none⟩ = some (.int .u8 (jt : Int)) := World.rowIs.cell hR2 (i := 1) (by decide)
  have i2 : W2.cell? ⟨w.heap.size, 2, none⟩ = some (.int .u8 (jf : Int)) := World.rowIs.cell hR2 (i := 2) (by decide)
  have i3 : W2.cell? ⟨w.heap.size, 3, none⟩ = some (.int .u32 (k.toNat : Int)) := World.rowIs.cell hR2 (i := 3) (by decide)
  have HR := Lib.hid hR2
  have HM := Lib.hid hM2
  have HB := Lib.hid hB2
  have HZ := Lib.hid hZ2
  have hs2 := hB2.size
  have hg2 := World.rowIs.lt hR2
  have HW := Lib.hid (fun w => (ref_wrong ⟨c, jt, jf, k⟩ w : Calls Tryz.prog 34 #[.agg #[.int .u16 c, .int .u8 (jt : Int), .int .u8 (jf : Int), .int .u32 (k.toNat : Int)]] w (WrongP w (wrongE c k))))
  clear hR2 hM2 hB2 hZ2 hz HS
  have hw1 : IntKind.i64.wrap (1 + (jf : Int)) = 1 + (jf : Int) := IntWalk.i64_in _ (by omega)
  have hw2 : IntKind.i64.wrap ((s.place : Int) + (1 + (jf : Int))) = (s.place : Int) + (1 + (jf : Int)) := IntWalk.i64_in _ (by omega)
  go_wp2_with (first
    | (go_at_call 34; (with_reducible refine (HW.out _).mono ?_); rintro e W3 ⟨rfl, hb3⟩; have HM3 := Lib.hid (HM.out.below hb3 (Nat.lt_of_lt_of_le hbl hs2)); have HB3 := Lib.hid (HB.out.trans (hb3.mono hs2)); have HZ3 := Lib.hid (HZ.out.below hb3 HZ.out.1); have HR3 := rowIs_below HR.out hb3 hg2; have hs3 := Nat.lt_of_lt_of_le hg2 hb3.size; have j0 : W3.cell? ⟨w.heap.size, 0, none⟩ = some (.int .u16 c) := World.rowIs.cell HR3 (i := 0) (by decide); have j1 : W3.cell? ⟨w.heap.size, 1, none⟩ = some (.int .u8 (jt : Int)) := World.rowIs.cell HR3 (i := 1) (by decide); have j2 : W3.cell? ⟨w.heap.size, 2, none⟩ = some (.int .u8 (jf : Int)) := World.rowIs.cell HR3 (i := 2) (by decide); have j3 : W3.cell? ⟨w.heap.size, 3, none⟩ = some (.int .u32 (k.toNat : Int)) := World.rowIs.cell HR3 (i := 3) (by decide); have m2 : W3.cell? ⟨b, 2, none⟩ = some (.int .u32 (s.a.toNat : Int)) := World.rowIs.cell HM3.out (i := 2) (by decide); have m3 : W3.cell? ⟨b, 3, none⟩ = some (.int .u32 (s.x.toNat : Int)) := World.rowIs.cell HM3.out (i := 3) (by decide); have m20 : W3.cell? ⟨b, 20, none⟩ = some (.int .i64 (s.place : Int)) := World.rowIs.cell HM3.out (i := 20) (by decide); have m21 : W3.cell? ⟨b, 21, none⟩ = some (.int .i64 (s.steps : Int)) := World.rowIs.cell HM3.out (i := 21) (by decide); have n2 := World.rowIs.frozen HM3.out 2; have n20 := World.rowIs.frozen HM3.out 20; have n21 := World.rowIs.frozen HM3.out 21; clear i0 i1 i2 i3 hb3 HR HR3 HM HB HZ hg2)
    | (go_at_call 35; (with_reducible refine (ref_alu_is HA.out _).mono ?_); rintro e w' ⟨rfl, rfl⟩)
    | (go_at_call 36; (with_reducible refine (ref_Jump_is HJ.out _).mono ?_); rintro e w' ⟨rfl, rfl⟩))
  go_quiet ((go_at_call 39; exact quietL (HS4.out _)))
  go_wp2
  go_ret
  have q5 := ((HM3.out.drawn nq).set_place (s.place + (1 + jf))).set_steps (s.steps + 1)
  exact ⟨rfl, q5, grown_cell (grown_cell (grown_drawn (grown_of_below HB3.out _) _) 20 _) 21 _⟩

set_option maxRecDepth 100000 in
set_option maxHeartbeats 8000000 in
theorem step_jump_k_jt (h : Going w b qb qo n qcap db doff dcap z s c jt jf k) (hw : wrongE c k = 0) (hj : jumpC c = true) (hb : jt < 256) (hx : usesX c = false) (hsy : saysN (opN c) s.a k = true) :
    Calls Tryz.prog 15 #[.pointer (some ⟨b, 0, none⟩)] w (MethP w b (.slice (some ⟨qb, qo, none⟩) n qcap) (.slice (some ⟨db, doff, none⟩) 64 dcap) false (s.on (1 + jt))) := by
  have HA := Lib.hid (jump_not hj)
  have HJ := Lib.hid hj
  have HS4 := Lib.hid (fun w => (says_is k s.a hj hsy w))
  have hx8 := and_eight (.inr hj)
  rw [hx] at hx8
  simp only [Bool.false_eq_true, if_false, if_true] at hx8
  clear hj hx hsy
  have c22 : w.cell? ⟨b, 22, none⟩ = some (.bool false) := by have := World.rowIs.cell h.mach (i := 22) (by decide); rw [this]; exact congrArg (fun x => some (Value.bool x)) h.going
  have c1 : w.cell? ⟨b, 1, none⟩ = some (.slice (some ⟨db, doff, none⟩) 64 dcap) := World.rowIs.cell h.mach (i := 1) (by decide)
  have c0 : w.cell? ⟨b, 0, none⟩ = some (.slice (some ⟨qb, qo, none⟩) n qcap) := World.rowIs.cell h.mach (i := 0) (by decide)
  have c20 : w.cell? ⟨b, 20, none⟩ = some (.int .i64 (s.place : Int)) := World.rowIs.cell h.mach (i := 20) (by decide)
  have hp : s.place < n := h.place
  have hp' : ¬ (n : Int) ≤ (s.place : Int) := by omega
  have hn := h.len
  have hs := h.steps
  have hql := h.qlt
  have hz := h.bytes
  have HS := Lib.hid (And.intro h.mach h.ins)
  clear h hp
  go_enter Tryz.func15, Tryz.ntmps15
  go_wp2
  go_quiet (fail)
  go_wp2
  refine wp_region_held_drew (S := fun w' => MachAt w' b (.slice (some ⟨qb, qo, none⟩) n qcap) (.slice (some ⟨db, doff, none⟩) 64 dcap) s ∧ InsCells w' qb (qo + s.place * 4) ⟨c, jt, jf, k⟩) (by kernel_rfl) ⟨(HS.out.1.drawn _).drew, HS.out.2⟩ (fun hHeld => ?_)
  clear c22 c1 c0 c20
  refine wpAnyH_take (i := 0) (v := ?_) rfl (by kernel_rfl) (by kernel_rfl) (by kernel_rfl) (fun _ _ _ h => h) (Or.inl ⟨by rfl, ?_⟩) (by assumption) ?_
  rotate_left
  · intro wS hSw
    (have q0 : wS.cell? ⟨b, 0, none⟩ = some (.slice (some ⟨qb, qo, none⟩) n qcap) := World.rowIs.cell hSw.1 (i := 0) (by decide); have q20 : wS.cell? ⟨b, 20, none⟩ = some (.int .i64 (s.place : Int)) := World.rowIs.cell hSw.1 (i := 20) (by decide); obtain ⟨i0, i1, i2, i3⟩ := hSw.2; clear hSw)
    go_simp
    all_goals with_reducible rfl
  (try simp only [Act.put, List.setIfInBounds_toArray, List.set_cons_zero, List.set_cons_succ])
  refine wpAnyH_take (i := 1) (v := ?_) rfl (by kernel_rfl) (by kernel_rfl) (by kernel_rfl) (fun _ _ _ h => h) (Or.inl ⟨by rfl, ?_⟩) (by assumption) ?_
  rotate_left
  · intro wS hSw
    (have q0 : wS.cell? ⟨b, 0, none⟩ = some (.slice (some ⟨qb, qo, none⟩) n qcap) := World.rowIs.cell hSw.1 (i := 0) (by decide); have q20 : wS.cell? ⟨b, 20, none⟩ = some (.int .i64 (s.place : Int)) := World.rowIs.cell hSw.1 (i := 20) (by decide); obtain ⟨i0, i1, i2, i3⟩ := hSw.2; clear hSw)
    go_simp
    all_goals with_reducible rfl
  (try simp only [Act.put, List.setIfInBounds_toArray, List.set_cons_zero, List.set_cons_succ])
  refine wpAnyH_take (i := 2) (v := ?_) rfl (by kernel_rfl) (by kernel_rfl) (by kernel_rfl) (fun _ _ _ h => h) (Or.inl ⟨by rfl, ?_⟩) (by assumption) ?_
  rotate_left
  · intro wS hSw
    (have q0 : wS.cell? ⟨b, 0, none⟩ = some (.slice (some ⟨qb, qo, none⟩) n qcap) := World.rowIs.cell hSw.1 (i := 0) (by decide); have q20 : wS.cell? ⟨b, 20, none⟩ = some (.int .i64 (s.place : Int)) := World.rowIs.cell hSw.1 (i := 20) (by decide); obtain ⟨i0, i1, i2, i3⟩ := hSw.2; clear hSw)
    go_simp
    all_goals with_reducible rfl
  (try simp only [Act.put, List.setIfInBounds_toArray, List.set_cons_zero, List.set_cons_succ])
  refine wpAnyH_take (i := 3) (v := ?_) rfl (by kernel_rfl) (by kernel_rfl) (by kernel_rfl) (fun _ _ _ h => h) (Or.inl ⟨by rfl, ?_⟩) (by assumption) ?_
  rotate_left
  · intro wS hSw
    (have q0 : wS.cell? ⟨b, 0, none⟩ = some (.slice (some ⟨qb, qo, none⟩) n qcap) := World.rowIs.cell hSw.1 (i := 0) (by decide); have q20 : wS.cell? ⟨b, 20, none⟩ = some (.int .i64 (s.place : Int)) := World.rowIs.cell hSw.1 (i := 20) (by decide); obtain ⟨i0, i1, i2, i3⟩ := hSw.2; clear hSw)
    go_simp
    all_goals with_reducible rfl
  (try simp only [Act.put, List.setIfInBounds_toArray, List.set_cons_zero, List.set_cons_succ])
  refine wpAnyH_take (i := 4) (v := ?_) rfl (by kernel_rfl) (by kernel_rfl) (by kernel_rfl) (fun _ _ _ h => h) (Or.inl ⟨by rfl, ?_⟩) (by assumption) ?_
  rotate_left
  · intro wS hSw
    (have q0 : wS.cell? ⟨b, 0, none⟩ = some (.slice (some ⟨qb, qo, none⟩) n qcap) := World.rowIs.cell hSw.1 (i := 0) (by decide); have q20 : wS.cell? ⟨b, 20, none⟩ = some (.int .i64 (s.place : Int)) := World.rowIs.cell hSw.1 (i := 20) (by decide); obtain ⟨i0, i1, i2, i3⟩ := hSw.2; clear hSw)
    go_simp
    all_goals with_reducible rfl
  (try simp only [Act.put, List.setIfInBounds_toArray, List.set_cons_zero, List.set_cons_succ])
  refine wpAnyH_take (i := 5) (v := ?_) rfl (by kernel_rfl) (by kernel_rfl) (by kernel_rfl) (fun _ _ _ h => h) (Or.inl ⟨by rfl, ?_⟩) (by assumption) ?_
  rotate_left
  · intro wS hSw
    (have q0 : wS.cell? ⟨b, 0, none⟩ = some (.slice (some ⟨qb, qo, none⟩) n qcap) := World.rowIs.cell hSw.1 (i := 0) (by decide); have q20 : wS.cell? ⟨b, 20, none⟩ = some (.int .i64 (s.place : Int)) := World.rowIs.cell hSw.1 (i := 20) (by decide); obtain ⟨i0, i1, i2, i3⟩ := hSw.2; clear hSw)
    go_simp
    all_goals with_reducible rfl
  (try simp only [Act.put, List.setIfInBounds_toArray, List.set_cons_zero, List.set_cons_succ])
  refine wpAnyH_take (i := 6) (v := ?_) rfl (by kernel_rfl) (by kernel_rfl) (by kernel_rfl) (fun _ _ _ h => h) (Or.inl ⟨by rfl, ?_⟩) (by assumption) ?_
  rotate_left
  · intro wS hSw
    (have q0 : wS.cell? ⟨b, 0, none⟩ = some (.slice (some ⟨qb, qo, none⟩) n qcap) := World.rowIs.cell hSw.1 (i := 0) (by decide); have q20 : wS.cell? ⟨b, 20, none⟩ = some (.int .i64 (s.place : Int)) := World.rowIs.cell hSw.1 (i := 20) (by decide); obtain ⟨i0, i1, i2, i3⟩ := hSw.2; clear hSw)
    go_simp
    all_goals with_reducible rfl
  (try simp only [Act.put, List.setIfInBounds_toArray, List.set_cons_zero, List.set_cons_succ])
  refine wpAnyH_take (i := 7) (v := ?_) rfl (by kernel_rfl) (by kernel_rfl) (by kernel_rfl) (fun _ _ _ h => h) (Or.inl ⟨by rfl, ?_⟩) (by assumption) ?_
  rotate_left
  · intro wS hSw
    (have q0 : wS.cell? ⟨b, 0, none⟩ = some (.slice (some ⟨qb, qo, none⟩) n qcap) := World.rowIs.cell hSw.1 (i := 0) (by decide); have q20 : wS.cell? ⟨b, 20, none⟩ = some (.int .i64 (s.place : Int)) := World.rowIs.cell hSw.1 (i := 20) (by decide); obtain ⟨i0, i1, i2, i3⟩ := hSw.2; clear hSw)
    go_simp
    all_goals with_reducible rfl
  (try simp only [Act.put, List.setIfInBounds_toArray, List.set_cons_zero, List.set_cons_succ])
  refine wpAnyH_take (i := 8) (v := ?_) rfl (by kernel_rfl) (by kernel_rfl) (by kernel_rfl) (fun _ _ _ h => h) (Or.inl ⟨by rfl, ?_⟩) (by assumption) ?_
  rotate_left
  · intro wS hSw
    (have q0 : wS.cell? ⟨b, 0, none⟩ = some (.slice (some ⟨qb, qo, none⟩) n qcap) := World.rowIs.cell hSw.1 (i := 0) (by decide); have q20 : wS.cell? ⟨b, 20, none⟩ = some (.int .i64 (s.place : Int)) := World.rowIs.cell hSw.1 (i := 20) (by decide); obtain ⟨i0, i1, i2, i3⟩ := hSw.2; clear hSw)
    go_simp
    all_goals with_reducible rfl
  (try simp only [Act.put, List.setIfInBounds_toArray, List.set_cons_zero, List.set_cons_succ])
  refine wpAnyH_take (i := 9) (v := ?_) rfl (by kernel_rfl) (by kernel_rfl) (by kernel_rfl) (fun _ _ _ h => h) (Or.inl ⟨by rfl, ?_⟩) (by assumption) ?_
  rotate_left
  · intro wS hSw
    (have q0 : wS.cell? ⟨b, 0, none⟩ = some (.slice (some ⟨qb, qo, none⟩) n qcap) := World.rowIs.cell hSw.1 (i := 0) (by decide); have q20 : wS.cell? ⟨b, 20, none⟩ = some (.int .i64 (s.place : Int)) := World.rowIs.cell hSw.1 (i := 20) (by decide); obtain ⟨i0, i1, i2, i3⟩ := hSw.2; clear hSw)
    go_simp
    all_goals with_reducible rfl
  (try simp only [Act.put, List.setIfInBounds_toArray, List.set_cons_zero, List.set_cons_succ])
  refine held_one (i := 10) (by kernel_rfl) rfl (fun K hK => ?_)
  go_simp
  refine hK.out _ _ ⟨hHeld.1.alloc _, hHeld.2.below (box_below _ _) hql⟩ (fun hH2 => ?_)
  clear hK K hHeld
  (try simp only [Act.put, List.setIfInBounds_toArray, List.set_cons_zero, List.set_cons_succ])
  have R1 : ((w.drewN (nq + 1)).alloc (.cells #[.int .u16 0, .int .u8 0, .int .u8 0, .int .u32 0] 60)).rowIs w.heap.size 60 4 (insF ⟨0, 0, 0, 0#32⟩) := ins_new _
  have B1 := (below_drawn (Below.refl w.heap.size w) (nq + 1)).trans (box_below (w.drewN (nq + 1)) (.cells #[.int .u16 0, .int .u8 0, .int .u8 0, .int .u32 0] 60))
  have hbl := World.rowIs.lt HS.out.1
  generalize (w.drewN (nq + 1)).alloc (.cells #[.int .u16 0, .int .u8 0, .int .u8 0, .int .u32 0] 60) = W1 at R1 B1 hH2 ⊢
  have e0 : W1.cell? ⟨w.heap.size, 0, none⟩ = some (.int .u16 0) := World.rowIs.cell R1 (i := 0) (by decide)
  have e1 : W1.cell? ⟨w.heap.size, 1, none⟩ = some (.int .u8 0) := World.rowIs.cell R1 (i := 1) (by decide)
  have e2 : W1.cell? ⟨w.heap.size, 2, none⟩ = some (.int .u8 0) := World.rowIs.cell R1 (i := 2) (by decide)
  have e3 : W1.cell? ⟨w.heap.size, 3, none⟩ = some (.int .u32 0) := World.rowIs.cell R1 (i := 3) (by decide)
  have y0 := World.rowIs.frozen R1 0
  have y1 := World.rowIs.frozen R1 1
  have y2 := World.rowIs.frozen R1 2
  have y3 := World.rowIs.frozen R1 3
  have R2 := Lib.hid (ins_set R1 c jt jf k)
  have G2 := Lib.hid (ins_grown (World.grownBy.refl W1 (some w.heap.size)) (.int .u16 c) (.int .u8 (jt : Int)) (.int .u8 (jf : Int)) (.int .u32 (k.toNat : Int)))
  have HB1 := Lib.hid B1
  have HH := Lib.hid hH2
  clear R1 B1 hH2
  refine held_one (i := 11) (by kernel_rfl) rfl (fun K hK => ?_)
  go_simp
  have hM2 := HH.out.1.grown G2.out (by omega)
  have hI2 := HH.out.2.grown G2.out (by omega)
  have hB2 := below_grown HB1.out G2.out (Nat.le_refl _) (Nat.le_refl _)
  have hZ2 := hz.below hB2 hz.1
  refine hK.out _ _ ⟨hM2, hI2⟩ (fun hX2 => ?_)
  clear hX2 hK K e0 e1 e2 e3 y0 y1 y2 y3 HH G2 HB1 hI2
  have hR2 := R2.out
  clear R2
  refine wpAnyH_done (by kernel_rfl) ?_ _
  generalize (((W1.setCell ⟨w.heap.size, 0, none⟩ (.int .u16 c)).setCell ⟨w.heap.size, 1, none⟩ (.int .u8 (jt : Int))).setCell ⟨w.heap.size, 2, none⟩ (.int .u8 (jf : Int))).setCell ⟨w.heap.size, 3, none⟩ (.int .u32 (k.toNat : Int)) = W2 at hM2 hB2 hZ2 hR2 ⊢
  (try clear W1)
  have i0 : W2.cell? ⟨w.heap.size, 0, none⟩ = some (.int .u16 c) := World.rowIs.cell hR2 (i := 0) (by decide)
  have i1 : W2.cell? ⟨w.heap.size, 1, none⟩ = some (.int .u8 (jt : Int)) := World.rowIs.cell hR2 (i := 1) (by decide)
  have i2 : W2.cell? ⟨w.heap.size, 2, none⟩ = some (.int .u8 (jf : Int)) := World.rowIs.cell hR2 (i := 2) (by decide)
  have i3 : W2.cell? ⟨w.heap.size, 3, none⟩ = some (.int .u32 (k.toNat : Int)) := World.rowIs.cell hR2 (i := 3) (by decide)
  have HR := Lib.hid hR2
  have HM := Lib.hid hM2
  have HB := Lib.hid hB2
  have HZ := Lib.hid hZ2
  have hs2 := hB2.size
  have hg2 := World.rowIs.lt hR2
  have HW := Lib.hid (fun w => (ref_wrong ⟨c, jt, jf, k⟩ w : Calls Tryz.prog 34 #[.agg #[.int .u16 c, .int .u8 (jt : Int), .int .u8 (jf : Int), .int .u32 (k.toNat : Int)]] w (WrongP w (wrongE c k))))
  clear hR2 hM2 hB2 hZ2 hz HS
  have hw1 : IntKind.i64.wrap (1 + (jt : Int)) = 1 + (jt : Int) := IntWalk.i64_in _ (by omega)
  have hw2 : IntKind.i64.wrap ((s.place : Int) + (1 + (jt : Int))) = (s.place : Int) + (1 + (jt : Int)) := IntWalk.i64_in _ (by omega)
  go_wp2_with (first
    | (go_at_call 34; (with_reducible refine (HW.out _).mono ?_); rintro e W3 ⟨rfl, hb3⟩; have HM3 := Lib.hid (HM.out.below hb3 (Nat.lt_of_lt_of_le hbl hs2)); have HB3 := Lib.hid (HB.out.trans (hb3.mono hs2)); have HZ3 := Lib.hid (HZ.out.below hb3 HZ.out.1); have HR3 := rowIs_below HR.out hb3 hg2; have hs3 := Nat.lt_of_lt_of_le hg2 hb3.size; have j0 : W3.cell? ⟨w.heap.size, 0, none⟩ = some (.int .u16 c) := World.rowIs.cell HR3 (i := 0) (by decide); have j1 : W3.cell? ⟨w.heap.size, 1, none⟩ = some (.int .u8 (jt : Int)) := World.rowIs.cell HR3 (i := 1) (by decide); have j2 : W3.cell? ⟨w.heap.size, 2, none⟩ = some (.int .u8 (jf : Int)) := World.rowIs.cell HR3 (i := 2) (by decide); have j3 : W3.cell? ⟨w.heap.size, 3, none⟩ = some (.int .u32 (k.toNat : Int)) := World.rowIs.cell HR3 (i := 3) (by decide); have m2 : W3.cell? ⟨b, 2, none⟩ = some (.int .u32 (s.a.toNat : Int)) := World.rowIs.cell HM3.out (i := 2) (by decide); have m3 : W3.cell? ⟨b, 3, none⟩ = some (.int .u32 (s.x.toNat : Int)) := World.rowIs.cell HM3.out (i := 3) (by decide); have m20 : W3.cell? ⟨b, 20, none⟩ = some (.int .i64 (s.place : Int)) := World.rowIs.cell HM3.out (i := 20) (by decide); have m21 : W3.cell? ⟨b, 21, none⟩ = some (.int .i64 (s.steps : Int)) := World.rowIs.cell HM3.out (i := 21) (by decide); have n2 := World.rowIs.frozen HM3.out 2; have n20 := World.rowIs.frozen HM3.out 20; have n21 := World.rowIs.frozen HM3.out 21; clear i0 i1 i2 i3 hb3 HR HR3 HM HB HZ hg2)
    | (go_at_call 35; (with_reducible refine (ref_alu_is HA.out _).mono ?_); rintro e w' ⟨rfl, rfl⟩)
    | (go_at_call 36; (with_reducible refine (ref_Jump_is HJ.out _).mono ?_); rintro e w' ⟨rfl, rfl⟩))
  go_quiet ((go_at_call 39; exact quietL (HS4.out _)))
  go_wp2
  go_ret
  have q5 := ((HM3.out.drawn nq).set_place (s.place + (1 + jt))).set_steps (s.steps + 1)
  exact ⟨rfl, q5, grown_cell (grown_cell (grown_drawn (grown_of_below HB3.out _) _) 20 _) 21 _⟩

set_option maxRecDepth 100000 in
set_option maxHeartbeats 8000000 in
theorem step_jump_x_jf (h : Going w b qb qo n qcap db doff dcap z s c jt jf k) (hw : wrongE c k = 0) (hj : jumpC c = true) (hb : jf < 256) (hx : usesX c = true) (hsy : saysN (opN c) s.a s.x = false) :
    Calls Tryz.prog 15 #[.pointer (some ⟨b, 0, none⟩)] w (MethP w b (.slice (some ⟨qb, qo, none⟩) n qcap) (.slice (some ⟨db, doff, none⟩) 64 dcap) false (s.on (1 + jf))) := by
  have HA := Lib.hid (jump_not hj)
  have HJ := Lib.hid hj
  have HS4 := Lib.hid (fun w => (says_is s.x s.a hj hsy w))
  have hx8 := and_eight (.inr hj)
  rw [hx] at hx8
  simp only [Bool.false_eq_true, if_false, if_true] at hx8
  clear hj hx hsy
  have c22 : w.cell? ⟨b, 22, none⟩ = some (.bool false) := by have := World.rowIs.cell h.mach (i := 22) (by decide); rw [this]; exact congrArg (fun x => some (Value.bool x)) h.going
  have c1 : w.cell? ⟨b, 1, none⟩ = some (.slice (some ⟨db, doff, none⟩) 64 dcap) := World.rowIs.cell h.mach (i := 1) (by decide)
  have c0 : w.cell? ⟨b, 0, none⟩ = some (.slice (some ⟨qb, qo, none⟩) n qcap) := World.rowIs.cell h.mach (i := 0) (by decide)
  have c20 : w.cell? ⟨b, 20, none⟩ = some (.int .i64 (s.place : Int)) := World.rowIs.cell h.mach (i := 20) (by decide)
  have hp : s.place < n := h.place
  have hp' : ¬ (n : Int) ≤ (s.place : Int) := by omega
  have hn := h.len
  have hs := h.steps
  have hql := h.qlt
  have hz := h.bytes
  have HS := Lib.hid (And.intro h.mach h.ins)
  clear h hp
  go_enter Tryz.func15, Tryz.ntmps15
  go_wp2
  go_quiet (fail)
  go_wp2
  refine wp_region_held_drew (S := fun w' => MachAt w' b (.slice (some ⟨qb, qo, none⟩) n qcap) (.slice (some ⟨db, doff, none⟩) 64 dcap) s ∧ InsCells w' qb (qo + s.place * 4) ⟨c, jt, jf, k⟩) (by kernel_rfl) ⟨(HS.out.1.drawn _).drew, HS.out.2⟩ (fun hHeld => ?_)
  clear c22 c1 c0 c20
  refine wpAnyH_take (i := 0) (v := ?_) rfl (by kernel_rfl) (by kernel_rfl) (by kernel_rfl) (fun _ _ _ h => h) (Or.inl ⟨by rfl, ?_⟩) (by assumption) ?_
  rotate_left
  · intro wS hSw
    (have q0 : wS.cell? ⟨b, 0, none⟩ = some (.slice (some ⟨qb, qo, none⟩) n qcap) := World.rowIs.cell hSw.1 (i := 0) (by decide); have q20 : wS.cell? ⟨b, 20, none⟩ = some (.int .i64 (s.place : Int)) := World.rowIs.cell hSw.1 (i := 20) (by decide); obtain ⟨i0, i1, i2, i3⟩ := hSw.2; clear hSw)
    go_simp
    all_goals with_reducible rfl
  (try simp only [Act.put, List.setIfInBounds_toArray, List.set_cons_zero, List.set_cons_succ])
  refine wpAnyH_take (i := 1) (v := ?_) rfl (by kernel_rfl) (by kernel_rfl) (by kernel_rfl) (fun _ _ _ h => h) (Or.inl ⟨by rfl, ?_⟩) (by assumption) ?_
  rotate_left
  · intro wS hSw
    (have q0 : wS.cell? ⟨b, 0, none⟩ = some (.slice (some ⟨qb, qo, none⟩) n qcap) := World.rowIs.cell hSw.1 (i := 0) (by decide); have q20 : wS.cell? ⟨b, 20, none⟩ = some (.int .i64 (s.place : Int)) := World.rowIs.cell hSw.1 (i := 20) (by decide); obtain ⟨i0, i1, i2, i3⟩ := hSw.2; clear hSw)
    go_simp
    all_goals with_reducible rfl
  (try simp only [Act.put, List.setIfInBounds_toArray, List.set_cons_zero, List.set_cons_succ])
  refine wpAnyH_take (i := 2) (v := ?_) rfl (by kernel_rfl) (by kernel_rfl) (by kernel_rfl) (fun _ _ _ h => h) (Or.inl ⟨by rfl, ?_⟩) (by assumption) ?_
  rotate_left
  · intro wS hSw
    (have q0 : wS.cell? ⟨b, 0, none⟩ = some (.slice (some ⟨qb, qo, none⟩) n qcap) := World.rowIs.cell hSw.1 (i := 0) (by decide); have q20 : wS.cell? ⟨b, 20, none⟩ = some (.int .i64 (s.place : Int)) := World.rowIs.cell hSw.1 (i := 20) (by decide); obtain ⟨i0, i1, i2, i3⟩ := hSw.2; clear hSw)
    go_simp
    all_goals with_reducible rfl
  (try simp only [Act.put, List.setIfInBounds_toArray, List.set_cons_zero, List.set_cons_succ])
  refine wpAnyH_take (i := 3) (v := ?_) rfl (by kernel_rfl) (by kernel_rfl) (by kernel_rfl) (fun _ _ _ h => h) (Or.inl ⟨by rfl, ?_⟩) (by assumption) ?_
  rotate_left
  · intro wS hSw
    (have q0 : wS.cell? ⟨b, 0, none⟩ = some (.slice (some ⟨qb, qo, none⟩) n qcap) := World.rowIs.cell hSw.1 (i := 0) (by decide); have q20 : wS.cell? ⟨b, 20, none⟩ = some (.int .i64 (s.place : Int)) := World.rowIs.cell hSw.1 (i := 20) (by decide); obtain ⟨i0, i1, i2, i3⟩ := hSw.2; clear hSw)
    go_simp
    all_goals with_reducible rfl
  (try simp only [Act.put, List.setIfInBounds_toArray, List.set_cons_zero, List.set_cons_succ])
  refine wpAnyH_take (i := 4) (v := ?_) rfl (by kernel_rfl) (by kernel_rfl) (by kernel_rfl) (fun _ _ _ h => h) (Or.inl ⟨by rfl, ?_⟩) (by assumption) ?_
  rotate_left
  · intro wS hSw
    (have q0 : wS.cell? ⟨b, 0, none⟩ = some (.slice (some ⟨qb, qo, none⟩) n qcap) := World.rowIs.cell hSw.1 (i := 0) (by decide); have q20 : wS.cell? ⟨b, 20, none⟩ = some (.int .i64 (s.place : Int)) := World.rowIs.cell hSw.1 (i := 20) (by decide); obtain ⟨i0, i1, i2, i3⟩ := hSw.2; clear hSw)
    go_simp
    all_goals with_reducible rfl
  (try simp only [Act.put, List.setIfInBounds_toArray, List.set_cons_zero, List.set_cons_succ])
  refine wpAnyH_take (i := 5) (v := ?_) rfl (by kernel_rfl) (by kernel_rfl) (by kernel_rfl) (fun _ _ _ h => h) (Or.inl ⟨by rfl, ?_⟩) (by assumption) ?_
  rotate_left
  · intro wS hSw
    (have q0 : wS.cell? ⟨b, 0, none⟩ = some (.slice (some ⟨qb, qo, none⟩) n qcap) := World.rowIs.cell hSw.1 (i := 0) (by decide); have q20 : wS.cell? ⟨b, 20, none⟩ = some (.int .i64 (s.place : Int)) := World.rowIs.cell hSw.1 (i := 20) (by decide); obtain ⟨i0, i1, i2, i3⟩ := hSw.2; clear hSw)
    go_simp
    all_goals with_reducible rfl
  (try simp only [Act.put, List.setIfInBounds_toArray, List.set_cons_zero, List.set_cons_succ])
  refine wpAnyH_take (i := 6) (v := ?_) rfl (by kernel_rfl) (by kernel_rfl) (by kernel_rfl) (fun _ _ _ h => h) (Or.inl ⟨by rfl, ?_⟩) (by assumption) ?_
  rotate_left
  · intro wS hSw
    (have q0 : wS.cell? ⟨b, 0, none⟩ = some (.slice (some ⟨qb, qo, none⟩) n qcap) := World.rowIs.cell hSw.1 (i := 0) (by decide); have q20 : wS.cell? ⟨b, 20, none⟩ = some (.int .i64 (s.place : Int)) := World.rowIs.cell hSw.1 (i := 20) (by decide); obtain ⟨i0, i1, i2, i3⟩ := hSw.2; clear hSw)
    go_simp
    all_goals with_reducible rfl
  (try simp only [Act.put, List.setIfInBounds_toArray, List.set_cons_zero, List.set_cons_succ])
  refine wpAnyH_take (i := 7) (v := ?_) rfl (by kernel_rfl) (by kernel_rfl) (by kernel_rfl) (fun _ _ _ h => h) (Or.inl ⟨by rfl, ?_⟩) (by assumption) ?_
  rotate_left
  · intro wS hSw
    (have q0 : wS.cell? ⟨b, 0, none⟩ = some (.slice (some ⟨qb, qo, none⟩) n qcap) := World.rowIs.cell hSw.1 (i := 0) (by decide); have q20 : wS.cell? ⟨b, 20, none⟩ = some (.int .i64 (s.place : Int)) := World.rowIs.cell hSw.1 (i := 20) (by decide); obtain ⟨i0, i1, i2, i3⟩ := hSw.2; clear hSw)
    go_simp
    all_goals with_reducible rfl
  (try simp only [Act.put, List.setIfInBounds_toArray, List.set_cons_zero, List.set_cons_succ])
  refine wpAnyH_take (i := 8) (v := ?_) rfl (by kernel_rfl) (by kernel_rfl) (by kernel_rfl) (fun _ _ _ h => h) (Or.inl ⟨by rfl, ?_⟩) (by assumption) ?_
  rotate_left
  · intro wS hSw
    (have q0 : wS.cell? ⟨b, 0, none⟩ = some (.slice (some ⟨qb, qo, none⟩) n qcap) := World.rowIs.cell hSw.1 (i := 0) (by decide); have q20 : wS.cell? ⟨b, 20, none⟩ = some (.int .i64 (s.place : Int)) := World.rowIs.cell hSw.1 (i := 20) (by decide); obtain ⟨i0, i1, i2, i3⟩ := hSw.2; clear hSw)
    go_simp
    all_goals with_reducible rfl
  (try simp only [Act.put, List.setIfInBounds_toArray, List.set_cons_zero, List.set_cons_succ])
  refine wpAnyH_take (i := 9) (v := ?_) rfl (by kernel_rfl) (by kernel_rfl) (by kernel_rfl) (fun _ _ _ h => h) (Or.inl ⟨by rfl, ?_⟩) (by assumption) ?_
  rotate_left
  · intro wS hSw
    (have q0 : wS.cell? ⟨b, 0, none⟩ = some (.slice (some ⟨qb, qo, none⟩) n qcap) := World.rowIs.cell hSw.1 (i := 0) (by decide); have q20 : wS.cell? ⟨b, 20, none⟩ = some (.int .i64 (s.place : Int)) := World.rowIs.cell hSw.1 (i := 20) (by decide); obtain ⟨i0, i1, i2, i3⟩ := hSw.2; clear hSw)
    go_simp
    all_goals with_reducible rfl
  (try simp only [Act.put, List.setIfInBounds_toArray, List.set_cons_zero, List.set_cons_succ])
  refine held_one (i := 10) (by kernel_rfl) rfl (fun K hK => ?_)
  go_simp
  refine hK.out _ _ ⟨hHeld.1.alloc _, hHeld.2.below (box_below _ _) hql⟩ (fun hH2 => ?_)
  clear hK K hHeld
  (try simp only [Act.put, List.setIfInBounds_toArray, List.set_cons_zero, List.set_cons_succ])
  have R1 : ((w.drewN (nq + 1)).alloc (.cells #[.int .u16 0, .int .u8 0, .int .u8 0, .int .u32 0] 60)).rowIs w.heap.size 60 4 (insF ⟨0, 0, 0, 0#32⟩) := ins_new _
  have B1 := (below_drawn (Below.refl w.heap.size w) (nq + 1)).trans (box_below (w.drewN (nq + 1)) (.cells #[.int .u16 0, .int .u8 0, .int .u8 0, .int .u32 0] 60))
  have hbl := World.rowIs.lt HS.out.1
  generalize (w.drewN (nq + 1)).alloc (.cells #[.int .u16 0, .int .u8 0, .int .u8 0, .int .u32 0] 60) = W1 at R1 B1 hH2 ⊢
  have e0 : W1.cell? ⟨w.heap.size, 0, none⟩ = some (.int .u16 0) := World.rowIs.cell R1 (i := 0) (by decide)
  have e1 : W1.cell? ⟨w.heap.size, 1, none⟩ = some (.int .u8 0) := World.rowIs.cell R1 (i := 1) (by decide)
  have e2 : W1.cell? ⟨w.heap.size, 2, none⟩ = some (.int .u8 0) := World.rowIs.cell R1 (i := 2) (by decide)
  have e3 : W1.cell? ⟨w.heap.size, 3, none⟩ = some (.int .u32 0) := World.rowIs.cell R1 (i := 3) (by decide)
  have y0 := World.rowIs.frozen R1 0
  have y1 := World.rowIs.frozen R1 1
  have y2 := World.rowIs.frozen R1 2
  have y3 := World.rowIs.frozen R1 3
  have R2 := Lib.hid (ins_set R1 c jt jf k)
  have G2 := Lib.hid (ins_grown (World.grownBy.refl W1 (some w.heap.size)) (.int .u16 c) (.int .u8 (jt : Int)) (.int .u8 (jf : Int)) (.int .u32 (k.toNat : Int)))
  have HB1 := Lib.hid B1
  have HH := Lib.hid hH2
  clear R1 B1 hH2
  refine held_one (i := 11) (by kernel_rfl) rfl (fun K hK => ?_)
  go_simp
  have hM2 := HH.out.1.grown G2.out (by omega)
  have hI2 := HH.out.2.grown G2.out (by omega)
  have hB2 := below_grown HB1.out G2.out (Nat.le_refl _) (Nat.le_refl _)
  have hZ2 := hz.below hB2 hz.1
  refine hK.out _ _ ⟨hM2, hI2⟩ (fun hX2 => ?_)
  clear hX2 hK K e0 e1 e2 e3 y0 y1 y2 y3 HH G2 HB1 hI2
  have hR2 := R2.out
  clear R2
  refine wpAnyH_done (by kernel_rfl) ?_ _
  generalize (((W1.setCell ⟨w.heap.size, 0, none⟩ (.int .u16 c)).setCell ⟨w.heap.size, 1, none⟩ (.int .u8 (jt : Int))).setCell ⟨w.heap.size, 2, none⟩ (.int .u8 (jf : Int))).setCell ⟨w.heap.size, 3, none⟩ (.int .u32 (k.toNat : Int)) = W2 at hM2 hB2 hZ2 hR2 ⊢
  (try clear W1)
  have i0 : W2.cell? ⟨w.heap.size, 0, none⟩ = some (.int .u16 c) := World.rowIs.cell hR2 (i := 0) (by decide)
  have i1 : W2.cell? ⟨w.heap.size, 1, none⟩ = some (.int .u8 (jt : Int)) := World.rowIs.cell hR2 (i := 1) (by decide)
  have i2 : W2.cell? ⟨w.heap.size, 2, none⟩ = some (.int .u8 (jf : Int)) := World.rowIs.cell hR2 (i := 2) (by decide)
  have i3 : W2.cell? ⟨w.heap.size, 3, none⟩ = some (.int .u32 (k.toNat : Int)) := World.rowIs.cell hR2 (i := 3) (by decide)
  have HR := Lib.hid hR2
  have HM := Lib.hid hM2
  have HB := Lib.hid hB2
  have HZ := Lib.hid hZ2
  have hs2 := hB2.size
  have hg2 := World.rowIs.lt hR2
  have HW := Lib.hid (fun w => (ref_wrong ⟨c, jt, jf, k⟩ w : Calls Tryz.prog 34 #[.agg #[.int .u16 c, .int .u8 (jt : Int), .int .u8 (jf : Int), .int .u32 (k.toNat : Int)]] w (WrongP w (wrongE c k))))
  clear hR2 hM2 hB2 hZ2 hz HS
  have hw1 : IntKind.i64.wrap (1 + (jf : Int)) = 1 + (jf : Int) := IntWalk.i64_in _ (by omega)
  have hw2 : IntKind.i64.wrap ((s.place : Int) + (1 + (jf : Int))) = (s.place : Int) + (1 + (jf : Int)) := IntWalk.i64_in _ (by omega)
  go_wp2_with (first
    | (go_at_call 34; (with_reducible refine (HW.out _).mono ?_); rintro e W3 ⟨rfl, hb3⟩; have HM3 := Lib.hid (HM.out.below hb3 (Nat.lt_of_lt_of_le hbl hs2)); have HB3 := Lib.hid (HB.out.trans (hb3.mono hs2)); have HZ3 := Lib.hid (HZ.out.below hb3 HZ.out.1); have HR3 := rowIs_below HR.out hb3 hg2; have hs3 := Nat.lt_of_lt_of_le hg2 hb3.size; have j0 : W3.cell? ⟨w.heap.size, 0, none⟩ = some (.int .u16 c) := World.rowIs.cell HR3 (i := 0) (by decide); have j1 : W3.cell? ⟨w.heap.size, 1, none⟩ = some (.int .u8 (jt : Int)) := World.rowIs.cell HR3 (i := 1) (by decide); have j2 : W3.cell? ⟨w.heap.size, 2, none⟩ = some (.int .u8 (jf : Int)) := World.rowIs.cell HR3 (i := 2) (by decide); have j3 : W3.cell? ⟨w.heap.size, 3, none⟩ = some (.int .u32 (k.toNat : Int)) := World.rowIs.cell HR3 (i := 3) (by decide); have m2 : W3.cell? ⟨b, 2, none⟩ = some (.int .u32 (s.a.toNat : Int)) := World.rowIs.cell HM3.out (i := 2) (by decide); have m3 : W3.cell? ⟨b, 3, none⟩ = some (.int .u32 (s.x.toNat : Int)) := World.rowIs.cell HM3.out (i := 3) (by decide); have m20 : W3.cell? ⟨b, 20, none⟩ = some (.int .i64 (s.place : Int)) := World.rowIs.cell HM3.out (i := 20) (by decide); have m21 : W3.cell? ⟨b, 21, none⟩ = some (.int .i64 (s.steps : Int)) := World.rowIs.cell HM3.out (i := 21) (by decide); have n2 := World.rowIs.frozen HM3.out 2; have n20 := World.rowIs.frozen HM3.out 20; have n21 := World.rowIs.frozen HM3.out 21; clear i0 i1 i2 i3 hb3 HR HR3 HM HB HZ hg2)
    | (go_at_call 35; (with_reducible refine (ref_alu_is HA.out _).mono ?_); rintro e w' ⟨rfl, rfl⟩)
    | (go_at_call 36; (with_reducible refine (ref_Jump_is HJ.out _).mono ?_); rintro e w' ⟨rfl, rfl⟩))
  go_quiet ((go_at_call 39; exact quietL (HS4.out _)))
  go_wp2
  go_ret
  have q5 := ((HM3.out.drawn nq).set_place (s.place + (1 + jf))).set_steps (s.steps + 1)
  exact ⟨rfl, q5, grown_cell (grown_cell (grown_drawn (grown_of_below HB3.out _) _) 20 _) 21 _⟩

set_option maxRecDepth 100000 in
set_option maxHeartbeats 8000000 in
theorem step_jump_x_jt (h : Going w b qb qo n qcap db doff dcap z s c jt jf k) (hw : wrongE c k = 0) (hj : jumpC c = true) (hb : jt < 256) (hx : usesX c = true) (hsy : saysN (opN c) s.a s.x = true) :
    Calls Tryz.prog 15 #[.pointer (some ⟨b, 0, none⟩)] w (MethP w b (.slice (some ⟨qb, qo, none⟩) n qcap) (.slice (some ⟨db, doff, none⟩) 64 dcap) false (s.on (1 + jt))) := by
  have HA := Lib.hid (jump_not hj)
  have HJ := Lib.hid hj
  have HS4 := Lib.hid (fun w => (says_is s.x s.a hj hsy w))
  have hx8 := and_eight (.inr hj)
  rw [hx] at hx8
  simp only [Bool.false_eq_true, if_false, if_true] at hx8
  clear hj hx hsy
  have c22 : w.cell? ⟨b, 22, none⟩ = some (.bool false) := by have := World.rowIs.cell h.mach (i := 22) (by decide); rw [this]; exact congrArg (fun x => some (Value.bool x)) h.going
  have c1 : w.cell? ⟨b, 1, none⟩ = some (.slice (some ⟨db, doff, none⟩) 64 dcap) := World.rowIs.cell h.mach (i := 1) (by decide)
  have c0 : w.cell? ⟨b, 0, none⟩ = some (.slice (some ⟨qb, qo, none⟩) n qcap) := World.rowIs.cell h.mach (i := 0) (by decide)
  have c20 : w.cell? ⟨b, 20, none⟩ = some (.int .i64 (s.place : Int)) := World.rowIs.cell h.mach (i := 20) (by decide)
  have hp : s.place < n := h.place
  have hp' : ¬ (n : Int) ≤ (s.place : Int) := by omega
  have hn := h.len
  have hs := h.steps
  have hql := h.qlt
  have hz := h.bytes
  have HS := Lib.hid (And.intro h.mach h.ins)
  clear h hp
  go_enter Tryz.func15, Tryz.ntmps15
  go_wp2
  go_quiet (fail)
  go_wp2
  refine wp_region_held_drew (S := fun w' => MachAt w' b (.slice (some ⟨qb, qo, none⟩) n qcap) (.slice (some ⟨db, doff, none⟩) 64 dcap) s ∧ InsCells w' qb (qo + s.place * 4) ⟨c, jt, jf, k⟩) (by kernel_rfl) ⟨(HS.out.1.drawn _).drew, HS.out.2⟩ (fun hHeld => ?_)
  clear c22 c1 c0 c20
  refine wpAnyH_take (i := 0) (v := ?_) rfl (by kernel_rfl) (by kernel_rfl) (by kernel_rfl) (fun _ _ _ h => h) (Or.inl ⟨by rfl, ?_⟩) (by assumption) ?_
  rotate_left
  · intro wS hSw
    (have q0 : wS.cell? ⟨b, 0, none⟩ = some (.slice (some ⟨qb, qo, none⟩) n qcap) := World.rowIs.cell hSw.1 (i := 0) (by decide); have q20 : wS.cell? ⟨b, 20, none⟩ = some (.int .i64 (s.place : Int)) := World.rowIs.cell hSw.1 (i := 20) (by decide); obtain ⟨i0, i1, i2, i3⟩ := hSw.2; clear hSw)
    go_simp
    all_goals with_reducible rfl
  (try simp only [Act.put, List.setIfInBounds_toArray, List.set_cons_zero, List.set_cons_succ])
  refine wpAnyH_take (i := 1) (v := ?_) rfl (by kernel_rfl) (by kernel_rfl) (by kernel_rfl) (fun _ _ _ h => h) (Or.inl ⟨by rfl, ?_⟩) (by assumption) ?_
  rotate_left
  · intro wS hSw
    (have q0 : wS.cell? ⟨b, 0, none⟩ = some (.slice (some ⟨qb, qo, none⟩) n qcap) := World.rowIs.cell hSw.1 (i := 0) (by decide); have q20 : wS.cell? ⟨b, 20, none⟩ = some (.int .i64 (s.place : Int)) := World.rowIs.cell hSw.1 (i := 20) (by decide); obtain ⟨i0, i1, i2, i3⟩ := hSw.2; clear hSw)
    go_simp
    all_goals with_reducible rfl
  (try simp only [Act.put, List.setIfInBounds_toArray, List.set_cons_zero, List.set_cons_succ])
  refine wpAnyH_take (i := 2) (v := ?_) rfl (by kernel_rfl) (by kernel_rfl) (by kernel_rfl) (fun _ _ _ h => h) (Or.inl ⟨by rfl, ?_⟩) (by assumption) ?_
  rotate_left
  · intro wS hSw
    (have q0 : wS.cell? ⟨b, 0, none⟩ = some (.slice (some ⟨qb, qo, none⟩) n qcap) := World.rowIs.cell hSw.1 (i := 0) (by decide); have q20 : wS.cell? ⟨b, 20, none⟩ = some (.int .i64 (s.place : Int)) := World.rowIs.cell hSw.1 (i := 20) (by decide); obtain ⟨i0, i1, i2, i3⟩ := hSw.2; clear hSw)
    go_simp
    all_goals with_reducible rfl
  (try simp only [Act.put, List.setIfInBounds_toArray, List.set_cons_zero, List.set_cons_succ])
  refine wpAnyH_take (i := 3) (v := ?_) rfl (by kernel_rfl) (by kernel_rfl) (by kernel_rfl) (fun _ _ _ h => h) (Or.inl ⟨by rfl, ?_⟩) (by assumption) ?_
  rotate_left
  · intro wS hSw
    (have q0 : wS.cell? ⟨b, 0, none⟩ = some (.slice (some ⟨qb, qo, none⟩) n qcap) := World.rowIs.cell hSw.1 (i := 0) (by decide); have q20 : wS.cell? ⟨b, 20, none⟩ = some (.int .i64 (s.place : Int)) := World.rowIs.cell hSw.1 (i := 20) (by decide); obtain ⟨i0, i1, i2, i3⟩ := hSw.2; clear hSw)
    go_simp
    all_goals with_reducible rfl
  (try simp only [Act.put, List.setIfInBounds_toArray, List.set_cons_zero, List.set_cons_succ])
  refine wpAnyH_take (i := 4) (v := ?_) rfl (by kernel_rfl) (by kernel_rfl) (by kernel_rfl) (fun _ _ _ h => h) (Or.inl ⟨by rfl, ?_⟩) (by assumption) ?_
  rotate_left
  · intro wS hSw
    (have q0 : wS.cell? ⟨b, 0, none⟩ = some (.slice (some ⟨qb, qo, none⟩) n qcap) := World.rowIs.cell hSw.1 (i := 0) (by decide); have q20 : wS.cell? ⟨b, 20, none⟩ = some (.int .i64 (s.place : Int)) := World.rowIs.cell hSw.1 (i := 20) (by decide); obtain ⟨i0, i1, i2, i3⟩ := hSw.2; clear hSw)
    go_simp
    all_goals with_reducible rfl
  (try simp only [Act.put, List.setIfInBounds_toArray, List.set_cons_zero, List.set_cons_succ])
  refine wpAnyH_take (i := 5) (v := ?_) rfl (by kernel_rfl) (by kernel_rfl) (by kernel_rfl) (fun _ _ _ h => h) (Or.inl ⟨by rfl, ?_⟩) (by assumption) ?_
  rotate_left
  · intro wS hSw
    (have q0 : wS.cell? ⟨b, 0, none⟩ = some (.slice (some ⟨qb, qo, none⟩) n qcap) := World.rowIs.cell hSw.1 (i := 0) (by decide); have q20 : wS.cell? ⟨b, 20, none⟩ = some (.int .i64 (s.place : Int)) := World.rowIs.cell hSw.1 (i := 20) (by decide); obtain ⟨i0, i1, i2, i3⟩ := hSw.2; clear hSw)
    go_simp
    all_goals with_reducible rfl
  (try simp only [Act.put, List.setIfInBounds_toArray, List.set_cons_zero, List.set_cons_succ])
  refine wpAnyH_take (i := 6) (v := ?_) rfl (by kernel_rfl) (by kernel_rfl) (by kernel_rfl) (fun _ _ _ h => h) (Or.inl ⟨by rfl, ?_⟩) (by assumption) ?_
  rotate_left
  · intro wS hSw
    (have q0 : wS.cell? ⟨b, 0, none⟩ = some (.slice (some ⟨qb, qo, none⟩) n qcap) := World.rowIs.cell hSw.1 (i := 0) (by decide); have q20 : wS.cell? ⟨b, 20, none⟩ = some (.int .i64 (s.place : Int)) := World.rowIs.cell hSw.1 (i := 20) (by decide); obtain ⟨i0, i1, i2, i3⟩ := hSw.2; clear hSw)
    go_simp
    all_goals with_reducible rfl
  (try simp only [Act.put, List.setIfInBounds_toArray, List.set_cons_zero, List.set_cons_succ])
  refine wpAnyH_take (i := 7) (v := ?_) rfl (by kernel_rfl) (by kernel_rfl) (by kernel_rfl) (fun _ _ _ h => h) (Or.inl ⟨by rfl, ?_⟩) (by assumption) ?_
  rotate_left
  · intro wS hSw
    (have q0 : wS.cell? ⟨b, 0, none⟩ = some (.slice (some ⟨qb, qo, none⟩) n qcap) := World.rowIs.cell hSw.1 (i := 0) (by decide); have q20 : wS.cell? ⟨b, 20, none⟩ = some (.int .i64 (s.place : Int)) := World.rowIs.cell hSw.1 (i := 20) (by decide); obtain ⟨i0, i1, i2, i3⟩ := hSw.2; clear hSw)
    go_simp
    all_goals with_reducible rfl
  (try simp only [Act.put, List.setIfInBounds_toArray, List.set_cons_zero, List.set_cons_succ])
  refine wpAnyH_take (i := 8) (v := ?_) rfl (by kernel_rfl) (by kernel_rfl) (by kernel_rfl) (fun _ _ _ h => h) (Or.inl ⟨by rfl, ?_⟩) (by assumption) ?_
  rotate_left
  · intro wS hSw
    (have q0 : wS.cell? ⟨b, 0, none⟩ = some (.slice (some ⟨qb, qo, none⟩) n qcap) := World.rowIs.cell hSw.1 (i := 0) (by decide); have q20 : wS.cell? ⟨b, 20, none⟩ = some (.int .i64 (s.place : Int)) := World.rowIs.cell hSw.1 (i := 20) (by decide); obtain ⟨i0, i1, i2, i3⟩ := hSw.2; clear hSw)
    go_simp
    all_goals with_reducible rfl
  (try simp only [Act.put, List.setIfInBounds_toArray, List.set_cons_zero, List.set_cons_succ])
  refine wpAnyH_take (i := 9) (v := ?_) rfl (by kernel_rfl) (by kernel_rfl) (by kernel_rfl) (fun _ _ _ h => h) (Or.inl ⟨by rfl, ?_⟩) (by assumption) ?_
  rotate_left
  · intro wS hSw
    (have q0 : wS.cell? ⟨b, 0, none⟩ = some (.slice (some ⟨qb, qo, none⟩) n qcap) := World.rowIs.cell hSw.1 (i := 0) (by decide); have q20 : wS.cell? ⟨b, 20, none⟩ = some (.int .i64 (s.place : Int)) := World.rowIs.cell hSw.1 (i := 20) (by decide); obtain ⟨i0, i1, i2, i3⟩ := hSw.2; clear hSw)
    go_simp
    all_goals with_reducible rfl
  (try simp only [Act.put, List.setIfInBounds_toArray, List.set_cons_zero, List.set_cons_succ])
  refine held_one (i := 10) (by kernel_rfl) rfl (fun K hK => ?_)
  go_simp
  refine hK.out _ _ ⟨hHeld.1.alloc _, hHeld.2.below (box_below _ _) hql⟩ (fun hH2 => ?_)
  clear hK K hHeld
  (try simp only [Act.put, List.setIfInBounds_toArray, List.set_cons_zero, List.set_cons_succ])
  have R1 : ((w.drewN (nq + 1)).alloc (.cells #[.int .u16 0, .int .u8 0, .int .u8 0, .int .u32 0] 60)).rowIs w.heap.size 60 4 (insF ⟨0, 0, 0, 0#32⟩) := ins_new _
  have B1 := (below_drawn (Below.refl w.heap.size w) (nq + 1)).trans (box_below (w.drewN (nq + 1)) (.cells #[.int .u16 0, .int .u8 0, .int .u8 0, .int .u32 0] 60))
  have hbl := World.rowIs.lt HS.out.1
  generalize (w.drewN (nq + 1)).alloc (.cells #[.int .u16 0, .int .u8 0, .int .u8 0, .int .u32 0] 60) = W1 at R1 B1 hH2 ⊢
  have e0 : W1.cell? ⟨w.heap.size, 0, none⟩ = some (.int .u16 0) := World.rowIs.cell R1 (i := 0) (by decide)
  have e1 : W1.cell? ⟨w.heap.size, 1, none⟩ = some (.int .u8 0) := World.rowIs.cell R1 (i := 1) (by decide)
  have e2 : W1.cell? ⟨w.heap.size, 2, none⟩ = some (.int .u8 0) := World.rowIs.cell R1 (i := 2) (by decide)
  have e3 : W1.cell? ⟨w.heap.size, 3, none⟩ = some (.int .u32 0) := World.rowIs.cell R1 (i := 3) (by decide)
  have y0 := World.rowIs.frozen R1 0
  have y1 := World.rowIs.frozen R1 1
  have y2 := World.rowIs.frozen R1 2
  have y3 := World.rowIs.frozen R1 3
  have R2 := Lib.hid (ins_set R1 c jt jf k)
  have G2 := Lib.hid (ins_grown (World.grownBy.refl W1 (some w.heap.size)) (.int .u16 c) (.int .u8 (jt : Int)) (.int .u8 (jf : Int)) (.int .u32 (k.toNat : Int)))
  have HB1 := Lib.hid B1
  have HH := Lib.hid hH2
  clear R1 B1 hH2
  refine held_one (i := 11) (by kernel_rfl) rfl (fun K hK => ?_)
  go_simp
  have hM2 := HH.out.1.grown G2.out (by omega)
  have hI2 := HH.out.2.grown G2.out (by omega)
  have hB2 := below_grown HB1.out G2.out (Nat.le_refl _) (Nat.le_refl _)
  have hZ2 := hz.below hB2 hz.1
  refine hK.out _ _ ⟨hM2, hI2⟩ (fun hX2 => ?_)
  clear hX2 hK K e0 e1 e2 e3 y0 y1 y2 y3 HH G2 HB1 hI2
  have hR2 := R2.out
  clear R2
  refine wpAnyH_done (by kernel_rfl) ?_ _
  generalize (((W1.setCell ⟨w.heap.size, 0, none⟩ (.int .u16 c)).setCell ⟨w.heap.size, 1, none⟩ (.int .u8 (jt : Int))).setCell ⟨w.heap.size, 2, none⟩ (.int .u8 (jf : Int))).setCell ⟨w.heap.size, 3, none⟩ (.int .u32 (k.toNat : Int)) = W2 at hM2 hB2 hZ2 hR2 ⊢
  (try clear W1)
  have i0 : W2.cell? ⟨w.heap.size, 0, none⟩ = some (.int .u16 c) := World.rowIs.cell hR2 (i := 0) (by decide)
  have i1 : W2.cell? ⟨w.heap.size, 1, none⟩ = some (.int .u8 (jt : Int)) := World.rowIs.cell hR2 (i := 1) (by decide)
  have i2 : W2.cell? ⟨w.heap.size, 2, none⟩ = some (.int .u8 (jf : Int)) := World.rowIs.cell hR2 (i := 2) (by decide)
  have i3 : W2.cell? ⟨w.heap.size, 3, none⟩ = some (.int .u32 (k.toNat : Int)) := World.rowIs.cell hR2 (i := 3) (by decide)
  have HR := Lib.hid hR2
  have HM := Lib.hid hM2
  have HB := Lib.hid hB2
  have HZ := Lib.hid hZ2
  have hs2 := hB2.size
  have hg2 := World.rowIs.lt hR2
  have HW := Lib.hid (fun w => (ref_wrong ⟨c, jt, jf, k⟩ w : Calls Tryz.prog 34 #[.agg #[.int .u16 c, .int .u8 (jt : Int), .int .u8 (jf : Int), .int .u32 (k.toNat : Int)]] w (WrongP w (wrongE c k))))
  clear hR2 hM2 hB2 hZ2 hz HS
  have hw1 : IntKind.i64.wrap (1 + (jt : Int)) = 1 + (jt : Int) := IntWalk.i64_in _ (by omega)
  have hw2 : IntKind.i64.wrap ((s.place : Int) + (1 + (jt : Int))) = (s.place : Int) + (1 + (jt : Int)) := IntWalk.i64_in _ (by omega)
  go_wp2_with (first
    | (go_at_call 34; (with_reducible refine (HW.out _).mono ?_); rintro e W3 ⟨rfl, hb3⟩; have HM3 := Lib.hid (HM.out.below hb3 (Nat.lt_of_lt_of_le hbl hs2)); have HB3 := Lib.hid (HB.out.trans (hb3.mono hs2)); have HZ3 := Lib.hid (HZ.out.below hb3 HZ.out.1); have HR3 := rowIs_below HR.out hb3 hg2; have hs3 := Nat.lt_of_lt_of_le hg2 hb3.size; have j0 : W3.cell? ⟨w.heap.size, 0, none⟩ = some (.int .u16 c) := World.rowIs.cell HR3 (i := 0) (by decide); have j1 : W3.cell? ⟨w.heap.size, 1, none⟩ = some (.int .u8 (jt : Int)) := World.rowIs.cell HR3 (i := 1) (by decide); have j2 : W3.cell? ⟨w.heap.size, 2, none⟩ = some (.int .u8 (jf : Int)) := World.rowIs.cell HR3 (i := 2) (by decide); have j3 : W3.cell? ⟨w.heap.size, 3, none⟩ = some (.int .u32 (k.toNat : Int)) := World.rowIs.cell HR3 (i := 3) (by decide); have m2 : W3.cell? ⟨b, 2, none⟩ = some (.int .u32 (s.a.toNat : Int)) := World.rowIs.cell HM3.out (i := 2) (by decide); have m3 : W3.cell? ⟨b, 3, none⟩ = some (.int .u32 (s.x.toNat : Int)) := World.rowIs.cell HM3.out (i := 3) (by decide); have m20 : W3.cell? ⟨b, 20, none⟩ = some (.int .i64 (s.place : Int)) := World.rowIs.cell HM3.out (i := 20) (by decide); have m21 : W3.cell? ⟨b, 21, none⟩ = some (.int .i64 (s.steps : Int)) := World.rowIs.cell HM3.out (i := 21) (by decide); have n2 := World.rowIs.frozen HM3.out 2; have n20 := World.rowIs.frozen HM3.out 20; have n21 := World.rowIs.frozen HM3.out 21; clear i0 i1 i2 i3 hb3 HR HR3 HM HB HZ hg2)
    | (go_at_call 35; (with_reducible refine (ref_alu_is HA.out _).mono ?_); rintro e w' ⟨rfl, rfl⟩)
    | (go_at_call 36; (with_reducible refine (ref_Jump_is HJ.out _).mono ?_); rintro e w' ⟨rfl, rfl⟩))
  go_quiet ((go_at_call 39; exact quietL (HS4.out _)))
  go_wp2
  go_ret
  have q5 := ((HM3.out.drawn nq).set_place (s.place + (1 + jt))).set_steps (s.steps + 1)
  exact ⟨rfl, q5, grown_cell (grown_cell (grown_drawn (grown_of_below HB3.out _) _) 20 _) 21 _⟩

set_option maxRecDepth 100000 in
set_option maxHeartbeats 8000000 in
theorem step_div0 (h : Going w b qb qo n qcap db doff dcap z s 60 jt jf k) (hw : wrongE 60 k = 0) (hx : s.x = 0#32) :
    Calls Tryz.prog 15 #[.pointer (some ⟨b, 0, none⟩)] w (MethP w b (.slice (some ⟨qb, qo, none⟩) n qcap) (.slice (some ⟨db, doff, none⟩) 64 dcap) true (s.ends 0#32)) := by
  have HA := Lib.hid (show aluC 60 = true from rfl)
  have HJ := Lib.hid (show jumpC 60 = false from rfl)
  have h0 : (s.x.toNat : Int) = 0 := by rw [hx]; rfl
  clear hx
  have c22 : w.cell? ⟨b, 22, none⟩ = some (.bool false) := by have := World.rowIs.cell h.mach (i := 22) (by decide); rw [this]; exact congrArg (fun x => some (Value.bool x)) h.going
  have c1 : w.cell? ⟨b, 1, none⟩ = some (.slice (some ⟨db, doff, none⟩) 64 dcap) := World.rowIs.cell h.mach (i := 1) (by decide)
  have c0 : w.cell? ⟨b, 0, none⟩ = some (.slice (some ⟨qb, qo, none⟩) n qcap) := World.rowIs.cell h.mach (i := 0) (by decide)
  have c20 : w.cell? ⟨b, 20, none⟩ = some (.int .i64 (s.place : Int)) := World.rowIs.cell h.mach (i := 20) (by decide)
  have hp : s.place < n := h.place
  have hp' : ¬ (n : Int) ≤ (s.place : Int) := by omega
  have hn := h.len
  have hs := h.steps
  have hql := h.qlt
  have hz := h.bytes
  have HS := Lib.hid (And.intro h.mach h.ins)
  clear h hp
  go_enter Tryz.func15, Tryz.ntmps15
  go_wp2
  go_quiet (fail)
  go_wp2
  refine wp_region_held_drew (S := fun w' => MachAt w' b (.slice (some ⟨qb, qo, none⟩) n qcap) (.slice (some ⟨db, doff, none⟩) 64 dcap) s ∧ InsCells w' qb (qo + s.place * 4) ⟨60, jt, jf, k⟩) (by kernel_rfl) ⟨(HS.out.1.drawn _).drew, HS.out.2⟩ (fun hHeld => ?_)
  clear c22 c1 c0 c20
  refine wpAnyH_take (i := 0) (v := ?_) rfl (by kernel_rfl) (by kernel_rfl) (by kernel_rfl) (fun _ _ _ h => h) (Or.inl ⟨by rfl, ?_⟩) (by assumption) ?_
  rotate_left
  · intro wS hSw
    (have q0 : wS.cell? ⟨b, 0, none⟩ = some (.slice (some ⟨qb, qo, none⟩) n qcap) := World.rowIs.cell hSw.1 (i := 0) (by decide); have q20 : wS.cell? ⟨b, 20, none⟩ = some (.int .i64 (s.place : Int)) := World.rowIs.cell hSw.1 (i := 20) (by decide); obtain ⟨i0, i1, i2, i3⟩ := hSw.2; clear hSw)
    go_simp
    all_goals with_reducible rfl
  (try simp only [Act.put, List.setIfInBounds_toArray, List.set_cons_zero, List.set_cons_succ])
  refine wpAnyH_take (i := 1) (v := ?_) rfl (by kernel_rfl) (by kernel_rfl) (by kernel_rfl) (fun _ _ _ h => h) (Or.inl ⟨by rfl, ?_⟩) (by assumption) ?_
  rotate_left
  · intro wS hSw
    (have q0 : wS.cell? ⟨b, 0, none⟩ = some (.slice (some ⟨qb, qo, none⟩) n qcap) := World.rowIs.cell hSw.1 (i := 0) (by decide); have q20 : wS.cell? ⟨b, 20, none⟩ = some (.int .i64 (s.place : Int)) := World.rowIs.cell hSw.1 (i := 20) (by decide); obtain ⟨i0, i1, i2, i3⟩ := hSw.2; clear hSw)
    go_simp
    all_goals with_reducible rfl
  (try simp only [Act.put, List.setIfInBounds_toArray, List.set_cons_zero, List.set_cons_succ])
  refine wpAnyH_take (i := 2) (v := ?_) rfl (by kernel_rfl) (by kernel_rfl) (by kernel_rfl) (fun _ _ _ h => h) (Or.inl ⟨by rfl, ?_⟩) (by assumption) ?_
  rotate_left
  · intro wS hSw
    (have q0 : wS.cell? ⟨b, 0, none⟩ = some (.slice (some ⟨qb, qo, none⟩) n qcap) := World.rowIs.cell hSw.1 (i := 0) (by decide); have q20 : wS.cell? ⟨b, 20, none⟩ = some (.int .i64 (s.place : Int)) := World.rowIs.cell hSw.1 (i := 20) (by decide); obtain ⟨i0, i1, i2, i3⟩ := hSw.2; clear hSw)
    go_simp
    all_goals with_reducible rfl
  (try simp only [Act.put, List.setIfInBounds_toArray, List.set_cons_zero, List.set_cons_succ])
  refine wpAnyH_take (i := 3) (v := ?_) rfl (by kernel_rfl) (by kernel_rfl) (by kernel_rfl) (fun _ _ _ h => h) (Or.inl ⟨by rfl, ?_⟩) (by assumption) ?_
  rotate_left
  · intro wS hSw
    (have q0 : wS.cell? ⟨b, 0, none⟩ = some (.slice (some ⟨qb, qo, none⟩) n qcap) := World.rowIs.cell hSw.1 (i := 0) (by decide); have q20 : wS.cell? ⟨b, 20, none⟩ = some (.int .i64 (s.place : Int)) := World.rowIs.cell hSw.1 (i := 20) (by decide); obtain ⟨i0, i1, i2, i3⟩ := hSw.2; clear hSw)
    go_simp
    all_goals with_reducible rfl
  (try simp only [Act.put, List.setIfInBounds_toArray, List.set_cons_zero, List.set_cons_succ])
  refine wpAnyH_take (i := 4) (v := ?_) rfl (by kernel_rfl) (by kernel_rfl) (by kernel_rfl) (fun _ _ _ h => h) (Or.inl ⟨by rfl, ?_⟩) (by assumption) ?_
  rotate_left
  · intro wS hSw
    (have q0 : wS.cell? ⟨b, 0, none⟩ = some (.slice (some ⟨qb, qo, none⟩) n qcap) := World.rowIs.cell hSw.1 (i := 0) (by decide); have q20 : wS.cell? ⟨b, 20, none⟩ = some (.int .i64 (s.place : Int)) := World.rowIs.cell hSw.1 (i := 20) (by decide); obtain ⟨i0, i1, i2, i3⟩ := hSw.2; clear hSw)
    go_simp
    all_goals with_reducible rfl
  (try simp only [Act.put, List.setIfInBounds_toArray, List.set_cons_zero, List.set_cons_succ])
  refine wpAnyH_take (i := 5) (v := ?_) rfl (by kernel_rfl) (by kernel_rfl) (by kernel_rfl) (fun _ _ _ h => h) (Or.inl ⟨by rfl, ?_⟩) (by assumption) ?_
  rotate_left
  · intro wS hSw
    (have q0 : wS.cell? ⟨b, 0, none⟩ = some (.slice (some ⟨qb, qo, none⟩) n qcap) := World.rowIs.cell hSw.1 (i := 0) (by decide); have q20 : wS.cell? ⟨b, 20, none⟩ = some (.int .i64 (s.place : Int)) := World.rowIs.cell hSw.1 (i := 20) (by decide); obtain ⟨i0, i1, i2, i3⟩ := hSw.2; clear hSw)
    go_simp
    all_goals with_reducible rfl
  (try simp only [Act.put, List.setIfInBounds_toArray, List.set_cons_zero, List.set_cons_succ])
  refine wpAnyH_take (i := 6) (v := ?_) rfl (by kernel_rfl) (by kernel_rfl) (by kernel_rfl) (fun _ _ _ h => h) (Or.inl ⟨by rfl, ?_⟩) (by assumption) ?_
  rotate_left
  · intro wS hSw
    (have q0 : wS.cell? ⟨b, 0, none⟩ = some (.slice (some ⟨qb, qo, none⟩) n qcap) := World.rowIs.cell hSw.1 (i := 0) (by decide); have q20 : wS.cell? ⟨b, 20, none⟩ = some (.int .i64 (s.place : Int)) := World.rowIs.cell hSw.1 (i := 20) (by decide); obtain ⟨i0, i1, i2, i3⟩ := hSw.2; clear hSw)
    go_simp
    all_goals with_reducible rfl
  (try simp only [Act.put, List.setIfInBounds_toArray, List.set_cons_zero, List.set_cons_succ])
  refine wpAnyH_take (i := 7) (v := ?_) rfl (by kernel_rfl) (by kernel_rfl) (by kernel_rfl) (fun _ _ _ h => h) (Or.inl ⟨by rfl, ?_⟩) (by assumption) ?_
  rotate_left
  · intro wS hSw
    (have q0 : wS.cell? ⟨b, 0, none⟩ = some (.slice (some ⟨qb, qo, none⟩) n qcap) := World.rowIs.cell hSw.1 (i := 0) (by decide); have q20 : wS.cell? ⟨b, 20, none⟩ = some (.int .i64 (s.place : Int)) := World.rowIs.cell hSw.1 (i := 20) (by decide); obtain ⟨i0, i1, i2, i3⟩ := hSw.2; clear hSw)
    go_simp
    all_goals with_reducible rfl
  (try simp only [Act.put, List.setIfInBounds_toArray, List.set_cons_zero, List.set_cons_succ])
  refine wpAnyH_take (i := 8) (v := ?_) rfl (by kernel_rfl) (by kernel_rfl) (by kernel_rfl) (fun _ _ _ h => h) (Or.inl ⟨by rfl, ?_⟩) (by assumption) ?_
  rotate_left
  · intro wS hSw
    (have q0 : wS.cell? ⟨b, 0, none⟩ = some (.slice (some ⟨qb, qo, none⟩) n qcap) := World.rowIs.cell hSw.1 (i := 0) (by decide); have q20 : wS.cell? ⟨b, 20, none⟩ = some (.int .i64 (s.place : Int)) := World.rowIs.cell hSw.1 (i := 20) (by decide); obtain ⟨i0, i1, i2, i3⟩ := hSw.2; clear hSw)
    go_simp
    all_goals with_reducible rfl
  (try simp only [Act.put, List.setIfInBounds_toArray, List.set_cons_zero, List.set_cons_succ])
  refine wpAnyH_take (i := 9) (v := ?_) rfl (by kernel_rfl) (by kernel_rfl) (by kernel_rfl) (fun _ _ _ h => h) (Or.inl ⟨by rfl, ?_⟩) (by assumption) ?_
  rotate_left
  · intro wS hSw
    (have q0 : wS.cell? ⟨b, 0, none⟩ = some (.slice (some ⟨qb, qo, none⟩) n qcap) := World.rowIs.cell hSw.1 (i := 0) (by decide); have q20 : wS.cell? ⟨b, 20, none⟩ = some (.int .i64 (s.place : Int)) := World.rowIs.cell hSw.1 (i := 20) (by decide); obtain ⟨i0, i1, i2, i3⟩ := hSw.2; clear hSw)
    go_simp
    all_goals with_reducible rfl
  (try simp only [Act.put, List.setIfInBounds_toArray, List.set_cons_zero, List.set_cons_succ])
  refine held_one (i := 10) (by kernel_rfl) rfl (fun K hK => ?_)
  go_simp
  refine hK.out _ _ ⟨hHeld.1.alloc _, hHeld.2.below (box_below _ _) hql⟩ (fun hH2 => ?_)
  clear hK K hHeld
  (try simp only [Act.put, List.setIfInBounds_toArray, List.set_cons_zero, List.set_cons_succ])
  have R1 : ((w.drewN (nq + 1)).alloc (.cells #[.int .u16 0, .int .u8 0, .int .u8 0, .int .u32 0] 60)).rowIs w.heap.size 60 4 (insF ⟨0, 0, 0, 0#32⟩) := ins_new _
  have B1 := (below_drawn (Below.refl w.heap.size w) (nq + 1)).trans (box_below (w.drewN (nq + 1)) (.cells #[.int .u16 0, .int .u8 0, .int .u8 0, .int .u32 0] 60))
  have hbl := World.rowIs.lt HS.out.1
  generalize (w.drewN (nq + 1)).alloc (.cells #[.int .u16 0, .int .u8 0, .int .u8 0, .int .u32 0] 60) = W1 at R1 B1 hH2 ⊢
  have e0 : W1.cell? ⟨w.heap.size, 0, none⟩ = some (.int .u16 0) := World.rowIs.cell R1 (i := 0) (by decide)
  have e1 : W1.cell? ⟨w.heap.size, 1, none⟩ = some (.int .u8 0) := World.rowIs.cell R1 (i := 1) (by decide)
  have e2 : W1.cell? ⟨w.heap.size, 2, none⟩ = some (.int .u8 0) := World.rowIs.cell R1 (i := 2) (by decide)
  have e3 : W1.cell? ⟨w.heap.size, 3, none⟩ = some (.int .u32 0) := World.rowIs.cell R1 (i := 3) (by decide)
  have y0 := World.rowIs.frozen R1 0
  have y1 := World.rowIs.frozen R1 1
  have y2 := World.rowIs.frozen R1 2
  have y3 := World.rowIs.frozen R1 3
  have R2 := Lib.hid (ins_set R1 60 jt jf k)
  have G2 := Lib.hid (ins_grown (World.grownBy.refl W1 (some w.heap.size)) (.int .u16 60) (.int .u8 (jt : Int)) (.int .u8 (jf : Int)) (.int .u32 (k.toNat : Int)))
  have HB1 := Lib.hid B1
  have HH := Lib.hid hH2
  clear R1 B1 hH2
  refine held_one (i := 11) (by kernel_rfl) rfl (fun K hK => ?_)
  go_simp
  have hM2 := HH.out.1.grown G2.out (by omega)
  have hI2 := HH.out.2.grown G2.out (by omega)
  have hB2 := below_grown HB1.out G2.out (Nat.le_refl _) (Nat.le_refl _)
  have hZ2 := hz.below hB2 hz.1
  refine hK.out _ _ ⟨hM2, hI2⟩ (fun hX2 => ?_)
  clear hX2 hK K e0 e1 e2 e3 y0 y1 y2 y3 HH G2 HB1 hI2
  have hR2 := R2.out
  clear R2
  refine wpAnyH_done (by kernel_rfl) ?_ _
  generalize (((W1.setCell ⟨w.heap.size, 0, none⟩ (.int .u16 60)).setCell ⟨w.heap.size, 1, none⟩ (.int .u8 (jt : Int))).setCell ⟨w.heap.size, 2, none⟩ (.int .u8 (jf : Int))).setCell ⟨w.heap.size, 3, none⟩ (.int .u32 (k.toNat : Int)) = W2 at hM2 hB2 hZ2 hR2 ⊢
  (try clear W1)
  have i0 : W2.cell? ⟨w.heap.size, 0, none⟩ = some (.int .u16 60) := World.rowIs.cell hR2 (i := 0) (by decide)
  have i1 : W2.cell? ⟨w.heap.size, 1, none⟩ = some (.int .u8 (jt : Int)) := World.rowIs.cell hR2 (i := 1) (by decide)
  have i2 : W2.cell? ⟨w.heap.size, 2, none⟩ = some (.int .u8 (jf : Int)) := World.rowIs.cell hR2 (i := 2) (by decide)
  have i3 : W2.cell? ⟨w.heap.size, 3, none⟩ = some (.int .u32 (k.toNat : Int)) := World.rowIs.cell hR2 (i := 3) (by decide)
  have HR := Lib.hid hR2
  have HM := Lib.hid hM2
  have HB := Lib.hid hB2
  have HZ := Lib.hid hZ2
  have hs2 := hB2.size
  have hg2 := World.rowIs.lt hR2
  have HW := Lib.hid (fun w => (ref_wrong ⟨60, jt, jf, k⟩ w : Calls Tryz.prog 34 #[.agg #[.int .u16 60, .int .u8 (jt : Int), .int .u8 (jf : Int), .int .u32 (k.toNat : Int)]] w (WrongP w (wrongE 60 k))))
  clear hR2 hM2 hB2 hZ2 hz HS
  go_wp2_with (first
    | (go_at_call 34; (with_reducible refine (HW.out _).mono ?_); rintro e W3 ⟨rfl, hb3⟩; have HM3 := Lib.hid (HM.out.below hb3 (Nat.lt_of_lt_of_le hbl hs2)); have HB3 := Lib.hid (HB.out.trans (hb3.mono hs2)); have HZ3 := Lib.hid (HZ.out.below hb3 HZ.out.1); have HR3 := rowIs_below HR.out hb3 hg2; have hs3 := Nat.lt_of_lt_of_le hg2 hb3.size; have j0 : W3.cell? ⟨w.heap.size, 0, none⟩ = some (.int .u16 60) := World.rowIs.cell HR3 (i := 0) (by decide); have j1 : W3.cell? ⟨w.heap.size, 1, none⟩ = some (.int .u8 (jt : Int)) := World.rowIs.cell HR3 (i := 1) (by decide); have j2 : W3.cell? ⟨w.heap.size, 2, none⟩ = some (.int .u8 (jf : Int)) := World.rowIs.cell HR3 (i := 2) (by decide); have j3 : W3.cell? ⟨w.heap.size, 3, none⟩ = some (.int .u32 (k.toNat : Int)) := World.rowIs.cell HR3 (i := 3) (by decide); have m2 : W3.cell? ⟨b, 2, none⟩ = some (.int .u32 (s.a.toNat : Int)) := World.rowIs.cell HM3.out (i := 2) (by decide); have m3 : W3.cell? ⟨b, 3, none⟩ = some (.int .u32 (s.x.toNat : Int)) := World.rowIs.cell HM3.out (i := 3) (by decide); have m20 : W3.cell? ⟨b, 20, none⟩ = some (.int .i64 (s.place : Int)) := World.rowIs.cell HM3.out (i := 20) (by decide); have m21 : W3.cell? ⟨b, 21, none⟩ = some (.int .i64 (s.steps : Int)) := World.rowIs.cell HM3.out (i := 21) (by decide); have n2 := World.rowIs.frozen HM3.out 2; have n20 := World.rowIs.frozen HM3.out 20; have n21 := World.rowIs.frozen HM3.out 21; clear i0 i1 i2 i3 hb3 HR HR3 HM HB HZ hg2)
    | (go_at_call 35; (with_reducible refine (ref_alu_is HA.out _).mono ?_); rintro e w' ⟨rfl, rfl⟩)
    | (go_at_call 36; (with_reducible refine (ref_Jump_is HJ.out _).mono ?_); rintro e w' ⟨rfl, rfl⟩)
    | (go_at_call 37; (with_reducible refine (ends_zero _ _ _ _ _ HM3.out hs).mono ?_); rintro e w1 ⟨rfl, hm, hg⟩; have HM4 := Lib.hid (And.intro hm hg); clear hm hg))
  go_ret
  exact ⟨rfl, HM4.out.1, grown_trans (grown_of_below HB3.out _) HM4.out.2⟩

set_option maxRecDepth 100000 in
set_option maxHeartbeats 8000000 in
theorem step_alu_x (h : Going w b qb qo n qcap db doff dcap z s c jt jf k) (hw : wrongE c k = 0) (ha : aluC c = true) (hx : usesX c = true) (hc : ¬ c = 60) (hd : (c : Int) = 52 ∨ (c : Int) = 60 → s.x ≠ 0#32) :
    Calls Tryz.prog 15 #[.pointer (some ⟨b, 0, none⟩)] w (MethP w b (.slice (some ⟨qb, qo, none⟩) n qcap) (.slice (some ⟨db, doff, none⟩) 64 dcap) false (Mach.on { s with a := twoN (opN c) s.a s.x } 1)) := by
  have HA := Lib.hid ha
  have HJ := Lib.hid (alu_not ha)
  have HT := Lib.hid (fun w => (ref_Two c s.a s.x ha hd w))
  have hx8 := and_eight (.inl ha)
  rw [hx] at hx8
  simp only [Bool.false_eq_true, if_false, if_true] at hx8
  clear ha hx hd
  have c22 : w.cell? ⟨b, 22, none⟩ = some (.bool false) := by have := World.rowIs.cell h.mach (i := 22) (by decide); rw [this]; exact congrArg (fun x => some (Value.bool x)) h.going
  have c1 : w.cell? ⟨b, 1, none⟩ = some (.slice (some ⟨db, doff, none⟩) 64 dcap) := World.rowIs.cell h.mach (i := 1) (by decide)
  have c0 : w.cell? ⟨b, 0, none⟩ = some (.slice (some ⟨qb, qo, none⟩) n qcap) := World.rowIs.cell h.mach (i := 0) (by decide)
  have c20 : w.cell? ⟨b, 20, none⟩ = some (.int .i64 (s.place : Int)) := World.rowIs.cell h.mach (i := 20) (by decide)
  have hp : s.place < n := h.place
  have hp' : ¬ (n : Int) ≤ (s.place : Int) := by omega
  have hn := h.len
  have hs := h.steps
  have hql := h.qlt
  have hz := h.bytes
  have HS := Lib.hid (And.intro h.mach h.ins)
  clear h hp
  go_enter Tryz.func15, Tryz.ntmps15
  go_wp2
  go_quiet (fail)
  go_wp2
  refine wp_region_held_drew (S := fun w' => MachAt w' b (.slice (some ⟨qb, qo, none⟩) n qcap) (.slice (some ⟨db, doff, none⟩) 64 dcap) s ∧ InsCells w' qb (qo + s.place * 4) ⟨c, jt, jf, k⟩) (by kernel_rfl) ⟨(HS.out.1.drawn _).drew, HS.out.2⟩ (fun hHeld => ?_)
  clear c22 c1 c0 c20
  refine wpAnyH_take (i := 0) (v := ?_) rfl (by kernel_rfl) (by kernel_rfl) (by kernel_rfl) (fun _ _ _ h => h) (Or.inl ⟨by rfl, ?_⟩) (by assumption) ?_
  rotate_left
  · intro wS hSw
    (have q0 : wS.cell? ⟨b, 0, none⟩ = some (.slice (some ⟨qb, qo, none⟩) n qcap) := World.rowIs.cell hSw.1 (i := 0) (by decide); have q20 : wS.cell? ⟨b, 20, none⟩ = some (.int .i64 (s.place : Int)) := World.rowIs.cell hSw.1 (i := 20) (by decide); obtain ⟨i0, i1, i2, i3⟩ := hSw.2; clear hSw)
    go_simp
    all_goals with_reducible rfl
  (try simp only [Act.put, List.setIfInBounds_toArray, List.set_cons_zero, List.set_cons_succ])
  refine wpAnyH_take (i := 1) (v := ?_) rfl (by kernel_rfl) (by kernel_rfl) (by kernel_rfl) (fun _ _ _ h => h) (Or.inl ⟨by rfl, ?_⟩) (by assumption) ?_
  rotate_left
  · intro wS hSw
    (have q0 : wS.cell? ⟨b, 0, none⟩ = some (.slice (some ⟨qb, qo, none⟩) n qcap) := World.rowIs.cell hSw.1 (i := 0) (by decide); have q20 : wS.cell? ⟨b, 20, none⟩ = some (.int .i64 (s.place : Int)) := World.rowIs.cell hSw.1 (i := 20) (by decide); obtain ⟨i0, i1, i2, i3⟩ := hSw.2; clear hSw)
    go_simp
    all_goals with_reducible rfl
  (try simp only [Act.put, List.setIfInBounds_toArray, List.set_cons_zero, List.set_cons_succ])
  refine wpAnyH_take (i := 2) (v := ?_) rfl (by kernel_rfl) (by kernel_rfl) (by kernel_rfl) (fun _ _ _ h => h) (Or.inl ⟨by rfl, ?_⟩) (by assumption) ?_
  rotate_left
  · intro wS hSw
    (have q0 : wS.cell? ⟨b, 0, none⟩ = some (.slice (some ⟨qb, qo, none⟩) n qcap) := World.rowIs.cell hSw.1 (i := 0) (by decide); have q20 : wS.cell? ⟨b, 20, none⟩ = some (.int .i64 (s.place : Int)) := World.rowIs.cell hSw.1 (i := 20) (by decide); obtain ⟨i0, i1, i2, i3⟩ := hSw.2; clear hSw)
    go_simp
    all_goals with_reducible rfl
  (try simp only [Act.put, List.setIfInBounds_toArray, List.set_cons_zero, List.set_cons_succ])
  refine wpAnyH_take (i := 3) (v := ?_) rfl (by kernel_rfl) (by kernel_rfl) (by kernel_rfl) (fun _ _ _ h => h) (Or.inl ⟨by rfl, ?_⟩) (by assumption) ?_
  rotate_left
  · intro wS hSw
    (have q0 : wS.cell? ⟨b, 0, none⟩ = some (.slice (some ⟨qb, qo, none⟩) n qcap) := World.rowIs.cell hSw.1 (i := 0) (by decide); have q20 : wS.cell? ⟨b, 20, none⟩ = some (.int .i64 (s.place : Int)) := World.rowIs.cell hSw.1 (i := 20) (by decide); obtain ⟨i0, i1, i2, i3⟩ := hSw.2; clear hSw)
    go_simp
    all_goals with_reducible rfl
  (try simp only [Act.put, List.setIfInBounds_toArray, List.set_cons_zero, List.set_cons_succ])
  refine wpAnyH_take (i := 4) (v := ?_) rfl (by kernel_rfl) (by kernel_rfl) (by kernel_rfl) (fun _ _ _ h => h) (Or.inl ⟨by rfl, ?_⟩) (by assumption) ?_
  rotate_left
  · intro wS hSw
    (have q0 : wS.cell? ⟨b, 0, none⟩ = some (.slice (some ⟨qb, qo, none⟩) n qcap) := World.rowIs.cell hSw.1 (i := 0) (by decide); have q20 : wS.cell? ⟨b, 20, none⟩ = some (.int .i64 (s.place : Int)) := World.rowIs.cell hSw.1 (i := 20) (by decide); obtain ⟨i0, i1, i2, i3⟩ := hSw.2; clear hSw)
    go_simp
    all_goals with_reducible rfl
  (try simp only [Act.put, List.setIfInBounds_toArray, List.set_cons_zero, List.set_cons_succ])
  refine wpAnyH_take (i := 5) (v := ?_) rfl (by kernel_rfl) (by kernel_rfl) (by kernel_rfl) (fun _ _ _ h => h) (Or.inl ⟨by rfl, ?_⟩) (by assumption) ?_
  rotate_left
  · intro wS hSw
    (have q0 : wS.cell? ⟨b, 0, none⟩ = some (.slice (some ⟨qb, qo, none⟩) n qcap) := World.rowIs.cell hSw.1 (i := 0) (by decide); have q20 : wS.cell? ⟨b, 20, none⟩ = some (.int .i64 (s.place : Int)) := World.rowIs.cell hSw.1 (i := 20) (by decide); obtain ⟨i0, i1, i2, i3⟩ := hSw.2; clear hSw)
    go_simp
    all_goals with_reducible rfl
  (try simp only [Act.put, List.setIfInBounds_toArray, List.set_cons_zero, List.set_cons_succ])
  refine wpAnyH_take (i := 6) (v := ?_) rfl (by kernel_rfl) (by kernel_rfl) (by kernel_rfl) (fun _ _ _ h => h) (Or.inl ⟨by rfl, ?_⟩) (by assumption) ?_
  rotate_left
  · intro wS hSw
    (have q0 : wS.cell? ⟨b, 0, none⟩ = some (.slice (some ⟨qb, qo, none⟩) n qcap) := World.rowIs.cell hSw.1 (i := 0) (by decide); have q20 : wS.cell? ⟨b, 20, none⟩ = some (.int .i64 (s.place : Int)) := World.rowIs.cell hSw.1 (i := 20) (by decide); obtain ⟨i0, i1, i2, i3⟩ := hSw.2; clear hSw)
    go_simp
    all_goals with_reducible rfl
  (try simp only [Act.put, List.setIfInBounds_toArray, List.set_cons_zero, List.set_cons_succ])
  refine wpAnyH_take (i := 7) (v := ?_) rfl (by kernel_rfl) (by kernel_rfl) (by kernel_rfl) (fun _ _ _ h => h) (Or.inl ⟨by rfl, ?_⟩) (by assumption) ?_
  rotate_left
  · intro wS hSw
    (have q0 : wS.cell? ⟨b, 0, none⟩ = some (.slice (some ⟨qb, qo, none⟩) n qcap) := World.rowIs.cell hSw.1 (i := 0) (by decide); have q20 : wS.cell? ⟨b, 20, none⟩ = some (.int .i64 (s.place : Int)) := World.rowIs.cell hSw.1 (i := 20) (by decide); obtain ⟨i0, i1, i2, i3⟩ := hSw.2; clear hSw)
    go_simp
    all_goals with_reducible rfl
  (try simp only [Act.put, List.setIfInBounds_toArray, List.set_cons_zero, List.set_cons_succ])
  refine wpAnyH_take (i := 8) (v := ?_) rfl (by kernel_rfl) (by kernel_rfl) (by kernel_rfl) (fun _ _ _ h => h) (Or.inl ⟨by rfl, ?_⟩) (by assumption) ?_
  rotate_left
  · intro wS hSw
    (have q0 : wS.cell? ⟨b, 0, none⟩ = some (.slice (some ⟨qb, qo, none⟩) n qcap) := World.rowIs.cell hSw.1 (i := 0) (by decide); have q20 : wS.cell? ⟨b, 20, none⟩ = some (.int .i64 (s.place : Int)) := World.rowIs.cell hSw.1 (i := 20) (by decide); obtain ⟨i0, i1, i2, i3⟩ := hSw.2; clear hSw)
    go_simp
    all_goals with_reducible rfl
  (try simp only [Act.put, List.setIfInBounds_toArray, List.set_cons_zero, List.set_cons_succ])
  refine wpAnyH_take (i := 9) (v := ?_) rfl (by kernel_rfl) (by kernel_rfl) (by kernel_rfl) (fun _ _ _ h => h) (Or.inl ⟨by rfl, ?_⟩) (by assumption) ?_
  rotate_left
  · intro wS hSw
    (have q0 : wS.cell? ⟨b, 0, none⟩ = some (.slice (some ⟨qb, qo, none⟩) n qcap) := World.rowIs.cell hSw.1 (i := 0) (by decide); have q20 : wS.cell? ⟨b, 20, none⟩ = some (.int .i64 (s.place : Int)) := World.rowIs.cell hSw.1 (i := 20) (by decide); obtain ⟨i0, i1, i2, i3⟩ := hSw.2; clear hSw)
    go_simp
    all_goals with_reducible rfl
  (try simp only [Act.put, List.setIfInBounds_toArray, List.set_cons_zero, List.set_cons_succ])
  refine held_one (i := 10) (by kernel_rfl) rfl (fun K hK => ?_)
  go_simp
  refine hK.out _ _ ⟨hHeld.1.alloc _, hHeld.2.below (box_below _ _) hql⟩ (fun hH2 => ?_)
  clear hK K hHeld
  (try simp only [Act.put, List.setIfInBounds_toArray, List.set_cons_zero, List.set_cons_succ])
  have R1 : ((w.drewN (nq + 1)).alloc (.cells #[.int .u16 0, .int .u8 0, .int .u8 0, .int .u32 0] 60)).rowIs w.heap.size 60 4 (insF ⟨0, 0, 0, 0#32⟩) := ins_new _
  have B1 := (below_drawn (Below.refl w.heap.size w) (nq + 1)).trans (box_below (w.drewN (nq + 1)) (.cells #[.int .u16 0, .int .u8 0, .int .u8 0, .int .u32 0] 60))
  have hbl := World.rowIs.lt HS.out.1
  generalize (w.drewN (nq + 1)).alloc (.cells #[.int .u16 0, .int .u8 0, .int .u8 0, .int .u32 0] 60) = W1 at R1 B1 hH2 ⊢
  have e0 : W1.cell? ⟨w.heap.size, 0, none⟩ = some (.int .u16 0) := World.rowIs.cell R1 (i := 0) (by decide)
  have e1 : W1.cell? ⟨w.heap.size, 1, none⟩ = some (.int .u8 0) := World.rowIs.cell R1 (i := 1) (by decide)
  have e2 : W1.cell? ⟨w.heap.size, 2, none⟩ = some (.int .u8 0) := World.rowIs.cell R1 (i := 2) (by decide)
  have e3 : W1.cell? ⟨w.heap.size, 3, none⟩ = some (.int .u32 0) := World.rowIs.cell R1 (i := 3) (by decide)
  have y0 := World.rowIs.frozen R1 0
  have y1 := World.rowIs.frozen R1 1
  have y2 := World.rowIs.frozen R1 2
  have y3 := World.rowIs.frozen R1 3
  have R2 := Lib.hid (ins_set R1 c jt jf k)
  have G2 := Lib.hid (ins_grown (World.grownBy.refl W1 (some w.heap.size)) (.int .u16 c) (.int .u8 (jt : Int)) (.int .u8 (jf : Int)) (.int .u32 (k.toNat : Int)))
  have HB1 := Lib.hid B1
  have HH := Lib.hid hH2
  clear R1 B1 hH2
  refine held_one (i := 11) (by kernel_rfl) rfl (fun K hK => ?_)
  go_simp
  have hM2 := HH.out.1.grown G2.out (by omega)
  have hI2 := HH.out.2.grown G2.out (by omega)
  have hB2 := below_grown HB1.out G2.out (Nat.le_refl _) (Nat.le_refl _)
  have hZ2 := hz.below hB2 hz.1
  refine hK.out _ _ ⟨hM2, hI2⟩ (fun hX2 => ?_)
  clear hX2 hK K e0 e1 e2 e3 y0 y1 y2 y3 HH G2 HB1 hI2
  have hR2 := R2.out
  clear R2
  refine wpAnyH_done (by kernel_rfl) ?_ _
  generalize (((W1.setCell ⟨w.heap.size, 0, none⟩ (.int .u16 c)).setCell ⟨w.heap.size, 1, none⟩ (.int .u8 (jt : Int))).setCell ⟨w.heap.size, 2, none⟩ (.int .u8 (jf : Int))).setCell ⟨w.heap.size, 3, none⟩ (.int .u32 (k.toNat : Int)) = W2 at hM2 hB2 hZ2 hR2 ⊢
  (try clear W1)
  have i0 : W2.cell? ⟨w.heap.size, 0, none⟩ = some (.int .u16 c) := World.rowIs.cell hR2 (i := 0) (by decide)
  have i1 : W2.cell? ⟨w.heap.size, 1, none⟩ = some (.int .u8 (jt : Int)) := World.rowIs.cell hR2 (i := 1) (by decide)
  have i2 : W2.cell? ⟨w.heap.size, 2, none⟩ = some (.int .u8 (jf : Int)) := World.rowIs.cell hR2 (i := 2) (by decide)
  have i3 : W2.cell? ⟨w.heap.size, 3, none⟩ = some (.int .u32 (k.toNat : Int)) := World.rowIs.cell hR2 (i := 3) (by decide)
  have HR := Lib.hid hR2
  have HM := Lib.hid hM2
  have HB := Lib.hid hB2
  have HZ := Lib.hid hZ2
  have hs2 := hB2.size
  have hg2 := World.rowIs.lt hR2
  have HW := Lib.hid (fun w => (ref_wrong ⟨c, jt, jf, k⟩ w : Calls Tryz.prog 34 #[.agg #[.int .u16 c, .int .u8 (jt : Int), .int .u8 (jf : Int), .int .u32 (k.toNat : Int)]] w (WrongP w (wrongE c k))))
  clear hR2 hM2 hB2 hZ2 hz HS
  have hw2 : IntKind.i64.wrap ((s.place : Int) + 1) = (s.place : Int) + 1 := IntWalk.i64_in _ (by omega)
  go_wp2_with (first
    | (go_at_call 34; (with_reducible refine (HW.out _).mono ?_); rintro e W3 ⟨rfl, hb3⟩; have HM3 := Lib.hid (HM.out.below hb3 (Nat.lt_of_lt_of_le hbl hs2)); have HB3 := Lib.hid (HB.out.trans (hb3.mono hs2)); have HZ3 := Lib.hid (HZ.out.below hb3 HZ.out.1); have HR3 := rowIs_below HR.out hb3 hg2; have hs3 := Nat.lt_of_lt_of_le hg2 hb3.size; have j0 : W3.cell? ⟨w.heap.size, 0, none⟩ = some (.int .u16 c) := World.rowIs.cell HR3 (i := 0) (by decide); have j1 : W3.cell? ⟨w.heap.size, 1, none⟩ = some (.int .u8 (jt : Int)) := World.rowIs.cell HR3 (i := 1) (by decide); have j2 : W3.cell? ⟨w.heap.size, 2, none⟩ = some (.int .u8 (jf : Int)) := World.rowIs.cell HR3 (i := 2) (by decide); have j3 : W3.cell? ⟨w.heap.size, 3, none⟩ = some (.int .u32 (k.toNat : Int)) := World.rowIs.cell HR3 (i := 3) (by decide); have m2 : W3.cell? ⟨b, 2, none⟩ = some (.int .u32 (s.a.toNat : Int)) := World.rowIs.cell HM3.out (i := 2) (by decide); have m3 : W3.cell? ⟨b, 3, none⟩ = some (.int .u32 (s.x.toNat : Int)) := World.rowIs.cell HM3.out (i := 3) (by decide); have m20 : W3.cell? ⟨b, 20, none⟩ = some (.int .i64 (s.place : Int)) := World.rowIs.cell HM3.out (i := 20) (by decide); have m21 : W3.cell? ⟨b, 21, none⟩ = some (.int .i64 (s.steps : Int)) := World.rowIs.cell HM3.out (i := 21) (by decide); have n2 := World.rowIs.frozen HM3.out 2; have n20 := World.rowIs.frozen HM3.out 20; have n21 := World.rowIs.frozen HM3.out 21; clear i0 i1 i2 i3 hb3 HR HR3 HM HB HZ hg2)
    | (go_at_call 35; (with_reducible refine (ref_alu_is HA.out _).mono ?_); rintro e w' ⟨rfl, rfl⟩)
    | (go_at_call 36; (with_reducible refine (ref_Jump_is HJ.out _).mono ?_); rintro e w' ⟨rfl, rfl⟩))
  have t0 : ({ W3 with drawn := W3.drawn + 1 } : World).cell? ⟨w.heap.size, 0, none⟩ = some (.int .u16 c) := j0
  have t2 : ({ W3 with drawn := W3.drawn + 1 } : World).cell? ⟨b, 2, none⟩ = some (.int .u32 (s.a.toNat : Int)) := m2
  go_still_tail 11, (by kernel_rfl)
  still_call ((HT.out _).mono fun _ _ h => ⟨h.1, h.2.symm⟩)
  repeat still_step
  refine wpStill_nil ?_
  change wpList _ _ _ _ _ W3.drew
  have HM4 := Lib.hid HM3.out.drew
  have HB4 := Lib.hid (show Below w.heap.size w W3.drew from below_drawn HB3.out 1)
  clear t0 t2 j0 j1 j2 j3 m2 m3 m20 m21 n2 n20 n21 HM3 HB3 HZ3
  generalize W3.drew = W4 at HM4 HB4 ⊢
  have m2 : W4.cell? ⟨b, 2, none⟩ = some (.int .u32 (s.a.toNat : Int)) := World.rowIs.cell HM4.out (i := 2) (by decide)
  have m20 : W4.cell? ⟨b, 20, none⟩ = some (.int .i64 (s.place : Int)) := World.rowIs.cell HM4.out (i := 20) (by decide)
  have m21 : W4.cell? ⟨b, 21, none⟩ = some (.int .i64 (s.steps : Int)) := World.rowIs.cell HM4.out (i := 21) (by decide)
  have n2 := World.rowIs.frozen HM4.out 2
  have n20 := World.rowIs.frozen HM4.out 20
  have n21 := World.rowIs.frozen HM4.out 21
  go_wp2
  go_ret
  have q5 := ((HM4.out.set_a (twoN (opN c) s.a s.x)).set_place (s.place + 1)).set_steps (s.steps + 1)
  exact ⟨rfl, q5, grown_cell (grown_cell (grown_cell (grown_of_below HB4.out _) 2 _) 20 _) 21 _⟩

set_option maxRecDepth 100000 in
set_option maxHeartbeats 8000000 in
theorem step_alu_k (h : Going w b qb qo n qcap db doff dcap z s c jt jf k) (hw : wrongE c k = 0) (ha : aluC c = true) (hx : usesX c = false) (hc : ¬ c = 60) (hd : (c : Int) = 52 ∨ (c : Int) = 60 → k ≠ 0#32) :
    Calls Tryz.prog 15 #[.pointer (some ⟨b, 0, none⟩)] w (MethP w b (.slice (some ⟨qb, qo, none⟩) n qcap) (.slice (some ⟨db, doff, none⟩) 64 dcap) false (Mach.on { s with a := twoN (opN c) s.a k } 1)) := by
  have HA := Lib.hid ha
  have HJ := Lib.hid (alu_not ha)
  have HT := Lib.hid (fun w => (ref_Two c s.a k ha hd w))
  have hx8 := and_eight (.inl ha)
  rw [hx] at hx8
  simp only [Bool.false_eq_true, if_false, if_true] at hx8
  clear ha hx hd
  have c22 : w.cell? ⟨b, 22, none⟩ = some (.bool false) := by have := World.rowIs.cell h.mach (i := 22) (by decide); rw [this]; exact congrArg (fun x => some (Value.bool x)) h.going
  have c1 : w.cell? ⟨b, 1, none⟩ = some (.slice (some ⟨db, doff, none⟩) 64 dcap) := World.rowIs.cell h.mach (i := 1) (by decide)
  have c0 : w.cell? ⟨b, 0, none⟩ = some (.slice (some ⟨qb, qo, none⟩) n qcap) := World.rowIs.cell h.mach (i := 0) (by decide)
  have c20 : w.cell? ⟨b, 20, none⟩ = some (.int .i64 (s.place : Int)) := World.rowIs.cell h.mach (i := 20) (by decide)
  have hp : s.place < n := h.place
  have hp' : ¬ (n : Int) ≤ (s.place : Int) := by omega
  have hn := h.len
  have hs := h.steps
  have hql := h.qlt
  have hz := h.bytes
  have HS := Lib.hid (And.intro h.mach h.ins)
  clear h hp
  go_enter Tryz.func15, Tryz.ntmps15
  go_wp2
  go_quiet (fail)
  go_wp2
  refine wp_region_held_drew (S := fun w' => MachAt w' b (.slice (some ⟨qb, qo, none⟩) n qcap) (.slice (some ⟨db, doff, none⟩) 64 dcap) s ∧ InsCells w' qb (qo + s.place * 4) ⟨c, jt, jf, k⟩) (by kernel_rfl) ⟨(HS.out.1.drawn _).drew, HS.out.2⟩ (fun hHeld => ?_)
  clear c22 c1 c0 c20
  refine wpAnyH_take (i := 0) (v := ?_) rfl (by kernel_rfl) (by kernel_rfl) (by kernel_rfl) (fun _ _ _ h => h) (Or.inl ⟨by rfl, ?_⟩) (by assumption) ?_
  rotate_left
  · intro wS hSw
    (have q0 : wS.cell? ⟨b, 0, none⟩ = some (.slice (some ⟨qb, qo, none⟩) n qcap) := World.rowIs.cell hSw.1 (i := 0) (by decide); have q20 : wS.cell? ⟨b, 20, none⟩ = some (.int .i64 (s.place : Int)) := World.rowIs.cell hSw.1 (i := 20) (by decide); obtain ⟨i0, i1, i2, i3⟩ := hSw.2; clear hSw)
    go_simp
    all_goals with_reducible rfl
  (try simp only [Act.put, List.setIfInBounds_toArray, List.set_cons_zero, List.set_cons_succ])
  refine wpAnyH_take (i := 1) (v := ?_) rfl (by kernel_rfl) (by kernel_rfl) (by kernel_rfl) (fun _ _ _ h => h) (Or.inl ⟨by rfl, ?_⟩) (by assumption) ?_
  rotate_left
  · intro wS hSw
    (have q0 : wS.cell? ⟨b, 0, none⟩ = some (.slice (some ⟨qb, qo, none⟩) n qcap) := World.rowIs.cell hSw.1 (i := 0) (by decide); have q20 : wS.cell? ⟨b, 20, none⟩ = some (.int .i64 (s.place : Int)) := World.rowIs.cell hSw.1 (i := 20) (by decide); obtain ⟨i0, i1, i2, i3⟩ := hSw.2; clear hSw)
    go_simp
    all_goals with_reducible rfl
  (try simp only [Act.put, List.setIfInBounds_toArray, List.set_cons_zero, List.set_cons_succ])
  refine wpAnyH_take (i := 2) (v := ?_) rfl (by kernel_rfl) (by kernel_rfl) (by kernel_rfl) (fun _ _ _ h => h) (Or.inl ⟨by rfl, ?_⟩) (by assumption) ?_
  rotate_left
  · intro wS hSw
    (have q0 : wS.cell? ⟨b, 0, none⟩ = some (.slice (some ⟨qb, qo, none⟩) n qcap) := World.rowIs.cell hSw.1 (i := 0) (by decide); have q20 : wS.cell? ⟨b, 20, none⟩ = some (.int .i64 (s.place : Int)) := World.rowIs.cell hSw.1 (i := 20) (by decide); obtain ⟨i0, i1, i2, i3⟩ := hSw.2; clear hSw)
    go_simp
    all_goals with_reducible rfl
  (try simp only [Act.put, List.setIfInBounds_toArray, List.set_cons_zero, List.set_cons_succ])
  refine wpAnyH_take (i := 3) (v := ?_) rfl (by kernel_rfl) (by kernel_rfl) (by kernel_rfl) (fun _ _ _ h => h) (Or.inl ⟨by rfl, ?_⟩) (by assumption) ?_
  rotate_left
  · intro wS hSw
    (have q0 : wS.cell? ⟨b, 0, none⟩ = some (.slice (some ⟨qb, qo, none⟩) n qcap) := World.rowIs.cell hSw.1 (i := 0) (by decide); have q20 : wS.cell? ⟨b, 20, none⟩ = some (.int .i64 (s.place : Int)) := World.rowIs.cell hSw.1 (i := 20) (by decide); obtain ⟨i0, i1, i2, i3⟩ := hSw.2; clear hSw)
    go_simp
    all_goals with_reducible rfl
  (try simp only [Act.put, List.setIfInBounds_toArray, List.set_cons_zero, List.set_cons_succ])
  refine wpAnyH_take (i := 4) (v := ?_) rfl (by kernel_rfl) (by kernel_rfl) (by kernel_rfl) (fun _ _ _ h => h) (Or.inl ⟨by rfl, ?_⟩) (by assumption) ?_
  rotate_left
  · intro wS hSw
    (have q0 : wS.cell? ⟨b, 0, none⟩ = some (.slice (some ⟨qb, qo, none⟩) n qcap) := World.rowIs.cell hSw.1 (i := 0) (by decide); have q20 : wS.cell? ⟨b, 20, none⟩ = some (.int .i64 (s.place : Int)) := World.rowIs.cell hSw.1 (i := 20) (by decide); obtain ⟨i0, i1, i2, i3⟩ := hSw.2; clear hSw)
    go_simp
    all_goals with_reducible rfl
  (try simp only [Act.put, List.setIfInBounds_toArray, List.set_cons_zero, List.set_cons_succ])
  refine wpAnyH_take (i := 5) (v := ?_) rfl (by kernel_rfl) (by kernel_rfl) (by kernel_rfl) (fun _ _ _ h => h) (Or.inl ⟨by rfl, ?_⟩) (by assumption) ?_
  rotate_left
  · intro wS hSw
    (have q0 : wS.cell? ⟨b, 0, none⟩ = some (.slice (some ⟨qb, qo, none⟩) n qcap) := World.rowIs.cell hSw.1 (i := 0) (by decide); have q20 : wS.cell? ⟨b, 20, none⟩ = some (.int .i64 (s.place : Int)) := World.rowIs.cell hSw.1 (i := 20) (by decide); obtain ⟨i0, i1, i2, i3⟩ := hSw.2; clear hSw)
    go_simp
    all_goals with_reducible rfl
  (try simp only [Act.put, List.setIfInBounds_toArray, List.set_cons_zero, List.set_cons_succ])
  refine wpAnyH_take (i := 6) (v := ?_) rfl (by kernel_rfl) (by kernel_rfl) (by kernel_rfl) (fun _ _ _ h => h) (Or.inl ⟨by rfl, ?_⟩) (by assumption) ?_
  rotate_left
  · intro wS hSw
    (have q0 : wS.cell? ⟨b, 0, none⟩ = some (.slice (some ⟨qb, qo, none⟩) n qcap) := World.rowIs.cell hSw.1 (i := 0) (by decide); have q20 : wS.cell? ⟨b, 20, none⟩ = some (.int .i64 (s.place : Int)) := World.rowIs.cell hSw.1 (i := 20) (by decide); obtain ⟨i0, i1, i2, i3⟩ := hSw.2; clear hSw)
    go_simp
    all_goals with_reducible rfl
  (try simp only [Act.put, List.setIfInBounds_toArray, List.set_cons_zero, List.set_cons_succ])
  refine wpAnyH_take (i := 7) (v := ?_) rfl (by kernel_rfl) (by kernel_rfl) (by kernel_rfl) (fun _ _ _ h => h) (Or.inl ⟨by rfl, ?_⟩) (by assumption) ?_
  rotate_left
  · intro wS hSw
    (have q0 : wS.cell? ⟨b, 0, none⟩ = some (.slice (some ⟨qb, qo, none⟩) n qcap) := World.rowIs.cell hSw.1 (i := 0) (by decide); have q20 : wS.cell? ⟨b, 20, none⟩ = some (.int .i64 (s.place : Int)) := World.rowIs.cell hSw.1 (i := 20) (by decide); obtain ⟨i0, i1, i2, i3⟩ := hSw.2; clear hSw)
    go_simp
    all_goals with_reducible rfl
  (try simp only [Act.put, List.setIfInBounds_toArray, List.set_cons_zero, List.set_cons_succ])
  refine wpAnyH_take (i := 8) (v := ?_) rfl (by kernel_rfl) (by kernel_rfl) (by kernel_rfl) (fun _ _ _ h => h) (Or.inl ⟨by rfl, ?_⟩) (by assumption) ?_
  rotate_left
  · intro wS hSw
    (have q0 : wS.cell? ⟨b, 0, none⟩ = some (.slice (some ⟨qb, qo, none⟩) n qcap) := World.rowIs.cell hSw.1 (i := 0) (by decide); have q20 : wS.cell? ⟨b, 20, none⟩ = some (.int .i64 (s.place : Int)) := World.rowIs.cell hSw.1 (i := 20) (by decide); obtain ⟨i0, i1, i2, i3⟩ := hSw.2; clear hSw)
    go_simp
    all_goals with_reducible rfl
  (try simp only [Act.put, List.setIfInBounds_toArray, List.set_cons_zero, List.set_cons_succ])
  refine wpAnyH_take (i := 9) (v := ?_) rfl (by kernel_rfl) (by kernel_rfl) (by kernel_rfl) (fun _ _ _ h => h) (Or.inl ⟨by rfl, ?_⟩) (by assumption) ?_
  rotate_left
  · intro wS hSw
    (have q0 : wS.cell? ⟨b, 0, none⟩ = some (.slice (some ⟨qb, qo, none⟩) n qcap) := World.rowIs.cell hSw.1 (i := 0) (by decide); have q20 : wS.cell? ⟨b, 20, none⟩ = some (.int .i64 (s.place : Int)) := World.rowIs.cell hSw.1 (i := 20) (by decide); obtain ⟨i0, i1, i2, i3⟩ := hSw.2; clear hSw)
    go_simp
    all_goals with_reducible rfl
  (try simp only [Act.put, List.setIfInBounds_toArray, List.set_cons_zero, List.set_cons_succ])
  refine held_one (i := 10) (by kernel_rfl) rfl (fun K hK => ?_)
  go_simp
  refine hK.out _ _ ⟨hHeld.1.alloc _, hHeld.2.below (box_below _ _) hql⟩ (fun hH2 => ?_)
  clear hK K hHeld
  (try simp only [Act.put, List.setIfInBounds_toArray, List.set_cons_zero, List.set_cons_succ])
  have R1 : ((w.drewN (nq + 1)).alloc (.cells #[.int .u16 0, .int .u8 0, .int .u8 0, .int .u32 0] 60)).rowIs w.heap.size 60 4 (insF ⟨0, 0, 0, 0#32⟩) := ins_new _
  have B1 := (below_drawn (Below.refl w.heap.size w) (nq + 1)).trans (box_below (w.drewN (nq + 1)) (.cells #[.int .u16 0, .int .u8 0, .int .u8 0, .int .u32 0] 60))
  have hbl := World.rowIs.lt HS.out.1
  generalize (w.drewN (nq + 1)).alloc (.cells #[.int .u16 0, .int .u8 0, .int .u8 0, .int .u32 0] 60) = W1 at R1 B1 hH2 ⊢
  have e0 : W1.cell? ⟨w.heap.size, 0, none⟩ = some (.int .u16 0) := World.rowIs.cell R1 (i := 0) (by decide)
  have e1 : W1.cell? ⟨w.heap.size, 1, none⟩ = some (.int .u8 0) := World.rowIs.cell R1 (i := 1) (by decide)
  have e2 : W1.cell? ⟨w.heap.size, 2, none⟩ = some (.int .u8 0) := World.rowIs.cell R1 (i := 2) (by decide)
  have e3 : W1.cell? ⟨w.heap.size, 3, none⟩ = some (.int .u32 0) := World.rowIs.cell R1 (i := 3) (by decide)
  have y0 := World.rowIs.frozen R1 0
  have y1 := World.rowIs.frozen R1 1
  have y2 := World.rowIs.frozen R1 2
  have y3 := World.rowIs.frozen R1 3
  have R2 := Lib.hid (ins_set R1 c jt jf k)
  have G2 := Lib.hid (ins_grown (World.grownBy.refl W1 (some w.heap.size)) (.int .u16 c) (.int .u8 (jt : Int)) (.int .u8 (jf : Int)) (.int .u32 (k.toNat : Int)))
  have HB1 := Lib.hid B1
  have HH := Lib.hid hH2
  clear R1 B1 hH2
  refine held_one (i := 11) (by kernel_rfl) rfl (fun K hK => ?_)
  go_simp
  have hM2 := HH.out.1.grown G2.out (by omega)
  have hI2 := HH.out.2.grown G2.out (by omega)
  have hB2 := below_grown HB1.out G2.out (Nat.le_refl _) (Nat.le_refl _)
  have hZ2 := hz.below hB2 hz.1
  refine hK.out _ _ ⟨hM2, hI2⟩ (fun hX2 => ?_)
  clear hX2 hK K e0 e1 e2 e3 y0 y1 y2 y3 HH G2 HB1 hI2
  have hR2 := R2.out
  clear R2
  refine wpAnyH_done (by kernel_rfl) ?_ _
  generalize (((W1.setCell ⟨w.heap.size, 0, none⟩ (.int .u16 c)).setCell ⟨w.heap.size, 1, none⟩ (.int .u8 (jt : Int))).setCell ⟨w.heap.size, 2, none⟩ (.int .u8 (jf : Int))).setCell ⟨w.heap.size, 3, none⟩ (.int .u32 (k.toNat : Int)) = W2 at hM2 hB2 hZ2 hR2 ⊢
  (try clear W1)
  have i0 : W2.cell? ⟨w.heap.size, 0, none⟩ = some (.int .u16 c) := World.rowIs.cell hR2 (i := 0) (by decide)
  have i1 : W2.cell? ⟨w.heap.size, 1, none⟩ = some (.int .u8 (jt : Int)) := World.rowIs.cell hR2 (i := 1) (by decide)
  have i2 : W2.cell? ⟨w.heap.size, 2, none⟩ = some (.int .u8 (jf : Int)) := World.rowIs.cell hR2 (i := 2) (by decide)
  have i3 : W2.cell? ⟨w.heap.size, 3, none⟩ = some (.int .u32 (k.toNat : Int)) := World.rowIs.cell hR2 (i := 3) (by decide)
  have HR := Lib.hid hR2
  have HM := Lib.hid hM2
  have HB := Lib.hid hB2
  have HZ := Lib.hid hZ2
  have hs2 := hB2.size
  have hg2 := World.rowIs.lt hR2
  have HW := Lib.hid (fun w => (ref_wrong ⟨c, jt, jf, k⟩ w : Calls Tryz.prog 34 #[.agg #[.int .u16 c, .int .u8 (jt : Int), .int .u8 (jf : Int), .int .u32 (k.toNat : Int)]] w (WrongP w (wrongE c k))))
  clear hR2 hM2 hB2 hZ2 hz HS
  have hw2 : IntKind.i64.wrap ((s.place : Int) + 1) = (s.place : Int) + 1 := IntWalk.i64_in _ (by omega)
  go_wp2_with (first
    | (go_at_call 34; (with_reducible refine (HW.out _).mono ?_); rintro e W3 ⟨rfl, hb3⟩; have HM3 := Lib.hid (HM.out.below hb3 (Nat.lt_of_lt_of_le hbl hs2)); have HB3 := Lib.hid (HB.out.trans (hb3.mono hs2)); have HZ3 := Lib.hid (HZ.out.below hb3 HZ.out.1); have HR3 := rowIs_below HR.out hb3 hg2; have hs3 := Nat.lt_of_lt_of_le hg2 hb3.size; have j0 : W3.cell? ⟨w.heap.size, 0, none⟩ = some (.int .u16 c) := World.rowIs.cell HR3 (i := 0) (by decide); have j1 : W3.cell? ⟨w.heap.size, 1, none⟩ = some (.int .u8 (jt : Int)) := World.rowIs.cell HR3 (i := 1) (by decide); have j2 : W3.cell? ⟨w.heap.size, 2, none⟩ = some (.int .u8 (jf : Int)) := World.rowIs.cell HR3 (i := 2) (by decide); have j3 : W3.cell? ⟨w.heap.size, 3, none⟩ = some (.int .u32 (k.toNat : Int)) := World.rowIs.cell HR3 (i := 3) (by decide); have m2 : W3.cell? ⟨b, 2, none⟩ = some (.int .u32 (s.a.toNat : Int)) := World.rowIs.cell HM3.out (i := 2) (by decide); have m3 : W3.cell? ⟨b, 3, none⟩ = some (.int .u32 (s.x.toNat : Int)) := World.rowIs.cell HM3.out (i := 3) (by decide); have m20 : W3.cell? ⟨b, 20, none⟩ = some (.int .i64 (s.place : Int)) := World.rowIs.cell HM3.out (i := 20) (by decide); have m21 : W3.cell? ⟨b, 21, none⟩ = some (.int .i64 (s.steps : Int)) := World.rowIs.cell HM3.out (i := 21) (by decide); have n2 := World.rowIs.frozen HM3.out 2; have n20 := World.rowIs.frozen HM3.out 20; have n21 := World.rowIs.frozen HM3.out 21; clear i0 i1 i2 i3 hb3 HR HR3 HM HB HZ hg2)
    | (go_at_call 35; (with_reducible refine (ref_alu_is HA.out _).mono ?_); rintro e w' ⟨rfl, rfl⟩)
    | (go_at_call 36; (with_reducible refine (ref_Jump_is HJ.out _).mono ?_); rintro e w' ⟨rfl, rfl⟩))
  have t0 : ({ W3 with drawn := W3.drawn + 1 } : World).cell? ⟨w.heap.size, 0, none⟩ = some (.int .u16 c) := j0
  have t2 : ({ W3 with drawn := W3.drawn + 1 } : World).cell? ⟨b, 2, none⟩ = some (.int .u32 (s.a.toNat : Int)) := m2
  go_still_tail 11, (by kernel_rfl)
  still_call ((HT.out _).mono fun _ _ h => ⟨h.1, h.2.symm⟩)
  repeat still_step
  refine wpStill_nil ?_
  change wpList _ _ _ _ _ W3.drew
  have HM4 := Lib.hid HM3.out.drew
  have HB4 := Lib.hid (show Below w.heap.size w W3.drew from below_drawn HB3.out 1)
  clear t0 t2 j0 j1 j2 j3 m2 m3 m20 m21 n2 n20 n21 HM3 HB3 HZ3
  generalize W3.drew = W4 at HM4 HB4 ⊢
  have m2 : W4.cell? ⟨b, 2, none⟩ = some (.int .u32 (s.a.toNat : Int)) := World.rowIs.cell HM4.out (i := 2) (by decide)
  have m20 : W4.cell? ⟨b, 20, none⟩ = some (.int .i64 (s.place : Int)) := World.rowIs.cell HM4.out (i := 20) (by decide)
  have m21 : W4.cell? ⟨b, 21, none⟩ = some (.int .i64 (s.steps : Int)) := World.rowIs.cell HM4.out (i := 21) (by decide)
  have n2 := World.rowIs.frozen HM4.out 2
  have n20 := World.rowIs.frozen HM4.out 20
  have n21 := World.rowIs.frozen HM4.out 21
  go_wp2
  go_ret
  have q5 := ((HM4.out.set_a (twoN (opN c) s.a k)).set_place (s.place + 1)).set_steps (s.steps + 1)
  exact ⟨rfl, q5, grown_cell (grown_cell (grown_cell (grown_of_below HB4.out _) 2 _) 20 _) 21 _⟩

set_option maxRecDepth 100000 in
set_option maxHeartbeats 8000000 in
theorem step_alu_60 (h : Going w b qb qo n qcap db doff dcap z s 60 jt jf k) (hw : wrongE 60 k = 0) (h0 : ¬ (s.x.toNat : Int) = 0) (hd : (60 : Int) = 52 ∨ (60 : Int) = 60 → s.x ≠ 0#32) :
    Calls Tryz.prog 15 #[.pointer (some ⟨b, 0, none⟩)] w (MethP w b (.slice (some ⟨qb, qo, none⟩) n qcap) (.slice (some ⟨db, doff, none⟩) 64 dcap) false (Mach.on { s with a := twoN (opN 60) s.a s.x } 1)) := by
  have ha : aluC 60 = true := rfl
  have hx : usesX 60 = true := rfl
  have HA := Lib.hid ha
  have HJ := Lib.hid (alu_not ha)
  have HT := Lib.hid (fun w => (ref_Two 60 s.a s.x ha hd w))
  have hx8 := and_eight (.inl ha)
  rw [hx] at hx8
  simp only [Bool.false_eq_true, if_false, if_true] at hx8
  clear ha hx hd
  have c22 : w.cell? ⟨b, 22, none⟩ = some (.bool false) := by have := World.rowIs.cell h.mach (i := 22) (by decide); rw [this]; exact congrArg (fun x => some (Value.bool x)) h.going
  have c1 : w.cell? ⟨b, 1, none⟩ = some (.slice (some ⟨db, doff, none⟩) 64 dcap) := World.rowIs.cell h.mach (i := 1) (by decide)
  have c0 : w.cell? ⟨b, 0, none⟩ = some (.slice (some ⟨qb, qo, none⟩) n qcap) := World.rowIs.cell h.mach (i := 0) (by decide)
  have c20 : w.cell? ⟨b, 20, none⟩ = some (.int .i64 (s.place : Int)) := World.rowIs.cell h.mach (i := 20) (by decide)
  have hp : s.place < n := h.place
  have hp' : ¬ (n : Int) ≤ (s.place : Int) := by omega
  have hn := h.len
  have hs := h.steps
  have hql := h.qlt
  have hz := h.bytes
  have HS := Lib.hid (And.intro h.mach h.ins)
  clear h hp
  go_enter Tryz.func15, Tryz.ntmps15
  go_wp2
  go_quiet (fail)
  go_wp2
  refine wp_region_held_drew (S := fun w' => MachAt w' b (.slice (some ⟨qb, qo, none⟩) n qcap) (.slice (some ⟨db, doff, none⟩) 64 dcap) s ∧ InsCells w' qb (qo + s.place * 4) ⟨60, jt, jf, k⟩) (by kernel_rfl) ⟨(HS.out.1.drawn _).drew, HS.out.2⟩ (fun hHeld => ?_)
  clear c22 c1 c0 c20
  refine wpAnyH_take (i := 0) (v := ?_) rfl (by kernel_rfl) (by kernel_rfl) (by kernel_rfl) (fun _ _ _ h => h) (Or.inl ⟨by rfl, ?_⟩) (by assumption) ?_
  rotate_left
  · intro wS hSw
    (have q0 : wS.cell? ⟨b, 0, none⟩ = some (.slice (some ⟨qb, qo, none⟩) n qcap) := World.rowIs.cell hSw.1 (i := 0) (by decide); have q20 : wS.cell? ⟨b, 20, none⟩ = some (.int .i64 (s.place : Int)) := World.rowIs.cell hSw.1 (i := 20) (by decide); obtain ⟨i0, i1, i2, i3⟩ := hSw.2; clear hSw)
    go_simp
    all_goals with_reducible rfl
  (try simp only [Act.put, List.setIfInBounds_toArray, List.set_cons_zero, List.set_cons_succ])
  refine wpAnyH_take (i := 1) (v := ?_) rfl (by kernel_rfl) (by kernel_rfl) (by kernel_rfl) (fun _ _ _ h => h) (Or.inl ⟨by rfl, ?_⟩) (by assumption) ?_
  rotate_left
  · intro wS hSw
    (have q0 : wS.cell? ⟨b, 0, none⟩ = some (.slice (some ⟨qb, qo, none⟩) n qcap) := World.rowIs.cell hSw.1 (i := 0) (by decide); have q20 : wS.cell? ⟨b, 20, none⟩ = some (.int .i64 (s.place : Int)) := World.rowIs.cell hSw.1 (i := 20) (by decide); obtain ⟨i0, i1, i2, i3⟩ := hSw.2; clear hSw)
    go_simp
    all_goals with_reducible rfl
  (try simp only [Act.put, List.setIfInBounds_toArray, List.set_cons_zero, List.set_cons_succ])
  refine wpAnyH_take (i := 2) (v := ?_) rfl (by kernel_rfl) (by kernel_rfl) (by kernel_rfl) (fun _ _ _ h => h) (Or.inl ⟨by rfl, ?_⟩) (by assumption) ?_
  rotate_left
  · intro wS hSw
    (have q0 : wS.cell? ⟨b, 0, none⟩ = some (.slice (some ⟨qb, qo, none⟩) n qcap) := World.rowIs.cell hSw.1 (i := 0) (by decide); have q20 : wS.cell? ⟨b, 20, none⟩ = some (.int .i64 (s.place : Int)) := World.rowIs.cell hSw.1 (i := 20) (by decide); obtain ⟨i0, i1, i2, i3⟩ := hSw.2; clear hSw)
    go_simp
    all_goals with_reducible rfl
  (try simp only [Act.put, List.setIfInBounds_toArray, List.set_cons_zero, List.set_cons_succ])
  refine wpAnyH_take (i := 3) (v := ?_) rfl (by kernel_rfl) (by kernel_rfl) (by kernel_rfl) (fun _ _ _ h => h) (Or.inl ⟨by rfl, ?_⟩) (by assumption) ?_
  rotate_left
  · intro wS hSw
    (have q0 : wS.cell? ⟨b, 0, none⟩ = some (.slice (some ⟨qb, qo, none⟩) n qcap) := World.rowIs.cell hSw.1 (i := 0) (by decide); have q20 : wS.cell? ⟨b, 20, none⟩ = some (.int .i64 (s.place : Int)) := World.rowIs.cell hSw.1 (i := 20) (by decide); obtain ⟨i0, i1, i2, i3⟩ := hSw.2; clear hSw)
    go_simp
    all_goals with_reducible rfl
  (try simp only [Act.put, List.setIfInBounds_toArray, List.set_cons_zero, List.set_cons_succ])
  refine wpAnyH_take (i := 4) (v := ?_) rfl (by kernel_rfl) (by kernel_rfl) (by kernel_rfl) (fun _ _ _ h => h) (Or.inl ⟨by rfl, ?_⟩) (by assumption) ?_
  rotate_left
  · intro wS hSw
    (have q0 : wS.cell? ⟨b, 0, none⟩ = some (.slice (some ⟨qb, qo, none⟩) n qcap) := World.rowIs.cell hSw.1 (i := 0) (by decide); have q20 : wS.cell? ⟨b, 20, none⟩ = some (.int .i64 (s.place : Int)) := World.rowIs.cell hSw.1 (i := 20) (by decide); obtain ⟨i0, i1, i2, i3⟩ := hSw.2; clear hSw)
    go_simp
    all_goals with_reducible rfl
  (try simp only [Act.put, List.setIfInBounds_toArray, List.set_cons_zero, List.set_cons_succ])
  refine wpAnyH_take (i := 5) (v := ?_) rfl (by kernel_rfl) (by kernel_rfl) (by kernel_rfl) (fun _ _ _ h => h) (Or.inl ⟨by rfl, ?_⟩) (by assumption) ?_
  rotate_left
  · intro wS hSw
    (have q0 : wS.cell? ⟨b, 0, none⟩ = some (.slice (some ⟨qb, qo, none⟩) n qcap) := World.rowIs.cell hSw.1 (i := 0) (by decide); have q20 : wS.cell? ⟨b, 20, none⟩ = some (.int .i64 (s.place : Int)) := World.rowIs.cell hSw.1 (i := 20) (by decide); obtain ⟨i0, i1, i2, i3⟩ := hSw.2; clear hSw)
    go_simp
    all_goals with_reducible rfl
  (try simp only [Act.put, List.setIfInBounds_toArray, List.set_cons_zero, List.set_cons_succ])
  refine wpAnyH_take (i := 6) (v := ?_) rfl (by kernel_rfl) (by kernel_rfl) (by kernel_rfl) (fun _ _ _ h => h) (Or.inl ⟨by rfl, ?_⟩) (by assumption) ?_
  rotate_left
  · intro wS hSw
    (have q0 : wS.cell? ⟨b, 0, none⟩ = some (.slice (some ⟨qb, qo, none⟩) n qcap) := World.rowIs.cell hSw.1 (i := 0) (by decide); have q20 : wS.cell? ⟨b, 20, none⟩ = some (.int .i64 (s.place : Int)) := World.rowIs.cell hSw.1 (i := 20) (by decide); obtain ⟨i0, i1, i2, i3⟩ := hSw.2; clear hSw)
    go_simp
    all_goals with_reducible rfl
  (try simp only [Act.put, List.setIfInBounds_toArray, List.set_cons_zero, List.set_cons_succ])
  refine wpAnyH_take (i := 7) (v := ?_) rfl (by kernel_rfl) (by kernel_rfl) (by kernel_rfl) (fun _ _ _ h => h) (Or.inl ⟨by rfl, ?_⟩) (by assumption) ?_
  rotate_left
  · intro wS hSw
    (have q0 : wS.cell? ⟨b, 0, none⟩ = some (.slice (some ⟨qb, qo, none⟩) n qcap) := World.rowIs.cell hSw.1 (i := 0) (by decide); have q20 : wS.cell? ⟨b, 20, none⟩ = some (.int .i64 (s.place : Int)) := World.rowIs.cell hSw.1 (i := 20) (by decide); obtain ⟨i0, i1, i2, i3⟩ := hSw.2; clear hSw)
    go_simp
    all_goals with_reducible rfl
  (try simp only [Act.put, List.setIfInBounds_toArray, List.set_cons_zero, List.set_cons_succ])
  refine wpAnyH_take (i := 8) (v := ?_) rfl (by kernel_rfl) (by kernel_rfl) (by kernel_rfl) (fun _ _ _ h => h) (Or.inl ⟨by rfl, ?_⟩) (by assumption) ?_
  rotate_left
  · intro wS hSw
    (have q0 : wS.cell? ⟨b, 0, none⟩ = some (.slice (some ⟨qb, qo, none⟩) n qcap) := World.rowIs.cell hSw.1 (i := 0) (by decide); have q20 : wS.cell? ⟨b, 20, none⟩ = some (.int .i64 (s.place : Int)) := World.rowIs.cell hSw.1 (i := 20) (by decide); obtain ⟨i0, i1, i2, i3⟩ := hSw.2; clear hSw)
    go_simp
    all_goals with_reducible rfl
  (try simp only [Act.put, List.setIfInBounds_toArray, List.set_cons_zero, List.set_cons_succ])
  refine wpAnyH_take (i := 9) (v := ?_) rfl (by kernel_rfl) (by kernel_rfl) (by kernel_rfl) (fun _ _ _ h => h) (Or.inl ⟨by rfl, ?_⟩) (by assumption) ?_
  rotate_left
  · intro wS hSw
    (have q0 : wS.cell? ⟨b, 0, none⟩ = some (.slice (some ⟨qb, qo, none⟩) n qcap) := World.rowIs.cell hSw.1 (i := 0) (by decide); have q20 : wS.cell? ⟨b, 20, none⟩ = some (.int .i64 (s.place : Int)) := World.rowIs.cell hSw.1 (i := 20) (by decide); obtain ⟨i0, i1, i2, i3⟩ := hSw.2; clear hSw)
    go_simp
    all_goals with_reducible rfl
  (try simp only [Act.put, List.setIfInBounds_toArray, List.set_cons_zero, List.set_cons_succ])
  refine held_one (i := 10) (by kernel_rfl) rfl (fun K hK => ?_)
  go_simp
  refine hK.out _ _ ⟨hHeld.1.alloc _, hHeld.2.below (box_below _ _) hql⟩ (fun hH2 => ?_)
  clear hK K hHeld
  (try simp only [Act.put, List.setIfInBounds_toArray, List.set_cons_zero, List.set_cons_succ])
  have R1 : ((w.drewN (nq + 1)).alloc (.cells #[.int .u16 0, .int .u8 0, .int .u8 0, .int .u32 0] 60)).rowIs w.heap.size 60 4 (insF ⟨0, 0, 0, 0#32⟩) := ins_new _
  have B1 := (below_drawn (Below.refl w.heap.size w) (nq + 1)).trans (box_below (w.drewN (nq + 1)) (.cells #[.int .u16 0, .int .u8 0, .int .u8 0, .int .u32 0] 60))
  have hbl := World.rowIs.lt HS.out.1
  generalize (w.drewN (nq + 1)).alloc (.cells #[.int .u16 0, .int .u8 0, .int .u8 0, .int .u32 0] 60) = W1 at R1 B1 hH2 ⊢
  have e0 : W1.cell? ⟨w.heap.size, 0, none⟩ = some (.int .u16 0) := World.rowIs.cell R1 (i := 0) (by decide)
  have e1 : W1.cell? ⟨w.heap.size, 1, none⟩ = some (.int .u8 0) := World.rowIs.cell R1 (i := 1) (by decide)
  have e2 : W1.cell? ⟨w.heap.size, 2, none⟩ = some (.int .u8 0) := World.rowIs.cell R1 (i := 2) (by decide)
  have e3 : W1.cell? ⟨w.heap.size, 3, none⟩ = some (.int .u32 0) := World.rowIs.cell R1 (i := 3) (by decide)
  have y0 := World.rowIs.frozen R1 0
  have y1 := World.rowIs.frozen R1 1
  have y2 := World.rowIs.frozen R1 2
  have y3 := World.rowIs.frozen R1 3
  have R2 := Lib.hid (ins_set R1 60 jt jf k)
  have G2 := Lib.hid (ins_grown (World.grownBy.refl W1 (some w.heap.size)) (.int .u16 60) (.int .u8 (jt : Int)) (.int .u8 (jf : Int)) (.int .u32 (k.toNat : Int)))
  have HB1 := Lib.hid B1
  have HH := Lib.hid hH2
  clear R1 B1 hH2
  refine held_one (i := 11) (by kernel_rfl) rfl (fun K hK => ?_)
  go_simp
  have hM2 := HH.out.1.grown G2.out (by omega)
  have hI2 := HH.out.2.grown G2.out (by omega)
  have hB2 := below_grown HB1.out G2.out (Nat.le_refl _) (Nat.le_refl _)
  have hZ2 := hz.below hB2 hz.1
  refine hK.out _ _ ⟨hM2, hI2⟩ (fun hX2 => ?_)
  clear hX2 hK K e0 e1 e2 e3 y0 y1 y2 y3 HH G2 HB1 hI2
  have hR2 := R2.out
  clear R2
  refine wpAnyH_done (by kernel_rfl) ?_ _
  generalize (((W1.setCell ⟨w.heap.size, 0, none⟩ (.int .u16 60)).setCell ⟨w.heap.size, 1, none⟩ (.int .u8 (jt : Int))).setCell ⟨w.heap.size, 2, none⟩ (.int .u8 (jf : Int))).setCell ⟨w.heap.size, 3, none⟩ (.int .u32 (k.toNat : Int)) = W2 at hM2 hB2 hZ2 hR2 ⊢
  (try clear W1)
  have i0 : W2.cell? ⟨w.heap.size, 0, none⟩ = some (.int .u16 60) := World.rowIs.cell hR2 (i := 0) (by decide)
  have i1 : W2.cell? ⟨w.heap.size, 1, none⟩ = some (.int .u8 (jt : Int)) := World.rowIs.cell hR2 (i := 1) (by decide)
  have i2 : W2.cell? ⟨w.heap.size, 2, none⟩ = some (.int .u8 (jf : Int)) := World.rowIs.cell hR2 (i := 2) (by decide)
  have i3 : W2.cell? ⟨w.heap.size, 3, none⟩ = some (.int .u32 (k.toNat : Int)) := World.rowIs.cell hR2 (i := 3) (by decide)
  have HR := Lib.hid hR2
  have HM := Lib.hid hM2
  have HB := Lib.hid hB2
  have HZ := Lib.hid hZ2
  have hs2 := hB2.size
  have hg2 := World.rowIs.lt hR2
  have HW := Lib.hid (fun w => (ref_wrong ⟨60, jt, jf, k⟩ w : Calls Tryz.prog 34 #[.agg #[.int .u16 60, .int .u8 (jt : Int), .int .u8 (jf : Int), .int .u32 (k.toNat : Int)]] w (WrongP w (wrongE 60 k))))
  clear hR2 hM2 hB2 hZ2 hz HS
  have hw2 : IntKind.i64.wrap ((s.place : Int) + 1) = (s.place : Int) + 1 := IntWalk.i64_in _ (by omega)
  go_wp2_with (first
    | (go_at_call 34; (with_reducible refine (HW.out _).mono ?_); rintro e W3 ⟨rfl, hb3⟩; have HM3 := Lib.hid (HM.out.below hb3 (Nat.lt_of_lt_of_le hbl hs2)); have HB3 := Lib.hid (HB.out.trans (hb3.mono hs2)); have HZ3 := Lib.hid (HZ.out.below hb3 HZ.out.1); have HR3 := rowIs_below HR.out hb3 hg2; have hs3 := Nat.lt_of_lt_of_le hg2 hb3.size; have j0 : W3.cell? ⟨w.heap.size, 0, none⟩ = some (.int .u16 60) := World.rowIs.cell HR3 (i := 0) (by decide); have j1 : W3.cell? ⟨w.heap.size, 1, none⟩ = some (.int .u8 (jt : Int)) := World.rowIs.cell HR3 (i := 1) (by decide); have j2 : W3.cell? ⟨w.heap.size, 2, none⟩ = some (.int .u8 (jf : Int)) := World.rowIs.cell HR3 (i := 2) (by decide); have j3 : W3.cell? ⟨w.heap.size, 3, none⟩ = some (.int .u32 (k.toNat : Int)) := World.rowIs.cell HR3 (i := 3) (by decide); have m2 : W3.cell? ⟨b, 2, none⟩ = some (.int .u32 (s.a.toNat : Int)) := World.rowIs.cell HM3.out (i := 2) (by decide); have m3 : W3.cell? ⟨b, 3, none⟩ = some (.int .u32 (s.x.toNat : Int)) := World.rowIs.cell HM3.out (i := 3) (by decide); have m20 : W3.cell? ⟨b, 20, none⟩ = some (.int .i64 (s.place : Int)) := World.rowIs.cell HM3.out (i := 20) (by decide); have m21 : W3.cell? ⟨b, 21, none⟩ = some (.int .i64 (s.steps : Int)) := World.rowIs.cell HM3.out (i := 21) (by decide); have n2 := World.rowIs.frozen HM3.out 2; have n20 := World.rowIs.frozen HM3.out 20; have n21 := World.rowIs.frozen HM3.out 21; clear i0 i1 i2 i3 hb3 HR HR3 HM HB HZ hg2)
    | (go_at_call 35; (with_reducible refine (ref_alu_is HA.out _).mono ?_); rintro e w' ⟨rfl, rfl⟩)
    | (go_at_call 36; (with_reducible refine (ref_Jump_is HJ.out _).mono ?_); rintro e w' ⟨rfl, rfl⟩))
  have t0 : ({ W3 with drawn := W3.drawn + 1 } : World).cell? ⟨w.heap.size, 0, none⟩ = some (.int .u16 60) := j0
  have t2 : ({ W3 with drawn := W3.drawn + 1 } : World).cell? ⟨b, 2, none⟩ = some (.int .u32 (s.a.toNat : Int)) := m2
  go_still_tail 11, (by kernel_rfl)
  still_call ((HT.out _).mono fun _ _ h => ⟨h.1, h.2.symm⟩)
  repeat still_step
  refine wpStill_nil ?_
  change wpList _ _ _ _ _ W3.drew
  have HM4 := Lib.hid HM3.out.drew
  have HB4 := Lib.hid (show Below w.heap.size w W3.drew from below_drawn HB3.out 1)
  clear t0 t2 j0 j1 j2 j3 m2 m3 m20 m21 n2 n20 n21 HM3 HB3 HZ3
  generalize W3.drew = W4 at HM4 HB4 ⊢
  have m2 : W4.cell? ⟨b, 2, none⟩ = some (.int .u32 (s.a.toNat : Int)) := World.rowIs.cell HM4.out (i := 2) (by decide)
  have m20 : W4.cell? ⟨b, 20, none⟩ = some (.int .i64 (s.place : Int)) := World.rowIs.cell HM4.out (i := 20) (by decide)
  have m21 : W4.cell? ⟨b, 21, none⟩ = some (.int .i64 (s.steps : Int)) := World.rowIs.cell HM4.out (i := 21) (by decide)
  have n2 := World.rowIs.frozen HM4.out 2
  have n20 := World.rowIs.frozen HM4.out 20
  have n21 := World.rowIs.frozen HM4.out 21
  go_wp2
  go_ret
  have q5 := ((HM4.out.set_a (twoN (opN 60) s.a s.x)).set_place (s.place + 1)).set_steps (s.steps + 1)
  exact ⟨rfl, q5, grown_cell (grown_cell (grown_cell (grown_of_below HB4.out _) 2 _) 20 _) 21 _⟩
end
end Go.Proofs.YtoajommeiocfpaaGreat
