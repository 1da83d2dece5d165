/-
  What the program's Step of classic BPF does to its machine: contracts, an operation given by its own. Conditions: those that each names.
-/
import Derived.Test.YtgpjiflgocgolaaPStep
namespace Go.Proofs.Ytgpjiflgocgolaa
open Go Go.RowKit
set_option linter.unusedSimpArgs false
set_option linter.unusedVariables false
set_option maxRecDepth 100000

/-- What a method that changes its machine leaves. -/
def PMethP (w : World) (b : Nat) (qv dv mv : Value) (r : Bool) (s : Mach) (e : Ending) (w' : World) : Prop := e = .returned (.bool r) ∧ PMAt w' b qv dv mv s ∧ w.grownBy w' (some b)
section
variable (w : World) (b : Nat) (qa : Option Addr) (n qcap : Nat) (q : Nat → Ins) (da : Option Addr) (dlen dcap : Nat) (z : Nat → Int) (mb : Nat) (s : Mach)
theorem p_step_done (h : PReady w b qa n qcap q da dlen dcap z mb s) (hd : s.done = true) : Calls Try.prog 22 #[.pointer (some ⟨b, 0, none⟩)] w (PMethP w b (.slice qa n qcap) (.slice da dlen dcap) (.map (some mb)) true s) := by
  have c23 : w.cell? ⟨b, 23, none⟩ = some (.bool true) := by have := World.rowIs.cell h.mach (i := 23) (by decide); rw [this]; exact congrArg (fun x => some (Value.bool x)) hd
  have H := Lib.hid h.mach
  clear h hd
  go_enter Try.func22, Try.ntmps22
  go_wp2
  go_ret
  exact ⟨rfl, H.out, World.grownBy.refl w _⟩
theorem p_step_fault (qv dv mv : Value) (h : PMAt w b qv dv mv s) (hd : s.done = false) (E : Int) (hE : ¬ E = 0) (hf : Calls Try.prog 47 #[.pointer (some ⟨b, 0, none⟩)] w (FaultP w E)) :
    Calls Try.prog 22 #[.pointer (some ⟨b, 0, none⟩)] w (PMethP w b qv dv mv true (s.fails E)) := by
  have c23 : w.cell? ⟨b, 23, none⟩ = some (.bool false) := by have := World.rowIs.cell h (i := 23) (by decide); rw [this]; exact congrArg (fun x => some (Value.bool x)) hd
  have HM := Lib.hid h
  have HF := Lib.hid hf
  clear h hf hd
  go_enter Try.func22, Try.ntmps22
  go_wp2_with (go_at_call 47; (with_reducible refine HF.out.mono ?_); rintro e w1 ⟨rfl, hb⟩; have HM1 := Lib.hid (HM.out.below hb (World.rowIs.lt HM.out)); have HB := Lib.hid hb; have d23 : w1.cell? ⟨b, 23, none⟩ = some (.bool s.done) := World.rowIs.cell HM1.out (i := 23) (by decide); have d25 : w1.cell? ⟨b, 25, none⟩ = some (.int .i64 s.err) := World.rowIs.cell HM1.out (i := 25) (by decide); have z23 := World.rowIs.frozen HM1.out 23; have z25 := World.rowIs.frozen HM1.out 25; clear hb c23 HF HM)
  go_ret
  exact ⟨rfl, (HM1.out.set_done true).set_err E, grown_cell (grown_cell (grown_of_below HB.out _) 23 _) 25 _⟩
end
section
variable (w : World) (b qb qo n qcap db doff dcap : Nat) (z : Nat → Int) (mb : Nat) (s : Mach) (c : Int) (jt jf : Nat) (k : BitVec 32)
set_option maxHeartbeats 4000000 in
theorem p_step_end (h : PGoing w b qb qo n qcap db doff dcap z mb s c jt jf k) (hs : sealsC c = true) (hw : wrongE c k = 0) (f : Nat) (hf : opF opL c (-1) = (f : Int)) (hen : Go.Proofs.Enters Try.prog f) (s' : Mach) (hst : s'.steps = s.steps) (hdn : s'.done = true)
    (HC : ∀ W, PGoing W b qb qo n qcap db doff dcap z mb s c jt jf k → Calls Try.prog f #[.pointer (some ⟨b, 0, none⟩), .agg #[.int .u16 c, .int .u8 (jt : Int), .int .u8 (jf : Int), .int .u32 (k.toNat : Int)]] W (OpP W b (.slice (some ⟨qb, qo, none⟩) n qcap) (.slice (some ⟨db, doff, none⟩) 64 dcap) (.map (some mb)) s')) :
    Calls Try.prog 22 #[.pointer (some ⟨b, 0, none⟩)] w (PMethP w b (.slice (some ⟨qb, qo, none⟩) n qcap) (.slice (some ⟨db, doff, none⟩) 64 dcap) (.map (some mb)) true { s' with steps := s'.steps + 1 }) := by
  have c23 : w.cell? ⟨b, 23, none⟩ = some (.bool false) := by have := World.rowIs.cell h.mach (i := 23) (by decide); rw [this]; exact congrArg (fun x => some (Value.bool x)) h.going
  have HX0 := Lib.hid h
  have HF : Hid (Calls Try.prog 47 #[.pointer (some ⟨b, 0, none⟩)] w (FaultP w 0)) := Lib.hid (hw ▸ p_fault_go w b qb qo n qcap db doff dcap z mb s c jt jf k h hs f hf)
  have HLK := Lib.hid (fun w (h : OpsMap w mb) => ops_fn h c f HX0.out.code hf)
  have HCC := Lib.hid HC
  have hss : s'.steps < 1000000000000000000 := hst ▸ h.steps
  have hws : IntKind.i64.wrap ((s'.steps : Int) + 1) = (s'.steps : Int) + 1 := IntWalk.i64_in _ (by omega)
  have HD := Lib.hid hdn
  have hen' : ∀ args w, (callFunc f args).run Try.prog w = .ok (.enter f args) w := hen
  clear h hs hw hf hst hss hdn HC hen
  go_enter Try.func22, Try.ntmps22
  go_wp2_with (go_at_call 47; (with_reducible refine HF.out.mono ?_); rintro e X ⟨rfl, hb⟩; have HX := Lib.hid (HX0.out.below hb); have HBX := Lib.hid hb; clear hb c23 HF HX0)
  have hp' : (s.place : Int) < (n : Int) := by have := HX.out.place; omega
  have hn := HX.out.len
  refine wp_region_held_drew (S := fun w' => PMAt w' b (.slice (some ⟨qb, qo, none⟩) n qcap) (.slice (some ⟨db, doff, none⟩) 64 dcap) (.map (some mb)) s ∧ InsCells w' qb (qo + s.place * 4) ⟨c, jt, jf, k⟩) (by kernel_rfl) ⟨HX.out.mach.drew, HX.out.ins⟩ (fun hHeld => ?_)
  have HY0 : Hid (PGoing X.drew b qb qo n qcap db doff dcap z mb s c jt jf k) := Lib.hid (HX.out.below (below_drawn (Below.refl _ _) 1))
  have HBY0 : Hid (Below w.heap.size w X.drew) := Lib.hid (below_drawn HBX.out 1)
  clear HX HBX
  generalize X.drew = Y at HY0 HBY0 hHeld ⊢
  (try clear X)
  have hql := HY0.out.qlt
  have hbl := World.rowIs.lt HY0.out.mach
  refine wpAnyH_take (i := 0) (v := ?_) rfl (by kernel_rfl) (by kernel_rfl) (by kernel_rfl) (fun _ _ _ h => h) (Or.inl ⟨by rfl, ?_⟩) (by assumption) ?_
  rotate_left
  · intro wS hSw
    (have q0 : wS.cell? ⟨b, 0, none⟩ = some (.slice (some ⟨qb, qo, none⟩) n qcap) := World.rowIs.cell hSw.1 (i := 0) (by decide); have q21 : wS.cell? ⟨b, 21, none⟩ = some (.int .i64 (s.place : Int)) := World.rowIs.cell hSw.1 (i := 21) (by decide); obtain ⟨i0, i1, i2, i3⟩ := hSw.2; clear hSw)
    go_simp
    all_goals with_reducible rfl
  (try simp only [List.getElem_toArray, List.getElem_cons_zero, List.getElem_cons_succ, Act.put, List.setIfInBounds_toArray, List.set_cons_zero, List.set_cons_succ])
  refine wpAnyH_take (i := 1) (v := ?_) rfl (by kernel_rfl) (by kernel_rfl) (by kernel_rfl) (fun _ _ _ h => h) (Or.inl ⟨by rfl, ?_⟩) (by assumption) ?_
  rotate_left
  · intro wS hSw
    (have q0 : wS.cell? ⟨b, 0, none⟩ = some (.slice (some ⟨qb, qo, none⟩) n qcap) := World.rowIs.cell hSw.1 (i := 0) (by decide); have q21 : wS.cell? ⟨b, 21, none⟩ = some (.int .i64 (s.place : Int)) := World.rowIs.cell hSw.1 (i := 21) (by decide); obtain ⟨i0, i1, i2, i3⟩ := hSw.2; clear hSw)
    go_simp
    all_goals with_reducible rfl
  (try simp only [List.getElem_toArray, List.getElem_cons_zero, List.getElem_cons_succ, Act.put, List.setIfInBounds_toArray, List.set_cons_zero, List.set_cons_succ])
  refine wpAnyH_take (i := 2) (v := ?_) rfl (by kernel_rfl) (by kernel_rfl) (by kernel_rfl) (fun _ _ _ h => h) (Or.inl ⟨by rfl, ?_⟩) (by assumption) ?_
  rotate_left
  · intro wS hSw
    (have q0 : wS.cell? ⟨b, 0, none⟩ = some (.slice (some ⟨qb, qo, none⟩) n qcap) := World.rowIs.cell hSw.1 (i := 0) (by decide); have q21 : wS.cell? ⟨b, 21, none⟩ = some (.int .i64 (s.place : Int)) := World.rowIs.cell hSw.1 (i := 21) (by decide); obtain ⟨i0, i1, i2, i3⟩ := hSw.2; clear hSw)
    go_simp
    all_goals with_reducible rfl
  (try simp only [List.getElem_toArray, List.getElem_cons_zero, List.getElem_cons_succ, Act.put, List.setIfInBounds_toArray, List.set_cons_zero, List.set_cons_succ])
  refine wpAnyH_take (i := 3) (v := ?_) rfl (by kernel_rfl) (by kernel_rfl) (by kernel_rfl) (fun _ _ _ h => h) (Or.inl ⟨by rfl, ?_⟩) (by assumption) ?_
  rotate_left
  · intro wS hSw
    (have q0 : wS.cell? ⟨b, 0, none⟩ = some (.slice (some ⟨qb, qo, none⟩) n qcap) := World.rowIs.cell hSw.1 (i := 0) (by decide); have q21 : wS.cell? ⟨b, 21, none⟩ = some (.int .i64 (s.place : Int)) := World.rowIs.cell hSw.1 (i := 21) (by decide); obtain ⟨i0, i1, i2, i3⟩ := hSw.2; clear hSw)
    go_simp
    all_goals with_reducible rfl
  (try simp only [List.getElem_toArray, List.getElem_cons_zero, List.getElem_cons_succ, Act.put, List.setIfInBounds_toArray, List.set_cons_zero, List.set_cons_succ])
  refine wpAnyH_take (i := 4) (v := ?_) rfl (by kernel_rfl) (by kernel_rfl) (by kernel_rfl) (fun _ _ _ h => h) (Or.inl ⟨by rfl, ?_⟩) (by assumption) ?_
  rotate_left
  · intro wS hSw
    (have q0 : wS.cell? ⟨b, 0, none⟩ = some (.slice (some ⟨qb, qo, none⟩) n qcap) := World.rowIs.cell hSw.1 (i := 0) (by decide); have q21 : wS.cell? ⟨b, 21, none⟩ = some (.int .i64 (s.place : Int)) := World.rowIs.cell hSw.1 (i := 21) (by decide); obtain ⟨i0, i1, i2, i3⟩ := hSw.2; clear hSw)
    go_simp
    all_goals with_reducible rfl
  (try simp only [List.getElem_toArray, List.getElem_cons_zero, List.getElem_cons_succ, Act.put, List.setIfInBounds_toArray, List.set_cons_zero, List.set_cons_succ])
  refine wpAnyH_take (i := 5) (v := ?_) rfl (by kernel_rfl) (by kernel_rfl) (by kernel_rfl) (fun _ _ _ h => h) (Or.inl ⟨by rfl, ?_⟩) (by assumption) ?_
  rotate_left
  · intro wS hSw
    (have q0 : wS.cell? ⟨b, 0, none⟩ = some (.slice (some ⟨qb, qo, none⟩) n qcap) := World.rowIs.cell hSw.1 (i := 0) (by decide); have q21 : wS.cell? ⟨b, 21, none⟩ = some (.int .i64 (s.place : Int)) := World.rowIs.cell hSw.1 (i := 21) (by decide); obtain ⟨i0, i1, i2, i3⟩ := hSw.2; clear hSw)
    go_simp
    all_goals with_reducible rfl
  (try simp only [List.getElem_toArray, List.getElem_cons_zero, List.getElem_cons_succ, Act.put, List.setIfInBounds_toArray, List.set_cons_zero, List.set_cons_succ])
  refine wpAnyH_take (i := 6) (v := ?_) rfl (by kernel_rfl) (by kernel_rfl) (by kernel_rfl) (fun _ _ _ h => h) (Or.inl ⟨by rfl, ?_⟩) (by assumption) ?_
  rotate_left
  · intro wS hSw
    (have q0 : wS.cell? ⟨b, 0, none⟩ = some (.slice (some ⟨qb, qo, none⟩) n qcap) := World.rowIs.cell hSw.1 (i := 0) (by decide); have q21 : wS.cell? ⟨b, 21, none⟩ = some (.int .i64 (s.place : Int)) := World.rowIs.cell hSw.1 (i := 21) (by decide); obtain ⟨i0, i1, i2, i3⟩ := hSw.2; clear hSw)
    go_simp
    all_goals with_reducible rfl
  (try simp only [List.getElem_toArray, List.getElem_cons_zero, List.getElem_cons_succ, Act.put, List.setIfInBounds_toArray, List.set_cons_zero, List.set_cons_succ])
  refine wpAnyH_take (i := 7) (v := ?_) rfl (by kernel_rfl) (by kernel_rfl) (by kernel_rfl) (fun _ _ _ h => h) (Or.inl ⟨by rfl, ?_⟩) (by assumption) ?_
  rotate_left
  · intro wS hSw
    (have q0 : wS.cell? ⟨b, 0, none⟩ = some (.slice (some ⟨qb, qo, none⟩) n qcap) := World.rowIs.cell hSw.1 (i := 0) (by decide); have q21 : wS.cell? ⟨b, 21, none⟩ = some (.int .i64 (s.place : Int)) := World.rowIs.cell hSw.1 (i := 21) (by decide); obtain ⟨i0, i1, i2, i3⟩ := hSw.2; clear hSw)
    go_simp
    all_goals with_reducible rfl
  (try simp only [List.getElem_toArray, List.getElem_cons_zero, List.getElem_cons_succ, Act.put, List.setIfInBounds_toArray, List.set_cons_zero, List.set_cons_succ])
  refine wpAnyH_take (i := 8) (v := ?_) rfl (by kernel_rfl) (by kernel_rfl) (by kernel_rfl) (fun _ _ _ h => h) (Or.inl ⟨by rfl, ?_⟩) (by assumption) ?_
  rotate_left
  · intro wS hSw
    (have q0 : wS.cell? ⟨b, 0, none⟩ = some (.slice (some ⟨qb, qo, none⟩) n qcap) := World.rowIs.cell hSw.1 (i := 0) (by decide); have q21 : wS.cell? ⟨b, 21, none⟩ = some (.int .i64 (s.place : Int)) := World.rowIs.cell hSw.1 (i := 21) (by decide); obtain ⟨i0, i1, i2, i3⟩ := hSw.2; clear hSw)
    go_simp
    all_goals with_reducible rfl
  (try simp only [List.getElem_toArray, List.getElem_cons_zero, List.getElem_cons_succ, Act.put, List.setIfInBounds_toArray, List.set_cons_zero, List.set_cons_succ])
  refine wpAnyH_take (i := 9) (v := ?_) rfl (by kernel_rfl) (by kernel_rfl) (by kernel_rfl) (fun _ _ _ h => h) (Or.inl ⟨by rfl, ?_⟩) (by assumption) ?_
  rotate_left
  · intro wS hSw
    (have q0 : wS.cell? ⟨b, 0, none⟩ = some (.slice (some ⟨qb, qo, none⟩) n qcap) := World.rowIs.cell hSw.1 (i := 0) (by decide); have q21 : wS.cell? ⟨b, 21, none⟩ = some (.int .i64 (s.place : Int)) := World.rowIs.cell hSw.1 (i := 21) (by decide); obtain ⟨i0, i1, i2, i3⟩ := hSw.2; clear hSw)
    go_simp
    all_goals with_reducible rfl
  (try simp only [List.getElem_toArray, List.getElem_cons_zero, List.getElem_cons_succ, Act.put, List.setIfInBounds_toArray, List.set_cons_zero, List.set_cons_succ])
  refine held_one (i := 10) (by kernel_rfl) rfl (fun K hK => ?_)
  go_simp
  refine hK.out _ _ ⟨hHeld.1.alloc _, hHeld.2.below (box_below _ _) hql⟩ (fun hH2 => ?_)
  clear hK K hHeld
  (try simp only [Act.put, List.setIfInBounds_toArray, List.set_cons_zero, List.set_cons_succ])
  have R1 : (Y.alloc (.cells #[.int .u16 0, .int .u8 0, .int .u8 0, .int .u32 0] 50)).rowIs Y.heap.size 50 4 (insF ⟨0, 0, 0, 0#32⟩) := ins_new Y
  have B1 := box_below Y (.cells #[.int .u16 0, .int .u8 0, .int .u8 0, .int .u32 0] 50)
  generalize Y.alloc (.cells #[.int .u16 0, .int .u8 0, .int .u8 0, .int .u32 0] 50) = W1 at R1 B1 hH2 ⊢
  have e0 : W1.cell? ⟨Y.heap.size, 0, none⟩ = some (.int .u16 0) := World.rowIs.cell R1 (i := 0) (by decide)
  have e1 : W1.cell? ⟨Y.heap.size, 1, none⟩ = some (.int .u8 0) := World.rowIs.cell R1 (i := 1) (by decide)
  have e2 : W1.cell? ⟨Y.heap.size, 2, none⟩ = some (.int .u8 0) := World.rowIs.cell R1 (i := 2) (by decide)
  have e3 : W1.cell? ⟨Y.heap.size, 3, none⟩ = some (.int .u32 0) := World.rowIs.cell R1 (i := 3) (by decide)
  have y0 := World.rowIs.frozen R1 0
  have y1 := World.rowIs.frozen R1 1
  have y2 := World.rowIs.frozen R1 2
  have y3 := World.rowIs.frozen R1 3
  have R2 := Lib.hid (ins_set R1 c jt jf k)
  have G2 := Lib.hid (ins_grown (World.grownBy.refl W1 (some Y.heap.size)) (.int .u16 c) (.int .u8 (jt : Int)) (.int .u8 (jf : Int)) (.int .u32 (k.toNat : Int)))
  have HB1 := Lib.hid B1
  have HH := Lib.hid hH2
  clear R1 B1 hH2
  refine held_one (i := 11) (by kernel_rfl) rfl (fun K hK => ?_)
  go_simp
  have hM2 := HH.out.1.grown G2.out (by omega)
  have hI2 := HH.out.2.grown G2.out (by omega)
  have hB2 := below_grown HB1.out G2.out (Nat.le_refl _) (Nat.le_refl _)
  refine hK.out _ _ ⟨hM2, hI2⟩ (fun hX2 => ?_)
  clear hX2 hK K e0 e1 e2 e3 y0 y1 y2 y3 HH G2 HB1 hI2 hM2
  have hR2 := R2.out
  clear R2
  refine wpAnyH_done (by kernel_rfl) ?_ _
  generalize (((W1.setCell ⟨Y.heap.size, 0, none⟩ (.int .u16 c)).setCell ⟨Y.heap.size, 1, none⟩ (.int .u8 (jt : Int))).setCell ⟨Y.heap.size, 2, none⟩ (.int .u8 (jf : Int))).setCell ⟨Y.heap.size, 3, none⟩ (.int .u32 (k.toNat : Int)) = W2 at hB2 hR2 ⊢
  (try clear W1)
  have HY := Lib.hid (HY0.out.below hB2)
  have HR := Lib.hid hR2
  have HBY := Lib.hid (HBY0.out.trans (hB2.mono HBY0.out.size))
  have hgb : ¬ Y.heap.size = b := by omega
  clear HY0 HBY0 hB2 hR2 hp' hn hql hbl
  generalize Y.heap.size = g at HR hgb ⊢
  (try clear Y)
  obtain ⟨i0, i1, i2, i3⟩ := ins_cells HR.out
  have y2 : W2.cell? ⟨b, 2, none⟩ = some (.map (some mb)) := World.rowIs.cell HY.out.mach (i := 2) (by decide)
  go_wp2
  refine wp_region_held_drew (S := fun w' => w'.rowIs g 50 4 (insF ⟨c, jt, jf, k⟩) ∧ w'.cell? ⟨b, 2, none⟩ = some (.map (some mb)) ∧ OpsMap w' mb) (by kernel_rfl) ⟨HR.out, y2, HY.out.ops⟩ (fun hHeld => ?_)
  have HY2 : Hid (PGoing W2.drew b qb qo n qcap db doff dcap z mb s c jt jf k) := Lib.hid (HY.out.below (below_drawn (Below.refl _ _) 1))
  have HBY2 : Hid (Below w.heap.size w W2.drew) := Lib.hid (below_drawn HBY.out 1)
  clear HY HBY HR i0 i1 i2 i3 y2
  generalize W2.drew = W3 at HY2 HBY2 hHeld ⊢
  refine wpAnyH_take (i := 0) (v := ?_) rfl (by kernel_rfl) (by kernel_rfl) (by kernel_rfl) (fun _ _ _ h => h) (Or.inl ⟨by rfl, ?_⟩) (by assumption) ?_
  rotate_left
  · intro wS hSw
    (obtain ⟨q0, q1, q2, q3⟩ := ins_cells hSw.1; have q4 := hSw.2.1; have q5 := HLK.out _ hSw.2.2; clear hSw)
    go_simp
    all_goals with_reducible rfl
  (try simp only [List.getElem_toArray, List.getElem_cons_zero, List.getElem_cons_succ, Act.put, List.setIfInBounds_toArray, List.set_cons_zero, List.set_cons_succ])
  refine wpAnyH_take (i := 1) (v := ?_) rfl (by kernel_rfl) (by kernel_rfl) (by kernel_rfl) (fun _ _ _ h => h) (Or.inl ⟨by rfl, ?_⟩) (by assumption) ?_
  rotate_left
  · intro wS hSw
    (obtain ⟨q0, q1, q2, q3⟩ := ins_cells hSw.1; have q4 := hSw.2.1; have q5 := HLK.out _ hSw.2.2; clear hSw)
    go_simp
    all_goals with_reducible rfl
  (try simp only [List.getElem_toArray, List.getElem_cons_zero, List.getElem_cons_succ, Act.put, List.setIfInBounds_toArray, List.set_cons_zero, List.set_cons_succ])
  refine wpAnyH_take (i := 2) (v := ?_) rfl (by kernel_rfl) (by kernel_rfl) (by kernel_rfl) (fun _ _ _ h => h) (Or.inl ⟨by rfl, ?_⟩) (by assumption) ?_
  rotate_left
  · intro wS hSw
    (obtain ⟨q0, q1, q2, q3⟩ := ins_cells hSw.1; have q4 := hSw.2.1; have q5 := HLK.out _ hSw.2.2; clear hSw)
    go_simp
    all_goals with_reducible rfl
  (try simp only [List.getElem_toArray, List.getElem_cons_zero, List.getElem_cons_succ, Act.put, List.setIfInBounds_toArray, List.set_cons_zero, List.set_cons_succ])
  refine wpAnyH_take (i := 3) (v := ?_) rfl (by kernel_rfl) (by kernel_rfl) (by kernel_rfl) (fun _ _ _ h => h) (Or.inl ⟨by rfl, ?_⟩) (by assumption) ?_
  rotate_left
  · intro wS hSw
    (obtain ⟨q0, q1, q2, q3⟩ := ins_cells hSw.1; have q4 := hSw.2.1; have q5 := HLK.out _ hSw.2.2; clear hSw)
    go_simp
    all_goals with_reducible rfl
  (try simp only [List.getElem_toArray, List.getElem_cons_zero, List.getElem_cons_succ, Act.put, List.setIfInBounds_toArray, List.set_cons_zero, List.set_cons_succ])
  refine wpAnyH_take (i := 4) (v := ?_) rfl (by kernel_rfl) (by kernel_rfl) (by kernel_rfl) (fun _ _ _ h => h) (Or.inl ⟨by rfl, ?_⟩) (by assumption) ?_
  rotate_left
  · intro wS hSw
    (obtain ⟨q0, q1, q2, q3⟩ := ins_cells hSw.1; have q4 := hSw.2.1; have q5 := HLK.out _ hSw.2.2; clear hSw)
    go_simp
    all_goals with_reducible rfl
  (try simp only [List.getElem_toArray, List.getElem_cons_zero, List.getElem_cons_succ, Act.put, List.setIfInBounds_toArray, List.set_cons_zero, List.set_cons_succ])
  refine wpAnyH_take (i := 5) (v := ?_) rfl (by kernel_rfl) (by kernel_rfl) (by kernel_rfl) (fun _ _ _ h => h) (Or.inl ⟨by rfl, ?_⟩) (by assumption) ?_
  rotate_left
  · intro wS hSw
    (obtain ⟨q0, q1, q2, q3⟩ := ins_cells hSw.1; have q4 := hSw.2.1; have q5 := HLK.out _ hSw.2.2; clear hSw)
    go_simp
    all_goals with_reducible rfl
  (try simp only [List.getElem_toArray, List.getElem_cons_zero, List.getElem_cons_succ, Act.put, List.setIfInBounds_toArray, List.set_cons_zero, List.set_cons_succ])
  refine wpAnyH_take (i := 6) (v := ?_) rfl (by kernel_rfl) (by kernel_rfl) (by kernel_rfl) (fun _ _ _ h => h) (Or.inl ⟨by rfl, ?_⟩) (by assumption) ?_
  rotate_left
  · intro wS hSw
    (obtain ⟨q0, q1, q2, q3⟩ := ins_cells hSw.1; have q4 := hSw.2.1; have q5 := HLK.out _ hSw.2.2; clear hSw)
    go_simp
    all_goals with_reducible rfl
  (try simp only [List.getElem_toArray, List.getElem_cons_zero, List.getElem_cons_succ, Act.put, List.setIfInBounds_toArray, List.set_cons_zero, List.set_cons_succ])
  refine wpAnyH_take (i := 7) (v := ?_) rfl (by kernel_rfl) (by kernel_rfl) (by kernel_rfl) (fun _ _ _ h => h) (Or.inl ⟨by rfl, ?_⟩) (by assumption) ?_
  rotate_left
  · intro wS hSw
    (obtain ⟨q0, q1, q2, q3⟩ := ins_cells hSw.1; have q4 := hSw.2.1; have q5 := HLK.out _ hSw.2.2; clear hSw)
    go_simp
    all_goals with_reducible rfl
  (try simp only [List.getElem_toArray, List.getElem_cons_zero, List.getElem_cons_succ, Act.put, List.setIfInBounds_toArray, List.set_cons_zero, List.set_cons_succ])
  refine wpAnyH_take (i := 8) (v := ?_) rfl (by kernel_rfl) (by kernel_rfl) (by kernel_rfl) (fun _ _ _ h => h) (Or.inl ⟨by rfl, ?_⟩) (by assumption) ?_
  rotate_left
  · intro wS hSw
    (obtain ⟨q0, q1, q2, q3⟩ := ins_cells hSw.1; have q4 := hSw.2.1; have q5 := HLK.out _ hSw.2.2; clear hSw)
    go_simp
    all_goals with_reducible rfl
  (try simp only [List.getElem_toArray, List.getElem_cons_zero, List.getElem_cons_succ, Act.put, List.setIfInBounds_toArray, List.set_cons_zero, List.set_cons_succ])
  refine held_one (i := 9) (by kernel_rfl) rfl (fun K hK => ?_)
  go_simp
  refine (HCC.out _ HY2.out).mono ?_
  rintro e W4 ⟨rfl, hm, hg⟩
  refine hK.out _ _ ⟨rowIs_grown hHeld.1 hg (fun e => hgb (by injection e)), World.rowIs.cell hm (i := 2) (by decide), hHeld.2.2.grown hg HY2.out.mfar⟩ (fun _ => ?_)
  refine wpAnyH_done (by kernel_rfl) ?_ _
  have HM4 := Lib.hid hm
  have HG4 := Lib.hid (grown_trans (grown_of_below HBY2.out (some b)) hg)
  have d22 : W4.cell? ⟨b, 22, none⟩ = some (.int .i64 (s'.steps : Int)) := World.rowIs.cell hm (i := 22) (by decide)
  have d21 : W4.cell? ⟨b, 21, none⟩ = some (.int .i64 (s'.place : Int)) := World.rowIs.cell hm (i := 21) (by decide)
  have d23 : W4.cell? ⟨b, 23, none⟩ = some (.bool true) := by have := World.rowIs.cell hm (i := 23) (by decide); rw [this]; exact congrArg (fun x => some (Value.bool x)) HD.out
  have z22 := World.rowIs.frozen hm 22
  have z21 := World.rowIs.frozen hm 21
  clear hm hg hK K hHeld HY2 HBY2 HLK HCC
  go_wp2
  go_ret
  exact ⟨rfl, HM4.out.set_steps (s'.steps + 1), grown_cell HG4.out 22 _⟩
set_option maxHeartbeats 4000000 in
theorem p_step_on (h : PGoing w b qb qo n qcap db doff dcap z mb s c jt jf k) (hs : sealsC c = true) (hw : wrongE c k = 0) (f : Nat) (hf : opF opL c (-1) = (f : Int)) (hen : Go.Proofs.Enters Try.prog f) (s' : Mach) (hst : s'.steps = s.steps) (hdn : s'.done = false) (hpl : s'.place ≤ 1000000000000000000)
    (HC : ∀ W, PGoing W b qb qo n qcap db doff dcap z mb s c jt jf k → Calls Try.prog f #[.pointer (some ⟨b, 0, none⟩), .agg #[.int .u16 c, .int .u8 (jt : Int), .int .u8 (jf : Int), .int .u32 (k.toNat : Int)]] W (OpP W b (.slice (some ⟨qb, qo, none⟩) n qcap) (.slice (some ⟨db, doff, none⟩) 64 dcap) (.map (some mb)) s')) :
    Calls Try.prog 22 #[.pointer (some ⟨b, 0, none⟩)] w (PMethP w b (.slice (some ⟨qb, qo, none⟩) n qcap) (.slice (some ⟨db, doff, none⟩) 64 dcap) (.map (some mb)) false { s' with steps := s'.steps + 1, place := s'.place + 1 }) := by
  have c23 : w.cell? ⟨b, 23, none⟩ = some (.bool false) := by have := World.rowIs.cell h.mach (i := 23) (by decide); rw [this]; exact congrArg (fun x => some (Value.bool x)) h.going
  have HX0 := Lib.hid h
  have HF : Hid (Calls Try.prog 47 #[.pointer (some ⟨b, 0, none⟩)] w (FaultP w 0)) := Lib.hid (hw ▸ p_fault_go w b qb qo n qcap db doff dcap z mb s c jt jf k h hs f hf)
  have HLK := Lib.hid (fun w (h : OpsMap w mb) => ops_fn h c f HX0.out.code hf)
  have HCC := Lib.hid HC
  have hss : s'.steps < 1000000000000000000 := hst ▸ h.steps
  have hws : IntKind.i64.wrap ((s'.steps : Int) + 1) = (s'.steps : Int) + 1 := IntWalk.i64_in _ (by omega)
  have hwp : IntKind.i64.wrap ((s'.place : Int) + 1) = (s'.place : Int) + 1 := IntWalk.i64_in _ (by omega)
  have HD := Lib.hid hdn
  have hen' : ∀ args w, (callFunc f args).run Try.prog w = .ok (.enter f args) w := hen
  clear h hs hw hf hst hss hdn HC hen
  go_enter Try.func22, Try.ntmps22
  go_wp2_with (go_at_call 47; (with_reducible refine HF.out.mono ?_); rintro e X ⟨rfl, hb⟩; have HX := Lib.hid (HX0.out.below hb); have HBX := Lib.hid hb; clear hb c23 HF HX0)
  have hp' : (s.place : Int) < (n : Int) := by have := HX.out.place; omega
  have hn := HX.out.len
  refine wp_region_held_drew (S := fun w' => PMAt w' b (.slice (some ⟨qb, qo, none⟩) n qcap) (.slice (some ⟨db, doff, none⟩) 64 dcap) (.map (some mb)) s ∧ InsCells w' qb (qo + s.place * 4) ⟨c, jt, jf, k⟩) (by kernel_rfl) ⟨HX.out.mach.drew, HX.out.ins⟩ (fun hHeld => ?_)
  have HY0 : Hid (PGoing X.drew b qb qo n qcap db doff dcap z mb s c jt jf k) := Lib.hid (HX.out.below (below_drawn (Below.refl _ _) 1))
  have HBY0 : Hid (Below w.heap.size w X.drew) := Lib.hid (below_drawn HBX.out 1)
  clear HX HBX
  generalize X.drew = Y at HY0 HBY0 hHeld ⊢
  (try clear X)
  have hql := HY0.out.qlt
  have hbl := World.rowIs.lt HY0.out.mach
  refine wpAnyH_take (i := 0) (v := ?_) rfl (by kernel_rfl) (by kernel_rfl) (by kernel_rfl) (fun _ _ _ h => h) (Or.inl ⟨by rfl, ?_⟩) (by assumption) ?_
  rotate_left
  · intro wS hSw
    (have q0 : wS.cell? ⟨b, 0, none⟩ = some (.slice (some ⟨qb, qo, none⟩) n qcap) := World.rowIs.cell hSw.1 (i := 0) (by decide); have q21 : wS.cell? ⟨b, 21, none⟩ = some (.int .i64 (s.place : Int)) := World.rowIs.cell hSw.1 (i := 21) (by decide); obtain ⟨i0, i1, i2, i3⟩ := hSw.2; clear hSw)
    go_simp
    all_goals with_reducible rfl
  (try simp only [List.getElem_toArray, List.getElem_cons_zero, List.getElem_cons_succ, Act.put, List.setIfInBounds_toArray, List.set_cons_zero, List.set_cons_succ])
  refine wpAnyH_take (i := 1) (v := ?_) rfl (by kernel_rfl) (by kernel_rfl) (by kernel_rfl) (fun _ _ _ h => h) (Or.inl ⟨by rfl, ?_⟩) (by assumption) ?_
  rotate_left
  · intro wS hSw
    (have q0 : wS.cell? ⟨b, 0, none⟩ = some (.slice (some ⟨qb, qo, none⟩) n qcap) := World.rowIs.cell hSw.1 (i := 0) (by decide); have q21 : wS.cell? ⟨b, 21, none⟩ = some (.int .i64 (s.place : Int)) := World.rowIs.cell hSw.1 (i := 21) (by decide); obtain ⟨i0, i1, i2, i3⟩ := hSw.2; clear hSw)
    go_simp
    all_goals with_reducible rfl
  (try simp only [List.getElem_toArray, List.getElem_cons_zero, List.getElem_cons_succ, Act.put, List.setIfInBounds_toArray, List.set_cons_zero, List.set_cons_succ])
  refine wpAnyH_take (i := 2) (v := ?_) rfl (by kernel_rfl) (by kernel_rfl) (by kernel_rfl) (fun _ _ _ h => h) (Or.inl ⟨by rfl, ?_⟩) (by assumption) ?_
  rotate_left
  · intro wS hSw
    (have q0 : wS.cell? ⟨b, 0, none⟩ = some (.slice (some ⟨qb, qo, none⟩) n qcap) := World.rowIs.cell hSw.1 (i := 0) (by decide); have q21 : wS.cell? ⟨b, 21, none⟩ = some (.int .i64 (s.place : Int)) := World.rowIs.cell hSw.1 (i := 21) (by decide); obtain ⟨i0, i1, i2, i3⟩ := hSw.2; clear hSw)
    go_simp
    all_goals with_reducible rfl
  (try simp only [List.getElem_toArray, List.getElem_cons_zero, List.getElem_cons_succ, Act.put, List.setIfInBounds_toArray, List.set_cons_zero, List.set_cons_succ])
  refine wpAnyH_take (i := 3) (v := ?_) rfl (by kernel_rfl) (by kernel_rfl) (by kernel_rfl) (fun _ _ _ h => h) (Or.inl ⟨by rfl, ?_⟩) (by assumption) ?_
  rotate_left
  · intro wS hSw
    (have q0 : wS.cell? ⟨b, 0, none⟩ = some (.slice (some ⟨qb, qo, none⟩) n qcap) := World.rowIs.cell hSw.1 (i := 0) (by decide); have q21 : wS.cell? ⟨b, 21, none⟩ = some (.int .i64 (s.place : Int)) := World.rowIs.cell hSw.1 (i := 21) (by decide); obtain ⟨i0, i1, i2, i3⟩ := hSw.2; clear hSw)
    go_simp
    all_goals with_reducible rfl
  (try simp only [List.getElem_toArray, List.getElem_cons_zero, List.getElem_cons_succ, Act.put, List.setIfInBounds_toArray, List.set_cons_zero, List.set_cons_succ])
  refine wpAnyH_take (i := 4) (v := ?_) rfl (by kernel_rfl) (by kernel_rfl) (by kernel_rfl) (fun _ _ _ h => h) (Or.inl ⟨by rfl, ?_⟩) (by assumption) ?_
  rotate_left
  · intro wS hSw
    (have q0 : wS.cell? ⟨b, 0, none⟩ = some (.slice (some ⟨qb, qo, none⟩) n qcap) := World.rowIs.cell hSw.1 (i := 0) (by decide); have q21 : wS.cell? ⟨b, 21, none⟩ = some (.int .i64 (s.place : Int)) := World.rowIs.cell hSw.1 (i := 21) (by decide); obtain ⟨i0, i1, i2, i3⟩ := hSw.2; clear hSw)
    go_simp
    all_goals with_reducible rfl
  (try simp only [List.getElem_toArray, List.getElem_cons_zero, List.getElem_cons_succ, Act.put, List.setIfInBounds_toArray, List.set_cons_zero, List.set_cons_succ])
  refine wpAnyH_take (i := 5) (v := ?_) rfl (by kernel_rfl) (by kernel_rfl) (by kernel_rfl) (fun _ _ _ h => h) (Or.inl ⟨by rfl, ?_⟩) (by assumption) ?_
  rotate_left
  · intro wS hSw
    (have q0 : wS.cell? ⟨b, 0, none⟩ = some (.slice (some ⟨qb, qo, none⟩) n qcap) := World.rowIs.cell hSw.1 (i := 0) (by decide); have q21 : wS.cell? ⟨b, 21, none⟩ = some (.int .i64 (s.place : Int)) := World.rowIs.cell hSw.1 (i := 21) (by decide); obtain ⟨i0, i1, i2, i3⟩ := hSw.2; clear hSw)
    go_simp
    all_goals with_reducible rfl
  (try simp only [List.getElem_toArray, List.getElem_cons_zero, List.getElem_cons_succ, Act.put, List.setIfInBounds_toArray, List.set_cons_zero, List.set_cons_succ])
  refine wpAnyH_take (i := 6) (v := ?_) rfl (by kernel_rfl) (by kernel_rfl) (by kernel_rfl) (fun _ _ _ h => h) (Or.inl ⟨by rfl, ?_⟩) (by assumption) ?_
  rotate_left
  · intro wS hSw
    (have q0 : wS.cell? ⟨b, 0, none⟩ = some (.slice (some ⟨qb, qo, none⟩) n qcap) := World.rowIs.cell hSw.1 (i := 0) (by decide); have q21 : wS.cell? ⟨b, 21, none⟩ = some (.int .i64 (s.place : Int)) := World.rowIs.cell hSw.1 (i := 21) (by decide); obtain ⟨i0, i1, i2, i3⟩ := hSw.2; clear hSw)
    go_simp
    all_goals with_reducible rfl
  (try simp only [List.getElem_toArray, List.getElem_cons_zero, List.getElem_cons_succ, Act.put, List.setIfInBounds_toArray, List.set_cons_zero, List.set_cons_succ])
  refine wpAnyH_take (i := 7) (v := ?_) rfl (by kernel_rfl) (by kernel_rfl) (by kernel_rfl) (fun _ _ _ h => h) (Or.inl ⟨by rfl, ?_⟩) (by assumption) ?_
  rotate_left
  · intro wS hSw
    (have q0 : wS.cell? ⟨b, 0, none⟩ = some (.slice (some ⟨qb, qo, none⟩) n qcap) := World.rowIs.cell hSw.1 (i := 0) (by decide); have q21 : wS.cell? ⟨b, 21, none⟩ = some (.int .i64 (s.place : Int)) := World.rowIs.cell hSw.1 (i := 21) (by decide); obtain ⟨i0, i1, i2, i3⟩ := hSw.2; clear hSw)
    go_simp
    all_goals with_reducible rfl
  (try simp only [List.getElem_toArray, List.getElem_cons_zero, List.getElem_cons_succ, Act.put, List.setIfInBounds_toArray, List.set_cons_zero, List.set_cons_succ])
  refine wpAnyH_take (i := 8) (v := ?_) rfl (by kernel_rfl) (by kernel_rfl) (by kernel_rfl) (fun _ _ _ h => h) (Or.inl ⟨by rfl, ?_⟩) (by assumption) ?_
  rotate_left
  · intro wS hSw
    (have q0 : wS.cell? ⟨b, 0, none⟩ = some (.slice (some ⟨qb, qo, none⟩) n qcap) := World.rowIs.cell hSw.1 (i := 0) (by decide); have q21 : wS.cell? ⟨b, 21, none⟩ = some (.int .i64 (s.place : Int)) := World.rowIs.cell hSw.1 (i := 21) (by decide); obtain ⟨i0, i1, i2, i3⟩ := hSw.2; clear hSw)
    go_simp
    all_goals with_reducible rfl
  (try simp only [List.getElem_toArray, List.getElem_cons_zero, List.getElem_cons_succ, Act.put, List.setIfInBounds_toArray, List.set_cons_zero, List.set_cons_succ])
  refine wpAnyH_take (i := 9) (v := ?_) rfl (by kernel_rfl) (by kernel_rfl) (by kernel_rfl) (fun _ _ _ h => h) (Or.inl ⟨by rfl, ?_⟩) (by assumption) ?_
  rotate_left
  · intro wS hSw
    (have q0 : wS.cell? ⟨b, 0, none⟩ = some (.slice (some ⟨qb, qo, none⟩) n qcap) := World.rowIs.cell hSw.1 (i := 0) (by decide); have q21 : wS.cell? ⟨b, 21, none⟩ = some (.int .i64 (s.place : Int)) := World.rowIs.cell hSw.1 (i := 21) (by decide); obtain ⟨i0, i1, i2, i3⟩ := hSw.2; clear hSw)
    go_simp
    all_goals with_reducible rfl
  (try simp only [List.getElem_toArray, List.getElem_cons_zero, List.getElem_cons_succ, Act.put, List.setIfInBounds_toArray, List.set_cons_zero, List.set_cons_succ])
  refine held_one (i := 10) (by kernel_rfl) rfl (fun K hK => ?_)
  go_simp
  refine hK.out _ _ ⟨hHeld.1.alloc _, hHeld.2.below (box_below _ _) hql⟩ (fun hH2 => ?_)
  clear hK K hHeld
  (try simp only [Act.put, List.setIfInBounds_toArray, List.set_cons_zero, List.set_cons_succ])
  have R1 : (Y.alloc (.cells #[.int .u16 0, .int .u8 0, .int .u8 0, .int .u32 0] 50)).rowIs Y.heap.size 50 4 (insF ⟨0, 0, 0, 0#32⟩) := ins_new Y
  have B1 := box_below Y (.cells #[.int .u16 0, .int .u8 0, .int .u8 0, .int .u32 0] 50)
  generalize Y.alloc (.cells #[.int .u16 0, .int .u8 0, .int .u8 0, .int .u32 0] 50) = W1 at R1 B1 hH2 ⊢
  have e0 : W1.cell? ⟨Y.heap.size, 0, none⟩ = some (.int .u16 0) := World.rowIs.cell R1 (i := 0) (by decide)
  have e1 : W1.cell? ⟨Y.heap.size, 1, none⟩ = some (.int .u8 0) := World.rowIs.cell R1 (i := 1) (by decide)
  have e2 : W1.cell? ⟨Y.heap.size, 2, none⟩ = some (.int .u8 0) := World.rowIs.cell R1 (i := 2) (by decide)
  have e3 : W1.cell? ⟨Y.heap.size, 3, none⟩ = some (.int .u32 0) := World.rowIs.cell R1 (i := 3) (by decide)
  have y0 := World.rowIs.frozen R1 0
  have y1 := World.rowIs.frozen R1 1
  have y2 := World.rowIs.frozen R1 2
  have y3 := World.rowIs.frozen R1 3
  have R2 := Lib.hid (ins_set R1 c jt jf k)
  have G2 := Lib.hid (ins_grown (World.grownBy.refl W1 (some Y.heap.size)) (.int .u16 c) (.int .u8 (jt : Int)) (.int .u8 (jf : Int)) (.int .u32 (k.toNat : Int)))
  have HB1 := Lib.hid B1
  have HH := Lib.hid hH2
  clear R1 B1 hH2
  refine held_one (i := 11) (by kernel_rfl) rfl (fun K hK => ?_)
  go_simp
  have hM2 := HH.out.1.grown G2.out (by omega)
  have hI2 := HH.out.2.grown G2.out (by omega)
  have hB2 := below_grown HB1.out G2.out (Nat.le_refl _) (Nat.le_refl _)
  refine hK.out _ _ ⟨hM2, hI2⟩ (fun hX2 => ?_)
  clear hX2 hK K e0 e1 e2 e3 y0 y1 y2 y3 HH G2 HB1 hI2 hM2
  have hR2 := R2.out
  clear R2
  refine wpAnyH_done (by kernel_rfl) ?_ _
  generalize (((W1.setCell ⟨Y.heap.size, 0, none⟩ (.int .u16 c)).setCell ⟨Y.heap.size, 1, none⟩ (.int .u8 (jt : Int))).setCell ⟨Y.heap.size, 2, none⟩ (.int .u8 (jf : Int))).setCell ⟨Y.heap.size, 3, none⟩ (.int .u32 (k.toNat : Int)) = W2 at hB2 hR2 ⊢
  (try clear W1)
  have HY := Lib.hid (HY0.out.below hB2)
  have HR := Lib.hid hR2
  have HBY := Lib.hid (HBY0.out.trans (hB2.mono HBY0.out.size))
  have hgb : ¬ Y.heap.size = b := by omega
  clear HY0 HBY0 hB2 hR2 hp' hn hql hbl
  generalize Y.heap.size = g at HR hgb ⊢
  (try clear Y)
  obtain ⟨i0, i1, i2, i3⟩ := ins_cells HR.out
  have y2 : W2.cell? ⟨b, 2, none⟩ = some (.map (some mb)) := World.rowIs.cell HY.out.mach (i := 2) (by decide)
  go_wp2
  refine wp_region_held_drew (S := fun w' => w'.rowIs g 50 4 (insF ⟨c, jt, jf, k⟩) ∧ w'.cell? ⟨b, 2, none⟩ = some (.map (some mb)) ∧ OpsMap w' mb) (by kernel_rfl) ⟨HR.out, y2, HY.out.ops⟩ (fun hHeld => ?_)
  have HY2 : Hid (PGoing W2.drew b qb qo n qcap db doff dcap z mb s c jt jf k) := Lib.hid (HY.out.below (below_drawn (Below.refl _ _) 1))
  have HBY2 : Hid (Below w.heap.size w W2.drew) := Lib.hid (below_drawn HBY.out 1)
  clear HY HBY HR i0 i1 i2 i3 y2
  generalize W2.drew = W3 at HY2 HBY2 hHeld ⊢
  refine wpAnyH_take (i := 0) (v := ?_) rfl (by kernel_rfl) (by kernel_rfl) (by kernel_rfl) (fun _ _ _ h => h) (Or.inl ⟨by rfl, ?_⟩) (by assumption) ?_
  rotate_left
  · intro wS hSw
    (obtain ⟨q0, q1, q2, q3⟩ := ins_cells hSw.1; have q4 := hSw.2.1; have q5 := HLK.out _ hSw.2.2; clear hSw)
    go_simp
    all_goals with_reducible rfl
  (try simp only [List.getElem_toArray, List.getElem_cons_zero, List.getElem_cons_succ, Act.put, List.setIfInBounds_toArray, List.set_cons_zero, List.set_cons_succ])
  refine wpAnyH_take (i := 1) (v := ?_) rfl (by kernel_rfl) (by kernel_rfl) (by kernel_rfl) (fun _ _ _ h => h) (Or.inl ⟨by rfl, ?_⟩) (by assumption) ?_
  rotate_left
  · intro wS hSw
    (obtain ⟨q0, q1, q2, q3⟩ := ins_cells hSw.1; have q4 := hSw.2.1; have q5 := HLK.out _ hSw.2.2; clear hSw)
    go_simp
    all_goals with_reducible rfl
  (try simp only [List.getElem_toArray, List.getElem_cons_zero, List.getElem_cons_succ, Act.put, List.setIfInBounds_toArray, List.set_cons_zero, List.set_cons_succ])
  refine wpAnyH_take (i := 2) (v := ?_) rfl (by kernel_rfl) (by kernel_rfl) (by kernel_rfl) (fun _ _ _ h => h) (Or.inl ⟨by rfl, ?_⟩) (by assumption) ?_
  rotate_left
  · intro wS hSw
    (obtain ⟨q0, q1, q2, q3⟩ := ins_cells hSw.1; have q4 := hSw.2.1; have q5 := HLK.out _ hSw.2.2; clear hSw)
    go_simp
    all_goals with_reducible rfl
  (try simp only [List.getElem_toArray, List.getElem_cons_zero, List.getElem_cons_succ, Act.put, List.setIfInBounds_toArray, List.set_cons_zero, List.set_cons_succ])
  refine wpAnyH_take (i := 3) (v := ?_) rfl (by kernel_rfl) (by kernel_rfl) (by kernel_rfl) (fun _ _ _ h => h) (Or.inl ⟨by rfl, ?_⟩) (by assumption) ?_
  rotate_left
  · intro wS hSw
    (obtain ⟨q0, q1, q2, q3⟩ := ins_cells hSw.1; have q4 := hSw.2.1; have q5 := HLK.out _ hSw.2.2; clear hSw)
    go_simp
    all_goals with_reducible rfl
  (try simp only [List.getElem_toArray, List.getElem_cons_zero, List.getElem_cons_succ, Act.put, List.setIfInBounds_toArray, List.set_cons_zero, List.set_cons_succ])
  refine wpAnyH_take (i := 4) (v := ?_) rfl (by kernel_rfl) (by kernel_rfl) (by kernel_rfl) (fun _ _ _ h => h) (Or.inl ⟨by rfl, ?_⟩) (by assumption) ?_
  rotate_left
  · intro wS hSw
    (obtain ⟨q0, q1, q2, q3⟩ := ins_cells hSw.1; have q4 := hSw.2.1; have q5 := HLK.out _ hSw.2.2; clear hSw)
    go_simp
    all_goals with_reducible rfl
  (try simp only [List.getElem_toArray, List.getElem_cons_zero, List.getElem_cons_succ, Act.put, List.setIfInBounds_toArray, List.set_cons_zero, List.set_cons_succ])
  refine wpAnyH_take (i := 5) (v := ?_) rfl (by kernel_rfl) (by kernel_rfl) (by kernel_rfl) (fun _ _ _ h => h) (Or.inl ⟨by rfl, ?_⟩) (by assumption) ?_
  rotate_left
  · intro wS hSw
    (obtain ⟨q0, q1, q2, q3⟩ := ins_cells hSw.1; have q4 := hSw.2.1; have q5 := HLK.out _ hSw.2.2; clear hSw)
    go_simp
    all_goals with_reducible rfl
  (try simp only [List.getElem_toArray, List.getElem_cons_zero, List.getElem_cons_succ, Act.put, List.setIfInBounds_toArray, List.set_cons_zero, List.set_cons_succ])
  refine wpAnyH_take (i := 6) (v := ?_) rfl (by kernel_rfl) (by kernel_rfl) (by kernel_rfl) (fun _ _ _ h => h) (Or.inl ⟨by rfl, ?_⟩) (by assumption) ?_
  rotate_left
  · intro wS hSw
    (obtain ⟨q0, q1, q2, q3⟩ := ins_cells hSw.1; have q4 := hSw.2.1; have q5 := HLK.out _ hSw.2.2; clear hSw)
    go_simp
    all_goals with_reducible rfl
  (try simp only [List.getElem_toArray, List.getElem_cons_zero, List.getElem_cons_succ, Act.put, List.setIfInBounds_toArray, List.set_cons_zero, List.set_cons_succ])
  refine wpAnyH_take (i := 7) (v := ?_) rfl (by kernel_rfl) (by kernel_rfl) (by kernel_rfl) (fun _ _ _ h => h) (Or.inl ⟨by rfl, ?_⟩) (by assumption) ?_
  rotate_left
  · intro wS hSw
    (obtain ⟨q0, q1, q2, q3⟩ := ins_cells hSw.1; have q4 := hSw.2.1; have q5 := HLK.out _ hSw.2.2; clear hSw)
    go_simp
    all_goals with_reducible rfl
  (try simp only [List.getElem_toArray, List.getElem_cons_zero, List.getElem_cons_succ, Act.put, List.setIfInBounds_toArray, List.set_cons_zero, List.set_cons_succ])
  refine wpAnyH_take (i := 8) (v := ?_) rfl (by kernel_rfl) (by kernel_rfl) (by kernel_rfl) (fun _ _ _ h => h) (Or.inl ⟨by rfl, ?_⟩) (by assumption) ?_
  rotate_left
  · intro wS hSw
    (obtain ⟨q0, q1, q2, q3⟩ := ins_cells hSw.1; have q4 := hSw.2.1; have q5 := HLK.out _ hSw.2.2; clear hSw)
    go_simp
    all_goals with_reducible rfl
  (try simp only [List.getElem_toArray, List.getElem_cons_zero, List.getElem_cons_succ, Act.put, List.setIfInBounds_toArray, List.set_cons_zero, List.set_cons_succ])
  refine held_one (i := 9) (by kernel_rfl) rfl (fun K hK => ?_)
  go_simp
  refine (HCC.out _ HY2.out).mono ?_
  rintro e W4 ⟨rfl, hm, hg⟩
  refine hK.out _ _ ⟨rowIs_grown hHeld.1 hg (fun e => hgb (by injection e)), World.rowIs.cell hm (i := 2) (by decide), hHeld.2.2.grown hg HY2.out.mfar⟩ (fun _ => ?_)
  refine wpAnyH_done (by kernel_rfl) ?_ _
  have HM4 := Lib.hid hm
  have HG4 := Lib.hid (grown_trans (grown_of_below HBY2.out (some b)) hg)
  have d22 : W4.cell? ⟨b, 22, none⟩ = some (.int .i64 (s'.steps : Int)) := World.rowIs.cell hm (i := 22) (by decide)
  have d21 : W4.cell? ⟨b, 21, none⟩ = some (.int .i64 (s'.place : Int)) := World.rowIs.cell hm (i := 21) (by decide)
  have d23 : W4.cell? ⟨b, 23, none⟩ = some (.bool false) := by have := World.rowIs.cell hm (i := 23) (by decide); rw [this]; exact congrArg (fun x => some (Value.bool x)) HD.out
  have z22 := World.rowIs.frozen hm 22
  have z21 := World.rowIs.frozen hm 21
  clear hm hg hK K hHeld HY2 HBY2 HLK HCC
  go_wp2
  go_ret
  exact ⟨rfl, (HM4.out.set_steps (s'.steps + 1)).set_place (s'.place + 1), grown_cell (grown_cell HG4.out 22 _) 21 _⟩
end
end Go.Proofs.Ytgpjiflgocgolaa
