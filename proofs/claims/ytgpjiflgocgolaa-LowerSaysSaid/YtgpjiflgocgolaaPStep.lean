/-
  What the program's Step of classic BPF does to its machine: contracts for 'fault' and 'Step'. Conditions: those that each names.
-/
import Derived.Test.YtgpjiflgocgolaaPFault
import Derived.Test.YtgpjiflgocgolaaPOps
import Derived.Shelf.Abstract
namespace Go.Proofs.Ytgpjiflgocgolaa
open Go Go.RowKit
set_option linter.unusedSimpArgs false
set_option linter.unusedVariables false
set_option maxRecDepth 100000

theorem eq_nilf (w : World) : (binOp .eql 91 .nilFunc .nilFunc).run Try.prog w = .ok (.bool true) w := by kernel_rfl
theorem eq_fnf (f : Nat) (w : World) : (binOp .eql 91 (.func (.func f) #[] #[]) .nilFunc).run Try.prog w = .ok (.bool false) w := by kernel_rfl
/-- A machine of the program, its own copies of program and data, its table, ahead of a step. -/
structure PReady (w : World) (b : Nat) (qa : Option Addr) (n qcap : Nat) (q : Nat → Ins) (da : Option Addr) (dlen dcap : Nat) (z : Nat → Int) (mb : Nat) (s : Mach) : Prop where
  mach : PMAt w b (.slice qa n qcap) (.slice da dlen dcap) (.map (some mb)) s
  prog : ProgAt w qa n q
  data : dlen = 64 → ∃ db doff, da = some ⟨db, doff, none⟩ ∧ Bytes64 w db doff z
  qfar : ∀ ad, 0 < n → qa = some ad → ad.block ≠ b
  dfar : ∀ ad, dlen = 64 → da = some ad → ad.block ≠ b
  len : n ≤ 140737488351232
  ok : ∀ i, i < n → (q i).OK
  steps : s.steps < 1000000000000000000
  ops : OpsMap w mb
  mfar : mb ≠ b
theorem PReady.after {w w' : World} {b : Nat} {qa : Option Addr} {n qcap : Nat} {q : Nat → Ins} {da : Option Addr} {dlen dcap : Nat} {z : Nat → Int} {mb : Nat} {s s' : Mach} (h : PReady w b qa n qcap q da dlen dcap z mb s)
    (hm : PMAt w' b (.slice qa n qcap) (.slice da dlen dcap) (.map (some mb)) s') (hg : w.grownBy w' (some b)) (hs : s'.steps < 1000000000000000000) : PReady w' b qa n qcap q da dlen dcap z mb s' :=
  ⟨hm, h.prog.grown hg h.qfar, fun h64 => by
    obtain ⟨db, doff, rfl, hb⟩ := h.data h64
    exact ⟨db, doff, rfl, hb.grown hg (h.dfar _ h64 rfl)⟩, h.qfar, h.dfar, h.len, h.ok, hs, h.ops.grown hg h.mfar, h.mfar⟩
/-- Where nothing stops the machine ahead of its instruction. -/
structure PGoing (w : World) (b qb qo n qcap db doff dcap : Nat) (z : Nat → Int) (mb : Nat) (s : Mach) (c : Int) (jt jf : Nat) (k : BitVec 32) : Prop where
  mach : PMAt w b (.slice (some ⟨qb, qo, none⟩) n qcap) (.slice (some ⟨db, doff, none⟩) 64 dcap) (.map (some mb)) s
  ins : InsCells w qb (qo + s.place * 4) ⟨c, jt, jf, k⟩
  qlt : qb < w.heap.size
  bytes : Bytes64 w db doff z
  going : s.done = false
  place : s.place < n
  len : n ≤ 140737488351232
  steps : s.steps < 1000000000000000000
  ops : OpsMap w mb
  mfar : mb ≠ b
  code : 0 ≤ c ∧ c < 65536
theorem PGoing.below {w w' : World} {b qb qo n qcap db doff dcap : Nat} {z : Nat → Int} {mb : Nat} {s : Mach} {c : Int} {jt jf : Nat} {k : BitVec 32} (h : PGoing w b qb qo n qcap db doff dcap z mb s c jt jf k) (hb : Below w.heap.size w w') : PGoing w' b qb qo n qcap db doff dcap z mb s c jt jf k :=
  ⟨h.mach.below hb (World.rowIs.lt h.mach), h.ins.below hb h.qlt, Nat.lt_of_lt_of_le h.qlt hb.size, h.bytes.below hb h.bytes.1, h.going, h.place, h.len, h.steps, h.ops.below hb h.ops.lt, h.mfar, h.code⟩

section
variable (w : World) (b : Nat) (qa : Option Addr) (n qcap : Nat) (q : Nat → Ins) (da : Option Addr) (dlen dcap : Nat) (z : Nat → Int) (mb : Nat) (s : Mach)
theorem p_fault_len (h : PReady w b qa n qcap q da dlen dcap z mb s) (hl : ¬ dlen = 64) : Calls Try.prog 47 #[.pointer (some ⟨b, 0, none⟩)] w (FaultP w 21) := by
  have c1 : w.cell? ⟨b, 1, none⟩ = some (.slice da dlen dcap) := World.rowIs.cell h.mach (i := 1) (by decide)
  have hl' : ¬ (dlen : Int) = 64 := by omega
  clear h hl
  go_enter Try.func47, Try.ntmps47
  go_wp2
  go_ret
  exact ⟨rfl, Below.refl _ _⟩
theorem p_fault_place (h : PReady w b qa n qcap q da 64 dcap z mb s) (hp : n ≤ s.place) : Calls Try.prog 47 #[.pointer (some ⟨b, 0, none⟩)] w (FaultP w 33) := by
  have c1 : w.cell? ⟨b, 1, none⟩ = some (.slice da 64 dcap) := World.rowIs.cell h.mach (i := 1) (by decide)
  have c0 : w.cell? ⟨b, 0, none⟩ = some (.slice qa n qcap) := World.rowIs.cell h.mach (i := 0) (by decide)
  have c21 : w.cell? ⟨b, 21, none⟩ = some (.int .i64 (s.place : Int)) := World.rowIs.cell h.mach (i := 21) (by decide)
  have hp' : (n : Int) ≤ (s.place : Int) := by omega
  clear h hp
  go_enter Try.func47, Try.ntmps47
  go_wp2
  go_quiet (fail)
  go_wp2
  go_ret
  exact ⟨rfl, below_drawn (Below.refl _ _) _⟩
end
section
variable (w : World) (b qb qo n qcap db doff dcap : Nat) (z : Nat → Int) (mb : Nat) (s : Mach) (c : Int) (jt jf : Nat) (k : BitVec 32)
set_option maxHeartbeats 600000 in
theorem p_fault_code (h : PGoing w b qb qo n qcap db doff dcap z mb s c jt jf k) (hs : sealsC c = false) : Calls Try.prog 47 #[.pointer (some ⟨b, 0, none⟩)] w (FaultP w 32) := by
  have c1 : w.cell? ⟨b, 1, none⟩ = some (.slice (some ⟨db, doff, none⟩) 64 dcap) := World.rowIs.cell h.mach (i := 1) (by decide)
  have c0 : w.cell? ⟨b, 0, none⟩ = some (.slice (some ⟨qb, qo, none⟩) n qcap) := World.rowIs.cell h.mach (i := 0) (by decide)
  have c21 : w.cell? ⟨b, 21, none⟩ = some (.int .i64 (s.place : Int)) := World.rowIs.cell h.mach (i := 21) (by decide)
  have hp : ¬ (n : Int) ≤ (s.place : Int) := by have := h.place; omega
  have HX0 := Lib.hid h
  clear h
  go_enter Try.func47, Try.ntmps47
  go_wp2
  go_quiet (fail)
  go_wp2
  have HX : Hid (PGoing (w.drewN nq) b qb qo n qcap db doff dcap z mb s c jt jf k) := Lib.hid (HX0.out.below (below_drawn (Below.refl _ _) _))
  have HBX : Hid (Below w.heap.size w (w.drewN nq)) := Lib.hid (below_drawn (Below.refl _ _) _)
  clear c0 c1 c21 HX0 hp
  generalize w.drewN nq = X at HX HBX ⊢
  have hp' : (s.place : Int) < (n : Int) := by have := HX.out.place; omega
  have hn := HX.out.len
  refine wp_region_held_drew (S := fun w' => PMAt w' b (.slice (some ⟨qb, qo, none⟩) n qcap) (.slice (some ⟨db, doff, none⟩) 64 dcap) (.map (some mb)) s ∧ InsCells w' qb (qo + s.place * 4) ⟨c, jt, jf, k⟩) (by kernel_rfl) ⟨HX.out.mach.drew, HX.out.ins⟩ (fun hHeld => ?_)
  have HY0 : Hid (PGoing X.drew b qb qo n qcap db doff dcap z mb s c jt jf k) := Lib.hid (HX.out.below (below_drawn (Below.refl _ _) 1))
  have HBY0 : Hid (Below w.heap.size w X.drew) := Lib.hid (below_drawn HBX.out 1)
  clear HX HBX
  generalize X.drew = Y at HY0 HBY0 hHeld ⊢
  (try clear X)
  have hql := HY0.out.qlt
  have hbl := World.rowIs.lt HY0.out.mach
  refine wpAnyH_take (i := 0) (v := ?_) rfl (by kernel_rfl) (by kernel_rfl) (by kernel_rfl) (fun _ _ _ h => h) (Or.inl ⟨by rfl, ?_⟩) (by assumption) ?_
  rotate_left
  · intro wS hSw
    (have q0 : wS.cell? ⟨b, 0, none⟩ = some (.slice (some ⟨qb, qo, none⟩) n qcap) := World.rowIs.cell hSw.1 (i := 0) (by decide); have q21 : wS.cell? ⟨b, 21, none⟩ = some (.int .i64 (s.place : Int)) := World.rowIs.cell hSw.1 (i := 21) (by decide); obtain ⟨i0, i1, i2, i3⟩ := hSw.2; clear hSw)
    go_simp
    all_goals with_reducible rfl
  (try simp only [List.getElem_toArray, List.getElem_cons_zero, List.getElem_cons_succ, Act.put, List.setIfInBounds_toArray, List.set_cons_zero, List.set_cons_succ])
  refine wpAnyH_take (i := 1) (v := ?_) rfl (by kernel_rfl) (by kernel_rfl) (by kernel_rfl) (fun _ _ _ h => h) (Or.inl ⟨by rfl, ?_⟩) (by assumption) ?_
  rotate_left
  · intro wS hSw
    (have q0 : wS.cell? ⟨b, 0, none⟩ = some (.slice (some ⟨qb, qo, none⟩) n qcap) := World.rowIs.cell hSw.1 (i := 0) (by decide); have q21 : wS.cell? ⟨b, 21, none⟩ = some (.int .i64 (s.place : Int)) := World.rowIs.cell hSw.1 (i := 21) (by decide); obtain ⟨i0, i1, i2, i3⟩ := hSw.2; clear hSw)
    go_simp
    all_goals with_reducible rfl
  (try simp only [List.getElem_toArray, List.getElem_cons_zero, List.getElem_cons_succ, Act.put, List.setIfInBounds_toArray, List.set_cons_zero, List.set_cons_succ])
  refine wpAnyH_take (i := 2) (v := ?_) rfl (by kernel_rfl) (by kernel_rfl) (by kernel_rfl) (fun _ _ _ h => h) (Or.inl ⟨by rfl, ?_⟩) (by assumption) ?_
  rotate_left
  · intro wS hSw
    (have q0 : wS.cell? ⟨b, 0, none⟩ = some (.slice (some ⟨qb, qo, none⟩) n qcap) := World.rowIs.cell hSw.1 (i := 0) (by decide); have q21 : wS.cell? ⟨b, 21, none⟩ = some (.int .i64 (s.place : Int)) := World.rowIs.cell hSw.1 (i := 21) (by decide); obtain ⟨i0, i1, i2, i3⟩ := hSw.2; clear hSw)
    go_simp
    all_goals with_reducible rfl
  (try simp only [List.getElem_toArray, List.getElem_cons_zero, List.getElem_cons_succ, Act.put, List.setIfInBounds_toArray, List.set_cons_zero, List.set_cons_succ])
  refine wpAnyH_take (i := 3) (v := ?_) rfl (by kernel_rfl) (by kernel_rfl) (by kernel_rfl) (fun _ _ _ h => h) (Or.inl ⟨by rfl, ?_⟩) (by assumption) ?_
  rotate_left
  · intro wS hSw
    (have q0 : wS.cell? ⟨b, 0, none⟩ = some (.slice (some ⟨qb, qo, none⟩) n qcap) := World.rowIs.cell hSw.1 (i := 0) (by decide); have q21 : wS.cell? ⟨b, 21, none⟩ = some (.int .i64 (s.place : Int)) := World.rowIs.cell hSw.1 (i := 21) (by decide); obtain ⟨i0, i1, i2, i3⟩ := hSw.2; clear hSw)
    go_simp
    all_goals with_reducible rfl
  (try simp only [List.getElem_toArray, List.getElem_cons_zero, List.getElem_cons_succ, Act.put, List.setIfInBounds_toArray, List.set_cons_zero, List.set_cons_succ])
  refine wpAnyH_take (i := 4) (v := ?_) rfl (by kernel_rfl) (by kernel_rfl) (by kernel_rfl) (fun _ _ _ h => h) (Or.inl ⟨by rfl, ?_⟩) (by assumption) ?_
  rotate_left
  · intro wS hSw
    (have q0 : wS.cell? ⟨b, 0, none⟩ = some (.slice (some ⟨qb, qo, none⟩) n qcap) := World.rowIs.cell hSw.1 (i := 0) (by decide); have q21 : wS.cell? ⟨b, 21, none⟩ = some (.int .i64 (s.place : Int)) := World.rowIs.cell hSw.1 (i := 21) (by decide); obtain ⟨i0, i1, i2, i3⟩ := hSw.2; clear hSw)
    go_simp
    all_goals with_reducible rfl
  (try simp only [List.getElem_toArray, List.getElem_cons_zero, List.getElem_cons_succ, Act.put, List.setIfInBounds_toArray, List.set_cons_zero, List.set_cons_succ])
  refine wpAnyH_take (i := 5) (v := ?_) rfl (by kernel_rfl) (by kernel_rfl) (by kernel_rfl) (fun _ _ _ h => h) (Or.inl ⟨by rfl, ?_⟩) (by assumption) ?_
  rotate_left
  · intro wS hSw
    (have q0 : wS.cell? ⟨b, 0, none⟩ = some (.slice (some ⟨qb, qo, none⟩) n qcap) := World.rowIs.cell hSw.1 (i := 0) (by decide); have q21 : wS.cell? ⟨b, 21, none⟩ = some (.int .i64 (s.place : Int)) := World.rowIs.cell hSw.1 (i := 21) (by decide); obtain ⟨i0, i1, i2, i3⟩ := hSw.2; clear hSw)
    go_simp
    all_goals with_reducible rfl
  (try simp only [List.getElem_toArray, List.getElem_cons_zero, List.getElem_cons_succ, Act.put, List.setIfInBounds_toArray, List.set_cons_zero, List.set_cons_succ])
  refine wpAnyH_take (i := 6) (v := ?_) rfl (by kernel_rfl) (by kernel_rfl) (by kernel_rfl) (fun _ _ _ h => h) (Or.inl ⟨by rfl, ?_⟩) (by assumption) ?_
  rotate_left
  · intro wS hSw
    (have q0 : wS.cell? ⟨b, 0, none⟩ = some (.slice (some ⟨qb, qo, none⟩) n qcap) := World.rowIs.cell hSw.1 (i := 0) (by decide); have q21 : wS.cell? ⟨b, 21, none⟩ = some (.int .i64 (s.place : Int)) := World.rowIs.cell hSw.1 (i := 21) (by decide); obtain ⟨i0, i1, i2, i3⟩ := hSw.2; clear hSw)
    go_simp
    all_goals with_reducible rfl
  (try simp only [List.getElem_toArray, List.getElem_cons_zero, List.getElem_cons_succ, Act.put, List.setIfInBounds_toArray, List.set_cons_zero, List.set_cons_succ])
  refine wpAnyH_take (i := 7) (v := ?_) rfl (by kernel_rfl) (by kernel_rfl) (by kernel_rfl) (fun _ _ _ h => h) (Or.inl ⟨by rfl, ?_⟩) (by assumption) ?_
  rotate_left
  · intro wS hSw
    (have q0 : wS.cell? ⟨b, 0, none⟩ = some (.slice (some ⟨qb, qo, none⟩) n qcap) := World.rowIs.cell hSw.1 (i := 0) (by decide); have q21 : wS.cell? ⟨b, 21, none⟩ = some (.int .i64 (s.place : Int)) := World.rowIs.cell hSw.1 (i := 21) (by decide); obtain ⟨i0, i1, i2, i3⟩ := hSw.2; clear hSw)
    go_simp
    all_goals with_reducible rfl
  (try simp only [List.getElem_toArray, List.getElem_cons_zero, List.getElem_cons_succ, Act.put, List.setIfInBounds_toArray, List.set_cons_zero, List.set_cons_succ])
  refine wpAnyH_take (i := 8) (v := ?_) rfl (by kernel_rfl) (by kernel_rfl) (by kernel_rfl) (fun _ _ _ h => h) (Or.inl ⟨by rfl, ?_⟩) (by assumption) ?_
  rotate_left
  · intro wS hSw
    (have q0 : wS.cell? ⟨b, 0, none⟩ = some (.slice (some ⟨qb, qo, none⟩) n qcap) := World.rowIs.cell hSw.1 (i := 0) (by decide); have q21 : wS.cell? ⟨b, 21, none⟩ = some (.int .i64 (s.place : Int)) := World.rowIs.cell hSw.1 (i := 21) (by decide); obtain ⟨i0, i1, i2, i3⟩ := hSw.2; clear hSw)
    go_simp
    all_goals with_reducible rfl
  (try simp only [List.getElem_toArray, List.getElem_cons_zero, List.getElem_cons_succ, Act.put, List.setIfInBounds_toArray, List.set_cons_zero, List.set_cons_succ])
  refine wpAnyH_take (i := 9) (v := ?_) rfl (by kernel_rfl) (by kernel_rfl) (by kernel_rfl) (fun _ _ _ h => h) (Or.inl ⟨by rfl, ?_⟩) (by assumption) ?_
  rotate_left
  · intro wS hSw
    (have q0 : wS.cell? ⟨b, 0, none⟩ = some (.slice (some ⟨qb, qo, none⟩) n qcap) := World.rowIs.cell hSw.1 (i := 0) (by decide); have q21 : wS.cell? ⟨b, 21, none⟩ = some (.int .i64 (s.place : Int)) := World.rowIs.cell hSw.1 (i := 21) (by decide); obtain ⟨i0, i1, i2, i3⟩ := hSw.2; clear hSw)
    go_simp
    all_goals with_reducible rfl
  (try simp only [List.getElem_toArray, List.getElem_cons_zero, List.getElem_cons_succ, Act.put, List.setIfInBounds_toArray, List.set_cons_zero, List.set_cons_succ])
  refine held_one (i := 10) (by kernel_rfl) rfl (fun K hK => ?_)
  go_simp
  refine hK.out _ _ ⟨hHeld.1.alloc _, hHeld.2.below (box_below _ _) hql⟩ (fun hH2 => ?_)
  clear hK K hHeld
  (try simp only [Act.put, List.setIfInBounds_toArray, List.set_cons_zero, List.set_cons_succ])
  have R1 : (Y.alloc (.cells #[.int .u16 0, .int .u8 0, .int .u8 0, .int .u32 0] 50)).rowIs Y.heap.size 50 4 (insF ⟨0, 0, 0, 0#32⟩) := ins_new Y
  have B1 := box_below Y (.cells #[.int .u16 0, .int .u8 0, .int .u8 0, .int .u32 0] 50)
  generalize Y.alloc (.cells #[.int .u16 0, .int .u8 0, .int .u8 0, .int .u32 0] 50) = W1 at R1 B1 hH2 ⊢
  have e0 : W1.cell? ⟨Y.heap.size, 0, none⟩ = some (.int .u16 0) := World.rowIs.cell R1 (i := 0) (by decide)
  have e1 : W1.cell? ⟨Y.heap.size, 1, none⟩ = some (.int .u8 0) := World.rowIs.cell R1 (i := 1) (by decide)
  have e2 : W1.cell? ⟨Y.heap.size, 2, none⟩ = some (.int .u8 0) := World.rowIs.cell R1 (i := 2) (by decide)
  have e3 : W1.cell? ⟨Y.heap.size, 3, none⟩ = some (.int .u32 0) := World.rowIs.cell R1 (i := 3) (by decide)
  have y0 := World.rowIs.frozen R1 0
  have y1 := World.rowIs.frozen R1 1
  have y2 := World.rowIs.frozen R1 2
  have y3 := World.rowIs.frozen R1 3
  have R2 := Lib.hid (ins_set R1 c jt jf k)
  have G2 := Lib.hid (ins_grown (World.grownBy.refl W1 (some Y.heap.size)) (.int .u16 c) (.int .u8 (jt : Int)) (.int .u8 (jf : Int)) (.int .u32 (k.toNat : Int)))
  have HB1 := Lib.hid B1
  have HH := Lib.hid hH2
  clear R1 B1 hH2
  refine held_one (i := 11) (by kernel_rfl) rfl (fun K hK => ?_)
  go_simp
  have hM2 := HH.out.1.grown G2.out (by omega)
  have hI2 := HH.out.2.grown G2.out (by omega)
  have hB2 := below_grown HB1.out G2.out (Nat.le_refl _) (Nat.le_refl _)
  refine hK.out _ _ ⟨hM2, hI2⟩ (fun hX2 => ?_)
  clear hX2 hK K e0 e1 e2 e3 y0 y1 y2 y3 HH G2 HB1 hI2 hM2
  have hR2 := R2.out
  clear R2
  refine wpAnyH_done (by kernel_rfl) ?_ _
  generalize (((W1.setCell ⟨Y.heap.size, 0, none⟩ (.int .u16 c)).setCell ⟨Y.heap.size, 1, none⟩ (.int .u8 (jt : Int))).setCell ⟨Y.heap.size, 2, none⟩ (.int .u8 (jf : Int))).setCell ⟨Y.heap.size, 3, none⟩ (.int .u32 (k.toNat : Int)) = W2 at hB2 hR2 ⊢
  (try clear W1)
  have HY := Lib.hid (HY0.out.below hB2)
  have HR := Lib.hid hR2
  have HBY := Lib.hid (HBY0.out.trans (hB2.mono HBY0.out.size))
  have hgb : ¬ Y.heap.size = b := by omega
  clear HY0 HBY0 hB2 hR2 hp' hn hql hbl
  generalize Y.heap.size = g at HR hgb ⊢
  (try clear Y)
  obtain ⟨i0, i1, i2, i3⟩ := ins_cells HR.out
  have y2 : W2.cell? ⟨b, 2, none⟩ = some (.map (some mb)) := World.rowIs.cell HY.out.mach (i := 2) (by decide)
  have HLK := Lib.hid (fun w (h : OpsMap w mb) => ops_nil h c HY.out.code hs)
  have hq := eq_nilf
  go_wp2
  refine wp_region_held_drew (S := fun w' => w'.rowIs g 50 4 (insF ⟨c, jt, jf, k⟩) ∧ w'.cell? ⟨b, 2, none⟩ = some (.map (some mb)) ∧ OpsMap w' mb) (by kernel_rfl) ⟨HR.out, y2, HY.out.ops⟩ (fun hHeld => ?_)
  refine wpAnyH_take (i := 0) (v := ?_) rfl (by kernel_rfl) (by kernel_rfl) (by kernel_rfl) (fun _ _ _ h => h) (Or.inl ⟨by rfl, ?_⟩) (by assumption) ?_
  rotate_left
  · intro wS hSw
    (obtain ⟨q0, q1, q2, q3⟩ := ins_cells hSw.1; have q4 := hSw.2.1; have q5 := HLK.out _ hSw.2.2; clear hSw)
    go_simp
    all_goals with_reducible rfl
  (try simp only [List.getElem_toArray, List.getElem_cons_zero, List.getElem_cons_succ, Act.put, List.setIfInBounds_toArray, List.set_cons_zero, List.set_cons_succ])
  refine wpAnyH_take (i := 1) (v := ?_) rfl (by kernel_rfl) (by kernel_rfl) (by kernel_rfl) (fun _ _ _ h => h) (Or.inl ⟨by rfl, ?_⟩) (by assumption) ?_
  rotate_left
  · intro wS hSw
    (obtain ⟨q0, q1, q2, q3⟩ := ins_cells hSw.1; have q4 := hSw.2.1; have q5 := HLK.out _ hSw.2.2; clear hSw)
    go_simp
    all_goals with_reducible rfl
  (try simp only [List.getElem_toArray, List.getElem_cons_zero, List.getElem_cons_succ, Act.put, List.setIfInBounds_toArray, List.set_cons_zero, List.set_cons_succ])
  refine wpAnyH_take (i := 2) (v := ?_) rfl (by kernel_rfl) (by kernel_rfl) (by kernel_rfl) (fun _ _ _ h => h) (Or.inl ⟨by rfl, ?_⟩) (by assumption) ?_
  rotate_left
  · intro wS hSw
    (obtain ⟨q0, q1, q2, q3⟩ := ins_cells hSw.1; have q4 := hSw.2.1; have q5 := HLK.out _ hSw.2.2; clear hSw)
    go_simp
    all_goals with_reducible rfl
  (try simp only [List.getElem_toArray, List.getElem_cons_zero, List.getElem_cons_succ, Act.put, List.setIfInBounds_toArray, List.set_cons_zero, List.set_cons_succ])
  refine wpAnyH_take (i := 3) (v := ?_) rfl (by kernel_rfl) (by kernel_rfl) (by kernel_rfl) (fun _ _ _ h => h) (Or.inl ⟨by rfl, ?_⟩) (by assumption) ?_
  rotate_left
  · intro wS hSw
    (obtain ⟨q0, q1, q2, q3⟩ := ins_cells hSw.1; have q4 := hSw.2.1; have q5 := HLK.out _ hSw.2.2; clear hSw)
    go_simp
    all_goals with_reducible rfl
  (try simp only [List.getElem_toArray, List.getElem_cons_zero, List.getElem_cons_succ, Act.put, List.setIfInBounds_toArray, List.set_cons_zero, List.set_cons_succ])
  refine wpAnyH_take (i := 4) (v := ?_) rfl (by kernel_rfl) (by kernel_rfl) (by kernel_rfl) (fun _ _ _ h => h) (Or.inl ⟨by rfl, ?_⟩) (by assumption) ?_
  rotate_left
  · intro wS hSw
    (obtain ⟨q0, q1, q2, q3⟩ := ins_cells hSw.1; have q4 := hSw.2.1; have q5 := HLK.out _ hSw.2.2; clear hSw)
    go_simp
    all_goals with_reducible rfl
  (try simp only [List.getElem_toArray, List.getElem_cons_zero, List.getElem_cons_succ, Act.put, List.setIfInBounds_toArray, List.set_cons_zero, List.set_cons_succ])
  refine wpAnyH_take (i := 5) (v := ?_) rfl (by kernel_rfl) (by kernel_rfl) (by kernel_rfl) (fun _ _ _ h => h) (Or.inl ⟨by rfl, ?_⟩) (by assumption) ?_
  rotate_left
  · intro wS hSw
    (obtain ⟨q0, q1, q2, q3⟩ := ins_cells hSw.1; have q4 := hSw.2.1; have q5 := HLK.out _ hSw.2.2; clear hSw)
    go_simp
    all_goals with_reducible rfl
  (try simp only [List.getElem_toArray, List.getElem_cons_zero, List.getElem_cons_succ, Act.put, List.setIfInBounds_toArray, List.set_cons_zero, List.set_cons_succ])
  refine wpAnyH_take (i := 6) (v := ?_) rfl (by kernel_rfl) (by kernel_rfl) (by kernel_rfl) (fun _ _ _ h => h) (Or.inl ⟨by rfl, ?_⟩) (by assumption) ?_
  rotate_left
  · intro wS hSw
    (obtain ⟨q0, q1, q2, q3⟩ := ins_cells hSw.1; have q4 := hSw.2.1; have q5 := HLK.out _ hSw.2.2; clear hSw)
    go_simp
    all_goals with_reducible rfl
  (try simp only [List.getElem_toArray, List.getElem_cons_zero, List.getElem_cons_succ, Act.put, List.setIfInBounds_toArray, List.set_cons_zero, List.set_cons_succ])
  refine wpAnyH_take (i := 7) (v := ?_) rfl (by kernel_rfl) (by kernel_rfl) (by kernel_rfl) (fun _ _ _ h => h) (Or.inl ⟨by rfl, ?_⟩) (by assumption) ?_
  rotate_left
  · intro wS hSw
    (skip)
    go_simp
    all_goals with_reducible rfl
  (try simp only [List.getElem_toArray, List.getElem_cons_zero, List.getElem_cons_succ, Act.put, List.setIfInBounds_toArray, List.set_cons_zero, List.set_cons_succ])
  refine wpAnyH_done (by kernel_rfl) ?_ _
  go_wp2
  go_ret
  exact ⟨rfl, below_drawn HBY.out 1⟩
set_option maxHeartbeats 600000 in
theorem p_fault_go (h : PGoing w b qb qo n qcap db doff dcap z mb s c jt jf k) (hs : sealsC c = true) (f : Nat) (hf : opF opL c (-1) = (f : Int)) : Calls Try.prog 47 #[.pointer (some ⟨b, 0, none⟩)] w (FaultP w (wrongE c k)) := by
  have c1 : w.cell? ⟨b, 1, none⟩ = some (.slice (some ⟨db, doff, none⟩) 64 dcap) := World.rowIs.cell h.mach (i := 1) (by decide)
  have c0 : w.cell? ⟨b, 0, none⟩ = some (.slice (some ⟨qb, qo, none⟩) n qcap) := World.rowIs.cell h.mach (i := 0) (by decide)
  have c21 : w.cell? ⟨b, 21, none⟩ = some (.int .i64 (s.place : Int)) := World.rowIs.cell h.mach (i := 21) (by decide)
  have hp : ¬ (n : Int) ≤ (s.place : Int) := by have := h.place; omega
  have HX0 := Lib.hid h
  clear h
  go_enter Try.func47, Try.ntmps47
  go_wp2
  go_quiet (fail)
  go_wp2
  have HX : Hid (PGoing (w.drewN nq) b qb qo n qcap db doff dcap z mb s c jt jf k) := Lib.hid (HX0.out.below (below_drawn (Below.refl _ _) _))
  have HBX : Hid (Below w.heap.size w (w.drewN nq)) := Lib.hid (below_drawn (Below.refl _ _) _)
  clear c0 c1 c21 HX0 hp
  generalize w.drewN nq = X at HX HBX ⊢
  have hp' : (s.place : Int) < (n : Int) := by have := HX.out.place; omega
  have hn := HX.out.len
  refine wp_region_held_drew (S := fun w' => PMAt w' b (.slice (some ⟨qb, qo, none⟩) n qcap) (.slice (some ⟨db, doff, none⟩) 64 dcap) (.map (some mb)) s ∧ InsCells w' qb (qo + s.place * 4) ⟨c, jt, jf, k⟩) (by kernel_rfl) ⟨HX.out.mach.drew, HX.out.ins⟩ (fun hHeld => ?_)
  have HY0 : Hid (PGoing X.drew b qb qo n qcap db doff dcap z mb s c jt jf k) := Lib.hid (HX.out.below (below_drawn (Below.refl _ _) 1))
  have HBY0 : Hid (Below w.heap.size w X.drew) := Lib.hid (below_drawn HBX.out 1)
  clear HX HBX
  generalize X.drew = Y at HY0 HBY0 hHeld ⊢
  (try clear X)
  have hql := HY0.out.qlt
  have hbl := World.rowIs.lt HY0.out.mach
  refine wpAnyH_take (i := 0) (v := ?_) rfl (by kernel_rfl) (by kernel_rfl) (by kernel_rfl) (fun _ _ _ h => h) (Or.inl ⟨by rfl, ?_⟩) (by assumption) ?_
  rotate_left
  · intro wS hSw
    (have q0 : wS.cell? ⟨b, 0, none⟩ = some (.slice (some ⟨qb, qo, none⟩) n qcap) := World.rowIs.cell hSw.1 (i := 0) (by decide); have q21 : wS.cell? ⟨b, 21, none⟩ = some (.int .i64 (s.place : Int)) := World.rowIs.cell hSw.1 (i := 21) (by decide); obtain ⟨i0, i1, i2, i3⟩ := hSw.2; clear hSw)
    go_simp
    all_goals with_reducible rfl
  (try simp only [List.getElem_toArray, List.getElem_cons_zero, List.getElem_cons_succ, Act.put, List.setIfInBounds_toArray, List.set_cons_zero, List.set_cons_succ])
  refine wpAnyH_take (i := 1) (v := ?_) rfl (by kernel_rfl) (by kernel_rfl) (by kernel_rfl) (fun _ _ _ h => h) (Or.inl ⟨by rfl, ?_⟩) (by assumption) ?_
  rotate_left
  · intro wS hSw
    (have q0 : wS.cell? ⟨b, 0, none⟩ = some (.slice (some ⟨qb, qo, none⟩) n qcap) := World.rowIs.cell hSw.1 (i := 0) (by decide); have q21 : wS.cell? ⟨b, 21, none⟩ = some (.int .i64 (s.place : Int)) := World.rowIs.cell hSw.1 (i := 21) (by decide); obtain ⟨i0, i1, i2, i3⟩ := hSw.2; clear hSw)
    go_simp
    all_goals with_reducible rfl
  (try simp only [List.getElem_toArray, List.getElem_cons_zero, List.getElem_cons_succ, Act.put, List.setIfInBounds_toArray, List.set_cons_zero, List.set_cons_succ])
  refine wpAnyH_take (i := 2) (v := ?_) rfl (by kernel_rfl) (by kernel_rfl) (by kernel_rfl) (fun _ _ _ h => h) (Or.inl ⟨by rfl, ?_⟩) (by assumption) ?_
  rotate_left
  · intro wS hSw
    (have q0 : wS.cell? ⟨b, 0, none⟩ = some (.slice (some ⟨qb, qo, none⟩) n qcap) := World.rowIs.cell hSw.1 (i := 0) (by decide); have q21 : wS.cell? ⟨b, 21, none⟩ = some (.int .i64 (s.place : Int)) := World.rowIs.cell hSw.1 (i := 21) (by decide); obtain ⟨i0, i1, i2, i3⟩ := hSw.2; clear hSw)
    go_simp
    all_goals with_reducible rfl
  (try simp only [List.getElem_toArray, List.getElem_cons_zero, List.getElem_cons_succ, Act.put, List.setIfInBounds_toArray, List.set_cons_zero, List.set_cons_succ])
  refine wpAnyH_take (i := 3) (v := ?_) rfl (by kernel_rfl) (by kernel_rfl) (by kernel_rfl) (fun _ _ _ h => h) (Or.inl ⟨by rfl, ?_⟩) (by assumption) ?_
  rotate_left
  · intro wS hSw
    (have q0 : wS.cell? ⟨b, 0, none⟩ = some (.slice (some ⟨qb, qo, none⟩) n qcap) := World.rowIs.cell hSw.1 (i := 0) (by decide); have q21 : wS.cell? ⟨b, 21, none⟩ = some (.int .i64 (s.place : Int)) := World.rowIs.cell hSw.1 (i := 21) (by decide); obtain ⟨i0, i1, i2, i3⟩ := hSw.2; clear hSw)
    go_simp
    all_goals with_reducible rfl
  (try simp only [List.getElem_toArray, List.getElem_cons_zero, List.getElem_cons_succ, Act.put, List.setIfInBounds_toArray, List.set_cons_zero, List.set_cons_succ])
  refine wpAnyH_take (i := 4) (v := ?_) rfl (by kernel_rfl) (by kernel_rfl) (by kernel_rfl) (fun _ _ _ h => h) (Or.inl ⟨by rfl, ?_⟩) (by assumption) ?_
  rotate_left
  · intro wS hSw
    (have q0 : wS.cell? ⟨b, 0, none⟩ = some (.slice (some ⟨qb, qo, none⟩) n qcap) := World.rowIs.cell hSw.1 (i := 0) (by decide); have q21 : wS.cell? ⟨b, 21, none⟩ = some (.int .i64 (s.place : Int)) := World.rowIs.cell hSw.1 (i := 21) (by decide); obtain ⟨i0, i1, i2, i3⟩ := hSw.2; clear hSw)
    go_simp
    all_goals with_reducible rfl
  (try simp only [List.getElem_toArray, List.getElem_cons_zero, List.getElem_cons_succ, Act.put, List.setIfInBounds_toArray, List.set_cons_zero, List.set_cons_succ])
  refine wpAnyH_take (i := 5) (v := ?_) rfl (by kernel_rfl) (by kernel_rfl) (by kernel_rfl) (fun _ _ _ h => h) (Or.inl ⟨by rfl, ?_⟩) (by assumption) ?_
  rotate_left
  · intro wS hSw
    (have q0 : wS.cell? ⟨b, 0, none⟩ = some (.slice (some ⟨qb, qo, none⟩) n qcap) := World.rowIs.cell hSw.1 (i := 0) (by decide); have q21 : wS.cell? ⟨b, 21, none⟩ = some (.int .i64 (s.place : Int)) := World.rowIs.cell hSw.1 (i := 21) (by decide); obtain ⟨i0, i1, i2, i3⟩ := hSw.2; clear hSw)
    go_simp
    all_goals with_reducible rfl
  (try simp only [List.getElem_toArray, List.getElem_cons_zero, List.getElem_cons_succ, Act.put, List.setIfInBounds_toArray, List.set_cons_zero, List.set_cons_succ])
  refine wpAnyH_take (i := 6) (v := ?_) rfl (by kernel_rfl) (by kernel_rfl) (by kernel_rfl) (fun _ _ _ h => h) (Or.inl ⟨by rfl, ?_⟩) (by assumption) ?_
  rotate_left
  · intro wS hSw
    (have q0 : wS.cell? ⟨b, 0, none⟩ = some (.slice (some ⟨qb, qo, none⟩) n qcap) := World.rowIs.cell hSw.1 (i := 0) (by decide); have q21 : wS.cell? ⟨b, 21, none⟩ = some (.int .i64 (s.place : Int)) := World.rowIs.cell hSw.1 (i := 21) (by decide); obtain ⟨i0, i1, i2, i3⟩ := hSw.2; clear hSw)
    go_simp
    all_goals with_reducible rfl
  (try simp only [List.getElem_toArray, List.getElem_cons_zero, List.getElem_cons_succ, Act.put, List.setIfInBounds_toArray, List.set_cons_zero, List.set_cons_succ])
  refine wpAnyH_take (i := 7) (v := ?_) rfl (by kernel_rfl) (by kernel_rfl) (by kernel_rfl) (fun _ _ _ h => h) (Or.inl ⟨by rfl, ?_⟩) (by assumption) ?_
  rotate_left
  · intro wS hSw
    (have q0 : wS.cell? ⟨b, 0, none⟩ = some (.slice (some ⟨qb, qo, none⟩) n qcap) := World.rowIs.cell hSw.1 (i := 0) (by decide); have q21 : wS.cell? ⟨b, 21, none⟩ = some (.int .i64 (s.place : Int)) := World.rowIs.cell hSw.1 (i := 21) (by decide); obtain ⟨i0, i1, i2, i3⟩ := hSw.2; clear hSw)
    go_simp
    all_goals with_reducible rfl
  (try simp only [List.getElem_toArray, List.getElem_cons_zero, List.getElem_cons_succ, Act.put, List.setIfInBounds_toArray, List.set_cons_zero, List.set_cons_succ])
  refine wpAnyH_take (i := 8) (v := ?_) rfl (by kernel_rfl) (by kernel_rfl) (by kernel_rfl) (fun _ _ _ h => h) (Or.inl ⟨by rfl, ?_⟩) (by assumption) ?_
  rotate_left
  · intro wS hSw
    (have q0 : wS.cell? ⟨b, 0, none⟩ = some (.slice (some ⟨qb, qo, none⟩) n qcap) := World.rowIs.cell hSw.1 (i := 0) (by decide); have q21 : wS.cell? ⟨b, 21, none⟩ = some (.int .i64 (s.place : Int)) := World.rowIs.cell hSw.1 (i := 21) (by decide); obtain ⟨i0, i1, i2, i3⟩ := hSw.2; clear hSw)
    go_simp
    all_goals with_reducible rfl
  (try simp only [List.getElem_toArray, List.getElem_cons_zero, List.getElem_cons_succ, Act.put, List.setIfInBounds_toArray, List.set_cons_zero, List.set_cons_succ])
  refine wpAnyH_take (i := 9) (v := ?_) rfl (by kernel_rfl) (by kernel_rfl) (by kernel_rfl) (fun _ _ _ h => h) (Or.inl ⟨by rfl, ?_⟩) (by assumption) ?_
  rotate_left
  · intro wS hSw
    (have q0 : wS.cell? ⟨b, 0, none⟩ = some (.slice (some ⟨qb, qo, none⟩) n qcap) := World.rowIs.cell hSw.1 (i := 0) (by decide); have q21 : wS.cell? ⟨b, 21, none⟩ = some (.int .i64 (s.place : Int)) := World.rowIs.cell hSw.1 (i := 21) (by decide); obtain ⟨i0, i1, i2, i3⟩ := hSw.2; clear hSw)
    go_simp
    all_goals with_reducible rfl
  (try simp only [List.getElem_toArray, List.getElem_cons_zero, List.getElem_cons_succ, Act.put, List.setIfInBounds_toArray, List.set_cons_zero, List.set_cons_succ])
  refine held_one (i := 10) (by kernel_rfl) rfl (fun K hK => ?_)
  go_simp
  refine hK.out _ _ ⟨hHeld.1.alloc _, hHeld.2.below (box_below _ _) hql⟩ (fun hH2 => ?_)
  clear hK K hHeld
  (try simp only [Act.put, List.setIfInBounds_toArray, List.set_cons_zero, List.set_cons_succ])
  have R1 : (Y.alloc (.cells #[.int .u16 0, .int .u8 0, .int .u8 0, .int .u32 0] 50)).rowIs Y.heap.size 50 4 (insF ⟨0, 0, 0, 0#32⟩) := ins_new Y
  have B1 := box_below Y (.cells #[.int .u16 0, .int .u8 0, .int .u8 0, .int .u32 0] 50)
  generalize Y.alloc (.cells #[.int .u16 0, .int .u8 0, .int .u8 0, .int .u32 0] 50) = W1 at R1 B1 hH2 ⊢
  have e0 : W1.cell? ⟨Y.heap.size, 0, none⟩ = some (.int .u16 0) := World.rowIs.cell R1 (i := 0) (by decide)
  have e1 : W1.cell? ⟨Y.heap.size, 1, none⟩ = some (.int .u8 0) := World.rowIs.cell R1 (i := 1) (by decide)
  have e2 : W1.cell? ⟨Y.heap.size, 2, none⟩ = some (.int .u8 0) := World.rowIs.cell R1 (i := 2) (by decide)
  have e3 : W1.cell? ⟨Y.heap.size, 3, none⟩ = some (.int .u32 0) := World.rowIs.cell R1 (i := 3) (by decide)
  have y0 := World.rowIs.frozen R1 0
  have y1 := World.rowIs.frozen R1 1
  have y2 := World.rowIs.frozen R1 2
  have y3 := World.rowIs.frozen R1 3
  have R2 := Lib.hid (ins_set R1 c jt jf k)
  have G2 := Lib.hid (ins_grown (World.grownBy.refl W1 (some Y.heap.size)) (.int .u16 c) (.int .u8 (jt : Int)) (.int .u8 (jf : Int)) (.int .u32 (k.toNat : Int)))
  have HB1 := Lib.hid B1
  have HH := Lib.hid hH2
  clear R1 B1 hH2
  refine held_one (i := 11) (by kernel_rfl) rfl (fun K hK => ?_)
  go_simp
  have hM2 := HH.out.1.grown G2.out (by omega)
  have hI2 := HH.out.2.grown G2.out (by omega)
  have hB2 := below_grown HB1.out G2.out (Nat.le_refl _) (Nat.le_refl _)
  refine hK.out _ _ ⟨hM2, hI2⟩ (fun hX2 => ?_)
  clear hX2 hK K e0 e1 e2 e3 y0 y1 y2 y3 HH G2 HB1 hI2 hM2
  have hR2 := R2.out
  clear R2
  refine wpAnyH_done (by kernel_rfl) ?_ _
  generalize (((W1.setCell ⟨Y.heap.size, 0, none⟩ (.int .u16 c)).setCell ⟨Y.heap.size, 1, none⟩ (.int .u8 (jt : Int))).setCell ⟨Y.heap.size, 2, none⟩ (.int .u8 (jf : Int))).setCell ⟨Y.heap.size, 3, none⟩ (.int .u32 (k.toNat : Int)) = W2 at hB2 hR2 ⊢
  (try clear W1)
  have HY := Lib.hid (HY0.out.below hB2)
  have HR := Lib.hid hR2
  have HBY := Lib.hid (HBY0.out.trans (hB2.mono HBY0.out.size))
  have hgb : ¬ Y.heap.size = b := by omega
  clear HY0 HBY0 hB2 hR2 hp' hn hql hbl
  generalize Y.heap.size = g at HR hgb ⊢
  (try clear Y)
  obtain ⟨i0, i1, i2, i3⟩ := ins_cells HR.out
  have y2 : W2.cell? ⟨b, 2, none⟩ = some (.map (some mb)) := World.rowIs.cell HY.out.mach (i := 2) (by decide)
  have HLK := Lib.hid (fun w (h : OpsMap w mb) => ops_fn h c f HY.out.code hf)
  have hq := eq_fnf f
  have HO := Lib.hid (fun w hd h => p_operandFault w b (.slice (some ⟨qb, qo, none⟩) n qcap) (.map (some mb)) s c jt jf k db doff dcap z hd h hs)
  clear hf
  go_wp2
  refine wp_region_held_drew (S := fun w' => w'.rowIs g 50 4 (insF ⟨c, jt, jf, k⟩) ∧ w'.cell? ⟨b, 2, none⟩ = some (.map (some mb)) ∧ OpsMap w' mb) (by kernel_rfl) ⟨HR.out, y2, HY.out.ops⟩ (fun hHeld => ?_)
  refine wpAnyH_take (i := 0) (v := ?_) rfl (by kernel_rfl) (by kernel_rfl) (by kernel_rfl) (fun _ _ _ h => h) (Or.inl ⟨by rfl, ?_⟩) (by assumption) ?_
  rotate_left
  · intro wS hSw
    (obtain ⟨q0, q1, q2, q3⟩ := ins_cells hSw.1; have q4 := hSw.2.1; have q5 := HLK.out _ hSw.2.2; clear hSw)
    go_simp
    all_goals with_reducible rfl
  (try simp only [List.getElem_toArray, List.getElem_cons_zero, List.getElem_cons_succ, Act.put, List.setIfInBounds_toArray, List.set_cons_zero, List.set_cons_succ])
  refine wpAnyH_take (i := 1) (v := ?_) rfl (by kernel_rfl) (by kernel_rfl) (by kernel_rfl) (fun _ _ _ h => h) (Or.inl ⟨by rfl, ?_⟩) (by assumption) ?_
  rotate_left
  · intro wS hSw
    (obtain ⟨q0, q1, q2, q3⟩ := ins_cells hSw.1; have q4 := hSw.2.1; have q5 := HLK.out _ hSw.2.2; clear hSw)
    go_simp
    all_goals with_reducible rfl
  (try simp only [List.getElem_toArray, List.getElem_cons_zero, List.getElem_cons_succ, Act.put, List.setIfInBounds_toArray, List.set_cons_zero, List.set_cons_succ])
  refine wpAnyH_take (i := 2) (v := ?_) rfl (by kernel_rfl) (by kernel_rfl) (by kernel_rfl) (fun _ _ _ h => h) (Or.inl ⟨by rfl, ?_⟩) (by assumption) ?_
  rotate_left
  · intro wS hSw
    (obtain ⟨q0, q1, q2, q3⟩ := ins_cells hSw.1; have q4 := hSw.2.1; have q5 := HLK.out _ hSw.2.2; clear hSw)
    go_simp
    all_goals with_reducible rfl
  (try simp only [List.getElem_toArray, List.getElem_cons_zero, List.getElem_cons_succ, Act.put, List.setIfInBounds_toArray, List.set_cons_zero, List.set_cons_succ])
  refine wpAnyH_take (i := 3) (v := ?_) rfl (by kernel_rfl) (by kernel_rfl) (by kernel_rfl) (fun _ _ _ h => h) (Or.inl ⟨by rfl, ?_⟩) (by assumption) ?_
  rotate_left
  · intro wS hSw
    (obtain ⟨q0, q1, q2, q3⟩ := ins_cells hSw.1; have q4 := hSw.2.1; have q5 := HLK.out _ hSw.2.2; clear hSw)
    go_simp
    all_goals with_reducible rfl
  (try simp only [List.getElem_toArray, List.getElem_cons_zero, List.getElem_cons_succ, Act.put, List.setIfInBounds_toArray, List.set_cons_zero, List.set_cons_succ])
  refine wpAnyH_take (i := 4) (v := ?_) rfl (by kernel_rfl) (by kernel_rfl) (by kernel_rfl) (fun _ _ _ h => h) (Or.inl ⟨by rfl, ?_⟩) (by assumption) ?_
  rotate_left
  · intro wS hSw
    (obtain ⟨q0, q1, q2, q3⟩ := ins_cells hSw.1; have q4 := hSw.2.1; have q5 := HLK.out _ hSw.2.2; clear hSw)
    go_simp
    all_goals with_reducible rfl
  (try simp only [List.getElem_toArray, List.getElem_cons_zero, List.getElem_cons_succ, Act.put, List.setIfInBounds_toArray, List.set_cons_zero, List.set_cons_succ])
  refine wpAnyH_take (i := 5) (v := ?_) rfl (by kernel_rfl) (by kernel_rfl) (by kernel_rfl) (fun _ _ _ h => h) (Or.inl ⟨by rfl, ?_⟩) (by assumption) ?_
  rotate_left
  · intro wS hSw
    (obtain ⟨q0, q1, q2, q3⟩ := ins_cells hSw.1; have q4 := hSw.2.1; have q5 := HLK.out _ hSw.2.2; clear hSw)
    go_simp
    all_goals with_reducible rfl
  (try simp only [List.getElem_toArray, List.getElem_cons_zero, List.getElem_cons_succ, Act.put, List.setIfInBounds_toArray, List.set_cons_zero, List.set_cons_succ])
  refine wpAnyH_take (i := 6) (v := ?_) rfl (by kernel_rfl) (by kernel_rfl) (by kernel_rfl) (fun _ _ _ h => h) (Or.inl ⟨by rfl, ?_⟩) (by assumption) ?_
  rotate_left
  · intro wS hSw
    (obtain ⟨q0, q1, q2, q3⟩ := ins_cells hSw.1; have q4 := hSw.2.1; have q5 := HLK.out _ hSw.2.2; clear hSw)
    go_simp
    all_goals with_reducible rfl
  (try simp only [List.getElem_toArray, List.getElem_cons_zero, List.getElem_cons_succ, Act.put, List.setIfInBounds_toArray, List.set_cons_zero, List.set_cons_succ])
  refine wpAnyH_take (i := 7) (v := ?_) rfl (by kernel_rfl) (by kernel_rfl) (by kernel_rfl) (fun _ _ _ h => h) (Or.inl ⟨by rfl, ?_⟩) (by assumption) ?_
  rotate_left
  · intro wS hSw
    (skip)
    go_simp
    all_goals with_reducible rfl
  (try simp only [List.getElem_toArray, List.getElem_cons_zero, List.getElem_cons_succ, Act.put, List.setIfInBounds_toArray, List.set_cons_zero, List.set_cons_succ])
  refine wpAnyH_done (by kernel_rfl) ?_ _
  have HY2 : Hid (PGoing W2.drew b qb qo n qcap db doff dcap z mb s c jt jf k) := Lib.hid (HY.out.below (below_drawn (Below.refl _ _) 1))
  have HBY2 : Hid (Below w.heap.size w W2.drew) := Lib.hid (below_drawn HBY.out 1)
  have HR2 : Hid (W2.drew.rowIs g 50 4 (insF ⟨c, jt, jf, k⟩)) := HR
  clear hHeld HY HBY HR HLK i0 i1 i2 i3 y2
  generalize W2.drew = W3 at HY2 HBY2 HR2 ⊢
  obtain ⟨i0, i1, i2, i3⟩ := ins_cells HR2.out
  go_wp2_with (go_at_call 88; (with_reducible refine (HO.out _ HY2.out.bytes HY2.out.mach).mono ?_); rintro e W4 ⟨rfl, hb4⟩; have HB4 := Lib.hid (HBY2.out.trans (hb4.mono HBY2.out.size)); clear hb4)
  go_ret
  exact ⟨rfl, HB4.out⟩
end
end Go.Proofs.Ytgpjiflgocgolaa
